import PyProof.Rows.All
import Wide.All
import OpenK.AllK
import Wide.FinOn
import Lean
import PyProof.EqAt
import PyProof.EqKinds
import PyProof.TupleCall
import PySem.Challenge.RW_onceshade_k14_moves_told
set_option Elab.async false
set_option linter.all false
set_option maxRecDepth 100000
namespace L2
open PySem PySem.Spec PyProof.Rows
abbrev Key := Sum Int Str
def keyIs : Key -> Value -> Bool
  | .inl k,v => Value.isInt k v
  | .inr x,v => Value.isStrOf x v
def keyH (w : World) : Key -> Int
  | .inl k => hashInt k
  | .inr x => hashStr w x
theorem keyIs_shape : ∀ {k : Key} {v : Value},keyIs k v = true -> (∃ i t,k = Sum.inl i /\ v = Value.int i t) \/ (∃ x t,k = Sum.inr x /\ v = Value.str x t)
  | .inl i,v,h => by
    obtain ⟨t,e⟩ := Value.isInt_shape (k := i) (v := v) h
    exact .inl ⟨i,t,rfl,e⟩
  | .inr x,v,h => by
    obtain ⟨t,e⟩ := Value.isStrOf_shape (x := x) (v := v) h
    exact .inr ⟨x,t,rfl,e⟩
theorem key_ll (a b : Int) : decide ((Sum.inl a : Key) = Sum.inl b) = (a == b) := by
  by_cases e : a = b
  · subst e; simp
  · have h : ¬ (Sum.inl a : Key) = Sum.inl b := fun q => e (Sum.inl.inj q)
    rw [decide_eq_false h]
    exact (beq_eq_false_iff_ne.mpr e).symm
theorem key_rr (a b : Str) : decide ((Sum.inr a : Key) = Sum.inr b) = decide (a = b) := by
  by_cases e : a = b
  · subst e; simp
  · have h : ¬ (Sum.inr a : Key) = Sum.inr b := fun q => e (Sum.inr.inj q)
    rw [decide_eq_false h,decide_eq_false e]
theorem key_lr (a : Int)(b : Str) : decide ((Sum.inl a : Key) = Sum.inr b) = false := decide_eq_false (fun q => nomatch q)
theorem key_rl (a : Str)(b : Int) : decide ((Sum.inr a : Key) = Sum.inl b) = false := decide_eq_false (fun q => nomatch q)
def mixKind (prog : Program)(w : World) : PySem.KeyKind prog w Key where
  is := keyIs
  hash := keyH w
  inj := fun v a b ha hb => by
    rcases keyIs_shape ha with ⟨i,t,rfl,rfl⟩ | ⟨x,t,rfl,rfl⟩
    · rcases keyIs_shape hb with ⟨j,u,rfl,e⟩ | ⟨y,u,rfl,e⟩
      · injection e with e1 _; rw [e1]
      · exact nomatch e
    · rcases keyIs_shape hb with ⟨j,u,rfl,e⟩ | ⟨y,u,rfl,e⟩
      · exact nomatch e
      · injection e with e1 _; rw [e1]
  byValue := fun k v h => by
    rcases keyIs_shape h with ⟨i,t,rfl,rfl⟩ | ⟨x,t,rfl,rfl⟩ <;> rfl
  pyHash := fun hv h => by
    rcases keyIs_shape hv with ⟨i,t,rfl,rfl⟩ | ⟨x,t,rfl,rfl⟩
    · exact wpAny_pyHash_int h
    · exact wpAny_pyHash_str h
  eqBool := fun hu hv h => by
    rcases keyIs_shape hu with ⟨i,t,rfl,rfl⟩ | ⟨x,t,rfl,rfl⟩
    · rcases keyIs_shape hv with ⟨j,u,rfl,rfl⟩ | ⟨y,u,rfl,rfl⟩
      · rw [key_ll] at h; exact wpAny_eqBool_int h
      · rw [key_lr] at h; exact SeqAt.EqAt.int_str i t y u _ _ _ _ h
    · rcases keyIs_shape hv with ⟨j,u,rfl,rfl⟩ | ⟨y,u,rfl,rfl⟩
      · rw [key_rl] at h; exact SeqAt.EqAt.str_int x t j u _ _ _ _ h
      · rw [key_rr] at h; exact wpAny_eqBool_str h
  «strs» := fun k x t v h => by
    rcases keyIs_shape h with ⟨i,u,rfl,e⟩ | ⟨y,u,rfl,e⟩
    · exact nomatch e
    · injection e with e1 _
      subst e1
      cases v <;> rfl
end L2
namespace L2
open PySem PySem.Spec PyProof.Rows
inductive V where
  | non | bl (b : Bool) | int (i : Int) | str (x : Str) | byt (b : Array UInt8) | flt (b : UInt64) | ref (a : Addr) | ty (n : String)
  deriving DecidableEq
def RelV : V -> Value -> Prop
  | .non,u => u = Value.none
  | .bl b,u => u = Value.bool b
  | .int i,u => ∃ t,u = Value.int i t
  | .str x,u => ∃ t,u = Value.str x t
  | .byt b,u => ∃ t,u = Value.bytes b t
  | .flt b,u => ∃ t,u = Value.float b t
  | .ref a,u => u = Value.ref a
  | .ty n,u => u = Value.type n
abbrev Vals : List V -> List Value -> Prop := Paired RelV
theorem Vals.length {xs : List V}{us : List Value}(r : Vals xs us) : xs.length = us.length := Paired.length r
theorem Vals.get : ∀ {xs : List V} {us : List Value} {i : Nat} {x : V},Vals xs us -> xs[i]? = some x -> ∃ u,us[i]? = some u /\ RelV x u
  | _,_,_,_,.nil,e => by simp at e
  | _,_,0,_,.cons r _,e => by simp at e; subst e; exact ⟨_,rfl,r⟩
  | _,_,i + 1,x,.cons _ t,e => by
    obtain ⟨u,h1,h2⟩ := Vals.get (i := i) (x := x) t (by simpa using e)
    exact ⟨u,by simpa using h1,h2⟩
theorem Vals.set {x : V}{u : Value}(r : RelV x u) : ∀ {xs : List V} {us : List Value} (i : Nat),Vals xs us -> Vals (xs.set i x) (us.set i u)
  | _,_,_,.nil => .nil
  | _,_,0,.cons _ t => .cons r t
  | _,_,i + 1,.cons q t => .cons q (Vals.set r i t)
theorem Vals.append : ∀ {xs ys : List V} {us ws : List Value},Vals xs us -> Vals ys ws -> Vals (xs ++ ys) (us ++ ws)
  | _,_,_,_,.nil,s => s
  | _,_,_,_,.cons r t,s => .cons r (Vals.append t s)
theorem Vals.take : ∀ {xs : List V} {us : List Value} (n : Nat),Vals xs us -> Vals (xs.take n) (us.take n)
  | _,_,0,_ => .nil
  | _,_,_ + 1,.nil => .nil
  | _,_,n + 1,.cons r t => .cons r (Vals.take n t)
theorem Vals.drop : ∀ {xs : List V} {us : List Value} (n : Nat),Vals xs us -> Vals (xs.drop n) (us.drop n)
  | _,_,0,r => r
  | _,_,_ + 1,.nil => .nil
  | _,_,n + 1,.cons _ t => Vals.drop n t
def RelO : Option V -> Option Value -> Prop
  | some v,some u => RelV v u
  | none,none => True
  | _,_ => False
def KV {κ : Type} : List (κ × V) -> List (κ × Value) -> Prop := Paired fun (p : κ × V) (q : κ × Value) => p.1 = q.1 /\ RelV p.2 q.2
def kV : Key -> V
  | .inl i => .int i
  | .inr x => .str x
inductive HO where
  | lst (xs : List V)
  | tup (xs : List V)
  | dK (kvs : List (Key × V)) | dT (kvs : List (List Key × V))
  | set (S : Int -> Bool) (n : Nat)
  | ins (C dx : Addr) (fs : List (Str × V))
  | own (x : Addr)
  | xd (fs : List (Str × V))
  | met (f x : Addr)
  | rng (lo hi : Int)
  | frz (o : Obj) (u : HO)
  | tbl (ps : Array Value)
  | cod (q : Str)
  | ext (φ : Heap -> Prop)
abbrev Hp := Addr -> Option HO
def upd (H : Hp)(a : Addr)(o : HO) : Hp := fun b => if b = a then some o else H b
theorem upd_same {H : Hp}{a : Addr}{o : HO} : upd H a o a = some o := by unfold upd; rw [if_pos rfl]
theorem upd_ne {H : Hp}{a b : Addr}{o : HO}(h : b ≠ a) : upd H a o b = H b := by unfold upd; rw [if_neg h]
theorem upd_upd {H : Hp}{a : Addr}{o u : HO} : upd (upd H a o) a u = upd H a u := by
  funext b; unfold upd; split <;> rfl
theorem ne_of {H : Hp}{a b : Addr}{o u : HO}(h : H a = some o)(h' : H b = some u)(d : o ≠ u) : a ≠ b := by
  intro e; subst e; rw [h] at h'; exact d (Option.some.inj h')
theorem ne_of_none {H : Hp}{a b : Addr}{o : HO}(h : H a = some o)(h' : H b = none) : a ≠ b := by
  intro e; subst e; rw [h] at h'; cases h'
section
variable (P : Program)(w : World)
def ObjOk (H : Hp)(h : Heap)(a : Addr) : HO -> Prop
  | .lst xs => xs.length <= sizeLine /\ ∃ (its : List Value) (n : Nat),Vals xs its /\ h.get? a = some { cls := .type "list",data := .seq its.toArray n }
  | .tup xs => xs.length <= sizeLine /\ ∃ its : List Value,Vals xs its /\ IsTup h a its.toArray
  | .dK kvs => kvs.length <= sizeLine /\ (a == sysModules) = false /\ ∃ vs,KV kvs vs /\ h.DictOf (mixKind P w) a vs
  | .dT kvs => kvs.length <= sizeLine /\ (a == sysModules) = false /\ ∃ xs : List (List Key × Addr × Value),
      Paired (fun (p : List Key × V) (q : List Key × Addr × Value) => p.1 = q.1 /\ H q.2.1 = some (.tup (p.1.map kV)) /\ RelV p.2 q.2.2) kvs xs /\
      ∃ o es ep,h.get? a = some o /\ o.ExactDict /\ o.data = .dict es ep /\ es.toList = xs.map (entryOfKey (tupleKind (mixKind P w))) /\ (xs.map (·.1)).Nodup
  | .set S n => h.SetOf (intKind P w) a S n
  | .ins C dx fs => H dx = some (.own a) /\ fs.length <= 1000 /\ dx ≠ a /\ h.get? a = some (PySem.W.instObj C dx) /\
      ∃ mA,h.Ns1 dx mA /\ (∀ f,RelO (fs.lookup f) (mA f)) /\ PySem.Within mA (fs.map (·.1))
  | .own _ => ∃ o,h.get? a = some o
  | .xd fs => ∃ mA,h.Ns1 a mA /\ ∀ f,RelO (fs.lookup f) (mA f)
  | .rng lo hi => ∃ t u v,h.get? a = some { cls := .type "range",data := .fields #[.int lo t,.int hi u,.int 1 v] }
  | .frz o u => h.get? a = some o /\ ObjOk H h a u
  | .tbl ps => h.get? a = some { cls := .none,data := .fields ps }
  | .met f x => h.get? a = some (PySem.W.methodObj (.ref f) (.ref x))
  | .cod q => ∃ ps : Array Value,h.get? a = some { cls := .none,data := .fields ps } /\ TriplesOk ps.toList /\ ∀ pos cv,codeAmong pos ps.toList = some cv -> ∃ (c' : Addr) (oc : Obj) (vs : Array Value) (t : Tok),cv = .ref c' /\ H c' = some (.frz oc (.own 0)) /\ oc.data = .fields vs /\ vs[1]? = some (.str q t)
  | .ext φ => φ h /\ (∃ o,h.get? a = some o) /\ ∀ h1 h2 : Heap,φ h1 -> (∀ o,h1.get? a = some o -> h2.get? a = some o) -> φ h2
def HOk (H : Hp)(h : Heap) : Prop := ∀ a o,H a = some o -> ObjOk P w H h a o
end
section
variable {P : Program}{w : World}{H H' : Hp}{h h' : Heap}{a : Addr}{o : HO}
theorem ObjOk.lt (x : ObjOk P w H h a o) : a < h.objs.size := by
  cases o with
  | lst xs => obtain ⟨_,_,_,_,e⟩ := x; exact Heap.lt_size e
  | tup xs => obtain ⟨_,_,_,p⟩ := x; exact p.lt
  | dK kvs => obtain ⟨_,_,_,_,o,_,_,e,_⟩ := x; exact Heap.lt_size e
  | dT kvs => obtain ⟨_,_,_,_,o,_,_,e,_⟩ := x; exact Heap.lt_size e
  | set S n => obtain ⟨o,_,_,_,e,_⟩ := x; exact Heap.lt_size e
  | ins C dx fs => obtain ⟨_,_,_,e,_⟩ := x; exact Heap.lt_size e
  | own y => obtain ⟨_,e⟩ := x; exact Heap.lt_size e
  | xd fs => obtain ⟨_,⟨_,_,_,e,_⟩,_⟩ := x; exact Heap.lt_size e
  | rng lo hi => obtain ⟨_,_,_,e⟩ := x; exact Heap.lt_size e
  | frz ob u => obtain ⟨e,_⟩ := x; exact Heap.lt_size e
  | tbl ps => exact Heap.lt_size (show h.get? a = some _ from x)
  | met f y => exact Heap.lt_size (show h.get? a = some _ from x)
  | cod q => obtain ⟨_,e,_⟩ := x; exact Heap.lt_size e
  | ext φ => obtain ⟨_,⟨_,e⟩,_⟩ := x; exact Heap.lt_size e
theorem Paired.mapP {α β : Type}{F G : α -> β -> Prop} : ∀ {l₁ : List α} {l₂ : List β},Paired F l₁ l₂ -> (∀ a b,F a b -> G a b) -> Paired G l₁ l₂
  | _,_,.nil,_ => .nil
  | _,_,.cons r t,f => .cons (f _ _ r) (Paired.mapP t f)
theorem ObjOk.stay (x : ObjOk P w H h a o)(k : ∀ b u,(b = a \/ H b = some (.own a)) -> h.get? b = some u -> h'.get? b = some u)
    (ho : ∀ b,H b = some (.own a) -> H' b = some (.own a)) (ht : ∀ b xs,H b = some (.tup xs) -> H' b = some (.tup xs)) (hz : ∀ b ob u,H b = some (.frz ob u) -> H' b = some (.frz ob u) := by first | exact fun _ _ _ q => q | (intro c ob uz q; rw [L2.upd_ne (L2.ne_of_none q (by assumption))]; exact q)) : ObjOk P w H' h' a o := by
  induction o with
  | lst xs => obtain ⟨z,its,n,r,e⟩ := x; exact ⟨z,its,n,r,k _ _ (.inl rfl) e⟩
  | tup xs => obtain ⟨z,its,r,ob,e,c⟩ := x; exact ⟨z,its,r,ob,k _ _ (.inl rfl) e,c⟩
  | dK kvs => obtain ⟨z,y,vs,r,ob,es,ep,e,c⟩ := x; exact ⟨z,y,vs,r,ob,es,ep,k _ _ (.inl rfl) e,c⟩
  | dT kvs =>
    obtain ⟨z,y,xs,r,ob,es,ep,e,c⟩ := x
    exact ⟨z,y,xs,Paired.mapP r fun p q z => ⟨z.1,ht _ _ z.2.1,z.2.2⟩,ob,es,ep,k _ _ (.inl rfl) e,c⟩
  | set S n => obtain ⟨ob,es,ep,t,e,c⟩ := x; exact ⟨ob,es,ep,t,k _ _ (.inl rfl) e,c⟩
  | ins C dx fs =>
    obtain ⟨d,z,ne,e,mA,⟨od,es,ep,e2,c⟩,r⟩ := x
    exact ⟨ho _ d,z,ne,k _ _ (.inl rfl) e,mA,⟨od,es,ep,k _ _ (.inr d) e2,c⟩,r⟩
  | own y => obtain ⟨ob,e⟩ := x; exact ⟨ob,k _ _ (.inl rfl) e⟩
  | xd fs => obtain ⟨mA,⟨od,es,ep,e,c⟩,r⟩ := x; exact ⟨mA,⟨od,es,ep,k _ _ (.inl rfl) e,c⟩,r⟩
  | rng lo hi => obtain ⟨t,u,v,e⟩ := x; exact ⟨t,u,v,k _ _ (.inl rfl) e⟩
  | frz ob u ih => obtain ⟨e,q⟩ := x; exact ⟨k _ _ (.inl rfl) e,ih q⟩
  | tbl ps =>
    have e : h.get? a = some { cls := .none,data := .fields ps } := x
    show h'.get? a = some { cls := .none,data := .fields ps }
    exact k a _ (.inl rfl) e
  | met f y =>
    have e : h.get? a = some (PySem.W.methodObj (.ref f) (.ref y)) := x
    show h'.get? a = some (PySem.W.methodObj (.ref f) (.ref y))
    exact k a _ (.inl rfl) e
  | cod q => obtain ⟨ps,e,t,r⟩ := x; exact ⟨ps,k _ _ (.inl rfl) e,t,fun pos cv hc => let ⟨c',oc,vs,tt,z1,z2,z3⟩ := r pos cv hc; ⟨c',oc,vs,tt,z1,hz _ _ _ z2,z3⟩⟩
  | ext φ => obtain ⟨p,⟨o,e⟩,st⟩ := x; exact ⟨st _ _ p fun o q => k _ _ (.inl rfl) q,⟨o,k _ _ (.inl rfl) e⟩,st⟩
theorem HOk.lt (x : HOk P w H h)(e : H a = some o) : a < h.objs.size := (x a o e).lt
theorem HOk.fresh (x : HOk P w H h)(e : h.objs.size <= a) : H a = none := by
  cases q : H a with
  | none => rfl
  | some u => exact absurd (Nat.lt_of_lt_of_le (x.lt q) e) (Nat.lt_irrefl _)
theorem HOk.kept (x : HOk P w H h)(k : ∀ b u,h.get? b = some u -> h'.get? b = some u) : HOk P w H h' := fun a o e =>
  (x a o e).stay (fun b u _ q => k b u q) (fun _ q => q) fun _ _ q => q
theorem HOk.laid (x : HOk P w H h)(k : ∀ b u,h.get? b = some u -> h'.get? b = some u)(hp : h.objs.size <= a)(new : ObjOk P w (upd H a o) h' a o) : HOk P w (upd H a o) h' := fun b u e => by
  have hn := x.fresh hp
  by_cases hb : b = a
  · subst hb; rw [upd_same] at e; cases e; exact new
  · rw [upd_ne hb] at e
    exact (x b u e).stay (fun c v _ q => k c v q) (fun c q => by rw [upd_ne (ne_of_none q hn)]; exact q) fun c xs q => by rw [upd_ne (ne_of_none q hn)]; exact q
end
def Rd (H : Hp)(a : Addr)(u : HO) : Prop := H a = some u \/ ∃ o,H a = some (.frz o u)
theorem Rd.ok {P : Program}{w : World}{H : Hp}{h : Heap}{a : Addr}{u : HO}(r : Rd H a u)(x : HOk P w H h) : ObjOk P w H h a u := by
  rcases r with r | ⟨o,r⟩
  · exact x a u r
  · obtain ⟨_,q⟩ := x a _ r
    exact q
def Mut : Option HO -> Prop
  | some (.lst _) => True
  | some (.dK _) => True
  | some (.dT _) => True
  | some (.set _ _) => True
  | some (.ins _ _ _) => True
  | some (.ext _) => True
  | _ => False
section
variable {P : Program}{w : World}{H : Hp}{h h' : Heap}{x e : Addr}{o' : HO}
theorem HOk.write (ok : HOk P w H h)(mu : Mut (H x))(he : e = x \/ H e = some (.own x))(k : ∀ b u,b ≠ e -> h.get? b = some u -> h'.get? b = some u)(heo : ∃ u,h'.get? e = some u)
    (new : ObjOk P w (upd H x o') h' x o') : HOk P w (upd H x o') h' := fun b u q => by
  have nown : ∀ c y,H c = some (.own y) -> c ≠ x := fun c y r z => by subst z; rw [r] at mu; exact mu
  have ntup : ∀ c xs,H c = some (.tup xs) -> c ≠ x := fun c xs r z => by subst z; rw [r] at mu; exact mu
  have nfrz : ∀ c ob uz,H c = some (.frz ob uz) -> c ≠ x := fun c ob uz r z => by subst z; rw [r] at mu; exact mu
  by_cases hb : b = x
  · subst hb; rw [upd_same] at q; cases q; exact new
  · rw [upd_ne hb] at q
    by_cases hbe : b = e
    · have q' : H b = some (.own x) := by
        rcases he with z | z
        · exact absurd (hbe.trans z) hb
        · rw [hbe]; exact z
      rw [q] at q'; cases q'
      obtain ⟨v,hv⟩ := heo
      exact ⟨v,by rw [hbe]; exact hv⟩
    · refine (ok b u q).stay (fun c v hc r => k c v ?_ r) (fun c r => by rw [upd_ne (nown c b r)]; exact r) (fun c xs r => by rw [upd_ne (ntup c xs r)]; exact r) fun c ob uz r => by rw [upd_ne (nfrz c ob uz r)]; exact r
      rcases hc with rfl | hc
      · exact hbe
      · rintro rfl
        rcases he with z | z
        · exact nown c b hc z
        · rw [hc] at z; cases z; exact hb rfl
end
structure Un (fs ex : List Addr)(H H' : Hp)(h h' : Heap) : Prop where
  keep : ∀ b o,h.get? b = some o -> H b = none -> b ∉ fs -> b ∉ ex -> h'.get? b = some o
  slot : ∀ b o,h.get? b = some o -> H b = none -> b ∈ fs -> b ∉ ex -> ∃ sl,h'.get? b = some { o with slots := sl }
  free : ∀ b o,h.get? b = some o -> H b = none -> b ∉ ex -> H' b = none
  there : ∀ b o,h.get? b = some o -> b ∉ ex -> ∃ o',h'.get? b = some o'
  tups : ∀ b xs,H b = some (.tup xs) -> H' b = some (.tup xs)
  frzs : ∀ b o u,H b = some (.frz o u) -> H' b = some (.frz o u)
  tbls : ∀ b ps,H b = some (.tbl ps) -> ∃ more,H' b = some (.tbl (ps ++ more))
section
variable {fs fs' ex ex' : List Addr}{H H1 H2 : Hp}{h h1 h2 h' : Heap}{a x e : Addr}{o : HO}
theorem Un.any (u : Un fs ex H H1 h h1){b : Addr}{ob : Obj}(q : h.get? b = some ob)(n : H b = none)(hx : b ∉ ex) : ∃ sl,h1.get? b = some { ob with slots := sl } := by
  by_cases hb : b ∈ fs
  · exact u.slot b ob q n hb hx
  · exact ⟨ob.slots,u.keep b ob q n hb hx⟩
theorem Un.trans (a : Un fs ex H H1 h h1)(b : Un fs ex H1 H2 h1 h2) : Un fs ex H H2 h h2 where
  keep := fun c ob q n hc hx => b.keep c ob (a.keep c ob q n hc hx) (a.free c ob q n hx) hc hx
  slot := fun c ob q n hc hx => by
    obtain ⟨sl,e1⟩ := a.slot c ob q n hc hx
    obtain ⟨sl',e2⟩ := b.slot c _ e1 (a.free c ob q n hx) hc hx
    exact ⟨sl',e2⟩
  free := fun c ob q n hx => by
    obtain ⟨o',e1⟩ := a.there c ob q hx
    exact b.free c o' e1 (a.free c ob q n hx) hx
  there := fun c ob q hx => by
    obtain ⟨o',e1⟩ := a.there c ob q hx
    exact b.there c o' e1 hx
  tups := fun c xs q => b.tups c xs (a.tups c xs q)
  frzs := fun c ob xs q => b.frzs c ob xs (a.frzs c ob xs q)
  tbls := fun c ps q => by
    obtain ⟨m1,e1⟩ := a.tbls c ps q
    obtain ⟨m2,e2⟩ := b.tbls c _ e1
    exact ⟨m1 ++ m2,by rw [e2,Array.append_assoc]⟩
theorem Un.kept (k : ∀ b u,h.get? b = some u -> h'.get? b = some u) : Un fs ex H H h h' :=
  ⟨fun b ob q _ _ _ => k b ob q,fun b ob q _ _ _ => ⟨ob.slots,k b ob q⟩,fun _ _ _ n _ => n,fun b ob q _ => ⟨ob,k b ob q⟩,fun _ _ q => q,fun _ _ _ q => q,fun _ ps q => ⟨#[],by rw [q]; simp⟩⟩
theorem Un.refl : Un fs ex H H h h := Un.kept fun _ _ q => q
theorem Un.laid (k : ∀ b u,h.get? b = some u -> h'.get? b = some u)(hp : h.objs.size <= a)(hn : H a = none) : Un fs ex H (upd H a o) h h' where
  keep := fun b u q _ _ _ => k b u q
  slot := fun b u q _ _ _ => ⟨u.slots,k b u q⟩
  free := fun b u q n _ => by rw [upd_ne (Nat.ne_of_lt (Nat.lt_of_lt_of_le (Heap.lt_size q) hp))]; exact n
  there := fun b u q _ => ⟨u,k b u q⟩
  tups := fun b xs q => by rw [upd_ne (ne_of_none q hn)]; exact q
  frzs := fun b u xs q => by rw [upd_ne (ne_of_none q hn)]; exact q
  tbls := fun b ps q => ⟨#[],by rw [upd_ne (ne_of_none q hn),q]; simp⟩
theorem Un.write (mu : Mut (H x))(he : e = x \/ H e = some (.own x))(k : ∀ b u,b ≠ e -> h.get? b = some u -> h'.get? b = some u)(heo : ∃ u,h'.get? e = some u) : Un fs ex H (upd H x o) h h' := by
  have hx : ∀ b,H b = none -> b ≠ x := fun b n z => by subst z; rw [n] at mu; exact mu
  have hb : ∀ b,H b = none -> b ≠ e := fun b n z => by
    subst z
    rcases he with r | r
    · exact hx b n r
    · rw [n] at r; cases r
  have hm : ∀ b u,H b = some u -> ¬ Mut (some u) -> b ≠ x := fun b u q nm z => by subst z; rw [q] at mu; exact nm mu
  refine ⟨fun b u q n _ _ => k b u (hb b n) q,fun b u q n _ _ => ⟨u.slots,k b u (hb b n) q⟩,fun b u q n _ => by rw [upd_ne (hx b n)]; exact n,fun b u q _ => ?_,
    fun b xs q => by rw [upd_ne (hm b _ q fun z => z)]; exact q,fun b u xs q => by rw [upd_ne (hm b _ q fun z => z)]; exact q,fun b ps q => ⟨#[],by rw [upd_ne (hm b _ q fun z => z),q]; simp⟩⟩
  by_cases hbe : b = e
  · subst hbe; exact heo
  · exact ⟨u,k b u hbe q⟩
end
def trk (h : Heap)(H : Hp) : List Addr := (List.range h.objs.size).filter fun a => (H a).isSome
def hidT (h : Heap)(H : Hp) : Heap := PySem.W.hideAll h (trk h H)
theorem hidT_size (h : Heap)(H : Hp) : (hidT h H).objs.size = h.objs.size := PySem.W.hideAll_size _ _
theorem hidT_get {h : Heap}{H : Hp}{b : Addr}{o : Obj}(e : h.get? b = some o)(n : H b = none) : (hidT h H).get? b = some o :=
  PySem.W.hideAll_get _ e fun hm => by
    have q : (H b).isSome = true := (List.mem_filter.mp hm).2
    rw [n] at q; simp at q
theorem of_hidT {h : Heap}{H : Hp}{b : Addr}{o : Obj}(e : (hidT h H).get? b = some o) : h.get? b = some o /\ H b = none := by
  have e' : h.get? b = some o := PySem.W.of_hideAll (trk h H) e
  refine ⟨e',?_⟩
  cases q : H b with
  | none => rfl
  | some x =>
    have hm : b ∈ trk h H := List.mem_filter.mpr ⟨List.mem_range.mpr (Heap.lt_size e'),by simp [q]⟩
    have z : (hidT h H).get? b = none := PySem.W.hideAll_none (trk h H) hm
    rw [z] at e; cases e
def allNews (g h : Heap)(L : Addr) : List (Addr × Obj) := (List.range h.objs.size).filterMap fun a => if a = L \/ (g.get? a).isSome = true then none else (h.get? a).map fun o => (a,o)
def rest (g h : Heap)(L d : Addr) : List (Addr × Obj) := (allNews g h L).filter fun p => decide (p.1 ≠ d)
end L2
namespace L2
open PySem PySem.Spec PyProof.Rows
structure Mod (K : PySem.W.Frag)(mg : Str -> Option Value)(base : Heap) : Prop where
  kin : K.In base
  glob : base.Ns mainGlobals mg
  blt : ∃ mb,base.Ns builtinsNs mb /\ ∀ x : Str,x ≠ "__name__" -> mb x = bootBuiltins x
  nolimit : base.NoLimit
structure Cx where
  prog : Program
  w : World
  K : PySem.W.Frag
  mg : Str -> Option Value
  base : Heap
  A : Around
  N : List Str
  s₀ : Shared
  H₀ : Hp
  env : Env
  outer : List Env
  stack : List Env
  ex : List Addr
  fn : Str -> Bool
  calm : Bool
  pn : List (Addr × Obj)
  xe : Value -> Shared -> Prop
def frs (l : List Env) : List Addr := l.filterMap (·.frame)
abbrev Cx.fs (X : Cx) : List Addr := frs X.outer
def Vis (sc : Scope)(x : Str) : Prop := sc.names.lookup x = some .local \/ sc.names.lookup x = some .cell \/ sc.names.lookup x = some .free
def Loc (sc : Scope)(x : Str) : Prop := sc.names.lookup x = some .local \/ sc.names.lookup x = some .cell
def Look (env : Env)(h : Heap)(m : Str -> Option Value)(x : Str)(u : Value) : Prop :=
  (env.kindOf x = some .local /\ m x = some u) \/ ((env.kindOf x = some .cell \/ env.kindOf x = some .free) /\ ∃ c,env.cells.lookup x = some c /\ h.IsCell c (some u))
structure Cx.Ok (X : Cx) : Prop where
  mod : Mod X.K X.mg X.base
  kind : X.env.scope.kind = .function
  glob : X.env.globals = mainGlobals
  blt : X.env.builtins = builtinsNs
  above : X.s₀.heap.objs.size <= X.env.locals
  inj : ∀ x y c,X.env.cells.lookup x = some c -> X.env.cells.lookup y = some c -> x = y
  has : ∀ x,(X.env.kindOf x = some .cell \/ X.env.kindOf x = some .free) -> ∃ c,X.env.cells.lookup x = some c
  cab : ∀ x c,X.fn x = true -> X.env.cells.lookup x = some c -> X.s₀.heap.objs.size <= c
  hd : X.calm = true -> X.A.handled = none
  frames : X.A.frames = some X.stack
  stk : X.stack = X.outer \/ (X.stack = X.env :: X.outer /\ X.env.frame = some X.env.locals)
  exf : ∀ b ∈ X.ex,b ≠ X.env.locals /\ ∀ x c,X.env.cells.lookup x = some c -> c ≠ b
  bs : ∀ b o,X.base.get? b = some o -> X.s₀.heap.get? b = some o /\ X.H₀ b = none
  bsz : X.base.objs.size <= X.s₀.heap.objs.size
  noex : ∀ b o,X.base.get? b = some o -> b ∉ X.ex
  exfs : ∀ b ∈ X.ex,b ∉ X.fs
  funs : X.s₀.heap.FunFrames X.base X.outer
  frf : ∀ b ∈ X.fs,X.H₀ b = none
structure Inv (X : Cx)(pins : List (Addr × Obj))(σ : List (Option V))(H : Hp)(s : Shared) : Prop where
  ok : X.Ok
  os : s.os = X.s₀.os
  bare : AllBare s.gens
  base : Un X.fs X.ex X.H₀ H X.s₀.heap s.heap
  loc : ∃ m,s.heap.Ns X.env.locals m /\ ∀ (i : Nat) (x : Str) (v : V),X.N[i]? = some x -> σ[i]? = some (some v) -> Vis X.env.scope x -> ∃ u,RelV v u /\ Look X.env s.heap m x u
  cell : ∀ x c,X.env.cells.lookup x = some c -> ∃ v,s.heap.IsCell c v
  free : H X.env.locals = none
  freeC : ∀ x c,X.env.cells.lookup x = some c -> H c = none
  pin : ∀ p ∈ X.pn ++ pins,s.heap.get? p.1 = some p.2 /\ H p.1 = none /\ p.1 ≠ X.env.locals /\ p.1 ∉ X.fs /\ ∀ v,p.2.data ≠ .cell v
  hok : HOk X.prog X.w H s.heap
  len : σ.length = X.N.length
section
variable {X : Cx}{pins : List (Addr × Obj)}{σ : List (Option V)}{H H' : Hp}{s : Shared}{h' : Heap}
theorem Cx.Ok.nofr (ok : X.Ok){b : Addr}{o : Obj}(e : X.base.get? b = some o) : b ∉ X.fs := fun hb => by
  have := (ok.funs.mem hb).1
  rw [e] at this; cases this
theorem Inv.bs (I : Inv X pins σ H s) : ∀ b o,X.base.get? b = some o -> s.heap.get? b = some o /\ H b = none := fun b o e =>
  ⟨I.base.keep b o (I.ok.bs b o e).1 (I.ok.bs b o e).2 (I.ok.nofr e) (I.ok.noex b o e),I.base.free b o (I.ok.bs b o e).1 (I.ok.bs b o e).2 (I.ok.noex b o e)⟩
theorem Inv.bk (I : Inv X pins σ H s) : ∀ b o,X.base.get? b = some o -> s.heap.get? b = some o := fun b o e => (I.bs b o e).1
theorem Inv.mod (I : Inv X pins σ H s) : Mod X.K X.mg X.base := I.ok.mod
theorem Inv.kIn (I : Inv X pins σ H s) : X.K.In s.heap := I.ok.mod.kin.keeps I.bk
theorem Inv.fr (I : Inv X pins σ H s) : ∃ m,Fr X.base X.env.locals s.heap m :=
  let ⟨m,hn,_⟩ := I.loc
  ⟨m,hn,I.bk,Nat.le_trans I.ok.bsz I.ok.above⟩
theorem Inv.lt (I : Inv X pins σ H s) : X.env.locals < s.heap.objs.size := let ⟨_,hn,_⟩ := I.loc; hn.lt
theorem Inv.sz (I : Inv X pins σ H s) : X.s₀.heap.objs.size <= s.heap.objs.size := Nat.le_trans I.ok.above (Nat.le_of_lt I.lt)
theorem Inv.nofs (I : Inv X pins σ H s){a : Addr}(h : s.heap.objs.size <= a) : a ∉ X.fs := fun hb => by
  obtain ⟨_,o,ho,_⟩ := I.ok.funs.mem hb
  exact absurd (Nat.lt_of_lt_of_le (Heap.lt_size ho) (Nat.le_trans I.sz h)) (Nat.lt_irrefl _)
theorem Inv.cne (I : Inv X pins σ H s) : ∀ x c,X.env.cells.lookup x = some c -> c ≠ X.env.locals := fun x c e z => by
  obtain ⟨v,o,ho,hd⟩ := I.cell x c e
  obtain ⟨m,⟨o',es,ep,ho',hd',_⟩,_⟩ := I.loc
  rw [z,ho'] at ho; cases ho; rw [hd'] at hd; cases hd
theorem Inv.funs (I : Inv X pins σ H s) : s.heap.FunFrames X.base X.outer := by
  have all : ∀ (l : List Env),(∀ b ∈ frs l,b ∈ X.fs) -> X.s₀.heap.FunFrames X.base l -> s.heap.FunFrames X.base l := by
    intro l
    induction l with
    | nil => intro _ _; trivial
    | cons env r ih =>
      intro hs hl
      obtain ⟨hk,⟨L,o,hf,hn,ho,hd⟩,hr⟩ := hl
      have hL : L ∈ X.fs := hs L (by unfold frs; rw [List.filterMap_cons,hf]; exact List.mem_cons_self)
      obtain ⟨sl,e⟩ := I.base.slot L o ho (I.ok.frf L hL) hL fun z => I.ok.exfs L z hL
      exact ⟨hk,⟨L,_,hf,hn,e,hd⟩,ih (fun b hb => hs b (by unfold frs; rw [List.filterMap_cons,hf]; exact List.mem_cons_of_mem _ hb)) hr⟩
  exact all X.outer (fun _ hb => hb) I.ok.funs
theorem Inv.stack (I : Inv X pins σ H s) : s.heap.FunFrames X.base X.stack := by
  rcases I.ok.stk with e | ⟨e,hf⟩
  · rw [e]; exact I.funs
  · rw [e]
    obtain ⟨m,hn,_⟩ := I.loc
    refine .cons (by rw [I.ok.kind]; decide) hf hn ?_ I.funs
    exact Heap.get?_none_of_le (Nat.le_trans I.ok.bsz I.ok.above)
theorem Inv.stkSub (I : Inv X pins σ H s) : ∀ b ∈ frs X.stack,b ∈ X.env.locals :: X.fs := fun b hb => by
  rcases I.ok.stk with e | ⟨e,hf⟩
  · rw [e] at hb; exact List.mem_cons_of_mem _ hb
  · rw [e] at hb
    unfold frs at hb
    rw [List.filterMap_cons,hf] at hb
    exact hb
theorem Inv.stkFree (I : Inv X pins σ H s) : ∀ b ∈ frs X.stack,H b = none := fun b hb => by
  rcases List.mem_cons.mp (I.stkSub b hb) with e | hb
  · rw [e]; exact I.free
  · obtain ⟨_,o,ho,_⟩ := I.ok.funs.mem hb
    exact I.base.free b o ho (I.ok.frf b hb) fun z => I.ok.exfs b z hb
theorem Inv.step {g' : Array GenState}{t' : Nat}{d' : Drawn}{ch : List Addr}(I : Inv X pins σ H s)
    (hch : ∀ b ∈ ch,(b ∈ X.ex \/ X.s₀.heap.objs.size <= b) /\ b ≠ X.env.locals /\ (∀ x c,X.env.cells.lookup x = some c -> c ≠ b) /\ ∀ p ∈ X.pn ++ pins,p.1 ≠ b)
    (keep : ∀ b o,b ≠ X.env.locals -> b ∉ X.fs -> b ∉ ch -> s.heap.get? b = some o -> H b = none -> h'.get? b = some o)
    (slot : ∀ b o,b ≠ X.env.locals -> b ∈ X.fs -> b ∉ ch -> s.heap.get? b = some o -> H b = none -> ∃ sl,h'.get? b = some { o with slots := sl }) (free : ∀ b o,b ∉ ch -> s.heap.get? b = some o -> H b = none -> H' b = none)
    (there : ∀ b o,b ∉ ch -> s.heap.get? b = some o -> ∃ o',h'.get? b = some o')
    (tups : ∀ b xs,H b = some (.tup xs) -> H' b = some (.tup xs)) (frzs : ∀ b o u,H b = some (.frz o u) -> H' b = some (.frz o u)) (tbls : ∀ b ps,H b = some (.tbl ps) -> ∃ more,H' b = some (.tbl (ps ++ more)))
    (ns : ∀ m,s.heap.Ns X.env.locals m -> h'.Ns X.env.locals m) (hok : HOk X.prog X.w H' h') (hg : AllBare g') :
    Inv X pins σ H' { s with heap := h',gens := g',drawn := d',toks := t' } := by
  have neL : ∀ b o,X.s₀.heap.get? b = some o -> b ≠ X.env.locals := fun b o e => Nat.ne_of_lt (Nat.lt_of_lt_of_le (Heap.lt_size e) I.ok.above)
  have neC : ∀ b o,X.s₀.heap.get? b = some o -> b ∉ X.ex -> b ∉ ch := fun b o e hx hb => by
    rcases (hch b hb).1 with z | z
    · exact hx z
    · exact absurd (Nat.lt_of_lt_of_le (Heap.lt_size e) z) (Nat.lt_irrefl _)
  have cellK : ∀ x c,X.env.cells.lookup x = some c -> ∀ v,s.heap.IsCell c v -> h'.IsCell c v := fun x c e v ⟨o,ho,hd⟩ => by
    have nch : c ∉ ch := fun z => (hch c z).2.2.1 x c e rfl
    by_cases hc : c ∈ X.fs
    · obtain ⟨sl,q⟩ := slot c o (I.cne x c e) hc nch ho (I.freeC x c e)
      exact ⟨_,q,hd⟩
    · exact ⟨o,keep c o (I.cne x c e) hc nch ho (I.freeC x c e),hd⟩
  refine ⟨I.ok,I.os,hg,⟨fun b o e n hb hx => ?_,fun b o e n hb hx => ?_,fun b o e n hx => ?_,fun b o e hx => ?_,fun b xs e => tups b xs (I.base.tups b xs e),fun b o xs e => frzs b o xs (I.base.frzs b o xs e),fun b ps e => ?_⟩,?_,fun x c e => ?_,?_,fun x c e => ?_,fun p hp => ?_,hok,I.len⟩
  · exact keep b o (neL b o e) hb (neC b o e hx) (I.base.keep b o e n hb hx) (I.base.free b o e n hx)
  · obtain ⟨sl,e1⟩ := I.base.slot b o e n hb hx
    obtain ⟨sl',e2⟩ := slot b _ (neL b o e) hb (neC b o e hx) e1 (I.base.free b o e n hx)
    exact ⟨sl',e2⟩
  · obtain ⟨o',e1⟩ := I.base.there b o e hx
    exact free b o' (neC b o e hx) e1 (I.base.free b o e n hx)
  · obtain ⟨o',e1⟩ := I.base.there b o e hx
    exact there b o' (neC b o e hx) e1
  · obtain ⟨m1,e1⟩ := I.base.tbls b ps e
    obtain ⟨m2,e2⟩ := tbls b _ e1
    exact ⟨m1 ++ m2,by rw [e2,Array.append_assoc]⟩
  · obtain ⟨m,hn,hl⟩ := I.loc
    refine ⟨m,ns m hn,fun i x v e1 e2 e3 => ?_⟩
    obtain ⟨u,r,l⟩ := hl i x v e1 e2 e3
    refine ⟨u,r,?_⟩
    rcases l with l | ⟨k,c,e,z⟩
    · exact .inl l
    · exact .inr ⟨k,c,e,cellK x c e _ z⟩
  · obtain ⟨v,z⟩ := I.cell x c e
    exact ⟨v,cellK x c e v z⟩
  · obtain ⟨m,⟨o,_,_,ho,_⟩,_⟩ := I.loc
    exact free _ o (fun z => (hch _ z).2.1 rfl) ho I.free
  · obtain ⟨v,o,ho,hd⟩ := I.cell x c e
    exact free c o (fun z => (hch c z).2.2.1 x c e rfl) ho (I.freeC x c e)
  · obtain ⟨e,n,ne,nf,d⟩ := I.pin p hp
    have nch : p.1 ∉ ch := fun z => (hch p.1 z).2.2.2 p hp rfl
    exact ⟨keep p.1 p.2 ne nf nch e n,free p.1 p.2 nch e n,ne,nf,d⟩
theorem Inv.un {t' : Nat}(I : Inv X pins σ H s)(u : Un X.fs [] H H' s.heap h')(hok : HOk X.prog X.w H' h') : Inv X pins σ H' { s with heap := h',toks := t' } := by
  obtain ⟨m,⟨o,es,ep,ho,r⟩,_⟩ := id I.loc
  obtain ⟨sl,hL⟩ := u.any ho I.free (by simp)
  exact I.step (g' := s.gens) (d' := s.drawn) (ch := []) (fun _ z => nomatch z) (fun b o _ hb _ e n => u.keep b o e n hb (by simp)) (fun b o _ hb _ e n => u.slot b o e n hb (by simp)) (fun b o _ e n => u.free b o e n (by simp)) (fun b o _ e => u.there b o e (by simp)) u.tups u.frzs u.tbls (fun m' hm => by
    obtain ⟨o',es',ep',ho',r'⟩ := hm
    rw [ho] at ho'; cases ho'
    exact ⟨_,es',ep',hL,r'⟩) hok I.bare
theorem Inv.call {g' : Array GenState}{t' : Nat}{d' : Drawn}{ch : List Addr}(I : Inv X pins σ H s)(u : Un (frs X.stack) ch H H' s.heap h')(hok : HOk X.prog X.w H' h')(hg : AllBare g')
    (hch : ∀ b ∈ ch,(b ∈ X.ex \/ X.s₀.heap.objs.size <= b) /\ b ≠ X.env.locals /\ (∀ x c,X.env.cells.lookup x = some c -> c ≠ b) /\ ∀ p ∈ X.pn ++ pins,p.1 ≠ b) :
    Inv X pins σ H' { s with heap := h',gens := g',drawn := d',toks := t' } := by
  obtain ⟨m,⟨o,es,ep,ho,r⟩,_⟩ := id I.loc
  obtain ⟨sl,hL⟩ := u.any ho I.free fun z => (hch _ z).2.1 rfl
  exact I.step (ch := ch) hch (fun b o hL hb hc e n => u.keep b o e n (fun z => (List.mem_cons.mp (I.stkSub b z)).elim hL hb) hc) (fun b o _ _ hc e n => u.any e n hc) (fun b o hc e n => u.free b o e n hc) (fun b o hc e => u.there b o e hc) u.tups u.frzs u.tbls (fun m' hm => by
    obtain ⟨o',es',ep',ho',r'⟩ := hm
    rw [ho] at ho'; cases ho'
    exact ⟨_,es',ep',hL,r'⟩) hok hg
theorem Inv.turned {t' : Nat}{it : Addr}(I : Inv X pins σ H s)(k : ∀ b o,b ≠ it -> s.heap.get? b = some o -> h'.get? b = some o)(hn : H it = none)(hL : it ≠ X.env.locals)
    (h1 : it ∈ X.ex \/ X.s₀.heap.objs.size <= it) (h2 : ∀ x c,X.env.cells.lookup x = some c -> c ≠ it) (h3 : ∀ p ∈ X.pn ++ pins,p.1 ≠ it) : Inv X pins σ H { s with heap := h',toks := t' } := by
  have nit : ∀ b u,H b = some u -> b ≠ it := fun b u e z => by rw [z,hn] at e; cases e
  refine I.step (g' := s.gens) (d' := s.drawn) (ch := [it]) (fun b hb => ?_) (fun b o _ _ hc e _ => k b o (fun z => hc (by simp [z])) e) (fun b o _ _ hc e _ => ⟨o.slots,k b o (fun z => hc (by simp [z])) e⟩) (fun _ _ _ _ n => n)
    (fun b o hc e => ⟨o,k b o (fun z => hc (by simp [z])) e⟩) (fun _ _ e => e) (fun _ _ _ e => e) (fun b ps e => ⟨#[],by rw [e]; simp⟩) (fun m hm => ?_) (fun b u e => ?_) I.bare
  · have e : b = it := by simpa using hb
    subst e
    exact ⟨h1,hL,h2,h3⟩
  · obtain ⟨o,es,ep,ho,r⟩ := hm
    exact ⟨o,es,ep,k _ o (Ne.symm hL) ho,r⟩
  · refine (I.hok b u e).stay (fun c v hc q => k c v ?_ q) (fun _ q => q) fun _ _ q => q
    rcases hc with z | z
    · rw [z]; exact nit b u e
    · exact nit c _ z
theorem Inv.tok (I : Inv X pins σ H s)(t : Nat) : Inv X pins σ H { s with toks := t } := I.un (h' := s.heap) (t' := t) Un.refl I.hok
theorem Inv.kept {t' : Nat}(I : Inv X pins σ H s)(k : ∀ b u,s.heap.get? b = some u -> h'.get? b = some u) : Inv X pins σ H { s with heap := h',toks := t' } := I.un (Un.kept k) (I.hok.kept k)
theorem Inv.laid {a : Addr}{o : HO}{t' : Nat}(I : Inv X pins σ H s)(k : ∀ b u,s.heap.get? b = some u -> h'.get? b = some u)(hp : s.heap.objs.size <= a)(new : ObjOk X.prog X.w (upd H a o) h' a o) :
    Inv X pins σ (upd H a o) { s with heap := h',toks := t' } := I.un (Un.laid k hp (I.hok.fresh hp)) (I.hok.laid k hp new)
theorem Inv.write {x e : Addr}{o : HO}{t' : Nat}(I : Inv X pins σ H s)(mu : Mut (H x))(he : e = x \/ H e = some (.own x))(k : ∀ b u,b ≠ e -> s.heap.get? b = some u -> h'.get? b = some u)(heo : ∃ u,h'.get? e = some u)
    (new : ObjOk X.prog X.w (upd H x o) h' x o) : Inv X pins σ (upd H x o) { s with heap := h',toks := t' } := I.un (Un.write mu he k heo) (I.hok.write mu he k heo new)
theorem Inv.weak {σ' : List (Option V)}(I : Inv X pins σ H s)(hl : σ'.length = σ.length)(w : ∀ (i : Nat) v,σ'[i]? = some (some v) -> σ[i]? = some (some v)) : Inv X pins σ' H s :=
  ⟨I.ok,I.os,I.bare,I.base,let ⟨m,hn,hl'⟩ := I.loc; ⟨m,hn,fun i x v e1 e2 e3 => hl' i x v e1 (w i v e2) e3⟩,I.cell,I.free,I.freeC,I.pin,I.hok,hl.trans I.len⟩
theorem Inv.pins_of {pins' : List (Addr × Obj)}(I : Inv X pins σ H s)(h : ∀ p ∈ pins',s.heap.get? p.1 = some p.2 /\ H p.1 = none /\ p.1 ≠ X.env.locals /\ p.1 ∉ X.fs /\ ∀ v,p.2.data ≠ .cell v) : Inv X pins' σ H s :=
  ⟨I.ok,I.os,I.bare,I.base,I.loc,I.cell,I.free,I.freeC,fun p hp => (List.mem_append.mp hp).elim (fun z => I.pin p (List.mem_append_left _ z)) (h p),I.hok,I.len⟩
theorem nodup_ix {N : List Str}(hN : N.Nodup){i j : Nat}{x : Str}(a : N[i]? = some x)(b : N[j]? = some x) : i = j := by
  obtain ⟨h1,e1⟩ := List.getElem?_eq_some_iff.mp a
  obtain ⟨h2,e2⟩ := List.getElem?_eq_some_iff.mp b
  exact (List.getElem_inj hN).mp (e1.trans e2.symm)
theorem store_ok2 {M : Model}{A : Around}{E : Value -> Shared -> Prop}{i : Nat}{x : Str}{v : V}{u : Value}{Q : Unit -> Shared -> Prop}(I : Inv X pins σ H s)(hN : X.N.Nodup)(hi : X.N[i]? = some x)(hx : Loc X.env.scope x)(r : RelV v u)
    (h : ∀ s',Inv X pins (σ.set i (some v)) H s' -> (∃ a,Heap.SameBut a s.heap s'.heap /\ (a = X.env.locals \/ X.env.cells.lookup x = some a)) -> Q () s') (hf : X.fn x = true \/ X.env.scope.names.lookup x = some .local := by first | exact .inl rfl | exact .inr rfl | assumption) : wpAny M A (storeName X.env x u) Q E s := by
  obtain ⟨m,hn,hl⟩ := id I.loc
  have hcls : (X.env.scope.kind == .class || (X.env.scope.kind == .module && X.env.locals != X.env.globals)) = false := by rw [I.ok.kind]; rfl
  have hiσ : i < σ.length := by rw [I.len]; exact (List.getElem?_eq_some_iff.mp hi).1
  have cne := I.cne
  have tracked : ∀ {a : Addr} {h' : Heap},(∃ o,s.heap.get? a = some o /\ H a = none) -> Heap.SameBut a s.heap h' -> HOk X.prog X.w H h' := fun {a h'} ha hs b ob e => by
    obtain ⟨_,_,hfree⟩ := ha
    refine (I.hok b ob e).stay (fun c w' hc q => (hs.2 c ?_).trans q) (fun _ q => q) fun _ _ q => q
    rintro rfl
    rcases hc with rfl | hc
    · rw [hfree] at e; cases e
    · rw [hfree] at hc; cases hc
  rcases hx with hk | hk
  · refine wpAny_storeName_local hk hn (fun h' hn' hs => ?_) hcls
    obtain ⟨oL,_,_,hoL,_⟩ := id hn
    refine h _ ⟨I.ok,I.os,I.bare,⟨fun b o e n hb hx => ?_,fun b o e n hb hx => ?_,I.base.free,fun b o e hx => ?_,I.base.tups,I.base.frzs,I.base.tbls⟩,⟨_,hn',fun j y v' e1 e2 e3 => ?_⟩,fun y c e => ?_,I.free,I.freeC,fun p hp => ?_,tracked ⟨oL,hoL,I.free⟩ hs,by simpa using I.len⟩ ⟨_,hs,.inl rfl⟩
    · exact (hs.2 b (Nat.ne_of_lt (Nat.lt_of_lt_of_le (Heap.lt_size e) I.ok.above))).trans (I.base.keep b o e n hb hx)
    · obtain ⟨sl,e1⟩ := I.base.slot b o e n hb hx
      exact ⟨sl,(hs.2 b (Nat.ne_of_lt (Nat.lt_of_lt_of_le (Heap.lt_size e) I.ok.above))).trans e1⟩
    · obtain ⟨o',e1⟩ := I.base.there b o e hx
      exact ⟨o',(hs.2 b (Nat.ne_of_lt (Nat.lt_of_lt_of_le (Heap.lt_size e) I.ok.above))).trans e1⟩
    · by_cases hj : j = i
      · subst hj
        rw [hi] at e1; cases e1
        rw [List.getElem?_set_self hiσ] at e2
        cases e2
        exact ⟨u,r,.inl ⟨hk,by simp⟩⟩
      · rw [List.getElem?_set_ne (Ne.symm hj)] at e2
        obtain ⟨u',r',q⟩ := hl j y v' e1 e2 e3
        refine ⟨u',r',?_⟩
        rcases q with ⟨k,e⟩ | ⟨k,c,e,z⟩
        · refine .inl ⟨k,?_⟩
          have : y ≠ x := fun e => hj (nodup_ix hN e1 (e ▸ hi))
          simp [this,e]
        · exact .inr ⟨k,c,e,z.sameBut hs (cne y c e)⟩
    · obtain ⟨w',z⟩ := I.cell y c e
      exact ⟨w',z.sameBut hs (cne y c e)⟩
    · obtain ⟨e,n,ne,nf,d⟩ := I.pin p hp
      exact ⟨(hs.2 p.1 ne).trans e,n,ne,nf,d⟩
  · have hfn : X.fn x = true := by
      rcases hf with z | z
      · exact z
      · rw [z] at hk; cases hk
    obtain ⟨c,hc⟩ := I.ok.has x (.inl hk)
    obtain ⟨w',z⟩ := I.cell x c hc
    refine wpAny_storeName_cell I.ok.kind hk hc z (fun h' hc' hs => ?_)
    obtain ⟨oc,hoc,hocd⟩ := id z
    refine h { s with heap := h' } ⟨I.ok,I.os,I.bare,⟨fun b o e n hb hx => ?_,fun b o e n hb hx => ?_,I.base.free,fun b o e hx => ?_,I.base.tups,I.base.frzs,I.base.tbls⟩,⟨m,hn.sameBut hs (Ne.symm (cne x c hc)),fun j y v' e1 e2 e3 => ?_⟩,fun y c' e => ?_,I.free,I.freeC,fun p hp => ?_,tracked ⟨oc,hoc,I.freeC x c hc⟩ hs,by simpa using I.len⟩ ⟨c,hs,.inr hc⟩
    · exact (hs.2 b (Nat.ne_of_lt (Nat.lt_of_lt_of_le (Heap.lt_size e) (I.ok.cab x c hfn hc)))).trans (I.base.keep b o e n hb hx)
    · obtain ⟨sl,e1⟩ := I.base.slot b o e n hb hx
      exact ⟨sl,(hs.2 b (Nat.ne_of_lt (Nat.lt_of_lt_of_le (Heap.lt_size e) (I.ok.cab x c hfn hc)))).trans e1⟩
    · obtain ⟨o',e1⟩ := I.base.there b o e hx
      exact ⟨o',(hs.2 b (Nat.ne_of_lt (Nat.lt_of_lt_of_le (Heap.lt_size e) (I.ok.cab x c hfn hc)))).trans e1⟩
    · by_cases hj : j = i
      · subst hj
        rw [hi] at e1; cases e1
        rw [List.getElem?_set_self hiσ] at e2
        cases e2
        exact ⟨u,r,.inr ⟨.inl hk,c,hc,hc'⟩⟩
      · rw [List.getElem?_set_ne (Ne.symm hj)] at e2
        obtain ⟨u',r',q⟩ := hl j y v' e1 e2 e3
        refine ⟨u',r',?_⟩
        rcases q with q | ⟨k,c',e,z'⟩
        · exact .inl q
        · refine .inr ⟨k,c',e,z'.sameBut hs ?_⟩
          rintro rfl
          exact hj (nodup_ix hN e1 (I.ok.inj _ _ _ e hc ▸ hi))
    · by_cases hcc : c' = c
      · subst hcc; exact ⟨_,hc'⟩
      · obtain ⟨w2,z2⟩ := I.cell y c' e
        exact ⟨w2,z2.sameBut hs hcc⟩
    · obtain ⟨e,n,ne,nf,d⟩ := I.pin p hp
      refine ⟨(hs.2 p.1 ?_).trans e,n,ne,nf,d⟩
      intro q
      rw [q,hoc] at e
      have q' : oc = p.2 := Option.some.inj e
      exact d w' (by rw [<- q']; exact hocd)
theorem store_ok {M : Model}{A : Around}{E : Value -> Shared -> Prop}{i : Nat}{x : Str}{v : V}{u : Value}{Q : Unit -> Shared -> Prop}(I : Inv X pins σ H s)(hN : X.N.Nodup)(hi : X.N[i]? = some x)(hx : Loc X.env.scope x)(r : RelV v u)
    (h : ∀ s',Inv X pins (σ.set i (some v)) H s' -> Q () s') (hf : X.fn x = true \/ X.env.scope.names.lookup x = some .local := by first | exact .inl rfl | exact .inr rfl | assumption) : wpAny M A (storeName X.env x u) Q E s :=
  store_ok2 I hN hi hx r (fun s' I' _ => h s' I') hf
theorem Inv.call' {s' : Shared}{ch : List Addr}(I : Inv X pins σ H s)(ho : s'.os = s.os)(u : Un (frs X.stack) ch H H' s.heap s'.heap)(hok : HOk X.prog X.w H' s'.heap)(hg : AllBare s'.gens)
    (hch : ∀ b ∈ ch,(b ∈ X.ex \/ X.s₀.heap.objs.size <= b) /\ b ≠ X.env.locals /\ (∀ x c,X.env.cells.lookup x = some c -> c ≠ b) /\ ∀ p ∈ X.pn ++ pins,p.1 ≠ b) : Inv X pins σ H' s' := by
  obtain ⟨h',g',d',t',o'⟩ := s'
  have e : o' = s.os := ho
  subst e
  exact I.call (g' := g') (t' := t') (d' := d') u hok hg hch
end
abbrev XK := Value -> Option Addr -> Hp -> Prop
abbrev St := List (Option V)
abbrev VK := V -> Hp -> Prop
abbrev TE := St -> Hp -> VK -> Prop
abbrev TT := St -> Hp -> (Bool -> Hp -> Prop) -> Prop
abbrev TA := St -> Hp -> (List V -> Hp -> Prop) -> Prop
structure Ends where
  nx : St -> Hp -> Prop
  rt : VK
  bk : St -> Hp -> Prop := fun _ _ => False
  ct : St -> Hp -> Prop := fun _ _ => False
abbrev TS := Ends -> St -> Hp -> Prop
def EP (X : Cx)(pins : List (Addr × Obj))(σ : St)(Q : VK)(u : Value)(s' : Shared) : Prop := ∃ v H',Inv X pins σ H' s' /\ RelV v u /\ Q v H'
def TP (X : Cx)(pins : List (Addr × Obj))(σ : St)(Q : Bool -> Hp -> Prop)(b : Bool)(s' : Shared) : Prop := ∃ H',Inv X pins σ H' s' /\ Q b H'
def AP (X : Cx)(pins : List (Addr × Obj))(σ : St)(Q : List V -> Hp -> Prop)(us : List Value)(s' : Shared) : Prop := ∃ vs H',Inv X pins σ H' s' /\ Vals vs us /\ Q vs H'
def SP (X : Cx)(pins : List (Addr × Obj))(D : Ends)(f : Flow)(s' : Shared) : Prop :=
  match f with
  | .next => ∃ σ' H',Inv X pins σ' H' s' /\ D.nx σ' H'
  | .brk => ∃ σ' H',Inv X pins σ' H' s' /\ D.bk σ' H'
  | .cont => ∃ σ' H',Inv X pins σ' H' s' /\ D.ct σ' H'
  | .ret u => ∃ v σ' H',Inv X pins σ' H' s' /\ RelV v u /\ D.rt v H'
def PE (X : Cx)(e : Expr)(t : TE) : Prop :=
  ∀ (pins : List (Addr × Obj)) (s : Shared) (σ : St) (H : Hp) (Q : VK),Inv X pins σ H s -> t σ H Q -> wpAny (model X.prog X.w) X.A (eval e X.env) (EP X pins σ Q) X.xe s
def PT (X : Cx)(e : Expr)(t : TT) : Prop :=
  ∀ (pins : List (Addr × Obj)) (s : Shared) (σ : St) (H : Hp) (Q : Bool -> Hp -> Prop),Inv X pins σ H s -> t σ H Q -> wpAny (model X.prog X.w) X.A (isTrue e X.env (eval e X.env)) (TP X pins σ Q) X.xe s
def PW (X : Cx)(e : Expr)(t : TT) : Prop :=
  ∀ (whole : Sem Value) (pins : List (Addr × Obj)) (s : Shared) (σ : St) (H : Hp) (Q : Bool -> Hp -> Prop),Inv X pins σ H s -> t σ H Q -> wpAny (model X.prog X.w) X.A (isTrue e X.env whole) (TP X pins σ Q) X.xe s
theorem PW.pt {X : Cx}{e : Expr}{t : TT}(h : PW X e t) : PT X e t := h _
def PA (X : Cx)(es : List Expr)(t : TA) : Prop :=
  ∀ (pos : Pos) (pins : List (Addr × Obj)) (s : Shared) (σ : St) (H : Hp) (Q : List V -> Hp -> Prop),Inv X pins σ H s -> t σ H Q -> wpAny (model X.prog X.w) X.A (spliced (backTo pos (starEach es X.env))) (AP X pins σ Q) X.xe s
def PS (X : Cx)(st : Stmt)(t : TS) : Prop :=
  ∀ (pins : List (Addr × Obj)) (s : Shared) (σ : St) (H : Hp) (D : Ends),Inv X pins σ H s -> t D σ H -> wpAny (model X.prog X.w) X.A (exec st X.env) (SP X pins D) X.xe s
def PSs (X : Cx)(st : List Stmt)(t : TS) : Prop :=
  ∀ (pins : List (Addr × Obj)) (s : Shared) (σ : St) (H : Hp) (D : Ends),Inv X pins σ H s -> t D σ H -> wpAny (model X.prog X.w) X.A (execs st X.env) (SP X pins D) X.xe s
theorem thn {α : Type}{t : Sem α}{Q Q' : α -> Shared -> Prop}{M : Model}{A : Around}{E : Value -> Shared -> Prop}{s : Shared}(h : wpAny M A t Q E s)(hQ : ∀ a s,Q a s -> Q' a s) : wpAny M A t Q' E s := wpAny_mono h hQ fun _ _ x => x
end L2
namespace L2
open PySem PySem.Spec PyProof.Rows
section
variable {X : Cx}
def tVar (i : Nat) : TE := fun σ H Q => ∃ v,σ[i]? = some (some v) /\ Q v H
def tC (v : V) : TE := fun _ H Q => Q v H
theorem pe_var {i : Nat}{x : Str}{pos : Pos}(hN : X.N[i]? = some x)(hv : Vis X.env.scope x)(hd : (x == ("__debug__" : Str)) = false := by decide) (hcd : (x == ("__classdict__" : Str)) = false := by decide) : PE X (.Name x pos) (tVar i) := by
  intro pins s σ H Q I h
  obtain ⟨v,e,h⟩ := h
  obtain ⟨m,hn,hl⟩ := I.loc
  obtain ⟨u,r,l⟩ := hl i x v hN e hv
  have fin : EP X pins σ Q u s := ⟨v,H,I,r,h⟩
  rcases l with ⟨hk,hm⟩ | ⟨hk,c,hc,hcell⟩
  · exact wpAny_Name (wpAny_loadName_local I.ok.kind hk hn hm fin) hd
  · rcases hk with hk | hk
    · exact wpAny_Name (wpAny_loadName_cell I.ok.kind hk hc hcell fin) hd
    · exact wpAny_Name (wpAny_loadName_free I.ok.kind hk hc hcell fin hcd) hd
theorem pe_int {i j pos} : PE X (.Constant (.int i) j pos) (tC (.int i)) := fun _ _ _ H _ I h => wpAny_Constant_int ⟨.int i,H,I.tok _,⟨_,rfl⟩,h⟩
theorem pe_bl {b j pos} : PE X (.Constant (.bool b) j pos) (tC (.bl b)) := fun _ _ _ H _ I h => Constant_bool ⟨.bl b,H,I,rfl,h⟩
theorem pe_non {j pos} : PE X (.Constant .none j pos) (tC .non) := fun _ _ _ H _ I h => Constant_none ⟨.non,H,I,rfl,h⟩
theorem pe_str {x j pos} : PE X (.Constant (.str x) j pos) (tC (.str x)) := fun _ _ _ H _ I h => Calls.Constant_str ⟨.str x,H,I.tok _,⟨_,rfl⟩,h⟩
def Gl (X : Cx)(x : Str) : Prop := X.env.kindOf x = some .globalImplicit
theorem ld_glob {E : Value -> Shared -> Prop}{pins : List (Addr × Obj)}{s : Shared}{σ : St}{H : Hp}{x : Str}{u : Value}{pos : Pos}{Q : Value -> Shared -> Prop}(I : Inv X pins σ H s)(hg : Gl X x)(hm : X.mg x = some u)(h : Q u s)
    (hd : (x == ("__debug__" : Str)) = false := by decide) : wpAny (model X.prog X.w) X.A (eval (.Name x pos) X.env) Q E s :=
  Calls.Name_function_global I.ok.kind hg (Calls.loadGlobal_global (by rw [I.ok.glob]; exact I.mod.glob.keeps I.bk) hm h) hd
theorem ld_blt {E : Value -> Shared -> Prop}{pins : List (Addr × Obj)}{s : Shared}{σ : St}{H : Hp}{x : Str}{u : Value}{pos : Pos}{Q : Value -> Shared -> Prop}(I : Inv X pins σ H s)(hg : Gl X x)(hm : X.mg x = none)(hv : bootBuiltins x = some u)(h : Q u s)
    (hn : x ≠ "__name__" := by decide) (hd : (x == ("__debug__" : Str)) = false := by decide) : wpAny (model X.prog X.w) X.A (eval (.Name x pos) X.env) Q E s := by
  obtain ⟨mb,h1,h2⟩ := I.mod.blt
  exact Calls.Name_function_global I.ok.kind hg (Calls.loadGlobal_builtin (by rw [I.ok.glob]; exact I.mod.glob.keeps I.bk) hm (by rw [I.ok.blt]; exact h1.keeps I.bk) ((h2 x hn).trans hv) h) hd
theorem pe_glob {x : Str}{v : V}{u : Value}{pos : Pos}(hg : Gl X x)(hm : X.mg x = some u)(r : RelV v u)(hd : (x == ("__debug__" : Str)) = false := by decide) : PE X (.Name x pos) (tC v) :=
  fun _ _ _ H _ I h => ld_glob I hg hm ⟨v,H,I,r,h⟩ hd
theorem pe_bltn {x : Str}{v : V}{u : Value}{pos : Pos}(hg : Gl X x)(hm : X.mg x = none)(hv : bootBuiltins x = some u)(r : RelV v u)(hn : x ≠ "__name__" := by decide) (hd : (x == ("__debug__" : Str)) = false := by decide) : PE X (.Name x pos) (tC v) :=
  fun _ _ _ H _ I h => ld_blt I hg hm hv ⟨v,H,I,r,h⟩ hn hd
variable {a b : Expr}{ta tb : TE}{pos : Pos}
def tB (t : TE) : TT := fun σ H Q => t σ H fun x H1 => ∃ c,x = .bl c /\ Q c H1
variable {tA tB' : TT}{rest : List Expr}
def tOr (t u : TT) : TT := fun σ H Q => t σ H fun c H1 => if c = true then Q true H1 else u σ H1 Q
def tNot (t : TT) : TT := fun σ H Q => t σ H fun c H1 => Q (!c) H1
theorem pw_or1 (ha : PT X a tA) : PW X (.BoolOp .Or [a] pos) tA := by
  intro wh pins s σ H Q I h
  refine isTrue_or (thn (ha pins s σ H Q I h) fun c s1 e => ?_)
  cases c with
  | false => exact isTrue_or_nil e
  | true => exact e
theorem pw_or (ha : PT X a tA)(hb : PW X (.BoolOp .Or (b :: rest) pos) tB') : PW X (.BoolOp .Or (a :: b :: rest) pos) (tOr tA tB') := by
  intro wh pins s σ H Q I h
  refine isTrue_or (thn (ha pins s σ H _ I h) fun c s1 ⟨H1,I1,q1⟩ => ?_)
  cases c with
  | true => exact ⟨H1,I1,q1⟩
  | false => exact hb wh pins s1 σ H1 Q I1 q1
theorem pt_not (ha : PT X a tA) : PT X (.UnaryOp .Not a pos) (tNot tA) := by
  intro pins s σ H Q I h
  exact isTrue_not (ha pins s σ H (fun c H1 => Q (!c) H1) I h)
def tAndV (ta tb : TE) : TE := fun σ H Q => ta σ H fun x H1 => ∃ c,x = .bl c /\ if c = true then tb σ H1 Q else Q (.bl false) H1
def tOrV (ta tb : TE) : TE := fun σ H Q => ta σ H fun x H1 => ∃ c,x = .bl c /\ if c = true then Q (.bl true) H1 else tb σ H1 Q
def tNotV (ta : TE) : TE := fun σ H Q => ta σ H fun x H1 => ∃ c,x = .bl c /\ Q (.bl (!c)) H1
theorem pe_one {op}{t : TE}(h : PE X a t) : PE X (.BoolOp op [a] pos) t := fun pins s σ H Q I hw => BoolOp_one (h pins s σ H Q I hw)
theorem pe_and (ha : PE X a ta)(hb : PE X (.BoolOp .And (b :: rest) pos) tb) : PE X (.BoolOp .And (a :: b :: rest) pos) (tAndV ta tb) := by
  intro pins s σ H Q I h
  refine BoolOp_and (thn (ha pins s σ H _ I h) fun v s1 ⟨x,H1,I1,r1,q1⟩ => ?_)
  obtain ⟨c,rfl,q1⟩ := q1
  cases r1
  refine wpAny_truthy_bool ?_
  cases c with
  | true => exact hb pins s1 σ H1 Q I1 q1
  | false => exact ⟨.bl false,H1,I1,rfl,q1⟩
theorem pe_or (ha : PE X a ta)(hb : PE X (.BoolOp .Or (b :: rest) pos) tb) : PE X (.BoolOp .Or (a :: b :: rest) pos) (tOrV ta tb) := by
  intro pins s σ H Q I h
  refine BoolOp_or (thn (ha pins s σ H _ I h) fun v s1 ⟨x,H1,I1,r1,q1⟩ => ?_)
  obtain ⟨c,rfl,q1⟩ := q1
  cases r1
  refine wpAny_truthy_bool ?_
  cases c with
  | false => exact hb pins s1 σ H1 Q I1 q1
  | true => exact ⟨.bl true,H1,I1,rfl,q1⟩
theorem pe_not (ha : PE X a ta) : PE X (.UnaryOp .Not a pos) (tNotV ta) := by
  intro pins s σ H Q I h
  refine UnaryOp_ (thn (ha pins s σ H _ I h) fun v s1 ⟨x,H1,I1,r1,q1⟩ => ?_)
  obtain ⟨c,rfl,q1⟩ := q1
  cases r1
  exact not_of (wpAny_truthy_bool ⟨.bl (!c),H1,I1,rfl,q1⟩)
end
end L2
namespace L2
open PySem PySem.Spec PyProof.Rows
def SqL (K : PySem.W.Frag)(H : Hp)(a : Addr)(xs : List V) : Prop :=
  Rd H a (.lst xs) \/
    ∃ (o : Obj) (its : Array Value) (n : Nat),K.lookup a = some o /\ o.cls = .type "list" /\ o.dict = none /\ o.data = .seq its n /\ its.size <= sizeLine /\ Vals xs its.toList
def SqT (K : PySem.W.Frag)(H : Hp)(a : Addr)(xs : List V) : Prop :=
  Rd H a (.tup xs) \/
    ∃ (o : Obj) (its : Array Value) (n : Nat),K.lookup a = some o /\ o.cls = .type "tuple" /\ o.data = .seq its n /\ its.size <= sizeLine /\ Vals xs its.toList
def absV : Value -> Option V
  | .none => some .non
  | .bool b => some (.bl b)
  | .int i _ => some (.int i)
  | .str x _ => some (.str x)
  | .bytes b _ => some (.byt b)
  | .float b _ => some (.flt b)
  | .ref a => some (.ref a)
  | .type n => some (.ty n)
  | _ => none
theorem RelV.abs {x : V}{u : Value}(r : RelV x u) : absV u = some x := by
  cases x with
  | non => cases r; rfl
  | bl _ => cases r; rfl
  | int _ => obtain ⟨t,rfl⟩ := r; rfl
  | str _ => obtain ⟨t,rfl⟩ := r; rfl
  | byt _ => obtain ⟨t,rfl⟩ := r; rfl
  | flt _ => obtain ⟨t,rfl⟩ := r; rfl
  | ref _ => cases r; rfl
  | ty _ => cases r; rfl
theorem RelV.inj {x y : V}{u : Value}(r : RelV x u)(q : RelV y u) : x = y := Option.some.inj (r.abs.symm.trans q.abs)
theorem Vals.inj : ∀ {xs ys : List V} {us : List Value},Vals xs us -> Vals ys us -> xs = ys
  | _,_,_,.nil,.nil => rfl
  | _,_,_,.cons r t,.cons r' t' => by rw [r.inj r',Vals.inj t t']
section
variable {X : Cx}{pins : List (Addr × Obj)}{σ : St}{H : Hp}{s : Shared}{a : Addr}{xs ys : List V}
theorem SqL.of {K : PySem.W.Frag}(h : H a = some (.lst xs)) : SqL K H a xs := .inl (.inl h)
theorem SqT.of {K : PySem.W.Frag}(h : H a = some (.tup xs)) : SqT K H a xs := .inl (.inl h)
theorem Inv.list (I : Inv X pins σ H s)(h : SqL X.K H a xs) : ∃ its : List Value,Vals xs its /\ PlainL s.heap a its.toArray /\ xs.length <= sizeLine := by
  rcases h with h | ⟨o,its,n,hk,hc,hd,hs,hz,r⟩
  · obtain ⟨z,its,n,r,e⟩ := h.ok I.hok
    exact ⟨its,r,⟨_,n,e,rfl,rfl,rfl⟩,z⟩
  · refine ⟨its.toList,r,⟨o,n,I.kIn a o hk,hc,hd,by simpa using hs⟩,?_⟩
    have e := r.length
    simp only [Array.length_toList] at e
    omega
theorem Inv.tuple (I : Inv X pins σ H s)(h : SqT X.K H a xs) : ∃ its : List Value,Vals xs its /\ IsTup s.heap a its.toArray /\ xs.length <= sizeLine := by
  rcases h with h | ⟨o,its,n,hk,hc,hs,hz,r⟩
  · obtain ⟨z,its,r,p⟩ := h.ok I.hok
    exact ⟨its,r,p,z⟩
  · refine ⟨its.toList,r,⟨o,I.kIn a o hk,hc,n,by simpa using hs⟩,?_⟩
    have e := r.length
    simp only [Array.length_toList] at e
    omega
theorem Inv.list_inj (I : Inv X pins σ H s)(h : SqL X.K H a xs)(h' : SqL X.K H a ys) : xs = ys := by
  obtain ⟨its,r,⟨o,n,e,_,_,d⟩,_⟩ := I.list h
  obtain ⟨its',r',⟨o',n',e',_,_,d'⟩,_⟩ := I.list h'
  rw [e] at e'; cases e'
  rw [d] at d'
  injection d' with d1 _
  have : its = its' := by simpa using congrArg Array.toList d1
  subst this
  exact r.inj r'
theorem Inv.tuple_inj (I : Inv X pins σ H s)(h : SqT X.K H a xs)(h' : SqT X.K H a ys) : xs = ys := by
  obtain ⟨its,r,⟨o,e,_,n,d⟩,_⟩ := I.tuple h
  obtain ⟨its',r',⟨o',e',_,n',d'⟩,_⟩ := I.tuple h'
  rw [e] at e'; cases e'
  rw [d] at d'
  injection d' with d1 _
  have : its = its' := by simpa using congrArg Array.toList d1
  subst this
  exact r.inj r'
end
abbrev Cx.wish (X : Cx)(E : Value -> Shared -> Prop) : Cx := { X with xe := E }
abbrev Cx.nox (X : Cx) : Cx := X.wish fun _ _ => False
theorem Cx.Ok.wish {X : Cx}(ok : X.Ok)(E : Value -> Shared -> Prop) : (X.wish E).Ok :=
  ⟨ok.mod,ok.kind,ok.glob,ok.blt,ok.above,ok.inj,ok.has,ok.cab,ok.hd,ok.frames,ok.stk,ok.exf,ok.bs,ok.bsz,ok.noex,ok.exfs,ok.funs,ok.frf⟩
theorem Cx.Ok.unwish {X : Cx}{E : Value -> Shared -> Prop}(ok : (X.wish E).Ok) : X.Ok :=
  ⟨ok.mod,ok.kind,ok.glob,ok.blt,ok.above,ok.inj,ok.has,ok.cab,ok.hd,ok.frames,ok.stk,ok.exf,ok.bs,ok.bsz,ok.noex,ok.exfs,ok.funs,ok.frf⟩
section
variable {X : Cx}{pins : List (Addr × Obj)}{σ : St}{H : Hp}{s : Shared}{E : Value -> Shared -> Prop}
theorem Inv.wish (I : Inv X pins σ H s)(E : Value -> Shared -> Prop) : Inv (X.wish E) pins σ H s := ⟨I.ok.wish E,I.os,I.bare,I.base,I.loc,I.cell,I.free,I.freeC,I.pin,I.hok,I.len⟩
theorem Inv.unwish (I : Inv (X.wish E) pins σ H s) : Inv X pins σ H s := ⟨I.ok.unwish,I.os,I.bare,I.base,I.loc,I.cell,I.free,I.freeC,I.pin,I.hok,I.len⟩
theorem SP.unwish {D : Ends}{f : Flow}{s' : Shared}(h : SP (X.wish E) pins D f s') : SP X pins D f s' := by
  cases f with
  | next => obtain ⟨σ',H',I,q⟩ := h; exact ⟨σ',H',I.unwish,q⟩
  | brk => obtain ⟨σ',H',I,q⟩ := h; exact ⟨σ',H',I.unwish,q⟩
  | cont => obtain ⟨σ',H',I,q⟩ := h; exact ⟨σ',H',I.unwish,q⟩
  | ret u => obtain ⟨v,σ',H',I,r,q⟩ := h; exact ⟨v,σ',H',I.unwish,r,q⟩
theorem PSs.nox {st : List Stmt}{t : TS}(h : PSs X.nox st t) : PSs X st t := fun pins s σ H D I hw =>
  wpAny_mono (h pins s σ H D (I.wish _) hw) (fun _ _ q => q.unwish) fun _ _ z => False.elim z
end
section
variable {X : Cx}{st : Stmt}{rest : List Stmt}{t u : TS}{e : Expr}{te : TE}{pos : Pos}
def tNext : TS := fun D σ H => D.nx σ H
def tSeq (t u : TS) : TS := fun D σ H => t { D with nx := u D } σ H
theorem pss_nil : PSs X [] tNext := fun _ _ σ H _ I h => wpAny_execs_nil ⟨σ,H,I,h⟩
theorem pss_cons (h1 : PS X st t)(h2 : PSs X rest u) : PSs X (st :: rest) (tSeq t u) := by
  intro pins s σ H D I h
  refine wpAny_execs_cons (thn (h1 pins s σ H { D with nx := u D } I h) fun f s1 q => ?_)
  cases f with
  | next =>
    obtain ⟨σ',H',I',q⟩ := q
    exact h2 pins s1 σ' H' D I' q
  | ret v => exact q
  | brk => exact q
  | cont => exact q
theorem pss_one (h1 : PS X st t) : PSs X [st] t := by
  intro pins s σ H D I h
  refine wpAny_execs_cons (thn (h1 pins s σ H D I h) fun f s1 q => ?_)
  cases f with
  | next => exact wpAny_execs_nil q
  | ret v => exact q
  | brk => exact q
  | cont => exact q
theorem Inv.quiet {pins : List (Addr × Obj)}{σ : St}{H : Hp}{s : Shared}(I : Inv X pins σ H s) : interactive X.env = false := by simp [interactive,I.ok.kind]
def tDrop (te : TE) : TS := fun D σ H => te σ H fun _ H1 => D.nx σ H1
theorem ps_expr (he : PE X e te)(hs : swapsWith e none pos.line X.env = pure false := by rfl) : PS X (.Expr e pos) (tDrop te) := by
  intro pins s σ H D I h
  exact wpAny_Expr_any (thn (he pins s σ H _ I h) fun v s1 ⟨x,H1,I1,r1,q1⟩ => ⟨σ,H1,I1,q1⟩) I.quiet hs
def tRet (te : TE) : TS := fun D σ H => te σ H D.rt
theorem ps_ret (he : PE X e te) : PS X (.Return (some e) pos) (tRet te) := by
  intro pins s σ H D I h
  exact wpAny_Return_some (thn (he pins s σ H _ I h) fun v s1 ⟨x,H1,I1,r1,q1⟩ => ⟨x,σ,H1,I1,r1,q1⟩)
def tIfS (c : TT)(t u : TS) : TS := fun D σ H => c σ H fun b H1 => if b = true then t D σ H1 else u D σ H1
theorem ps_if {c : Expr}{a b : List Stmt}{tc : TT}(hc : PT X c tc)(ha : PSs X a t)(hb : PSs X b u) : PS X (.If c a b pos) (tIfS tc t u) := by
  intro pins s σ H D I h
  refine wpAny_If (thn (hc pins s σ H _ I h) fun d s1 ⟨H1,I1,q1⟩ => ?_)
  cases d with
  | true => exact ha pins s1 σ H1 D I1 q1
  | false => exact hb pins s1 σ H1 D I1 q1
end
abbrev TG := V -> St -> Hp -> (St -> Hp -> Prop) -> Prop
abbrev TGs := List V -> St -> Hp -> (St -> Hp -> Prop) -> Prop
def PG (X : Cx)(target : Expr)(t : TG) : Prop :=
  ∀ (pins : List (Addr × Obj)) (s : Shared) (σ : St) (H : Hp) (v : V) (u : Value) (Q : St -> Hp -> Prop),Inv X pins σ H s -> RelV v u -> t v σ H Q ->
    wpAny (model X.prog X.w) X.A (assign target X.env u) (fun _ s' => ∃ σ' H',Inv X pins σ' H' s' /\ Q σ' H') X.xe s
def PGs (X : Cx)(ts : List Expr)(t : TGs) : Prop :=
  ∀ (pins : List (Addr × Obj)) (s : Shared) (σ : St) (H : Hp) (vs : List V) (us : List Value) (Q : St -> Hp -> Prop),Inv X pins σ H s -> Vals vs us -> t vs σ H Q ->
    wpAny (model X.prog X.w) X.A (assignInOrder ((assignEach ts X.env).map (·.2)) us) (fun _ s' => ∃ σ' H',Inv X pins σ' H' s' /\ Q σ' H') X.xe s
abbrev TSet := V -> V -> V -> Hp -> (Hp -> Prop) -> Prop
def PSet (X : Cx)(t : TSet) : Prop :=
  ∀ (pins : List (Addr × Obj)) (s : Shared) (σ : St) (H : Hp) (o i v : V) (ov iv u : Value) (Q : Hp -> Prop),Inv X pins σ H s -> RelV o ov -> RelV i iv -> RelV v u -> t o i v H Q ->
    wpAny (model X.prog X.w) X.A (setItem ov iv u) (fun _ s' => ∃ H',Inv X pins σ H' s' /\ Q H') X.xe s
section
variable {X : Cx}{pos : Pos}
def gName (i : Nat) : TG := fun v σ H Q => Q (σ.set i (some v)) H
theorem pg_name {i : Nat} {x : Str} (hN : X.N.Nodup) (hi : X.N[i]? = some x) (hx : Loc X.env.scope x) (hf : X.fn x = true \/ X.env.scope.names.lookup x = some .local := by first | exact .inl rfl | exact .inr rfl | assumption) : PG X (.Name x pos) (gName i) := by
  intro pins s σ H v u Q I r h
  exact wpAny_assign_Name (store_ok I hN hi hx r (fun s' I' => ⟨_,H,I',h⟩) hf)
def gNil : TGs := fun vs σ H Q => vs = [] /\ Q σ H
def gCons (t : TG)(u : TGs) : TGs := fun vs σ H Q => ∃ v r,vs = v :: r /\ t v σ H fun σ' H' => u r σ' H' Q
theorem pgs_nil : PGs X [] gNil := by
  intro pins s σ H vs us Q I r h
  obtain ⟨e,h⟩ := h
  subst e
  cases r
  exact assignInOrder_nil ⟨σ,H,I,h⟩
theorem pgs_cons {e : Expr}{es : List Expr}{t : TG}{u : TGs}(h1 : PG X e t)(h2 : PGs X es u)
    (hs : (assignEach (e :: es) X.env).map (·.2) = assign e X.env :: (assignEach es X.env).map (·.2) := by rfl) : PGs X (e :: es) (gCons t u) := by
  intro pins s σ H vs us Q I r h
  obtain ⟨v,vr,e1,h⟩ := h
  subst e1
  cases r with
  | cons r rr =>
    rw [hs]
    refine assignInOrder_cons (thn (h1 pins s σ H _ _ _ I r h) fun _ s1 ⟨σ1,H1,I1,q1⟩ => ?_)
    exact h2 pins s1 σ1 H1 _ _ Q I1 rr q1
def gTup (K : PySem.W.Frag)(n : Nat)(t : TGs) : TG := fun v σ H Q => ∃ a xs,v = .ref a /\ SqT K H a xs /\ xs.length = n /\ t xs σ H Q
theorem pg_tup {es : List Expr}{k : Nat}{t : TGs}{n : Nat}(hc : X.calm = true)(h : PGs X es t)
    (hn : (assignEach es X.env).length = n := by rfl) (hst : (assignEach es X.env).findIdx? (·.1) = none := by rfl) : PG X (.Tuple es k pos) (gTup X.K n t) := by
  intro pins s σ H v u Q I r hw
  obtain ⟨a,xs,e1,hq,hl,hw⟩ := hw
  subst e1
  cases r
  obtain ⟨its,rv,ht,hz⟩ := I.tuple hq
  refine assign_Tuple_tuple (I.ok.hd hc) ht (by simp [hn,<- hl,rv.length]) hst fun h' hx => ?_
  have I1 : Inv X pins σ H { s with heap := h' } := I.kept (t' := s.toks) fun b o e => hx b o (Nat.ne_of_lt (Heap.lt_size e)) e
  exact h pins _ σ H xs _ Q I1 (by simpa using rv) hw
def gSub (to ti : TE)(t : TSet) : TG := fun v σ H Q => to σ H fun o H1 => ti σ H1 fun i H2 => t o i v H2 fun H3 => Q σ H3
theorem pg_sub {o i : Expr}{to ti : TE}{t : TSet}(ho : PE X o to)(hi : PE X i ti)(hs : PSet X t)
    (ha : ∀ v,assign (.Subscript o i pos) X.env v = (do
      let ov <- holding [v] (eval o X.env)
      let iv <- holding [v,ov] (eval i X.env)
      standAt pos
      holding [v,ov,iv] (setItem ov iv v)
      release [v,ov,iv] []) := by intro _; rfl) : PG X (.Subscript o i pos) (gSub to ti t) := by
  intro pins s σ H v u Q I r h
  rw [ha]
  refine wpAny_bind (wpAny_holding (thn (ho pins s σ H _ I h) fun ov s1 ⟨x,H1,I1,r1,q1⟩ => ?_))
  refine wpAny_bind (wpAny_holding (thn (hi pins s1 σ H1 _ I1 q1) fun iv s2 ⟨y,H2,I2,r2,q2⟩ => ?_))
  refine wpAny_bind (wpAny_standAt (wpAny_bind (wpAny_holding (thn (hs pins s2 σ H2 x y v ov iv u _ I2 r1 r2 r q2) fun _ s3 ⟨H3,I3,q3⟩ => ?_))))
  exact wpAny_release ⟨σ,H3,I3,q3⟩
def tAsg (te : TE)(g : TG) : TS := fun D σ H => te σ H fun x H1 => g x σ H1 D.nx
theorem ps_asg {tg e : Expr}{te : TE}{g : TG}(he : PE X e te)(hg : PG X tg g)(hs : swapsWithSole [tg] e pos.line X.env = pure false := by rfl)(hw : swappedStores [tg] e X.env = pure none := by rfl)
    (h1 : (assignEach [tg] X.env).map (·.2) = [assign tg X.env] := by rfl) : PS X (.Assign [tg] e pos) (tAsg te g) := by
  intro pins s σ H D I h
  refine wpAny_Assign_stores (thn (he pins s σ H _ I h) fun v s1 ⟨x,H1,I1,r1,q1⟩ => ?_) hs hw
  rw [h1]
  exact thn (hg pins s1 σ H1 x v _ I1 r1 q1) fun _ s2 q => q
theorem ps_set {i : Nat} {x : Str} {e : Expr} {te : TE} {pos' : Pos} (hN : X.N.Nodup) (hi : X.N[i]? = some x) (hx : Loc X.env.scope x) (he : PE X e te) (hs : swapsWith e (some (.Name x pos')) pos.line X.env = pure false := by rfl) (hf : X.fn x = true \/ X.env.scope.names.lookup x = some .local := by first | exact .inl rfl | exact .inr rfl | assumption) :
    PS X (.Assign [.Name x pos'] e pos) (tAsg te (gName i)) := by
  intro pins s σ H D I h
  refine wpAny_Assign_Name (thn (he pins s σ H _ I h) fun v s1 ⟨y,H1,I1,r1,q1⟩ => ?_) hs
  exact store_ok I1 hN hi hx r1 (fun s2 I2 => ⟨_,H1,I2,q1⟩) hf
end
section
variable {X : Cx}{pos : Pos}
end
structure It where
  go : Nat -> Hp -> Prop
  yld : Nat -> Hp -> V -> Hp -> Prop
  stop : Nat -> Hp -> Prop
def FpOk (X : Cx)(pins : List (Addr × Obj))(H : Hp)(b : Addr) : Prop :=
  H b = none /\ b ≠ X.env.locals /\ b ∉ X.fs /\ (b ∈ X.ex \/ X.s₀.heap.objs.size <= b) /\ (∀ x c,X.env.cells.lookup x = some c -> c ≠ b) /\ ∀ p ∈ X.pn ++ pins,p.1 ≠ b
theorem Inv.fpOk {X : Cx}{pins : List (Addr × Obj)}{σ : St}{H H' : Hp}{s : Shared}{b : Addr}(I : Inv X pins σ H s)(hb : s.heap.objs.size <= b)(hn : H' b = none) : FpOk X pins H' b := by
  refine ⟨hn,Nat.ne_of_gt (Nat.lt_of_lt_of_le I.lt hb),I.nofs hb,.inr (Nat.le_trans I.sz hb),fun x c e z => ?_,fun p hp z => ?_⟩
  · obtain ⟨v,q⟩ := I.cell x c e
    exact absurd (Nat.lt_of_lt_of_le q.lt (by rw [z]; exact hb)) (Nat.lt_irrefl _)
  · exact absurd (Nat.lt_of_lt_of_le (Heap.lt_size (I.pin p hp).1) (by rw [z]; exact hb)) (Nat.lt_irrefl _)
structure Turn (P : Program)(w : World)(K : PySem.W.Frag)(tg : Expr)(J : It)(fp : List Addr)(it : Addr)(tn : Nat -> Heap -> Prop) : Prop where
  mem : it ∈ fp
  obj : ∀ i h,tn i h -> ∀ b ∈ fp,∃ o,h.get? b = some o /\ ∀ v,o.data ≠ .cell v
  keep : ∀ i h h',tn i h -> (∀ b ∈ fp,∀ o,h.get? b = some o -> h'.get? b = some o) -> tn i h'
  item : ∀ (X : Cx),X.prog = P -> X.w = w -> X.K = K -> X.calm = true -> ∀ (i : Nat) (pins : List (Addr × Obj)) (s : Shared) (σ : St) (H : Hp) (E : Value -> Shared -> Prop),Inv X pins σ H s -> (∀ b ∈ fp,FpOk X pins H b) -> tn i s.heap -> J.go i H ->
    wpAny (model P w) X.A (pyNext (.ref it)) (fun r s1 => ∃ u,r = some u /\
      wpAny (model P w) X.A (letOwnedTupleGo tg (.ref it) u) (fun _ s2 => ∃ x H',Inv X pins σ H' s2 /\ RelV x u /\ J.yld i H x H' /\ tn (i + 1) s2.heap /\ ∀ b ∈ fp,H' b = none) E s1) E s
  done : ∀ (X : Cx),X.prog = P -> X.w = w -> X.K = K -> X.calm = true -> ∀ (i : Nat) (pins : List (Addr × Obj)) (s : Shared) (σ : St) (H : Hp) (E : Value -> Shared -> Prop),Inv X pins σ H s -> (∀ b ∈ fp,FpOk X pins H b) -> tn i s.heap -> J.stop i H ->
    wpAny (model P w) X.A (pyNext (.ref it)) (fun r s1 => r = none /\ Inv X pins σ H s1) E s
  self : ∀ (A : Around) (i : Nat) (s : Shared) (Q : Value -> Shared -> Prop) (E : Value -> Shared -> Prop),tn i s.heap -> Q (.ref it) s -> wpAny (model P w) A (pyIter (.ref it)) Q E s
abbrev TI := St -> Hp -> (It -> Hp -> Prop) -> Prop
def PIE (X : Cx)(pins : List (Addr × Obj))(σ : St)(tg : Expr)(R : It -> Hp -> Prop)(itv : Value)(s2 : Shared) : Prop :=
  ∃ (it : Addr) (fp : List Addr) (tn : Nat -> Heap -> Prop) (J : It) (H' : Hp),itv = .ref it /\ Inv X pins σ H' s2 /\ Turn X.prog X.w X.K tg J fp it tn /\ tn 0 s2.heap /\ (∀ b ∈ fp,FpOk X pins H' b) /\ R J H'
def PI (X : Cx)(tg iter : Expr)(wi : TI) : Prop :=
  ∀ (pins : List (Addr × Obj)) (s : Shared) (σ : St) (H : Hp) (R : It -> Hp -> Prop),Inv X pins σ H s -> wi σ H R ->
    wpAny (model X.prog X.w) X.A (eval iter X.env) (fun v s1 => wpAny (model X.prog X.w) X.A (pyIter v) (PIE X pins σ tg R) X.xe s1) X.xe s
theorem go_of {M : Model}{A : Around}{E : Value -> Shared -> Prop}{s : Shared}{tg : Expr}{it : Addr}{u : Value}{o : Obj}{n : String}{vs : Array Value}{Q : Unit -> Shared -> Prop}(ho : s.heap.get? it = some o)(hc : o.cls = .type n)(hd : o.data = .fields vs)
    (hn : ["enumerate","zip","dict_itemiterator","dict_reverseitemiterator","odict_iterator","itertools.zip_longest","itertools.pairwise"].contains n = false) (hQ : Q () s) : wpAny M A (letOwnedTupleGo tg (.ref it) u) Q E s := by
  unfold letOwnedTupleGo
  cases tg <;> first
    | exact wpAny_pure hQ
    | (cases u <;> first
        | exact wpAny_pure hQ
        | (refine wpAny_bind (wpAny_load ho ?_)
           rw [hc,hd]
           show wpAny M A (if (["enumerate","zip","dict_itemiterator","dict_reverseitemiterator","odict_iterator","itertools.zip_longest","itertools.pairwise"].contains n && vs[0]? == some (rawInt _)) = true then _ else _) Q E s
           rw [if_neg (by intro h; rw [hn,Bool.false_and] at h; cases h)]
           exact wpAny_pure hQ))
def Itl (K : PySem.W.Frag)(a : Addr) : It :=
  ⟨fun i H => ∃ xs x,SqL K H a xs /\ xs[i]? = some x,fun i H x H' => H' = H /\ ∀ xs,SqL K H a xs -> xs[i]? = some x,fun i H => ∃ xs,SqL K H a xs /\ xs.length <= i⟩
def Itt (K : PySem.W.Frag)(a : Addr) : It :=
  ⟨fun i H => ∃ xs x,SqT K H a xs /\ xs[i]? = some x,fun i H x H' => H' = H /\ ∀ xs,SqT K H a xs -> xs[i]? = some x,fun i H => ∃ xs,SqT K H a xs /\ xs.length <= i⟩
def Itr (lo : Int)(n : Nat) : It := ⟨fun i _ => i < n,fun i H x H' => H' = H /\ x = .int (lo + i),fun i _ => n <= i⟩
theorem turn_list {P : Program}{w : World}{K : PySem.W.Frag}{tg : Expr}(a it : Addr) : Turn P w K tg (Itl K a) [it] it (fun i h => h.IsListIter it a i) where
  mem := by simp
  obj := fun i h st b hb => by
    have e : b = it := by simpa using hb
    subst e
    obtain ⟨o,e,c,d⟩ := st
    exact ⟨o,e,fun v z => by rw [d] at z; cases z⟩
  keep := fun i h h' st k => st.at fun o e => k it (by simp) o e
  item := by
    intro X hP hw hK hc i pins s σ H E I hf st hg
    subst hP hw hK
    obtain ⟨xs,x,hq,hx⟩ := hg
    obtain ⟨its,rv,p,hz⟩ := I.list hq
    obtain ⟨u,hu,ru⟩ := rv.get hx
    obtain ⟨f0,f1,f2,f3,f4,f5⟩ := hf it (by simp)
    refine wpAny_pyNext_list_item st p.isList (x := u) (by simpa using hu) fun h' st' sb => ?_
    have I1 : Inv X pins σ H { s with heap := h' } := I.turned (t' := s.toks) (fun b o hb e => (sb.2 b hb).trans e) f0 f1 f3 f4 f5
    obtain ⟨o,e,c,d⟩ := id st'
    exact ⟨u,rfl,go_of (s := { s with heap := h' }) e c d (by decide) ⟨x,H,I1,ru,⟨rfl,fun ys hy => by rw [I.list_inj hy hq]; exact hx⟩,st',fun b hb => (hf b hb).1⟩⟩
  done := by
    intro X hP hw hK hc i pins s σ H E I hf st hg
    subst hP hw hK
    obtain ⟨xs,hq,hx⟩ := hg
    obtain ⟨its,rv,p,hz⟩ := I.list hq
    obtain ⟨f0,f1,f2,f3,f4,f5⟩ := hf it (by simp)
    have hl := rv.length
    exact wpAny_pyNext_list_end (I.ok.hd hc) st p.isList (by simp; omega) fun h' eb => ⟨rfl,I.turned (t' := s.toks) (fun b o hb e => eb b o hb e) f0 f1 f3 f4 f5⟩
  self := fun _ _ _ _ _ st h => wpAny_pyIter_listiter st h
theorem turn_tuple {P : Program}{w : World}{K : PySem.W.Frag}{tg : Expr}(a it : Addr) : Turn P w K tg (Itt K a) [it] it (fun i h => h.IsTupleIter it a i) where
  mem := by simp
  obj := fun i h st b hb => by
    have e : b = it := by simpa using hb
    subst e
    obtain ⟨o,e,c,d⟩ := st
    exact ⟨o,e,fun v z => by rw [d] at z; cases z⟩
  keep := fun i h h' st k => st.at fun o e => k it (by simp) o e
  item := by
    intro X hP hw hK hc i pins s σ H E I hf st hg
    subst hP hw hK
    obtain ⟨xs,x,hq,hx⟩ := hg
    obtain ⟨its,rv,p,hz⟩ := I.tuple hq
    obtain ⟨u,hu,ru⟩ := rv.get hx
    obtain ⟨f0,f1,f2,f3,f4,f5⟩ := hf it (by simp)
    refine wpAny_pyNext_tuple_item st (show s.heap.IsTuple a its.toArray from p) (x := u) (by simpa using hu) fun h' st' sb => ?_
    have I1 : Inv X pins σ H { s with heap := h' } := I.turned (t' := s.toks) (fun b o hb e => (sb.2 b hb).trans e) f0 f1 f3 f4 f5
    obtain ⟨o,e,c,d⟩ := id st'
    exact ⟨u,rfl,go_of (s := { s with heap := h' }) e c d (by decide) ⟨x,H,I1,ru,⟨rfl,fun ys hy => by rw [I.tuple_inj hy hq]; exact hx⟩,st',fun b hb => (hf b hb).1⟩⟩
  done := by
    intro X hP hw hK hc i pins s σ H E I hf st hg
    subst hP hw hK
    obtain ⟨xs,hq,hx⟩ := hg
    obtain ⟨its,rv,p,hz⟩ := I.tuple hq
    obtain ⟨f0,f1,f2,f3,f4,f5⟩ := hf it (by simp)
    have hl := rv.length
    exact wpAny_pyNext_tuple_end (I.ok.hd hc) st (show s.heap.IsTuple a its.toArray from p) (by simp; omega) fun h' eb => ⟨rfl,I.turned (t' := s.toks) (fun b o hb e => eb b o hb e) f0 f1 f3 f4 f5⟩
  self := fun _ _ _ _ _ st h => wpAny_pyIter_tupleiter st h
theorem turn_range {P : Program}{w : World}{K : PySem.W.Frag}{tg : Expr}(it : Addr)(lo : Int)(n : Nat) : Turn P w K tg (Itr lo n) [it] it (fun i h => IsRangeIter h it (lo + (i : Nat) * 1) ((n : Int) - (i : Nat)) 1) where
  mem := by simp
  obj := fun i h st b hb => by
    have e : b = it := by simpa using hb
    subst e
    exact ⟨_,st,fun v z => by
      have z' : Data.fields _ = Data.cell v := z
      cases z'⟩
  keep := fun i h h' st k => k it (by simp) _ st
  item := by
    intro X hP hw hK hc i pins s σ H E I hf st hg
    subst hP hw hK
    obtain ⟨f0,f1,f2,f3,f4,f5⟩ := hf it (by simp)
    have W := Walks.range (prog := X.prog) (w := X.w) (I.ok.hd hc) it lo 1 n
    refine W.item i s _ _ hg st fun v h' tk hv st' kk => ?_
    obtain ⟨t,rfl⟩ := hv
    have I1 : Inv X pins σ H { s with heap := h',toks := tk } := I.turned (fun b o hb e => kk b o (by simpa using hb) e) f0 f1 f3 f4 f5
    refine ⟨_,rfl,go_of (s := { s with heap := h',toks := tk }) (n := "range_iterator") st' rfl rfl (by decide) ⟨.int (lo + i),H,I1,⟨t,?_⟩,⟨rfl,rfl⟩,st',fun b hb => (hf b hb).1⟩⟩
    rw [Int.mul_one]
  done := by
    intro X hP hw hK hc i pins s σ H E I hf st hg
    subst hP hw hK
    obtain ⟨f0,f1,f2,f3,f4,f5⟩ := hf it (by simp)
    exact wpAny_pyNext_range_end (I.ok.hd hc) st (by have : n <= i := hg; omega) fun h' eb => ⟨rfl,I.turned (t' := s.toks) (fun b o hb e => eb b o hb e) f0 f1 f3 f4 f5⟩
  self := fun _ _ _ _ _ st h => wpAny_pyIter_rangeiter st h
end L2
namespace L2
open PySem PySem.Spec PyProof.Rows
section
variable {X : Cx}{tg : Expr}
theorem range_it {pins : List (Addr × Obj)}{σ : St}{H : Hp}{s : Shared}{R : It -> Hp -> Prop}{E : Value -> Shared -> Prop}{lo hi : Int}{t u v : Tok}{tk : Nat}(I : Inv X pins σ H s)(h1 : -(2 ^ 62) <= lo)(h2 : lo < 2 ^ 62)(h3 : -(2 ^ 62) <= hi)(h4 : hi < 2 ^ 62)
    (q : R (Itr lo (hi - lo).toNat) H) : wpAny (model X.prog X.w) X.A (pyIter (.ref s.heap.objs.size)) (PIE X pins σ tg R) E { s with heap := s.heap.push { cls := .type "range",data := .fields #[.int lo t,.int hi u,.int 1 v] },toks := tk } := by
  refine wpAny_pyIter_range (IsRange.new ..) (small_one h1 h2 h3 h4) ?_
  have I1 : Inv X pins σ H { s with heap := s.heap.push { cls := .type "range",data := .fields #[.int lo t,.int hi u,.int 1 v] },toks := tk } := I.kept fun b o e => Heap.get?_push_of_some _ e
  refine ⟨(s.heap.push { cls := .type "range",data := .fields #[.int lo t,.int hi u,.int 1 v] }).objs.size,[(s.heap.push { cls := .type "range",data := .fields #[.int lo t,.int hi u,.int 1 v] }).objs.size],_,_,H,rfl,
    I1.kept (t' := tk) fun b o e => Heap.get?_push_of_some _ e,turn_range _ lo (hi - lo).toNat,?_,fun b hb => ?_,q⟩
  · have e1 : lo + ((0 : Nat) : Int) * 1 = lo := by simp
    have e2 : (((hi - lo).toNat : Nat) : Int) - ((0 : Nat) : Int) = Builtin.Range.rangeSize lo hi 1 := by rw [rangeSize_one]; split <;> omega
    show IsRangeIter _ _ (lo + ((0 : Nat) : Int) * 1) ((((hi - lo).toNat : Nat) : Int) - ((0 : Nat) : Int)) 1
    rw [e1,e2]
    exact Heap.get?_push_size _ rfl
  · have e : b = (s.heap.push { cls := .type "range",data := .fields #[.int lo t,.int hi u,.int 1 v] }).objs.size := by simpa using hb
    subst e
    exact I1.fpOk (Nat.le_refl _) (I1.hok.fresh (Nat.le_refl _))
def iRng1 (ta : TA) : TI := fun σ H R => ta σ H fun vs H1 => ∃ j : Int,vs = [.int j] /\ -(2 ^ 62) <= j /\ j < 2 ^ 62 /\ R (Itr 0 j.toNat) H1
theorem pi_range1 {a : Expr}{ta : TA}{p pos : Pos}(hg : Gl X "range") (hm : X.mg "range" = none) (ha : PA X [a] ta) (hs : starEach [a] X.env = [(false,eval a X.env)] := by rfl) : PI X tg (.Call (.Name "range" p) [a] [] pos) (iRng1 ta) := by
  intro pins s σ H R I h
  refine Call_ (ld_blt I hg hm boot_range (PyProof.Rows.callWith_type1 (thn (ha pos pins s σ H _ I h) fun us s1 ⟨vs,H1,I1,r1,q1⟩ => ?_) hs rfl))
  obtain ⟨j,e,q1,q2,q⟩ := q1
  subst e
  cases r1 with
  | cons r rr =>
    cases rr
    obtain ⟨t,rfl⟩ := r
    exact call_range_1 (range_it I1 (by omega) (by omega) q1 q2 (by simpa using q))
def tFor (wi : TI)(g : TG)(tb : TS) : TS := fun D σ H => wi σ H fun J H1 => ∃ W : Nat -> Nat -> St -> Hp -> Prop,(∃ m,W 0 m σ H1) /\ ∀ i m σ H,W i m σ H ->
  (J.stop i H /\ D.nx σ H) \/ (J.go i H /\ ∃ N : St -> Hp -> Prop,(∀ σ' H',N σ' H' -> ∃ m',m' < m /\ W (i + 1) m' σ' H') /\ ∀ x H',J.yld i H x H' -> g x σ H' fun σ2 H2 => tb { D with nx := N,ct := N,bk := D.nx } σ2 H2)
def pinsAt (fp : List Addr)(h : Heap) : List (Addr × Obj) := fp.filterMap fun b => (h.get? b).map fun o => (b,o)
theorem mem_pinsAt {fp : List Addr}{h : Heap}{b : Addr}{o : Obj}(hb : b ∈ fp)(e : h.get? b = some o) : (b,o) ∈ pinsAt fp h := List.mem_filterMap.mpr ⟨b,hb,by rw [e]; rfl⟩
theorem of_pinsAt {fp : List Addr}{h : Heap}{p : Addr × Obj}(hp : p ∈ pinsAt fp h) : p.1 ∈ fp /\ h.get? p.1 = some p.2 := by
  obtain ⟨b,hb,e⟩ := List.mem_filterMap.mp hp
  cases q : h.get? b with
  | none => rw [q] at e; cases e
  | some o =>
    rw [q] at e
    have e' : (b,o) = p := Option.some.inj e
    subst e'
    exact ⟨hb,q⟩
theorem Inv.pinned {pins : List (Addr × Obj)}{σ : St}{H : Hp}{s : Shared}{fp : List Addr}(I : Inv X pins σ H s)(hf : ∀ b ∈ fp,FpOk X pins H b)(ho : ∀ b ∈ fp,∃ o,s.heap.get? b = some o /\ ∀ v,o.data ≠ .cell v) : Inv X (pins ++ pinsAt fp s.heap) σ H s :=
  I.pins_of fun p hp => (List.mem_append.mp hp).elim (fun z => I.pin p (List.mem_append_right _ z)) fun z => by
    obtain ⟨hb,e⟩ := of_pinsAt z
    obtain ⟨f0,f1,f2,_⟩ := hf p.1 hb
    obtain ⟨o,e',d⟩ := ho p.1 hb
    rw [e] at e'; cases e'
    exact ⟨e,f0,f1,f2,d⟩
theorem Inv.unpinned {pins pl : List (Addr × Obj)}{σ : St}{H : Hp}{s : Shared}(I : Inv X (pins ++ pl) σ H s) : Inv X pins σ H s := I.pins_of fun p hp => I.pin p (List.mem_append_right _ (List.mem_append_left _ hp))
theorem ps_for {iter : Expr}{body : List Stmt}{wi : TI}{g : TG}{tb : TS}{pos : Pos}(hp : PassesOwn (model X.prog X.w) X.A X.env X.xe)(hc : X.calm = true)(hi : PI X tg iter wi)(hg : PG X tg g)(hb : PSs X body tb)
    (hs : ∀ x,foldedSetIterable iter X.env x = pure x := by intro _; rfl) : PS X (.For tg iter body [] pos) (tFor wi g tb) := by
  intro pins s σ H D I h
  refine wpAny_For (thn (hi pins s σ H _ I h) fun v s1 h1 => thn h1 fun itv s2 h2 => ?_) hs
  obtain ⟨it,fp,tn,J,H2,e,I2,T,st2,f2,W,⟨m0,w0⟩,turn⟩ := h2
  subst e
  have stat : ∀ {H' : Hp},(∀ b ∈ fp,H' b = none) -> ∀ b ∈ fp,FpOk X pins H' b := fun hn b hb => ⟨hn b hb,(f2 b hb).2⟩
  refine codeAny_forLoop_any (fun n s' => ∃ i σ' H',Inv X pins σ' H' s' /\ tn i s'.heap /\ (∀ b ∈ fp,H' b = none) /\ W i n σ' H') ?_ m0 ⟨0,σ,H2,I2,st2,fun b hb => (f2 b hb).1,w0⟩
  rintro n s3 ⟨i,σ3,H3,I3,st3,fr3,w3⟩
  rcases turn i n σ3 H3 w3 with ⟨stop,qn⟩ | ⟨go,N,hN,step⟩
  · refine wpAny_passesOwn hp (thn (T.done X rfl rfl rfl hc i pins s3 σ3 H3 X.xe I3 (stat fr3) st3 stop) fun r s4 ⟨hr,I4⟩ => ?_)
    subst hr
    exact wpAny_execs_nil ⟨σ3,H3,I4,qn⟩
  · refine wpAny_passesOwn hp (thn (T.item X rfl rfl rfl hc i pins s3 σ3 H3 X.xe I3 (stat fr3) st3 go) fun r s4 ⟨u,hr,h4⟩ => ?_)
    subst hr
    refine wpAny_passesOwn hp (thn h4 fun _ s5 ⟨x,H5,I5,r5,y5,st5,fr5⟩ => ?_)
    have I5' := I5.pinned (stat fr5) (T.obj _ _ st5)
    refine wpAny_passesOwn hp (thn (hg _ s5 σ3 H5 x u _ I5' r5 (step x H5 y5)) fun _ s6 ⟨σ6,H6,I6,q6⟩ => ?_)
    refine wpAny_passesOwn hp (thn (hb _ s6 σ6 H6 _ I6 q6) fun f s7 q7 => ?_)
    have again : ∀ {σ7 : St} {H7 : Hp},Inv X (pins ++ pinsAt fp s5.heap) σ7 H7 s7 -> N σ7 H7 -> ∃ m,m < n /\ ∃ i σ' H',Inv X pins σ' H' s7 /\ tn i s7.heap /\ (∀ b ∈ fp,H' b = none) /\ W i m σ' H' := fun {σ7 H7} I7 n7 => by
      obtain ⟨m',hm,w7⟩ := hN σ7 H7 n7
      refine ⟨m',hm,i + 1,σ7,H7,I7.unpinned,T.keep _ _ _ st5 fun b hb o e => (I7.pin (b,o) (List.mem_append_right _ (List.mem_append_right _ (mem_pinsAt hb e)))).1,fun b hb => ?_,w7⟩
      obtain ⟨o,e,d⟩ := T.obj _ _ st5 b hb
      exact (I7.pin (b,o) (List.mem_append_right _ (List.mem_append_right _ (mem_pinsAt hb e)))).2.1
    cases f with
    | next => obtain ⟨σ7,H7,I7,n7⟩ := q7; exact again I7 n7
    | cont => obtain ⟨σ7,H7,I7,n7⟩ := q7; exact again I7 n7
    | brk => obtain ⟨σ7,H7,I7,q7⟩ := q7; exact ⟨σ7,H7,I7.unpinned,q7⟩
    | ret v => obtain ⟨x7,σ7,H7,I7,r7,q7⟩ := q7; exact ⟨x7,σ7,H7,I7.unpinned,r7,q7⟩
end
end L2
namespace L2
open PySem PySem.Spec PyProof.Rows
abbrev R2 := V -> V -> Hp -> VK -> Prop
def OpR (X : Cx)(f : Value -> Value -> Sem Value)(r : R2) : Prop :=
  ∀ (pins : List (Addr × Obj)) (s : Shared) (σ : St) (H : Hp) (x y : V) (v u : Value) (Q : VK),Inv X pins σ H s -> RelV x v -> RelV y u -> r x y H Q ->
    wpAny (model X.prog X.w) X.A (f v u) (EP X pins σ Q) X.xe s
def UnR (X : Cx)(f : Value -> Sem Value)(r : V -> Hp -> VK -> Prop) : Prop :=
  ∀ (pins : List (Addr × Obj)) (s : Shared) (σ : St) (H : Hp) (x : V) (v : Value) (Q : VK),Inv X pins σ H s -> RelV x v -> r x H Q ->
    wpAny (model X.prog X.w) X.A (f v) (EP X pins σ Q) X.xe s
def CallR (X : Cx)(f : Value)(r : List V -> Hp -> VK -> Prop) : Prop :=
  ∀ (pins : List (Addr × Obj)) (s : Shared) (σ : St) (H : Hp) (xs : List V) (us : List Value) (Q : VK),Inv X pins σ H s -> Vals xs us -> r xs H Q ->
    wpAny (model X.prog X.w) X.A (call f us) (EP X pins σ Q) X.xe s
def TruR (X : Cx)(r : V -> Hp -> (Bool -> Hp -> Prop) -> Prop) : Prop :=
  ∀ (pins : List (Addr × Obj)) (s : Shared) (σ : St) (H : Hp) (x : V) (v : Value) (Q : Bool -> Hp -> Prop),Inv X pins σ H s -> RelV x v -> r x H Q ->
    wpAny (model X.prog X.w) X.A (truthy v) (TP X pins σ Q) X.xe s
def tOp (r : R2)(ta tb : TE) : TE := fun σ H Q => ta σ H fun x H1 => tb σ H1 fun y H2 => r x y H2 Q
def tUn (r : V -> Hp -> VK -> Prop)(ta : TE) : TE := fun σ H Q => ta σ H fun x H1 => r x H1 Q
def rI (C : Int -> Int -> Prop)(g : Int -> Int -> V) : R2 := fun x y H Q => ∃ i j,x = .int i /\ y = .int j /\ C i j /\ Q (g i j) H
def rI0 (g : Int -> Int -> V) : R2 := fun x y H Q => ∃ i j,x = .int i /\ y = .int j /\ Q (g i j) H
def rU (g : Int -> V) : V -> Hp -> VK -> Prop := fun x H Q => ∃ i,x = .int i /\ Q (g i) H
section
variable {X : Cx}{a b c : Expr}{ta tb tc : TE}{pos : Pos}
theorem binT (ha : PE X a ta)(hb : PE X b tb){pins : List (Addr × Obj)}{s : Shared}{σ : St}{H : Hp}{R : V -> V -> Hp -> Prop}(I : Inv X pins σ H s)
    (h : ta σ H fun x H1 => tb σ H1 fun y H2 => R x y H2) {Q : Value -> Shared -> Prop} {f : Value -> Value -> Sem Value}
    (hf : ∀ v u s2 x y H2,Inv X pins σ H2 s2 -> RelV x v -> RelV y u -> R x y H2 -> wpAny (model X.prog X.w) X.A (f v u) Q X.xe s2) :
    wpAny (model X.prog X.w) X.A (eval a X.env) (fun v s₁ => wpAny (model X.prog X.w) X.A (eval b X.env) (fun u s₂ => wpAny (model X.prog X.w) X.A (f v u) Q X.xe s₂) X.xe s₁) X.xe s := by
  refine thn (ha pins s σ H _ I h) fun v s1 ⟨x,H1,I1,r1,q1⟩ => ?_
  refine thn (hb pins s1 σ H1 _ I1 q1) fun u s2 ⟨y,H2,I2,r2,q2⟩ => ?_
  exact hf v u s2 x y H2 I2 r1 r2 q2
theorem pe_op {op : Operator}{r : R2}(ho : OpR X (binaryOp op) r)(ha : PE X a ta)(hb : PE X b tb) : PE X (.BinOp a op b pos) (tOp r ta tb) := by
  intro pins s σ H Q I h
  exact wpAny_BinOp (binT ha hb I h fun v u s2 x y H2 I2 rx ry q => ho pins s2 σ H2 x y v u Q I2 rx ry q)
theorem pe_un {op : UnaryOp}{r : V -> Hp -> VK -> Prop}(ho : UnR X (unaryOp op) r)(ha : PE X a ta) : PE X (.UnaryOp op a pos) (tUn r ta) := by
  intro pins s σ H Q I h
  exact UnaryOp_ (thn (ha pins s σ H _ I h) fun v s1 ⟨x,H1,I1,r1,q1⟩ => ho pins s1 σ H1 x v Q I1 r1 q1)
theorem opI {f : Value -> Value -> Sem Value}{C : Int -> Int -> Prop}{g : Int -> Int -> Int}
    (rule : ∀ (i j : Int) (t u : Tok) (s : Shared) (Q : Value -> Shared -> Prop) (E : Value -> Shared -> Prop),C i j -> Q (.int (g i j) s.toks) { s with toks := s.toks + 1 } -> wpAny (model X.prog X.w) X.A (f (.int i t) (.int j u)) Q E s) :
    OpR X f (rI C fun i j => .int (g i j)) := by
  intro pins s σ H x y v u Q I rx ry h
  obtain ⟨i,j,rfl,rfl,hc,q⟩ := h
  obtain ⟨t,rfl⟩ := rx
  obtain ⟨t',rfl⟩ := ry
  exact rule i j t t' s _ _ hc ⟨.int (g i j),H,I.tok _,⟨_,rfl⟩,q⟩
theorem opI0 {f : Value -> Value -> Sem Value}{g : Int -> Int -> Int}
    (rule : ∀ (i j : Int) (t u : Tok) (s : Shared) (Q : Value -> Shared -> Prop) (E : Value -> Shared -> Prop),Q (.int (g i j) s.toks) { s with toks := s.toks + 1 } -> wpAny (model X.prog X.w) X.A (f (.int i t) (.int j u)) Q E s) :
    OpR X f (rI0 fun i j => .int (g i j)) := by
  intro pins s σ H x y v u Q I rx ry h
  obtain ⟨i,j,rfl,rfl,q⟩ := h
  obtain ⟨t,rfl⟩ := rx
  obtain ⟨t',rfl⟩ := ry
  exact rule i j t t' s _ _ ⟨.int (g i j),H,I.tok _,⟨_,rfl⟩,q⟩
theorem opB0 {f : Value -> Value -> Sem Value}{g : Int -> Int -> Bool}
    (rule : ∀ (i j : Int) (t u : Tok) (s : Shared) (Q : Value -> Shared -> Prop) (E : Value -> Shared -> Prop),Q (.bool (g i j)) s -> wpAny (model X.prog X.w) X.A (f (.int i t) (.int j u)) Q E s) :
    OpR X f (rI0 fun i j => .bl (g i j)) := by
  intro pins s σ H x y v u Q I rx ry h
  obtain ⟨i,j,rfl,rfl,q⟩ := h
  obtain ⟨t,rfl⟩ := rx
  obtain ⟨t',rfl⟩ := ry
  exact rule i j t t' s _ _ ⟨.bl (g i j),H,I,rfl,q⟩
def CPow (i j : Int) : Prop := 0 <= j /\ j <= 1000000 /\ i.natAbs < 2 ^ 64
def CMul (i j : Int) : Prop := (-(2 ^ 64) < i /\ i < 2 ^ 64) \/ (-(2 ^ 64) < j /\ j < 2 ^ 64)
theorem CMul.ok {i j : Int}(h : CMul i j) : IntMulOk i j := by
  rcases h with ⟨h1,h2⟩ | ⟨h1,h2⟩
  · exact .of_left (intBits_le_64 h1 h2)
  · exact .of_right (intBits_le_64 h1 h2)
theorem op_add : OpR X (binaryOp .Add) (rI0 fun i j => .int (i + j)) := opI0 fun _ _ _ _ _ _ _ q => add_int q
theorem op_mod : OpR X (binaryOp .Mod) (rI (fun _ j => 0 < j) fun i j => .int (i % j)) := opI fun i j _ _ _ _ _ hc q => by
  have h1 : (0 : Int) < j := hc
  exact mod_int' (by omega) (by rw [Int.fmod_eq_emod_of_nonneg i (by omega)]; exact q)
theorem op_pow : OpR X (binaryOp .Pow) (rI CPow fun i j => .int (i ^ j.toNat)) := opI fun _ _ _ _ _ _ _ hc q => pow_int_small hc.1 hc.2.1 hc.2.2 q
theorem unI {f : Value -> Sem Value}{g : Int -> Int}
    (rule : ∀ (i : Int) (t : Tok) (s : Shared) (Q : Value -> Shared -> Prop) (E : Value -> Shared -> Prop),Q (.int (g i) s.toks) { s with toks := s.toks + 1 } -> wpAny (model X.prog X.w) X.A (f (.int i t)) Q E s) :
    UnR X f (rU fun i => .int (g i)) := by
  intro pins s σ H x v Q I rx h
  obtain ⟨i,rfl,q⟩ := h
  obtain ⟨t,rfl⟩ := rx
  exact rule i t s _ _ ⟨.int (g i),H,I.tok _,⟨_,rfl⟩,q⟩
theorem un_neg : UnR X (unaryOp .USub) (rU fun i => .int (-i)) := unI fun _ _ _ _ _ q => neg_int q
end
def scal : V -> V -> Bool
  | .non,.non => true | .non,.int _ => true | .int _,.non => true | .non,.bl _ => true | .bl _,.non => true | .non,.str _ => true | .str _,.non => true
  | .int _,.int _ => true | .bl _,.bl _ => true | .str _,.str _ => true | .byt _,.byt _ => true
  | .int _,.str _ => true | .str _,.int _ => true | .bl _,.str _ => true | .str _,.bl _ => true
  | _,_ => false
def rEq : R2 := fun x y H Q => scal x y = true /\ Q (.bl (decide (x = y))) H
theorem dec_int {i j : Int} : decide (V.int i = V.int j) = (i == j) := by
  rw [Bool.eq_iff_iff]
  simp
theorem dec_bl {i j : Bool} : decide (V.bl i = V.bl j) = (i == j) := by
  rw [Bool.eq_iff_iff]
  simp
theorem dec_str {i j : Str} : decide (V.str i = V.str j) = (i == j) := by
  rw [Bool.eq_iff_iff]
  simp
theorem dec_byt {i j : Array UInt8} : decide (V.byt i = V.byt j) = (i.toList == j.toList) := by
  rw [Bool.eq_iff_iff]
  cases i
  cases j
  simp
section
variable {X : Cx}{a b c : Expr}{ta tb tc : TE}{pos : Pos}
theorem fin_bl {pins : List (Addr × Obj)}{σ : St}{H : Hp}{s : Shared}{Q : VK}{k k' : Bool}(I : Inv X pins σ H s)(q : Q (.bl k) H)(e : k = k') : EP X pins σ Q (.bool k') s := by
  subst e
  exact ⟨.bl k,H,I,rfl,q⟩
theorem op_eq : OpR X (compareOp .Eq) rEq := by
  intro pins s σ H x y v u Q I rx ry h
  obtain ⟨hs,q⟩ := h
  cases x with
  | non =>
    cases rx
    cases y with
    | non => cases ry; exact PySem.EqNone.eq_none_none (fin_bl I q (by simp))
    | bl j => cases ry; exact PySem.EqNone.eq_none_bool (fin_bl I q (by simp))
    | int j => obtain ⟨t',rfl⟩ := ry; exact PySem.EqNone.eq_none_int (fin_bl I q (by simp))
    | str j => obtain ⟨t',rfl⟩ := ry; exact PySem.EqNone.eq_none_str (fin_bl I q (by simp))
    | _ => exact absurd (show false = true from hs) Bool.false_ne_true
  | bl i =>
    cases rx
    cases y with
    | non => cases ry; exact PySem.EqNone.eq_bool_none (fin_bl I q (by simp))
    | bl j => cases ry; exact eq_bool (fin_bl I q dec_bl)
    | str j => obtain ⟨t',rfl⟩ := ry; exact PySem.EqMixed.eq_bool_str (fin_bl I q (by simp))
    | _ => exact absurd (show false = true from hs) Bool.false_ne_true
  | int i =>
    obtain ⟨t,rfl⟩ := rx
    cases y with
    | non => cases ry; exact PySem.EqNone.eq_int_none (fin_bl I q (by simp))
    | int j => obtain ⟨t',rfl⟩ := ry; exact eq_int (fin_bl I q dec_int)
    | str j => obtain ⟨t',rfl⟩ := ry; exact PySem.EqMixed.eq_int_str (fin_bl I q (by simp))
    | _ => exact absurd (show false = true from hs) Bool.false_ne_true
  | str i =>
    obtain ⟨t,rfl⟩ := rx
    cases y with
    | non => cases ry; exact PySem.EqNone.eq_str_none (fin_bl I q (by simp))
    | bl j => cases ry; exact PySem.EqMixed.eq_str_bool (fin_bl I q (by simp))
    | int j => obtain ⟨t',rfl⟩ := ry; exact PySem.EqMixed.eq_str_int (fin_bl I q (by simp))
    | str j => obtain ⟨t',rfl⟩ := ry; exact eq_str (fin_bl I q dec_str)
    | _ => exact absurd (show false = true from hs) Bool.false_ne_true
  | byt i =>
    obtain ⟨t,rfl⟩ := rx
    cases y with
    | byt j => obtain ⟨t',rfl⟩ := ry; exact PySem.W.eq_bytes (fin_bl I q dec_byt)
    | _ => exact absurd (show false = true from hs) Bool.false_ne_true
  | _ => cases y <;> exact absurd (show false = true from hs) Bool.false_ne_true
theorem op_lt : OpR X (compareOp .Lt) (rI0 fun i j => .bl (decide (i < j))) := opB0 fun _ _ _ _ _ _ _ q => lt_int q
theorem op_le : OpR X (compareOp .LtE) (rI0 fun i j => .bl (decide (i <= j))) := opB0 fun _ _ _ _ _ _ _ q => le_int q
theorem op_gt : OpR X (compareOp .Gt) (rI0 fun i j => .bl (decide (j < i))) := opB0 fun _ _ _ _ _ _ _ q => gt_int q
theorem op_ge : OpR X (compareOp .GtE) (rI0 fun i j => .bl (decide (j <= i))) := opB0 fun _ _ _ _ _ _ _ q => ge_int q
theorem nomark (b : Expr){op : CmpOp}(h : op ≠ .In := by decide)(h2 : op ≠ .NotIn := by decide) : behindInMarks op b = false := by
  have e1 : (op == CmpOp.In) = false := by cases op <;> first | rfl | exact absurd rfl h
  have e2 : (op == CmpOp.NotIn) = false := by cases op <;> first | rfl | exact absurd rfl h2
  cases b <;> simp [behindInMarks,e1,e2]
theorem pe_cmpR {op : CmpOp}{r : R2}(ho : OpR X (compareOp op) r)(ha : PE X a ta)(hb : PE X b tb)(hm : behindInMarks op b = false) : PE X (.Compare a [op] [b] pos) (tOp r ta tb) := by
  intro pins s σ H Q I h
  exact wpAny_Compare1 (binT ha hb I h fun v u s2 x y H2 I2 rx ry q => ho pins s2 σ H2 x y v u Q I2 rx ry q) hm
def tTest (t : TE) : TT := fun σ H Q => t σ H fun x H' => ∃ k,x = .bl k /\ Q k H'
theorem pt_cmpR {op : CmpOp}{r : R2}(ho : OpR X (compareOp op) r)(ha : PE X a ta)(hb : PE X b tb)(hm : behindInMarks op b = false) : PT X (.Compare a [op] [b] pos) (tTest (tOp r ta tb)) := by
  intro pins s σ H Q I h
  refine wpAny_isTrue_Compare1 (thn (ha pins s σ H _ I h) fun v s1 ⟨x,H1,I1,r1,q1⟩ => thn (hb pins s1 σ H1 _ I1 q1) fun u s2 ⟨y,H2,I2,r2,q2⟩ =>
    thn (ho pins s2 σ H2 x y v u _ I2 r1 r2 q2) fun c s3 ⟨z,H3,I3,r3,k,e,q3⟩ => ?_) hm
  subst e
  cases r3
  exact wpAny_truthy_bool ⟨H3,I3,q3⟩
def tChain (r r' : R2)(ta tb tc : TE) : TE := fun σ H Q => ta σ H fun x H1 => tb σ H1 fun y H2 => r x y H2 fun z H3 => ∃ k,z = .bl k /\
  (if k = true then tc σ H3 fun w' H4 => r' y w' H4 Q else Q (.bl false) H3)
theorem pe_chain {op op' : CmpOp}{r r' : R2}(ho : OpR X (compareOp op) r)(ho' : OpR X (compareOp op') r')(ha : PE X a ta)(hb : PE X b tb)(hc : PE X c tc)
    (hm : lastMarks [op,op'] [b,c] = false := by with_unfolding_all rfl) : PE X (.Compare a [op,op'] [b,c] pos) (tChain r r' ta tb tc) := by
  intro pins s σ H Q I h
  refine Compare_chain (thn (ha pins s σ H _ I h) fun v s1 ⟨x,H1,I1,r1,q1⟩ => chain_link (thn (hb pins s1 σ H1 _ I1 q1) fun u s2 ⟨y,H2,I2,r2,q2⟩ =>
    thn (ho pins s2 σ H2 x y v u _ I2 r1 r2 q2) fun d s3 ⟨z,H3,I3,r3,k,e,q3⟩ => ?_)) hm
  subst e
  cases r3
  refine wpAny_truthy_bool ?_
  cases k with
  | false => exact ite_ff ⟨.bl false,H3,I3,rfl,q3⟩
  | true => exact ite_tt (chain_last (thn (hc pins s3 σ H3 _ I3 q3) fun w' s4 ⟨z',H4,I4,r4,q4⟩ => ho' pins s4 σ H4 y z' u w' Q I4 r2 r4 q4))
def TruV (K : PySem.W.Frag)(x : V)(H : Hp)(k : Bool) : Prop :=
  match x with
  | .non => k = false
  | .bl b => k = b
  | .int i => k = (i != 0)
  | .str y => y.length <= sizeLine /\ k = ((y.length : Int) != 0)
  | .byt y => y.size <= sizeLine /\ k = ((y.size : Int) != 0)
  | .ref p => (∃ xs,SqL K H p xs /\ k = !xs.isEmpty) \/ (∃ xs,SqT K H p xs /\ k = !xs.isEmpty) \/ ∃ kvs,H p = some (.dK kvs) /\ k = !kvs.isEmpty
  | _ => False
theorem isEmpty_kv {κ : Type}{kvs : List (κ × V)}{vs : List (κ × Value)}(r : KV kvs vs) : (!vs.isEmpty) = !kvs.isEmpty := by
  cases r <;> rfl
theorem isEmpty_of {xs : List V}{its : List Value}(r : Vals xs its) : (!its.toArray.isEmpty) = !xs.isEmpty := by
  cases r <;> simp
theorem line63 : (sizeLine : Nat) < 2 ^ 63 := by rw [sizeLine_eq]; decide
theorem tru_ok : TruR X (fun x H Q => ∃ k,TruV X.K x H k /\ Q k H) := by
  intro pins s σ H x v Q I rx h
  obtain ⟨k,e,q⟩ := h
  have hl := line63
  have hs : sizeLine = 16777216 := sizeLine_eq
  cases x with
  | non =>
    cases rx
    have e' : k = false := e
    subst e'
    exact truthy_none ⟨H,I,q⟩
  | bl b =>
    cases rx
    have e' : k = b := e
    subst e'
    exact wpAny_truthy_bool ⟨H,I,q⟩
  | int i =>
    obtain ⟨t,rfl⟩ := rx
    have e' : k = (i != 0) := e
    subst e'
    exact PySem.P.truthy_int ⟨H,I,q⟩
  | str y =>
    obtain ⟨t,rfl⟩ := rx
    obtain ⟨hy,e'⟩ : y.length <= sizeLine /\ k = ((y.length : Int) != 0) := e
    subst e'
    exact PySem.P.truthy_str (by omega) ⟨H,I.tok _,q⟩
  | byt y =>
    obtain ⟨t,rfl⟩ := rx
    obtain ⟨hy,e'⟩ : y.size <= sizeLine /\ k = ((y.size : Int) != 0) := e
    subst e'
    exact PySem.W.truthy_bytes (by omega) ⟨H,I.tok _,q⟩
  | ref p =>
    cases rx
    have e' : (∃ xs,SqL X.K H p xs /\ k = !xs.isEmpty) \/ (∃ xs,SqT X.K H p xs /\ k = !xs.isEmpty) \/ ∃ kvs,H p = some (.dK kvs) /\ k = !kvs.isEmpty := e
    rcases e' with ⟨xs,hx,e'⟩ | ⟨xs,hx,e'⟩ | ⟨kvs,hx,e'⟩
    · subst e'
      obtain ⟨its,r,pl,hz⟩ := I.list hx
      have hlen := r.length
      exact wpAny_truthy_list pl.isList (by simp only [List.size_toArray]; omega) ⟨H,I.tok _,by rw [isEmpty_of r]; exact q⟩
    · subst e'
      obtain ⟨its,r,pl,hz⟩ := I.tuple hx
      have hlen := r.length
      exact truthy_tuple pl (by simp only [List.size_toArray]; omega) ⟨H,I.tok _,by rw [isEmpty_of r]; exact q⟩
    · subst e'
      obtain ⟨hz,hS,vs,r,m⟩ : kvs.length <= sizeLine /\ (p == sysModules) = false /\ ∃ vs,KV kvs vs /\ s.heap.DictOf (mixKind X.prog X.w) p vs := I.hok p _ hx
      have hlen : kvs.length = vs.length := Paired.length r
      exact wpAny_truthy_dict hS m (by omega) ⟨H,I.tok _,by rw [isEmpty_kv r]; exact q⟩
  | _ => exact (show False from e).elim
theorem pt_truth (ha : PE X a ta)(he : ∀ whole,isTrue a X.env whole = (do let v <- whole; standAt a.pos; holding [v] (truthy v))) :
    PT X a (fun σ H Q => ta σ H fun x H' => ∃ k,TruV X.K x H' k /\ Q k H') := by
  intro pins s σ H Q I h
  exact isTrue_plain (thn (ha pins s σ H _ I h) fun v s1 ⟨x,H1,I1,r1,q1⟩ => tru_ok pins s1 σ H1 x v Q I1 r1 q1) (he _)
theorem vals1 {x : V}{us : List Value}(r : Vals [x] us) : ∃ u,us = [u] /\ RelV x u := by
  cases r with
  | cons r1 r2 => cases r2; exact ⟨_,rfl,r1⟩
theorem vals2 {x y : V}{us : List Value}(r : Vals [x,y] us) : ∃ u w',us = [u,w'] /\ RelV x u /\ RelV y w' := by
  cases r with
  | cons r1 r2 =>
    cases r2 with
    | cons r3 r4 => cases r4; exact ⟨_,_,rfl,r1,r3⟩
theorem call_max2 (hc : X.calm = true) : CallR X (.builtin "max") (fun xs H Q => ∃ i j,xs = [.int i,.int j] /\ Q (.int (if j > i then j else i)) H) := by
  intro pins s σ H xs us Q I r h
  obtain ⟨i,j,rfl,q⟩ := h
  obtain ⟨u,w',rfl,⟨t,rfl⟩,⟨t',rfl⟩⟩ := vals2 r
  refine max_two_ints (I.ok.hd hc) fun h' tk k => ⟨_,H,I.kept k,?_,q⟩
  by_cases hj : j > i
  · rw [if_pos hj,if_pos hj]; exact ⟨_,rfl⟩
  · rw [if_neg hj,if_neg hj]; exact ⟨_,rfl⟩
theorem call_min2 (hc : X.calm = true) : CallR X (.builtin "min") (fun xs H Q => ∃ i j,xs = [.int i,.int j] /\ Q (.int (if j < i then j else i)) H) := by
  intro pins s σ H xs us Q I r h
  obtain ⟨i,j,rfl,q⟩ := h
  obtain ⟨u,w',rfl,⟨t,rfl⟩,⟨t',rfl⟩⟩ := vals2 r
  refine min_two_ints (I.ok.hd hc) fun h' tk k => ⟨_,H,I.kept k,?_,q⟩
  by_cases hj : j < i
  · rw [if_pos hj,if_pos hj]; exact ⟨_,rfl⟩
  · rw [if_neg hj,if_neg hj]; exact ⟨_,rfl⟩
theorem call_int1 : CallR X (.type "int") (fun xs H Q => (∃ i,xs = [.int i] /\ Q (.int i) H) \/ ∃ k,xs = [.bl k] /\ Q (.int (if k then 1 else 0)) H) := by
  intro pins s σ H xs us Q I r h
  rcases h with ⟨i,rfl,q⟩ | ⟨k,rfl,q⟩
  · obtain ⟨u,rfl,t,rfl⟩ := vals1 r
    exact call_int_int ⟨.int i,H,I,⟨_,rfl⟩,q⟩
  · obtain ⟨u,rfl,r1⟩ := vals1 r
    cases r1
    exact call_int_bool ⟨.int (if k then 1 else 0),H,I.tok _,⟨_,rfl⟩,q⟩
end
end L2
namespace L2
open PySem PySem.Spec PyProof.Rows
structure ObjM (h : Heap)(x dx C : Addr)(mA : Str -> Option Value) : Prop where
  obj : h.get? x = some (PySem.W.instObj C dx)
  ns : h.Ns1 dx mA
  ne : dx ≠ x
theorem lookIn_ns {h : Heap}{dx : Addr}{mA : Str -> Option Value}(n : h.Ns1 dx mA) : ∃ od,h.get? dx = some od /\ ∀ name,PySem.W.lookIn name od = some (mA name) := by
  obtain ⟨o,es,ep,ho,hd,hk,_,hm⟩ := n
  refine ⟨o,ho,fun name => ?_⟩
  have e := hm name
  unfold nsFind findBy at e
  rw [<- Array.find?_toList] at e
  unfold PySem.W.lookIn
  rw [hd]
  dsimp only
  split
  · rename_i y q
    rw [q] at e
    exact congrArg some e
  · rename_i q
    rw [q] at e
    have a : es.toList.any (·.refKey) = false := by
      rw [List.any_eq_false]
      intro y hy
      obtain ⟨z,t,hkey⟩ := hk y (Array.mem_toList_iff.mp hy)
      simp [DictEntry.refKey,hkey]
    have a' : ¬ es.toList.any (·.refKey) = true := by rw [a]; exact Bool.false_ne_true
    rw [if_neg a']
    exact congrArg some e
theorem ObjM.look {h : Heap}{x dx C : Addr}{mA : Str -> Option Value}(I : ObjM h x dx C mA) : ∃ od,PySem.W.InstAt h x (PySem.W.instObj C dx) C (some od) /\ ∀ name,PySem.W.lookIn name od = some (mA name) :=
  let ⟨od,ho,hl⟩ := lookIn_ns I.ns
  ⟨od,⟨I.obj,rfl,rfl,ho⟩,hl⟩
section
variable {prog : Program}{w : World}{A : Around}{E : Value -> Shared -> Prop}{s : Shared}{K : PySem.W.Frag}{x dx C f : Addr}{mA : Str -> Option Value}{name : Str}{v : Value}
end
section
variable {P : Program}{w : World}{H H' : Hp}{h h' : Heap}{a C dx : Addr}{fs fs' : List (Str × V)}
theorem ins_get (hok : HOk P w H h)(e : H a = some (.ins C dx fs)) : ∃ mA,ObjM h a dx C mA /\ (∀ f,RelO (fs.lookup f) (mA f)) /\ PySem.Within mA (fs.map (·.1)) /\ fs.length <= 1000 /\ H dx = some (.own a) := by
  obtain ⟨d,z,ne,ob,mA,n,r,q⟩ := (show ObjOk P w H h a (.ins C dx fs) from hok a _ e)
  exact ⟨mA,⟨ob,n,ne⟩,r,q,z,d⟩
end
structure Cls (K : PySem.W.Frag)(C : Addr) : Prop where
  pg : PySem.W.plainGet K C Str.empty = true
  hd : PySem.W.hasDictIn K C = true
  po : PySem.W.plainOver K C = true
  sa : PySem.W.findIn K (.ref C) "__setattr__" = some (some (.builtin "object.__setattr__"))
theorem Cls.get {K : PySem.W.Frag}{C : Addr}(c : Cls K C)(f : Str) : PySem.W.plainGet K C f = true := c.pg
def NoAttr (K : PySem.W.Frag)(C : Addr)(f : Str) : Prop := PySem.W.findIn K (.ref C) f = some none
section
variable {X : Cx}{pins : List (Addr × Obj)}{σ : St}{H : Hp}{s : Shared}{a C dx : Addr}{fs : List (Str × V)}{f : Str}{v : V}{A : Around}{E : Value -> Shared -> Prop}
end
def tFld (K : PySem.W.Frag)(ta : TE)(f : Str) : TE := fun σ H Q => ta σ H fun x H1 => ∃ a C dx fs v,x = .ref a /\ H1 a = some (.ins C dx fs) /\ Cls K C /\ NoAttr K C f /\ fs.lookup f = some v /\ Q v H1
section
variable {X : Cx}{o e value : Expr}{f : Str}{pos pos' tpos : Pos}{ta tv : TE}
end
section
variable {X : Cx}{pins : List (Addr × Obj)}{σ : St}{H : Hp}{s : Shared}{A : Around}{E : Value -> Shared -> Prop}{Q : Value -> Shared -> Prop}{c : Value}{b : Bool}
inductive TyOf (K : PySem.W.Frag)(H : Hp) : V -> Value -> Prop where
  | non : TyOf K H .non (.type "NoneType")
  | bl (x : Bool) : TyOf K H (.bl x) (.type "bool")
  | int (i : Int) : TyOf K H (.int i) (.type "int")
  | str (x : Str) : TyOf K H (.str x) (.type "str")
  | flt (x : UInt64) : TyOf K H (.flt x) (.type "float")
  | lst {a : Addr} {xs : List V} (e : H a = some (.lst xs)) : TyOf K H (.ref a) (.type "list")
  | frz {a : Addr} {o : Obj} {xs : List V} (e : H a = some (.frz o (.lst xs))) : TyOf K H (.ref a) (.type "list")
  | tup {a : Addr} {xs : List V} (e : H a = some (.tup xs)) : TyOf K H (.ref a) (.type "tuple")
  | dK {a : Addr} {kvs : List (Key × V)} (e : H a = some (.dK kvs)) : TyOf K H (.ref a) (.type "dict")
  | dT {a : Addr} {kvs : List (List Key × V)} (e : H a = some (.dT kvs)) : TyOf K H (.ref a) (.type "dict")
  | ins {a C dx : Addr} {fs : List (Str × V)} (e : H a = some (.ins C dx fs)) (cl : Cls K C) (ha : PySem.W.findIn K (.ref C) "__class__" = some (some (.builtin "object.__class__")))
      (hn : PySem.W.specialIn K (.builtin "object.__class__") "__get__" = some (some (.builtin "getset_descriptor.__get__"))) (htk : PySem.W.takesIn K (.builtin "object.__class__") = some true)
      (hm : PySem.W.mroIn K C (.type "object") = some true) : TyOf K H (.ref a) (.ref C)
theorem isinst_ok {x : V}{u t : Value}(I : Inv X pins σ H s)(rx : RelV x u)(ty : TyOf X.K H x t)(e : PySem.W.kitOne X.K t c = some b)(h : ∀ tk,Q (.bool b) { s with toks := tk }) :
    wpAny (model X.prog X.w) A (call (.builtin "isinstance") [u,c]) Q E s := by
  cases ty with
  | non => cases (show u = Value.none from rx); exact PySem.W.kia_one PySem.W.kitx_none I.kIn True.intro e (fun z => nomatch z) h
  | bl y => cases (show u = Value.bool y from rx); exact PySem.W.kia_one PySem.W.kitx_bool I.kIn True.intro e (fun z => nomatch z) h
  | int i => obtain ⟨t,q⟩ := (show ∃ t,u = Value.int i t from rx); cases q; exact PySem.W.kia_one PySem.W.kitx_int I.kIn True.intro e (fun z => nomatch z) h
  | str y => obtain ⟨t,q⟩ := (show ∃ t,u = Value.str y t from rx); cases q; exact PySem.W.kia_one PySem.W.kitx_str I.kIn True.intro e (fun z => nomatch z) h
  | flt y => obtain ⟨t,q⟩ := (show ∃ t,u = Value.float y t from rx); cases q; exact PySem.W.kia_one PySem.W.kitx_float I.kIn True.intro e (fun z => nomatch z) h
  | @lst a xs ea =>
    cases (show u = Value.ref a from rx)
    obtain ⟨_,_,n,_,h1⟩ := (show ObjOk X.prog X.w H s.heap a (.lst xs) from I.hok a _ ea)
    exact PySem.W.kia_one PySem.W.kitx_list I.kIn ⟨_,h1,rfl⟩ e (fun z => nomatch z) h
  | @frz a ob xs ea =>
    cases (show u = Value.ref a from rx)
    obtain ⟨_,_,_,n,_,h1⟩ := (show ObjOk X.prog X.w H s.heap a (.frz ob (.lst xs)) from I.hok a _ ea)
    exact PySem.W.kia_one PySem.W.kitx_list I.kIn ⟨_,h1,rfl⟩ e (fun z => nomatch z) h
  | @tup a xs ea =>
    cases (show u = Value.ref a from rx)
    obtain ⟨_,_,_,p⟩ := (show ObjOk X.prog X.w H s.heap a (.tup xs) from I.hok a _ ea)
    obtain ⟨o,h1,h2,_⟩ := p
    exact PySem.W.kia_one PySem.W.kitx_tuple I.kIn ⟨o,h1,h2⟩ e (fun z => nomatch z) h
  | @dK a kvs ea =>
    cases (show u = Value.ref a from rx)
    obtain ⟨_,_,vs,_,p⟩ := (show ObjOk X.prog X.w H s.heap a (.dK kvs) from I.hok a _ ea)
    obtain ⟨o,es,ep,h1,h2,_⟩ := p
    exact PySem.W.kia_one PySem.W.kitx_dict I.kIn ⟨o,h1,h2.1⟩ e (fun z => nomatch z) h
  | @dT a kvs ea =>
    cases (show u = Value.ref a from rx)
    obtain ⟨_,_,xs,_,o,es,ep,h1,h2,_⟩ := (show ObjOk X.prog X.w H s.heap a (.dT kvs) from I.hok a _ ea)
    exact PySem.W.kia_one PySem.W.kitx_dict I.kIn ⟨o,h1,h2.1⟩ e (fun z => nomatch z) h
  | @ins a C dx fs ea cl ha hn htk hm =>
    cases (show u = Value.ref a from rx)
    obtain ⟨mA,O,_⟩ := ins_get I.hok ea
    obtain ⟨od,J,_⟩ := O.look
    exact PySem.W.kia_one (PySem.W.kitx_own (cl.get _) cl.hd ha hn htk hm) I.kIn J e (fun z => nomatch z) h
end
end L2
namespace L2
open PySem PySem.Spec PyProof.Rows
structure Room (k : Nat)(A : Around) : Prop where
  hd : A.handled = none
  dp : A.depth + 3 * k + 5 < recursionLimit
  un : A.units + 16 * k + 200 < cLine
  gd : A.guards = some []
theorem Room.mono {j k : Nat}{A : Around}(r : Room k A)(h : j <= k) : Room j A := ⟨r.hd,by have := r.dp; omega,by have := r.un; omega,r.gd⟩
theorem Room.deeper {k : Nat}{A : Around}(r : Room (k + 1) A)(env : Env) : Room k (A.deeper env) :=
  ⟨r.hd,by have := r.dp; show A.depth + 1 + 3 * k + 5 < _; omega,by have := r.un; show A.units + 3 + 16 * k + 200 < _; omega,r.gd⟩
theorem Room.depth {k : Nat}{A : Around}(r : Room k A) : A.depth < recursionLimit := by have := r.dp; omega
theorem Room.units {k : Nat}{A : Around}(r : Room k A) : A.units + 64 < cLine := by have := r.un; omega
def tNil : TA := fun _ H Q => Q [] H
def tCons (ta : TE)(tr : TA) : TA := fun σ H Q => ta σ H fun x H1 => tr σ H1 fun xs H2 => Q (x :: xs) H2
section
variable {X : Cx}{e : Expr}{es : List Expr}{te : TE}{t : TA}{pos : Pos}
theorem pa_nil : PA X [] tNil := fun _ _ _ _ H Q I h => Calls.spliced_nil ⟨[],H,I,.nil,h⟩
theorem pa_cons (ha : PE X e te)(hr : PA X es t)(hs : starEach (e :: es) X.env = (false,eval e X.env) :: starEach es X.env := by rfl) : PA X (e :: es) (tCons te t) := by
  intro pos pins s σ H Q I h
  rw [hs]
  show wpAny _ _ (spliced ((false,eval e X.env) :: backTo pos (starEach es X.env))) _ _ s
  refine Calls.spliced_cons (thn (ha pins s σ H _ I h) fun u s1 ⟨x,H1,I1,r1,q1⟩ => ?_)
  exact thn (hr pos pins s1 σ H1 _ I1 q1) fun us s2 ⟨xs,H2,I2,r2,q2⟩ => ⟨x :: xs,H2,I2,.cons r1 r2,q2⟩
def tTup (t : TA) : TE := fun σ H Q => t σ H fun xs H1 => xs.length <= sizeLine /\ ∀ p,H1 p = none -> Q (.ref p) (upd H1 p (.tup xs))
def tLst (t : TA) : TE := fun σ H Q => t σ H fun xs H1 => xs.length <= sizeLine /\ ∀ p,H1 p = none -> Q (.ref p) (upd H1 p (.lst xs))
theorem pe_tup {x1}(h : PA X es t) : PE X (.Tuple es x1 pos) (tTup t) := by
  intro pins s σ H Q I hq
  refine wpAny_Tuple_spliced (thn (h pos pins s σ H _ I hq) fun us s1 ⟨xs,H1,I1,r,z,q⟩ => ⟨by rw [<- r.length]; exact z,?_⟩)
  have hf : H1 s1.heap.objs.size = none := I1.hok.fresh (Nat.le_refl _)
  refine ⟨.ref s1.heap.objs.size,upd H1 s1.heap.objs.size (.tup xs),I1.laid (t' := s1.toks) (fun b u e => Heap.get?_push_of_some _ e) (Nat.le_refl _) ?_,rfl,q _ hf⟩
  exact ⟨z,us,r,⟨_,Heap.get?_push_size _ rfl,rfl,_,rfl⟩⟩
theorem pe_lst (h : PA X es t) : PE X (.List es pos) (tLst t) := by
  intro pins s σ H Q I hq
  refine wpAny_List_spliced (thn (h pos pins s σ H _ I hq) fun us s1 ⟨xs,H1,I1,r,z,q⟩ => ⟨by rw [<- r.length]; exact z,?_⟩)
  have hf : H1 s1.heap.objs.size = none := I1.hok.fresh (Nat.le_refl _)
  refine ⟨.ref s1.heap.objs.size,upd H1 s1.heap.objs.size (.lst xs),I1.laid (t' := s1.toks) (fun b u e => Heap.get?_push_of_some _ e) (Nat.le_refl _) ?_,rfl,q _ hf⟩
  exact ⟨z,us,0,r,Heap.get?_push_size _ rfl⟩
end
abbrev Sp := List V -> Hp -> VK -> XK -> Prop
abbrev CXT := List Env -> Hp -> Shared -> XK -> Value -> Shared -> Prop
structure Env0 (P : Program)(w : World)(K : PySem.W.Frag)(mg : Str -> Option Value)(base : Heap)(A : Around)(outer : List Env)(s : Shared)(H : Hp) : Prop where
  frames : A.frames = some outer
  mod : Mod K mg base
  bs : ∀ b o,base.get? b = some o -> s.heap.get? b = some o /\ H b = none
  bsz : base.objs.size <= s.heap.objs.size
  funs : s.heap.FunFrames base outer
  frf : ∀ b ∈ frs outer,H b = none
  hok : HOk P w H s.heap
  bare : AllBare s.gens
def CE (outer : List Env)(P : Program)(w : World)(H : Hp)(s : Shared)(Q : VK)(u : Value)(s' : Shared) : Prop :=
  ∃ v H',s'.os = s.os /\ AllBare s'.gens /\ Un (frs outer) [] H H' s.heap s'.heap /\ HOk P w H' s'.heap /\ RelV v u /\ Q v H'
def CR (CX : CXT)(outer : List Env)(P : Program)(w : World)(H : Hp)(s : Shared)(Q : VK)(E : XK)(r : Result)(s' : Shared) : Prop :=
  match r with
  | .ok (.ret u) => CE outer P w H s Q u s'
  | .ok _ => False
  | .error e => CX outer H s E e s'
structure FnOk (P : Program)(w : World)(K : PySem.W.Frag)(mg : Str -> Option Value)(base : Heap)(CX : CXT)(k : Nat)(f : Addr)(fd : FuncData)(ps : List Str)(sp : Sp) : Prop where
  len : ∀ vs H Q E,sp vs H Q E -> vs.length = ps.length
  run : ∀ (A : Around) (outer : List Env) (s : Shared) (H : Hp) (args : Args) (us : List Value) (vs : List V) (Q : VK) (E : XK),Room k A -> Env0 P w K mg base A outer s H -> BindsTo s fd args (ps.zip us) -> Vals vs us -> sp vs H Q E ->
    codeAny (model P w) A (.call (.ref f) args) (CR CX outer P w H s Q E) s
theorem FnOk.imp {P : Program}{w : World}{K : PySem.W.Frag}{mg : Str -> Option Value}{base : Heap}{CX : CXT}{k : Nat}{f : Addr}{fd : FuncData}{ps : List Str}{sp sp' : Sp}(F : FnOk P w K mg base CX k f fd ps sp)
    (h : ∀ vs H Q E,sp' vs H Q E -> sp vs H Q E) : FnOk P w K mg base CX k f fd ps sp' :=
  ⟨fun vs H Q E q => F.len vs H Q E (h _ _ _ _ q),fun A outer s H args us vs Q E hr he hb hv hs => F.run A outer s H args us vs Q E hr he hb hv (h _ _ _ _ hs)⟩
section
variable {X : Cx}{pins : List (Addr × Obj)}{σ : St}{H : Hp}{s s' : Shared}
theorem Inv.env0 (I : Inv X pins σ H s) : Env0 X.prog X.w X.K X.mg X.base X.A X.stack s H :=
  ⟨I.ok.frames,I.ok.mod,I.bs,Nat.le_trans I.ok.bsz I.sz,I.stack,I.stkFree,I.hok,I.bare⟩
theorem Inv.after {Q : VK}{u : Value}(I : Inv X pins σ H s)(h : CE X.stack X.prog X.w H s Q u s') : EP X pins σ Q u s' := by
  obtain ⟨v,H',os,bare,un,hok,r,q⟩ := h
  obtain ⟨hh,g,d,t,os'⟩ := s'
  obtain rfl : os' = s.os := os
  exact ⟨v,H',I.call (h' := hh) (g' := g) (d' := d) (t' := t) (ch := []) un hok bare (fun b z => absurd z (by simp)),r,q⟩
end
def tCall (sp : Sp)(dvs : List V)(E : XK)(t : TA) : TE := fun σ H Q => t σ H fun vs H1 => sp (vs ++ dvs) H1 Q E
def tMeth (C : Addr)(m : Str)(sp : Sp)(dvs : List V)(E : XK)(ta : TE)(t : TA) : TE := fun σ H Q => ta σ H fun x H1 => ∃ a dx fs,x = .ref a /\ H1 a = some (.ins C dx fs) /\ fs.lookup m = none /\
  t σ H1 fun vs H2 => sp (x :: (vs ++ dvs)) H2 Q E
def tMake (C : Addr)(sp : Sp)(dvs : List V)(E : XK)(t : TA) : TE := fun σ H Q => t σ H fun vs H1 => ∀ x dx,H1 x = none -> H1 dx = none -> dx ≠ x ->
  sp (.ref x :: (vs ++ dvs)) (upd (upd H1 dx (.own x)) x (.ins C dx [])) (fun v H2 => v = .non /\ Q (.ref x) H2) E
def Binds (K : PySem.W.Frag)(fd : FuncData)(ps : List Str)(ds : List Value) : Prop :=
  ∀ (s : Shared) (us : List Value),K.In s.heap -> (us ++ ds).length = ps.length -> BindsTo s fd ⟨us,[]⟩ (ps.zip (us ++ ds))
theorem Binds.all {K : PySem.W.Frag}{fd : FuncData}{ps : List Str}(h : ∀ us : List Value,us.length = ps.length -> bindArgs fd ⟨us,[]⟩ = pure (ps.zip us)) : Binds K fd ps [] := fun s us _ hl => by
  rw [List.append_nil] at hl ⊢
  exact .of_eq (h us hl)
def Passes (CX : CXT)(X : Cx)(E : XK) : Prop := ∀ (pins : List (Addr × Obj)) (σ : St) (H : Hp) (s : Shared) (e : Value) (s' : Shared),Inv X pins σ H s -> CX X.stack H s E e s' -> X.xe e s'
section
variable {X : Cx}{CX : CXT}{k : Nat}{f C : Addr}{fd : FuncData}{ps : List Str}{sp : Sp}{dvs : List V}{ds : List Value}{E : XK}{x m : Str}{p pos apos : Pos}{e o : Expr}{es : List Expr}{ta : TE}{t : TA}
theorem run_fn {pins : List (Addr × Obj)}{σ : St}{H : Hp}{s : Shared}{Q : VK}{us : List Value}{vs : List V}(F : FnOk X.prog X.w X.K X.mg X.base CX k f fd ps sp)(hr : Room k X.A)(hb : Binds X.K fd ps ds)(hd : Vals dvs ds)(hx : Passes CX X E)
    (I : Inv X pins σ H s) (r : Vals vs us) (h : sp (vs ++ dvs) H Q E) : wpAny (model X.prog X.w) X.A (call (.ref f) us) (EP X pins σ Q) X.xe s := by
  have r2 : Vals (vs ++ dvs) (us ++ ds) := r.append hd
  have hl : (us ++ ds).length = ps.length := by rw [<- r2.length]; exact F.len _ _ _ _ h
  refine wpAny_call (codeAny_mono (F.run X.A X.stack s H ⟨us,[]⟩ (us ++ ds) (vs ++ dvs) Q E hr I.env0 (hb s us I.kIn hl) r2 h) fun r s' hq => ?_)
  cases r with
  | error e => exact hx pins σ H s e s' I hq
  | ok fl =>
    cases fl with
    | ret u => exact I.after hq
    | next => exact False.elim hq
    | brk => exact False.elim hq
    | cont => exact False.elim hq
theorem pe_call (F : FnOk X.prog X.w X.K X.mg X.base CX k f fd ps sp)(hr : Room k X.A)(hg : Gl X x)(hm : X.mg x = some (.ref f))(hk : PySem.W.keepIn X.K (.ref f) = true)(hb : Binds X.K fd ps ds)(hd : Vals dvs ds)(hx : Passes CX X E)
    (ha : PA X (e :: es) t) (hdb : (x == ("__debug__" : Str)) = false := by decide) (he : starEach (e :: es) X.env = (false,eval e X.env) :: starEach es X.env := by rfl) (hpl : (backTo pos (starEach es X.env)).any (·.1) = false := by rfl) :
    PE X (.Call (.Name x p) (e :: es) [] pos) (tCall sp dvs E t) := by
  intro pins s σ H Q I h
  refine wpAny_Call_Name_kw (ld_glob I hg hm ?_ hdb)
  refine PySem.W.callWith_K (h₀ := X.base) I.ok.mod.kin hk (thn (ha pos pins s σ H _ I h) fun us s1 ⟨vs,H1,I1,r,q⟩ => ⟨I1.kIn,?_⟩) he hpl
  exact run_fn F hr hb hd hx I1 r q
theorem pe_call0 (F : FnOk X.prog X.w X.K X.mg X.base CX k f fd ps sp)(hr : Room k X.A)(hg : Gl X x)(hm : X.mg x = some (.ref f))(hk : PySem.W.keepIn X.K (.ref f) = true)(hb : Binds X.K fd ps ds)(hd : Vals dvs ds)(hx : Passes CX X E)
    (hdb : (x == ("__debug__" : Str)) = false := by decide) : PE X (.Call (.Name x p) [] [] pos) (tCall sp dvs E tNil) := by
  intro pins s σ H Q I h
  refine wpAny_Call_Name_kw (ld_glob I hg hm ?_ hdb)
  exact PySem.W.callWith_K0 I.kIn hk (run_fn (us := []) F hr hb hd hx I .nil h)
end
section
variable {X : Cx}{CX : CXT}{k : Nat}{f C : Addr}{fd : FuncData}{ps ks : List Str}{sp : Sp}{E : XK}{x m : Str}{p pos apos kpos : Pos}{e o : Expr}{es : List Expr}{kws : List Keyword}{te ta : TE}{t tk : TA}{nm : Option Str}
variable {g : List Value -> List Value -> List Value}{gV : List V -> List V -> List V}
end
structure FnScope (N P : List Str)(sc : Scope) : Prop where
  kind : sc.kind = .function
  co : sc.isCoroutine = false
  gen : sc.isGenerator = false
  nd : N.Nodup
  pre : N.take P.length = P
  par : ∀ x ∈ P,sc.names.lookup x = some .local \/ sc.names.lookup x = some .cell
  nofree : ∀ y ∈ sc.names,y.2 ≠ .free
theorem bindL_out {kindOf : Str -> Option NameKind}{x : Str} : ∀ {binds : List (Str × Value)} {m : Str -> Option Value},(∀ v,(x,v) ∉ binds) -> bindL kindOf binds m x = m x
  | [],_,_ => rfl
  | (n,v) :: r,m,h => by
    unfold bindL
    rw [bindL_out fun w hw => h w (List.mem_cons_of_mem _ hw)]
    split
    · have : x ≠ n := by rintro rfl; exact h v List.mem_cons_self
      simp [this]
    · rfl
theorem bindC_out {kindOf : Str -> Option NameKind}{x : Str} : ∀ {binds : List (Str × Value)} {m : Str -> Option Value},(∀ v,(x,v) ∉ binds) -> bindC kindOf binds m x = m x
  | [],_,_ => rfl
  | (n,v) :: r,m,h => by
    unfold bindC
    rw [bindC_out fun w hw => h w (List.mem_cons_of_mem _ hw)]
    split
    · rfl
    · have : x ≠ n := by rintro rfl; exact h v List.mem_cons_self
      simp [this]
theorem bindL_get {kindOf : Str -> Option NameKind}{x : Str}{v : Value} : ∀ {P : List Str} {vs : List Value} {i : Nat} {m : Str -> Option Value},P.Nodup -> P[i]? = some x -> vs[i]? = some v -> kindOf x = some .local ->
    bindL kindOf (P.zip vs) m x = some v
  | [],_,_,_,_,h,_,_ => by simp at h
  | _ :: _,[],_,_,_,_,h,_ => by simp at h
  | p :: P,w :: vs,0,m,nd,h1,h2,hk => by
    simp at h1 h2; subst h1; subst h2
    show bindL kindOf ((p,w) :: P.zip vs) m p = _
    unfold bindL
    rw [bindL_out fun v hv => (List.nodup_cons.mp nd).1 (List.of_mem_zip hv).1,if_pos hk]
    simp
  | p :: P,w :: vs,i + 1,m,nd,h1,h2,hk => by
    show bindL kindOf ((p,w) :: P.zip vs) m x = _
    unfold bindL
    exact bindL_get (i := i) (List.nodup_cons.mp nd).2 (by simpa using h1) (by simpa using h2) hk
theorem bindC_get {kindOf : Str -> Option NameKind}{x : Str}{v : Value} : ∀ {P : List Str} {vs : List Value} {i : Nat} {m : Str -> Option Value},P.Nodup -> P[i]? = some x -> vs[i]? = some v -> kindOf x ≠ some .local ->
    bindC kindOf (P.zip vs) m x = some v
  | [],_,_,_,_,h,_,_ => by simp at h
  | _ :: _,[],_,_,_,_,h,_ => by simp at h
  | p :: P,w :: vs,0,m,nd,h1,h2,hk => by
    simp at h1 h2; subst h1; subst h2
    show bindC kindOf ((p,w) :: P.zip vs) m p = _
    unfold bindC
    rw [bindC_out fun v hv => (List.nodup_cons.mp nd).1 (List.of_mem_zip hv).1,if_neg hk]
    simp
  | p :: P,w :: vs,i + 1,m,nd,h1,h2,hk => by
    show bindC kindOf ((p,w) :: P.zip vs) m x = _
    unfold bindC
    exact bindC_get (i := i) (List.nodup_cons.mp nd).2 (by simpa using h1) (by simpa using h2) hk
def start (N : List Str)(vs : List V) : St := vs.map some ++ List.replicate (N.length - vs.length) none
def cxOf (CX : CXT)(P : Program)(w : World)(K : PySem.W.Frag)(mg : Str -> Option Value)(base : Heap)(N : List Str)(qual : Str)(scope : Scope)(f : Addr)(cd : Value)(A : Around)(outer : List Env)(s : Shared)(H : Hp)(E : XK) : Cx where
  prog := P
  w := w
  K := K
  mg := mg
  base := base
  A := A.deeper (envOfC qual scope s.heap.objs.size f cd)
  N := N
  s₀ := s
  H₀ := H
  env := envOfC qual scope s.heap.objs.size f cd
  outer := outer
  stack := envOfC qual scope s.heap.objs.size f cd :: outer
  ex := []
  calm := true
  fn := fun _ => true
  pn := []
  xe := fun e s' => wpAny (model P w) (A.deeper (envOfC qual scope s.heap.objs.size f cd)) (leaving (envOfC qual scope s.heap.objs.size f cd) e) (fun _ s'' => CX outer H s E e s'') (fun e' s'' => CX outer H s E e' s'') s'
theorem cell_has {sc : Scope}{n : Nat}{x : Str}(h : sc.names.lookup x = some .cell) : ∃ c,(cellsFrom n sc.names []).lookup x = some c := by
  have q := PySem.W.cellsFrom_some sc.names n [] (.inl h)
  exact Option.isSome_iff_exists.mp q
theorem inv_start {CX : CXT}{P : Program}{w : World}{K : PySem.W.Frag}{mg : Str -> Option Value}{base : Heap}{N ps : List Str}{qual : Str}{scope : Scope}{f : Addr}{cd : Value}{A : Around}{outer : List Env}{s s1 : Shared}{H : Hp}{E : XK}{us : List Value}{vs : List V}
    (S : FnScope N ps scope) (hd : A.handled = none) (e0 : Env0 P w K mg base A outer s H) (hl : vs.length = ps.length) (r : Vals vs us)
    (x : InCallC s s.heap.objs.size (bindL (envOfC qual scope s.heap.objs.size f cd).kindOf (ps.zip us) fun _ => none) (cellsFrom (s.heap.objs.size + 1) scope.names []) (bindC (envOfC qual scope s.heap.objs.size f cd).kindOf (ps.zip us) fun _ => none) s1) :
    Inv (cxOf CX P w K mg base N qual scope f cd A outer s H E) [] (start N vs) H s1 := by
  have hpl : ps.length <= N.length := by have := congrArg List.length S.pre; rw [List.length_take] at this; omega
  obtain ⟨h1,tk,rfl,hk⟩ := x.done
  have noA : ∀ b : Addr,b ∉ (cxOf CX P w K mg base N qual scope f cd A outer s H E).ex := fun b z => absurd (show b ∈ ([] : List Addr) from z) (by simp)
  refine ⟨⟨e0.mod,S.kind,rfl,rfl,Nat.le_refl _,fun y z c h1 h2 => ?_,fun y hy => ?_,fun y c _ h => ?_,fun _ => hd,Around.frames_deeper e0.frames,.inr ⟨rfl,rfl⟩,fun b z => absurd z (noA b),e0.bs,e0.bsz,fun b _ _ => noA b,fun b z => absurd z (noA b),e0.funs,e0.frf⟩,
    rfl,e0.bare,Un.kept hk,⟨_,x.toInCall.ns,fun i y v h1 h2 h3 => ?_⟩,fun y c h => ⟨_,x.cell y c h⟩,e0.hok.fresh (Nat.le_refl _),fun y c h => ?_,fun p hp => absurd (show p ∈ ([] : List (Addr × Obj)) from hp) (by simp),e0.hok.kept hk,?_⟩
  · exact name_of_addr x.apart (PySem.mem_of_lookup h1) (PySem.mem_of_lookup h2)
  · have hy : scope.names.lookup y = some .cell \/ scope.names.lookup y = some .free := hy
    rcases hy with hy | hy
    · exact cell_has hy
    · exact absurd rfl (S.nofree _ (PySem.mem_of_lookup hy))
  · exact Nat.le_of_lt (x.above y c (PySem.mem_of_lookup h))
  · have hi : i < vs.length := by
      unfold start at h2
      by_cases hi : i < vs.length
      · exact hi
      · rw [List.getElem?_append_right (by simpa using hi)] at h2
        rw [List.getElem?_replicate] at h2
        split at h2 <;> cases h2
    have ha : vs[i]? = some v := by
      unfold start at h2
      rw [List.getElem?_append_left (by simpa using hi),List.getElem?_map] at h2
      cases e : vs[i]? with
      | none => rw [e] at h2; cases h2
      | some a => rw [e] at h2; cases h2; rfl
    obtain ⟨u,hu,rv⟩ := r.get ha
    have hp : ps[i]? = some y := by
      rw [<- S.pre,List.getElem?_take_of_lt (by omega)]; exact h1
    have ndP : ps.Nodup := by rw [<- S.pre]; exact S.nd.sublist (List.take_sublist _ _)
    refine ⟨u,rv,?_⟩
    rcases S.par y (List.mem_of_getElem? hp) with k | k
    · exact .inl ⟨k,bindL_get ndP hp hu k⟩
    · obtain ⟨c,e⟩ := cell_has (n := s.heap.objs.size + 1) k
      refine .inr ⟨.inl k,c,e,?_⟩
      have q := x.cell y c e
      rw [bindC_get ndP hp hu (by show scope.names.lookup y ≠ _; rw [k]; decide)] at q
      exact q
  · exact e0.hok.fresh (Nat.le_of_lt (x.above y c (PySem.mem_of_lookup h)))
  · unfold start
    show _ = N.length
    rw [List.length_append,List.length_map,List.length_replicate]
    omega
theorem fn_of {CX : CXT}{P : Program}{w : World}{K : PySem.W.Frag}{mg : Str -> Option Value}{base : Heap}{k : Nat}{f : Addr}{name qual : Str}{params : Arguments}{body : List Stmt}{scope : Scope}{dV kV doc pm cdv ct oc : Value}{an od : Option Addr}
    {osl : Array (Option Value)} {N ps : List Str} {sp : Sp} (lk : K.lookup f = some ⟨oc,od,.func (PySem.W.fnOf name qual params body scope dV kV doc pm an cdv ct),osl⟩) (hcd : PySem.W.codeIn K cdv qual = true) (S : FnScope N ps scope)
    (len : ∀ vs H Q E,sp vs H Q E -> vs.length = ps.length)
    (hbody : ∀ (A : Around) (outer : List Env) (s : Shared) (H : Hp) (vs : List V) (Q : VK) (E : XK),Room k (A.deeper (envOfC qual scope s.heap.objs.size f cdv)) -> sp vs H Q E ->
      ∃ t,PSs (cxOf CX P w K mg base N qual scope f cdv A outer s H E) body t /\ t { nx := fun _ H' => Q .non H',rt := Q } (start N vs) H) :
    FnOk P w K mg base CX (k + 1) f (PySem.W.fnOf name qual params body scope dV kV doc pm an cdv ct) ps sp := by
  refine ⟨len,fun A outer s H args us vs Q E hr e0 hb r hsp => ?_⟩
  have hl := len _ _ _ _ hsp
  have KX : K.In s.heap := e0.mod.kin.keeps fun b o e => (e0.bs b o e).1
  have lim : s.heap.NoLimit := e0.mod.nolimit.keeps fun b o e => (e0.bs b o e).1
  have hkind : ∀ y ∈ ps.zip us,scope.names.lookup y.1 = some .local \/ (scope.names.lookup y.1 = some .cell /\ ((cellsFrom (s.heap.objs.size + 1) scope.names []).lookup y.1).isSome = true) := fun ⟨n,v⟩ hy => by
    rcases S.par n (List.of_mem_zip hy).1 with q | q
    · exact .inl q
    · exact .inr ⟨q,PySem.W.cellsFrom_some _ _ _ (.inl q)⟩
  refine codeAny_call_function hr.depth (KX _ _ lk) rfl S.co S.gen rfl (PySem.W.codeRec_of KX hcd) (hb _ _ _ _ ?_)
  refine wpAny_newFunctionEnv_cells S.kind hkind fun env he s1 x => ?_
  subst he
  refine ⟨lim.keeps x.toInCall.keep,codeAny_func ?_⟩
  obtain ⟨t,ht,hq⟩ := hbody A outer s H vs Q E (hr.deeper _) hsp
  have I : Inv (cxOf CX P w K mg base N qual scope f cdv A outer s H E) [] (start N vs) H s1 := inv_start S hr.hd e0 hl r x
  refine wpAny_mono (ht [] s1 (start N vs) H _ I hq) (fun fl s' hs => ?_) fun e s' hs => hs
  have fin : ∀ {σ' : St} {H' : Hp} {v : V} {u : Value},Inv (cxOf CX P w K mg base N qual scope f cdv A outer s H E) [] σ' H' s' -> RelV v u -> Q v H' -> CE outer P w H s Q u s' :=
    fun {σ' H' v u} J rv q => ⟨v,H',J.os,J.bare,J.base,J.hok,rv,q⟩
  cases fl with
  | ret u =>
    obtain ⟨v,σ',H',J,rv,q⟩ := hs
    exact fin J rv q
  | next =>
    obtain ⟨σ',H',J,q⟩ := hs
    exact fin (v := V.non) (u := Value.none) J rfl q
  | brk =>
    obtain ⟨_,_,_,q⟩ := hs
    exact False.elim q
  | cont =>
    obtain ⟨_,_,_,q⟩ := hs
    exact False.elim q
end L2
namespace L2
open PySem PySem.Spec PyProof.Rows
section
variable {X : Cx}{x : Str}{p pos : Pos}{e : Expr}{es : List Expr}{t : TA}{id T : String}{r : List V -> Hp -> VK -> Prop}
def tCB (r : List V -> Hp -> VK -> Prop)(t : TA) : TE := fun σ H Q => t σ H fun vs H1 => r vs H1 Q
theorem pe_callB (hc : CallR X (.builtin id) r)(hg : Gl X x)(hm : X.mg x = none)(hv : bootBuiltins x = some (.builtin id))(ha : PA X (e :: es) t)(hn : x ≠ "__name__" := by decide) (hdb : (x == ("__debug__" : Str)) = false := by decide)
    (he : starEach (e :: es) X.env = (false,eval e X.env) :: starEach es X.env := by rfl) (hpl : (backTo pos (starEach es X.env)).any (·.1) = false := by rfl) : PE X (.Call (.Name x p) (e :: es) [] pos) (tCB r t) := by
  intro pins s σ H Q I h
  refine wpAny_Call_Name_kw (ld_blt I hg hm hv ?_ hn hdb)
  exact PyProof.Rows.callWith_builtin1 (thn (ha pos pins s σ H _ I h) fun us s1 ⟨vs,H1,I1,r1,q1⟩ => hc pins s1 σ H1 vs us Q I1 r1 q1) he hpl
theorem pe_callTy (hc : CallR X (.type T) r)(hg : Gl X x)(hm : X.mg x = none)(hv : bootBuiltins x = some (.type T))(ha : PA X (e :: es) t)(hn : x ≠ "__name__" := by decide) (hdb : (x == ("__debug__" : Str)) = false := by decide)
    (he : starEach (e :: es) X.env = (false,eval e X.env) :: starEach es X.env := by rfl) (hpl : (backTo pos (starEach es X.env)).any (·.1) = false := by rfl) : PE X (.Call (.Name x p) (e :: es) [] pos) (tCB r t) := by
  intro pins s σ H Q I h
  refine wpAny_Call_Name_kw (ld_blt I hg hm hv ?_ hn hdb)
  exact PyProof.Rows.callWith_type1 (thn (ha pos pins s σ H _ I h) fun us s1 ⟨vs,H1,I1,r1,q1⟩ => hc pins s1 σ H1 vs us Q I1 r1 q1) he hpl
end
end L2
namespace HT
open PySem PyProof.Rows
section
open PySem.SeqAt
open PySem.AutoSeq1 (wpAny_loadPart')
open PySem.MeetsSeq PySem.MeetsSeq2 PySem.MeetsSeq3
end
section
variable {prog : Program}{w : World}{A : Around}{E : Value -> Shared -> Prop}{s : Shared}
end
end HT
namespace L2
open PySem PySem.Spec PyProof.Rows
abbrev TO := St -> Hp -> (Option Int -> Hp -> Prop) -> Prop
section
variable {X : Cx}{e : Expr}{te : TE}{lo hi : Option Expr}{tl th : TO}{pos p2 : Pos}
end
end L2
namespace L2
open PySem PySem.Spec PyProof.Rows
def ixN (n : Nat)(i : Int) : Option Nat := if 0 <= i then (if i < n then some i.toNat else none) else if -(n : Int) <= i then some (i + n).toNat else none
def atI {α : Type}(xs : List α)(i : Int) : Option α := (ixN xs.length i).bind fun j => xs[j]?
theorem ixN_seq {n : Nat}{i : Int}{j : Nat}(h : ixN n i = some j) : seqIndex? i n = some j /\ j < n /\ -(n : Int) <= i /\ i < n := by
  unfold ixN at h
  by_cases h0 : 0 <= i
  · rw [if_pos h0] at h
    by_cases h1 : i < n
    · rw [if_pos h1] at h
      have e : i.toNat = j := Option.some.inj h
      exact ⟨by rw [seqIndex_of h0 h1,e],by omega,by omega,h1⟩
    · rw [if_neg h1] at h; cases h
  · rw [if_neg h0] at h
    by_cases h1 : -(n : Int) <= i
    · rw [if_pos h1] at h
      have e : (i + n).toNat = j := Option.some.inj h
      exact ⟨by rw [seqIndex_neg (by omega) h1,e],by omega,h1,by omega⟩
    · rw [if_neg h1] at h; cases h
theorem atI_get {α : Type}{xs : List α}{i : Int}{v : α}(h : atI xs i = some v) : ∃ j,seqIndex? i xs.length = some j /\ xs[j]? = some v /\ j < xs.length /\ -(xs.length : Int) <= i /\ i < xs.length := by
  unfold atI at h
  cases e : ixN xs.length i with
  | none => rw [e] at h; cases h
  | some j =>
    rw [e] at h
    obtain ⟨h1,h2,h3,h4⟩ := ixN_seq e
    exact ⟨j,h1,h,h2,h3,h4⟩
theorem atI_nat {α : Type}{xs : List α}{j : Nat}{v : α}(h : xs[j]? = some v) : atI xs (j : Int) = some v := by
  have hj : j < xs.length := (List.getElem?_eq_some_iff.mp h).1
  have e : ixN xs.length (j : Int) = some j := by
    unfold ixN
    rw [if_pos (by omega),if_pos (by omega)]; simp
  unfold atI; rw [e]; exact h
def PlainIx (b : Expr) : Prop := ∀ o i,subscripted b false o i = operate [o,i] (getItem o i)
def IxR (X : Cx)(r : R2) : Prop :=
  ∀ (value slice : Expr) (pins : List (Addr × Obj)) (s : Shared) (σ : St) (H : Hp) (x y : V) (v u : Value) (Q : VK),Inv X pins σ H s -> RelV x v -> RelV y u -> r x y H Q ->
    subscripted slice false v u = operate [v,u] (getItem v u) -> wpAny (model X.prog X.w) X.A (subscriptTail value slice v u) (EP X pins σ Q) X.xe s
def MtR (X : Cx)(id : String)(r : V -> List V -> Hp -> VK -> Prop) : Prop :=
  ∀ (pins : List (Addr × Obj)) (s : Shared) (σ : St) (H : Hp) (x : V) (xs : List V) (v : Value) (us : List Value) (Q : VK),Inv X pins σ H s -> RelV x v -> Vals xs us -> r x xs H Q ->
    wpAny (model X.prog X.w) X.A (call (.builtin id) (v :: us)) (EP X pins σ Q) X.xe s
section
variable {X : Cx}{a b : Expr}{ta tb : TE}{pos : Pos}
theorem IxR.or {r r' : R2}(h : IxR X r)(h' : IxR X r') : IxR X (fun x y H Q => r x y H Q \/ r' x y H Q) := by
  intro value slice pins s σ H x y v u Q I rx ry q hs
  rcases q with q | q
  · exact h value slice pins s σ H x y v u Q I rx ry q hs
  · exact h' value slice pins s σ H x y v u Q I rx ry q hs
theorem pe_ix {r : R2}(hr : IxR X r)(ha : PE X a ta)(hb : PE X b tb)(hs : PlainIx b) : PE X (.Subscript a b pos) (tOp r ta tb) := by
  intro pins s σ H Q I h
  exact Subscript_ (binT ha hb I h fun v u s2 x y H2 I2 rx ry q => hr a b pins s2 σ H2 x y v u Q I2 rx ry q (hs _ _))
def rIxL (K : PySem.W.Frag) : R2 := fun x y H Q => ∃ p xs i v,x = .ref p /\ y = .int i /\ SqL K H p xs /\ atI xs i = some v /\ Q v H
def rIxT (K : PySem.W.Frag) : R2 := fun x y H Q => ∃ p xs i v,x = .ref p /\ y = .int i /\ SqT K H p xs /\ atI xs i = some v /\ Q v H
theorem ix_list : IxR X (rIxL X.K) := by
  intro value slice pins s σ H x y v u Q I rx ry h hs
  obtain ⟨p,xs,i,z,rfl,rfl,hq,he,q⟩ := h
  cases rx
  obtain ⟨t,rfl⟩ := ry
  obtain ⟨its,r,pl,hz⟩ := I.list hq
  obtain ⟨j,h1,h2,h3,h4,h5⟩ := atI_get he
  obtain ⟨w,ew,rw'⟩ := r.get h2
  have hl := r.length
  have hn := line63
  have fin : EP X pins σ Q w s := ⟨z,H,I,rw',q⟩
  by_cases h0 : 0 <= i
  · have hj : i.toNat = j := by
      rw [seqIndex_of h0 h5] at h1
      exact Option.some.inj h1
    exact item_listR pl.isList h0 (by omega) (by rw [hj]; simpa using ew) fin hs
  · have hj : (i + (its.toArray.size : Int)).toNat = j := by
      rw [seqIndex_neg (by omega) h4] at h1
      rw [List.size_toArray,<- hl]
      exact Option.some.inj h1
    exact subscriptTail_builtinR (x := w) pl.isList.typeIs slot_list_getitem.lookup
      (wpAny_getItem_list_neg (Q := fun r s' => r = w /\ EP X pins σ Q r s') pl.isList (by omega) (by rw [List.size_toArray] <;> omega) (by omega) (by rw [hj]; simpa using ew) ⟨rfl,fin⟩) hs
theorem ix_tup : IxR X (rIxT X.K) := by
  intro value slice pins s σ H x y v u Q I rx ry h hs
  obtain ⟨p,xs,i,z,rfl,rfl,hq,he,q⟩ := h
  cases rx
  obtain ⟨t,rfl⟩ := ry
  obtain ⟨its,r,pl,hz⟩ := I.tuple hq
  obtain ⟨j,h1,h2,h3,h4,h5⟩ := atI_get he
  obtain ⟨w,ew,rw'⟩ := r.get h2
  have hl := r.length
  have hn := line63
  have fin : EP X pins σ Q w s := ⟨z,H,I,rw',q⟩
  exact subscriptTail_builtinR (x := w) pl.typeIs slot_tuple_getitem.lookup
    (getItem_tuple (j := j) (Q := fun r s' => r = w /\ EP X pins σ Q r s') pl (by omega) (by omega) (by rw [List.size_toArray,<- hl]; exact h1) (by simpa using ew) ⟨rfl,fin⟩) hs
theorem mapSeq_set (its : List Value)(n j : Nat)(u : Value) : Obj.mapSeq (·.setIfInBounds j u) { cls := .type "list",data := .seq its.toArray n } = { cls := .type "list",data := .seq (its.set j u).toArray n } := by
  simp [Obj.mapSeq]
theorem Inv.lst {pins : List (Addr × Obj)}{σ : St}{H : Hp}{s : Shared}{p : Addr}{xs : List V}(I : Inv X pins σ H s)(h : H p = some (.lst xs)) :
    ∃ (its : List Value) (n : Nat),Vals xs its /\ s.heap.get? p = some { cls := .type "list",data := .seq its.toArray n } /\ xs.length <= sizeLine := by
  obtain ⟨z,its,n,r,e⟩ := I.hok p _ h
  exact ⟨its,n,r,e,z⟩
theorem Inv.lstUpd {pins : List (Addr × Obj)}{σ : St}{H : Hp}{s : Shared}{p : Addr}{xs ys : List V}{its its' : List Value}{n n' : Nat}{f : Obj -> Obj}(I : Inv X pins σ H s)(h : H p = some (.lst xs))
    (ho : s.heap.get? p = some { cls := .type "list",data := .seq its.toArray n }) (hf : f { cls := .type "list",data := .seq its.toArray n } = { cls := .type "list",data := .seq its'.toArray n' }) (r : Vals ys its') (hz : ys.length <= sizeLine) (t : Nat) :
    Inv X pins σ (upd H p (.lst ys)) { s with heap := s.heap.update p f,toks := t } := by
  have e : (s.heap.update p f).get? p = some { cls := .type "list",data := .seq its'.toArray n' } := by
    rw [Heap.get?_update_self f ho (by rw [hf] <;> rfl),hf]
  refine I.write (x := p) (e := p) (by rw [h]; trivial) (.inl rfl) (fun b u hb q => (Heap.get?_update_other _ _ (Ne.symm hb)).trans q) ⟨_,e⟩ ?_
  exact ⟨hz,its',n',r,e⟩
def rSetL : V -> V -> V -> Hp -> (Hp -> Prop) -> Prop := fun o i v H Q => ∃ p xs k j,o = .ref p /\ i = .int k /\ H p = some (.lst xs) /\ ixN xs.length k = some j /\ Q (upd H p (.lst (xs.set j v)))
theorem set_list : PSet X rSetL := by
  intro pins s σ H o i v ov iv u Q I ro ri rv h
  obtain ⟨p,xs,k,j,rfl,rfl,hp,hj,q⟩ := h
  cases ro
  obtain ⟨t,rfl⟩ := ri
  obtain ⟨its,n,r,ho,hz⟩ := I.lst hp
  obtain ⟨h1,h2,h3,h4⟩ := ixN_seq hj
  have hl := r.length
  have hn := line63
  have I' : Inv X pins σ (upd H p (.lst (xs.set j v))) { s with heap := s.heap.update p (Obj.mapSeq (·.setIfInBounds j u)) } :=
    I.lstUpd hp ho (mapSeq_set its n j u) (r.set rv j) (by rw [List.length_set]; exact hz) s.toks
  by_cases h0 : 0 <= k
  · have hk : k.toNat = j := by
      rw [seqIndex_of h0 h4] at h1
      exact Option.some.inj h1
    exact PySem.W.ki_setAt ho h0 (by omega) (by rw [List.size_toArray,<- hl]; exact h4) (by rw [hk]; exact ⟨_,I',q⟩)
  · have hk : (k + (its.toArray.size : Int)).toNat = j := by
      rw [seqIndex_neg (by omega) h3] at h1
      rw [List.size_toArray,<- hl]
      exact Option.some.inj h1
    exact PySem.W.ki_setBack ho (by omega) (by rw [List.size_toArray,<- hl]; exact h3) (by omega) (by rw [hk]; exact ⟨_,I',q⟩)
def flatV : V -> Bool
  | .non => true
  | .bl _ => true
  | .int _ => true
  | .str _ => true
  | _ => false
def eqV : V -> V -> Bool
  | .non,.non => true
  | .bl a,.bl b => a == b
  | .bl a,.int b => (if a then 1 else 0) == b
  | .int a,.bl b => a == (if b then 1 else 0)
  | .int a,.int b => a == b
  | .str a,.str b => a == b
  | _,_ => false
theorem eqAt_V {A : Around}{s : Shared}{y x : V}{u v : Value}(ry : RelV y u)(rx : RelV x v)(fy : flatV y = true)(fx : flatV x = true) : SeqAt.EqAt A s u v (eqV y x) := by
  cases y with
  | non =>
    cases ry
    cases x with
    | non => cases rx; exact SeqAt.EqAt.same _
    | bl b => cases rx; exact SeqAt.EqAt.none_bool b
    | int b => obtain ⟨t,rfl⟩ := rx; exact SeqAt.EqAt.none_int b t
    | str b => obtain ⟨t,rfl⟩ := rx; exact SeqAt.EqAt.none_str b t
    | _ => exact absurd (show false = true from fx) Bool.false_ne_true
  | bl a =>
    cases ry
    cases x with
    | non => cases rx; exact SeqAt.EqAt.bool_none a
    | bl b => cases rx; exact SeqAt.EqAt.bool_bool a b
    | int b => obtain ⟨t,rfl⟩ := rx; exact SeqAt.EqAt.bool_int a b t
    | str b => obtain ⟨t,rfl⟩ := rx; exact SeqAt.EqAt.bool_str a b t
    | _ => exact absurd (show false = true from fx) Bool.false_ne_true
  | int a =>
    obtain ⟨t',rfl⟩ := ry
    cases x with
    | non => cases rx; exact SeqAt.EqAt.int_none a t'
    | bl b => cases rx; exact SeqAt.EqAt.int_bool a t' b
    | int b => obtain ⟨t,rfl⟩ := rx; exact SeqAt.EqAt.int_int a t' b t
    | str b => obtain ⟨t,rfl⟩ := rx; exact SeqAt.EqAt.int_str a t' b t
    | _ => exact absurd (show false = true from fx) Bool.false_ne_true
  | str a =>
    obtain ⟨t',rfl⟩ := ry
    cases x with
    | non => cases rx; exact SeqAt.EqAt.str_none a t'
    | bl b => cases rx; exact SeqAt.EqAt.str_bool a t' b
    | int b => obtain ⟨t,rfl⟩ := rx; exact SeqAt.EqAt.str_int a t' b t
    | str b => obtain ⟨t,rfl⟩ := rx; exact SeqAt.EqAt.str_str a t' b t
    | _ => exact absurd (show false = true from fx) Bool.false_ne_true
  | _ => exact absurd (show false = true from fy) Bool.false_ne_true
theorem call_len_seq : CallR X (.builtin "len") (fun xs H Q => ∃ p ys,xs = [.ref p] /\ (SqL X.K H p ys \/ SqT X.K H p ys) /\ Q (.int ys.length) H) := by
  intro pins s σ H xs us Q I r h
  obtain ⟨p,ys,rfl,hq,q⟩ := h
  obtain ⟨u,rfl,rx⟩ := vals1 r
  cases rx
  have hn := line63
  rcases hq with hq | hq
  · obtain ⟨its,r',pl,hz⟩ := I.list hq
    have hlen := r'.length
    exact Calls.call_len_list pl.isList (by simp only [List.size_toArray] <;> omega) ⟨.int ys.length,H,I.tok _,⟨s.toks + 1,by rw [List.size_toArray,hlen]⟩,q⟩
  · obtain ⟨its,r',pl,hz⟩ := I.tuple hq
    have hlen := r'.length
    exact len_tuple pl (by simp only [List.size_toArray] <;> omega) ⟨.int ys.length,H,I.tok _,⟨s.toks + 1,by rw [List.size_toArray,hlen]⟩,q⟩
theorem call_tuple_of : CallR X (.type "tuple") (fun xs H Q => ∃ p ys,xs = [.ref p] /\ ((SqL X.K H p ys /\ ∀ l,H l = none -> Q (.ref l) (upd H l (.tup ys))) \/ (SqT X.K H p ys /\ Q (.ref p) H))) := by
  intro pins s σ H xs us Q I r h
  obtain ⟨p,ys,rfl,h⟩ := h
  obtain ⟨u,rfl,rx⟩ := vals1 r
  cases rx
  rcases h with ⟨hq,q⟩ | ⟨hq,q⟩
  · obtain ⟨its,r',pl,hz⟩ := I.list hq
    have hlen := r'.length
    refine call_tuple_list pl.isList (fun h' kp => ?_) (by simp only [List.size_toArray] <;> omega)
    have I1 : Inv X pins σ H { s with heap := h' } := I.kept (t' := s.toks) kp
    have I2 : Inv X pins σ (upd H h'.objs.size (.tup ys)) { s with heap := h'.push { cls := .type "tuple",data := .seq its.toArray } } :=
      I1.laid (t' := s.toks) (fun b o e => Heap.get?_push_of_some _ e) (Nat.le_refl _) (show ObjOk X.prog X.w _ _ _ (.tup ys) from ⟨hz,its,r',IsTup.new _ _⟩)
    exact ⟨.ref h'.objs.size,_,I2,rfl,q _ (I1.hok.fresh (Nat.le_refl _))⟩
  · obtain ⟨its,r',pl,hz⟩ := I.tuple hq
    exact call_tuple_same pl ⟨.ref p,H,I,rfl,q⟩
variable {o e : Expr}{es : List Expr}{to : TE}{t : TA}{name : Str}{apos cpos : Pos}{T id : String}{r : V -> List V -> Hp -> VK -> Prop}
end
end L2
namespace L2
open PySem PySem.Spec PyProof.Rows
theorem Vals.one : ∀ {x : V} {us : List Value},Vals [x] us -> ∃ u,us = [u] /\ RelV x u
  | _,_,.cons r .nil => ⟨_,rfl,r⟩
theorem Vals.two : ∀ {x y : V} {us : List Value},Vals [x,y] us -> ∃ u v,us = [u,v] /\ RelV x u /\ RelV y v
  | _,_,_,.cons r (.cons q .nil) => ⟨_,_,rfl,r,q⟩
section
variable {X : Cx}{pins : List (Addr × Obj)}{σ : St}{H : Hp}{s : Shared}{l b : Addr}{xs ys zs : List V}
theorem Inv.lnew {its : List Value}{t' : Nat}(I : Inv X pins σ H s)(hv : Vals ys its)(hz : ys.length <= sizeLine) :
    Inv X pins σ (upd H s.heap.objs.size (.lst ys)) { s with heap := s.heap.push { cls := .type "list",data := .seq its.toArray },toks := t' } :=
  I.laid (fun _ _ q => Heap.get?_push_of_some _ q) (Nat.le_refl _) ⟨hz,its,0,hv,Heap.get?_push_size _ rfl⟩
theorem Inv.fresh (I : Inv X pins σ H s) : H s.heap.objs.size = none := I.hok.fresh (Nat.le_refl _)
theorem Inv.lstM (I : Inv X pins σ H s)(hH : H l = some (.lst xs)) : xs.length <= sizeLine /\ ∃ (its : List Value) (n : Nat),Vals xs its /\ xs.length = its.length /\ s.heap.get? l = some { cls := .type "list",data := .seq its.toArray n } := by
  obtain ⟨z,its,n,r,e⟩ := I.hok l _ hH
  exact ⟨z,its,n,r,r.length,e⟩
end
section
variable {X : Cx}
def rCat : R2 := fun x y H Q => ∃ l b xs zs,x = .ref l /\ y = .ref b /\ H l = some (.lst xs) /\ H b = some (.lst zs) /\ xs.length + zs.length <= sizeLine /\ ∀ p,H p = none -> Q (.ref p) (upd H p (.lst (xs ++ zs)))
theorem op_cat : OpR X (binaryOp .Add) rCat := by
  intro pins s σ H x y v u Q I rx ry h
  obtain ⟨l,b,xs,zs,rfl,rfl,hH,hB,hz,q⟩ := h
  cases rx
  cases ry
  obtain ⟨z,its,n,r,hl,e⟩ := I.lstM hH
  obtain ⟨z2,its2,n2,r2,hl2,e2⟩ := I.lstM hB
  refine PySem.P.add_list e e2 ?_ (by rw [List.size_toArray,List.size_toArray]; omega)
  have ea : its.toArray ++ its2.toArray = (its ++ its2).toArray := by simp
  rw [ea]
  exact ⟨.ref _,_,I.lnew (t' := s.toks) (r.append r2) (by rw [List.length_append]; omega),rfl,q _ I.fresh⟩
end
section
variable {prog : Program}{w : World}{A : Around}{E : Value -> Shared -> Prop}{s : Shared}
end
section
variable {X : Cx}
end
end L2
namespace Att
open PySem PySem.W PySem.Calls PyProof.Rows
theorem ints_of_wellAll {P : Params}{h : Heap} : ∀ (ns : List Int) (vs : List Value),WellAll P h vs (ns.map WData.int) -> IntsAre vs ns := by
  intro ns
  induction ns with
  | nil =>
    intro vs w
    rw [List.map_nil] at w
    cases w
    exact .nil
  | cons n ns ih =>
    intro vs w
    rw [List.map_cons] at w
    cases w with
    | cons a b =>
      cases a
      exact .cons _ _ (ih _ b)
theorem script_of {l : OpenLaw}{n : Nat}(hn : l.most = some n){P : Params}{h : Heap}{args : List WData}{vals : List Value}
    (hpre : l.row.toRowW.claim.pre args = true) (hwl : WellAll P h vals args) :
    ∃ a vs ns,vals = [Value.ref a] /\ args = [WData.list (ns.map WData.int)] /\ h.get? a = some { cls := .type "list",data := .seq vs.toArray } /\ IntsAre vs ns /\ ns.length <= n := by
  have hsh : WShape.hasAll [] args [.list .int] = true := (pre_splitW hpre).1
  have hc : l.pre.holds [] { args := args } = true := (pre_splitW hpre).2
  obtain ⟨d,r,rfl,h1,h2⟩ := hasAllW_cons hsh
  obtain rfl := hasAllW_nil h2
  obtain ⟨xs,rfl,h3⟩ := hasW_list h1
  obtain ⟨ns,rfl⟩ := items_int h3
  have hlen : ns.length <= n := by
    unfold OpenLaw.pre at hc
    have h4 : (WTm.not (.lt (.lit (.int (n : Int))) (.len (.arg 0)))).holds [] { args := [.list (ns.map .int)] } = true := by
      have h4 := (holds_andW hc).1
      rw [hn] at h4
      exact h4
    have h5 := condW_of h4 (w_not (w_lt w_lit (w_len_list (w_arg rfl))))
    rw [List.length_map] at h5
    refine Nat.le_of_not_lt fun q => ?_
    have q' : (n : Int) < ((ns.length : Nat) : Int) := by omega
    first
      | (rw [decide_eq_true q'] at h5; exact absurd h5 (by decide))
      | (simp at h5; omega)
  cases hwl with
  | cons w1 w2 =>
    cases w2
    cases w1 with
    | list ho hall => exact ⟨_,_,ns,rfl,rfl,ho,ints_of_wellAll ns _ hall,hlen⟩
theorem post_true (l : OpenLaw)(args : List WData) : l.row.toRowW.claim.post args (.bool true) args = true :=
  postW_of (r := l.row.toRowW) (X := (true == true))
    (show WShape.has [] (.bool true) .bool = true by first | rfl | decide | simp [WShape.has,WShape.arms,WShape.armsAll])
    (show (WTm.eq .res (.lit (.bool true))).value [] { args := args,res := some (.bool true),after := args } = some (.bool (true == true)) from w_eq_bool (w_res rfl) w_lit) rfl
theorem attach_call {l : OpenLaw}{n : Nat}{q : Program}{loose : List Str}{XP : (Str -> Option Value) -> Heap -> Prop}{YP : World -> Heap -> Prop}{d : DefRec}
    (hn : l.most = some n) (hdf : d.params.defaults = [])
    (call : ∀ (w : World) (s₀ s₁ : Shared) (mg mb : Str -> Option Value) (fa : Addr) (o : Obj) (pm cd doc : Value) (a : Addr) (vs : List Value) (ns : List Int),
      Ground q loose [] XP w s₀ mg mb s₁.heap -> YP w s₁.heap ->
      s₁.heap.get? fa = some o -> o.data = .func (docDef d.name d.params d.body d.scope pm cd doc) -> s₁.heap.CodeRec cd d.name -> mg d.name = some (.ref fa) ->
      s₁.heap.get? a = some { cls := .type "list",data := .seq vs.toArray } -> IntsAre vs ns -> ns.length <= n -> s₁.gens = #[] ->
      codeAny (model l.prog w) callerA (.call (.ref fa) ⟨[.ref a],[]⟩) (fun r s' => r = .ok (.ret (.bool true)) /\ OldK s₁.heap s'.heap /\ s'.os = s₁.os /\ AllBare s'.gens) s₁) :
    WalkO q loose XP YP l.row.toRowW d [] (fun f vs => PySem.call f vs) := by
  intro w s₀ s₁ mg mb G Y fa o pm cd doc dV kV ho hd hcd hD hmg hg args vals as hpre hlay hrd hwl hlo
  obtain rfl : dV = .none := Dflts.none hD hdf
  obtain rfl : kV = .none := Dflts.noKw hD
  obtain ⟨a,vs,ns,rfl,rfl,hobj,hints,hlen⟩ := script_of hn hpre hwl
  refine enter_call (codeAny_mono (call w s₀ s₁ mg mb fa o pm cd doc a vs ns G Y ho (fd_plain hd) hcd hmg hobj hints hlen hg) fun r s' hq => ?_)
  obtain ⟨rfl,h2,h3,h4⟩ := hq
  exact ⟨.inl ⟨.bool true,.bool true,[],rfl,fun _ => rfl,.bool true,post_true l _,fun _ => ⟨List.Pairwise.nil,fun _ hm => (nomatch hm)⟩⟩,h2,h3,h4⟩
section
variable {prog : Program}{w : World}{A : Around}{E : Value -> Shared -> Prop}{s : Shared}{K : Frag}
def ledger (h : Heap)(L d : Addr) : List (Addr × Obj) := (List.range h.objs.size).filterMap fun a => if a = L \/ a = d then none else (h.get? a).map fun o => (a,o)
end
end Att
namespace L2
open PySem PySem.Spec PyProof.Rows
theorem vals_ints : ∀ {vs : List Value} {ns : List Int},IntsAre vs ns -> Vals (ns.map V.int) vs
  | _,_,.nil => .nil
  | _,_,.cons n t h => .cons ⟨t,rfl⟩ (vals_ints h)
end L2
namespace L2
open PySem PySem.Spec PyProof.Rows
end L2
namespace L2
open PySem PySem.Spec PyProof.Rows
def defArgs (s : Stmt) : Arguments := match s with
  | .FunctionDef _ a _ _ _ _ _ _ _ _ => a
  | _ => { posonlyargs := [],args := [],vararg := none,kwonlyargs := [],kw_defaults := [],kwarg := none,defaults := [] }
def defBody (s : Stmt) : List Stmt := match s with
  | .FunctionDef _ _ b _ _ _ _ _ _ _ => b
  | _ => []
def defScope (s : Stmt) : Scope := match s with
  | .FunctionDef _ _ _ _ _ _ sc _ _ _ => sc
  | _ => { kind := .function,names := [],isGenerator := false,isCoroutine := false }
abbrev CX0 : CXT := fun _ _ _ _ _ _ => False
abbrev E0 : XK := fun _ _ _ => False
theorem pass0 {X : Cx} : Passes CX0 X E0 := fun _ _ _ _ _ _ _ h => h.elim
structure Fun (K : PySem.W.Frag)(x qual : Str)(st : Stmt)(f : Addr)(fd : FuncData) : Prop where
  ex : ∃ (oc : Value) (od : Option Addr) (kV doc pm : Value) (an : Option Addr) (cdv ct : Value) (osl : Array (Option Value)),
    fd = PySem.W.fnOf x qual (defArgs st) (defBody st) (defScope st) .none kV doc pm an cdv ct /\ K.lookup f = some ⟨oc,od,.func fd,osl⟩ /\ PySem.W.codeIn K cdv qual = true
  kp : PySem.W.keepIn K (.ref f) = true
section
variable {P : Program}{w : World}{K : PySem.W.Frag}{mg : Str -> Option Value}{base : Heap}
theorem Fun.ok {x qual : Str}{st : Stmt}{f : Addr}{fd : FuncData}{N ps : List Str}{k : Nat}{sp : Sp}(F : Fun K x qual st f fd)(S : FnScope N ps (defScope st))(len : ∀ vs H Q E,sp vs H Q E -> vs.length = ps.length)
    (hbody : ∀ (cdv : Value) (A : Around) (outer : List Env) (s : Shared) (H : Hp) (vs : List V) (Q : VK) (E : XK),Room k (A.deeper (envOfC qual (defScope st) s.heap.objs.size f cdv)) -> sp vs H Q E ->
      ∃ t,PSs (cxOf CX0 P w K mg base N qual (defScope st) f cdv A outer s H E).nox (defBody st) t /\ t { nx := fun _ H' => Q .non H',rt := Q } (start N vs) H) : FnOk P w K mg base CX0 (k + 1) f fd ps sp := by
  obtain ⟨oc,od,kV,doc,pm,an,cdv,ct,osl,rfl,lk,hcd⟩ := F.ex
  refine fn_of lk hcd S len fun A outer s H vs Q E hr hsp => ?_
  obtain ⟨t,h,q⟩ := hbody cdv A outer s H vs Q E hr hsp
  exact ⟨t,h.nox,q⟩
theorem Fun.binds {x qual : Str}{st : Stmt}{f : Addr}{fd : FuncData}{ps : List Str}(F : Fun K x qual st f fd)
    (h : ∀ (kV doc pm : Value) (an : Option Addr) (cdv ct : Value) (us : List Value),us.length = ps.length -> bindArgs (PySem.W.fnOf x qual (defArgs st) (defBody st) (defScope st) .none kV doc pm an cdv ct) ⟨us,[]⟩ = pure (ps.zip us)) : Binds K fd ps [] := by
  obtain ⟨oc,od,kV,doc,pm,an,cdv,ct,osl,rfl,lk,hcd⟩ := F.ex
  exact .all (h kV doc pm an cdv ct)
theorem fun_mk {x qual : Str}{st : Stmt}{f : Addr}{oc : Value}{od an : Option Addr}{osl : Array (Option Value)}{kV doc pm cdv ct : Value}(l : K.lookup f = some ⟨oc,od,.func (PySem.W.fnOf x qual (defArgs st) (defBody st) (defScope st) .none kV doc pm an cdv ct),osl⟩)
    (c : PySem.W.codeIn K cdv qual = true) (k : PySem.W.keepIn K (.ref f) = true) : Fun K x qual st f (PySem.W.fnOf x qual (defArgs st) (defBody st) (defScope st) .none kV doc pm an cdv ct) := ⟨⟨oc,od,kV,doc,pm,an,cdv,ct,osl,rfl,l,c⟩,k⟩
end
section
variable {X : Cx}
theorem pv (i : Nat) {x : Str} {pos : Pos} (hN : X.N[i]? = some x := by rfl) (hv : Vis X.env.scope x := by first | exact Or.inl rfl | exact Or.inr (Or.inl rfl) | exact Or.inr (Or.inr rfl)) (hd : (x == ("__debug__" : Str)) = false := by decide)
    (hcd : (x == ("__classdict__" : Str)) = false := by decide) : PE X (.Name x pos) (tVar i) := pe_var hN hv hd hcd
end
theorem iteF {A B : Prop}(h : B) : if false = true then A else B := by
  rw [if_neg Bool.false_ne_true]
  exact h
theorem iteT {A B : Prop}(h : A) : if true = true then A else B := by
  rw [if_pos rfl]
  exact h
def Same (H H' : Hp) : Prop := ∀ b o,H b = some o -> H' b = some o
theorem Same.refl (H : Hp) : Same H H := fun _ _ h => h
theorem Same.trans {H H1 H2 : Hp}(a : Same H H1)(b : Same H1 H2) : Same H H2 := fun c o h => b c o (a c o h)
theorem Same.free {H H' : Hp}(e : Same H H'){l : Addr}(h : H' l = Option.none) : H l = Option.none := by
  cases q : H l with
  | none => rfl
  | some o =>
    rw [e l o q] at h
    cases h
theorem Same.seq {K : PySem.W.Frag}{H H' : Hp}{a : Addr}{xs : List V}(e : Same H H')(h : SqL K H a xs) : SqL K H' a xs := by
  rcases h with (h | ⟨o,h⟩) | h
  · exact .inl (.inl (e _ _ h))
  · exact .inl (.inr ⟨o,e _ _ h⟩)
  · exact .inr h
end L2
set_option Elab.async false
set_option linter.all false
set_option maxRecDepth 100000
set_option maxHeartbeats 4000000
namespace L2
open PySem PySem.Spec PyProof.Rows
theorem cf_keep {x : Str}{lo : Nat} : ∀ (names : List (Str × NameKind)) (n : Nat) (acc : List (Str × Addr)),lo <= n -> (∀ c,acc.lookup x = some c -> lo <= c) -> ∀ c,(cellsFrom n names acc).lookup x = some c -> lo <= c
  | [],_,_,_,h,c,e => h c e
  | (y,k) :: r,n,acc,hn,h,c,e => by
    unfold cellsFrom at e
    split at e
    · refine cf_keep r (n + 1) ((y,n) :: acc) (by omega) (fun c' e' => ?_) c e
      rw [List.lookup_cons] at e'
      cases hb : x == y with
      | true => rw [hb] at e'; cases e'; exact hn
      | false => rw [hb] at e'; exact h c' e'
    · exact cf_keep r n acc hn h c e
theorem cf_own {x : Str}{lo : Nat} : ∀ (names : List (Str × NameKind)) (n : Nat) (acc : List (Str × Addr)),lo <= n -> (x,NameKind.cell) ∈ names -> ∀ c,(cellsFrom n names acc).lookup x = some c -> lo <= c
  | [],_,_,_,hm,_,_ => by cases hm
  | (y,k) :: r,n,acc,hn,hm,c,e => by
    unfold cellsFrom at e
    split at e
    · rcases List.mem_cons.mp hm with z | z
      · cases z
        refine cf_keep r (n + 1) ((x,n) :: acc) (by omega) (fun c' e' => ?_) c e
        rw [List.lookup_cons,beq_self_eq_true] at e'
        cases e'
        exact hn
      · exact cf_own r (n + 1) ((y,n) :: acc) (by omega) z c e
    · rename_i hk
      rcases List.mem_cons.mp hm with z | z
      · cases z
        exact absurd rfl hk
      · exact cf_own r n acc hn z c e
theorem cf_not {x : Str} : ∀ (names : List (Str × NameKind)) (n : Nat) (acc : List (Str × Addr)),¬ (x,NameKind.cell) ∈ names -> (cellsFrom n names acc).lookup x = acc.lookup x
  | [],_,_,_ => rfl
  | (y,k) :: r,n,acc,hm => by
    unfold cellsFrom
    have hr : ¬ (x,NameKind.cell) ∈ r := fun z => hm (List.mem_cons_of_mem _ z)
    split
    · rename_i hk
      rw [cf_not r (n + 1) _ hr,List.lookup_cons]
      have hxy : (x == y) = false := by
        cases hb : x == y with
        | false => rfl
        | true =>
          have e1 : x = y := beq_iff_eq.mp hb
          have e2 : k = NameKind.cell := beq_iff_eq.mp hk
          subst e1 e2
          exact absurd List.mem_cons_self hm
      rw [hxy]
    · exact cf_not r n acc hr
theorem cf_inj : ∀ (names : List (Str × NameKind)) (n : Nat) (acc : List (Str × Addr)),(∀ x c,acc.lookup x = some c -> c < n) -> (∀ x y c,acc.lookup x = some c -> acc.lookup y = some c -> x = y) ->
    ∀ x y c,(cellsFrom n names acc).lookup x = some c -> (cellsFrom n names acc).lookup y = some c -> x = y
  | [],_,_,_,h,x,y,c,e1,e2 => h x y c e1 e2
  | (z,k) :: r,n,acc,hb,h,x,y,c,e1,e2 => by
    unfold cellsFrom at e1 e2
    split at e1
    · rename_i hk
      rw [if_pos hk] at e2
      refine cf_inj r (n + 1) ((z,n) :: acc) (fun x' c' e' => ?_) (fun x' y' c' e1' e2' => ?_) x y c e1 e2
      · rw [List.lookup_cons] at e'
        cases q : x' == z with
        | true => rw [q] at e'; cases e'; exact Nat.lt_succ_self _
        | false => rw [q] at e'; exact Nat.lt_succ_of_lt (hb x' c' e')
      · rw [List.lookup_cons] at e1' e2'
        cases q1 : x' == z with
        | true =>
          rw [q1] at e1'
          cases e1'
          cases q2 : y' == z with
          | true => rw [beq_iff_eq.mp q1,beq_iff_eq.mp q2]
          | false =>
            rw [q2] at e2'
            exact absurd (hb y' _ e2') (Nat.lt_irrefl _)
        | false =>
          rw [q1] at e1'
          cases q2 : y' == z with
          | true =>
            rw [q2] at e2'
            cases e2'
            exact absurd (hb x' _ e1') (Nat.lt_irrefl _)
          | false =>
            rw [q2] at e2'
            exact h x' y' c' e1' e2'
    · rename_i hk
      rw [if_neg hk] at e2
      exact cf_inj r n acc hb h x y c e1 e2
theorem cf_of : ∀ (names : List (Str × NameKind)) (n : Nat) (acc : List (Str × Addr)) (x : Str) (c : Addr),(cellsFrom n names acc).lookup x = some c -> acc.lookup x = some c \/ n <= c
  | [],_,_,_,_,e => .inl e
  | (z,k) :: r,n,acc,x,c,e => by
    unfold cellsFrom at e
    split at e
    · rcases cf_of r (n + 1) ((z,n) :: acc) x c e with q | q
      · rw [List.lookup_cons] at q
        cases hb : x == z with
        | true => rw [hb] at q; cases q; exact .inr (Nat.le_refl _)
        | false => rw [hb] at q; exact .inl q
      · exact .inr (by omega)
    · exact cf_of r n acc x c e
theorem cf_cell : ∀ (names : List (Str × NameKind)) (h : Heap) (acc : List (Str × Addr)),(∀ x c,acc.lookup x = some c -> ∃ v,h.IsCell c v) ->
    ∀ x c,(cellsFrom h.objs.size names acc).lookup x = some c -> ∃ v,(pushCells h names).IsCell c v
  | [],_,_,hh,x,c,e => hh x c e
  | (z,k) :: r,h,acc,hh,x,c,e => by
    unfold cellsFrom at e
    unfold pushCells
    split at e
    · rename_i hk
      rw [if_pos hk]
      have e' : (cellsFrom (h.push { cls := .type "cell",data := .cell none }).objs.size r ((z,h.objs.size) :: acc)).lookup x = some c := by rw [Heap.size_push]; exact e
      refine cf_cell r _ _ (fun x' c' q => ?_) x c e'
      rw [List.lookup_cons] at q
      cases hb : x' == z with
      | true =>
        rw [hb] at q
        cases q
        exact ⟨none,_,Heap.get?_push_size _ rfl,rfl⟩
      | false =>
        rw [hb] at q
        obtain ⟨v,w⟩ := hh x' c' q
        exact ⟨v,w.keeps fun b o e => Heap.get?_push_of_some _ e⟩
    · rename_i hk
      rw [if_neg hk]
      exact cf_cell r h acc hh x c e
theorem clos_ok {env : Env}(f : Str × NameKind -> List (Str × Addr) -> Sem (ForInStep (List (Str × Addr))))
    (hf : ∀ name kind cs,f (name,kind) cs = if kind == .free then (do let a <- cellOf env name; pure (.yield ((name,a) :: cs))) else pure (.yield cs)) :
    ∀ (names : List (Str × NameKind)) (acc : List (Str × Addr)),(∀ x,(x,NameKind.free) ∈ names -> ∃ c,env.cells.lookup x = some c) -> (∀ x c,acc.lookup x = some c -> env.cells.lookup x = some c) ->
      ∃ cl,forIn names acc f = pure cl /\ (∀ x c,cl.lookup x = some c -> env.cells.lookup x = some c) /\ ∀ x,((acc.lookup x).isSome = true \/ (x,NameKind.free) ∈ names) -> (cl.lookup x).isSome = true
  | [],acc,_,ha => ⟨acc,by rw [List.forIn_nil],ha,fun x h => h.elim id fun z => by cases z⟩
  | (name,kind) :: r,acc,hn,ha => by
    have hr : ∀ x,(x,NameKind.free) ∈ r -> ∃ c,env.cells.lookup x = some c := fun x hx => hn x (List.mem_cons_of_mem _ hx)
    by_cases hk : (kind == NameKind.free) = true
    · have ek : kind = NameKind.free := beq_iff_eq.mp hk
      subst ek
      obtain ⟨c,hc⟩ := hn name List.mem_cons_self
      obtain ⟨cl,e1,e2,e3⟩ := clos_ok f hf r ((name,c) :: acc) hr (fun x c' e => by
        rw [List.lookup_cons] at e
        cases hb : x == name with
        | true => rw [hb] at e; cases e; rw [beq_iff_eq.mp hb]; exact hc
        | false => rw [hb] at e; exact ha x c' e)
      refine ⟨cl,?_,e2,fun x hx => e3 x ?_⟩
      · rw [List.forIn_cons,hf,if_pos hk]
        unfold cellOf
        rw [hc]
        simpa using e1
      · rcases hx with hx | hx
        · left
          rw [List.lookup_cons]
          cases hb : x == name with
          | true => rfl
          | false => exact hx
        · rcases List.mem_cons.mp hx with z | z
          · cases z
            left
            rw [List.lookup_cons,beq_self_eq_true]
            rfl
          · exact .inr z
    · obtain ⟨cl,e1,e2,e3⟩ := clos_ok f hf r acc hr ha
      refine ⟨cl,?_,e2,fun x hx => e3 x ?_⟩
      · rw [List.forIn_cons,hf,if_neg hk]
        simpa using e1
      · rcases hx with hx | hx
        · exact .inl hx
        · rcases List.mem_cons.mp hx with z | z
          · cases z
            exact absurd rfl hk
          · exact .inr z
theorem closureFor_ok {scope : Scope}{env : Env}(hn : ∀ x,(x,NameKind.free) ∈ scope.names -> ∃ c,env.cells.lookup x = some c) :
    ∃ cl,closureFor scope env = pure cl /\ (∀ x c,cl.lookup x = some c -> env.cells.lookup x = some c) /\ ∀ x,(x,NameKind.free) ∈ scope.names -> (cl.lookup x).isSome = true := by
  obtain ⟨cl,e1,e2,e3⟩ := clos_ok (env := env) (fun x cs => match x with
    | (name,kind) => if (kind == NameKind.free) = true then (do let a <- cellOf env name; pure (ForInStep.yield ((name,a) :: cs))) else pure (ForInStep.yield cs)) (fun name kind cs => rfl) scope.names [] hn (fun x c e => by cases e)
  refine ⟨cl,?_,e2,fun x hx => e3 x (.inr hx)⟩
  show (forIn scope.names [] _ >>= fun r => pure r) = _
  refine Eq.trans (congrArg (fun m => m >>= fun r => pure r) e1) ?_
  simp
def tries (ifs : List Expr)(env : Env) : Sem Bool := forIn ifs true fun c r => if r = true then do let ok <- isTrue c env (eval c env); pure (ForInStep.yield ok) else pure (ForInStep.yield r)
theorem compLoop_any {prog : Program}{w : World}{A : Around}{R : Result -> Shared -> Prop}{s : Shared}{elt target iter : Expr}{ifs : List Expr}{scope : Scope}{pos : Pos}{it acc : Value}{env : Env}(J : Nat -> Shared -> Prop)
    (turn : ∀ n s,J n s -> wpAny (model prog w) A (pyNext it) (fun r s₁ => match r with
      | none => R (.ok .next) s₁
      | some v => wpAny (model prog w) A (letOwnedTupleGo target it v) (fun _ s₁' => wpAny (model prog w) A (assign target env v) (fun _ s₂ => wpAny (model prog w) A (tries ifs env) (fun ok s₃ =>
            if ok = true then wpAny (model prog w) A (eval elt env) (fun x s₄ => wpAny (model prog w) A (call (.builtin "list.append") [acc,x]) (fun _ s₅ => ∃ m,m < n /\ J m s₅) (notedBy (model prog w) A env fun e s' => R (.error e) s') s₄)
                (notedBy (model prog w) A env fun e s' => R (.error e) s') s₃
            else ∃ m,m < n /\ J m s₃) (notedBy (model prog w) A env fun e s' => R (.error e) s') s₂) (notedBy (model prog w) A env fun e s' => R (.error e) s') s₁') (notedBy (model prog w) A env fun e s' => R (.error e) s') s₁)
        (notedBy (model prog w) A env fun e s' => R (.error e) s') s) (n : Nat) (h : J n s) :
    codeAny (model prog w) A (.compLoop (.ListComp elt [⟨target,iter,ifs,0⟩] scope pos) 0 it acc env) R s := by
  refine codeAny_loop rfl J (fun n s hJ => ?_) n h
  show wpAny _ _ (Sem.onRaise (compTurn (.ListComp elt [⟨target,iter,ifs,0⟩] scope pos) 0 it acc env) fun x => do noteFrame x env; theTreesLotGoes x) _ _ _
  refine wpAny_noted ?_
  rw [compTurn_list]
  refine wpAny_bind (wpAny_standAt (wpAny_bind (thn (turn n s hJ) fun r s₁ h₁ => ?_)))
  cases r with
  | none => exact wpAny_pure h₁
  | some v =>
    refine wpAny_bind (thn h₁ fun _ s₁' h₁' => wpAny_bind (thn h₁' fun _ s₂ h₂ => wpAny_bind (thn h₂ fun ok s₃ h₃ => ?_)))
    cases ok with
    | true => exact wpAny_bind (wpAny_bind (thn h₃ fun x s₄ h₄ => wpAny_bind (thn h₄ fun _ s₅ h₅ => wpAny_pure (wpAny_pure ⟨rfl,h₅⟩))))
    | false => exact wpAny_pure ⟨rfl,h₃⟩
def CErr (X : Cx)(C : Addr)(e : Value)(s' : Shared) : Prop :=
  ∃ m,s'.heap.Ns C m /\ ∀ h',Heap.SameBut C s'.heap h' -> ∀ cenv : Env,cenv.locals = C -> wpAny (model X.prog X.w) X.A (passOn "comprehension.variables-let-go" e cenv : Sem Value) (fun _ _ => False) X.xe { s' with heap := h' }
def cxComp (X : Cx)(N : List Str)(scope : Scope)(cells : List (Str × Addr))(C : Addr)(fp : List Addr)(s : Shared)(H : Hp) : Cx where
  prog := X.prog
  w := X.w
  K := X.K
  mg := X.mg
  base := X.base
  A := X.A
  N := N
  s₀ := s
  H₀ := H
  env := compEnvC scope cells C X.env
  outer := X.stack
  stack := X.stack
  ex := fp
  fn := fun x => decide (scope.names.lookup x = some NameKind.cell)
  calm := X.calm
  pn := []
  xe := notedBy (model X.prog X.w) X.A (compEnvC scope cells C X.env) (CErr X C)
def capt (σ : St)(map : List (Option Nat)) : St := map.map fun o => o.bind fun i => (σ[i]?).join
def CapOk (X : Cx)(scope : Scope) : List (Option Nat) -> List Str -> Prop
  | [],[] => True
  | none :: m,_ :: n => CapOk X scope m n
  | some i :: m,x :: n => (X.N[i]? = some x /\ scope.names.lookup x = some .free /\ (scope.names.all fun p => !(p.1 == x && p.2 == NameKind.cell)) = true /\ (X.env.kindOf x = some .cell \/ X.env.kindOf x = some .free)) /\ CapOk X scope m n
  | _,_ => False
theorem CapOk.length {X : Cx}{scope : Scope} : ∀ {m : List (Option Nat)} {n : List Str},CapOk X scope m n -> m.length = n.length
  | [],[],_ => rfl
  | none :: m,_ :: n,h => by simp [CapOk.length (m := m) (n := n) h]
  | some i :: m,x :: n,h => by simp [CapOk.length (m := m) (n := n) h.2]
  | [],_ :: _,h => h.elim
  | some _ :: _,[],h => h.elim
  | none :: _,[],h => h.elim
theorem CapOk.get {X : Cx}{scope : Scope} : ∀ {m : List (Option Nat)} {n : List Str} {j i : Nat} {x : Str},CapOk X scope m n -> m[j]? = some (some i) -> n[j]? = some x ->
    X.N[i]? = some x /\ scope.names.lookup x = some .free /\ ¬ (x,NameKind.cell) ∈ scope.names /\ (X.env.kindOf x = some .cell \/ X.env.kindOf x = some .free)
  | [],[],_,_,_,_,e,_ => by simp at e
  | none :: m,_ :: n,0,_,_,_,e,_ => by simp at e
  | none :: m,_ :: n,j + 1,i,x,h,e,e' => CapOk.get (m := m) (n := n) (j := j) h (by simpa using e) (by simpa using e')
  | some k :: m,y :: n,0,i,x,h,e,e' => by
    have e1 : k = i := by simpa using e
    have e2 : y = x := by simpa using e'
    subst e1 e2
    obtain ⟨⟨h1,h2,h3,h4⟩,_⟩ := h
    refine ⟨h1,h2,fun hm => ?_,h4⟩
    have q := List.all_eq_true.mp h3 _ hm
    simp at q
  | some k :: m,y :: n,j + 1,i,x,h,e,e' => CapOk.get (m := m) (n := n) (j := j) h.2 (by simpa using e) (by simpa using e')
  | [],_ :: _,_,_,_,h,_,_ => h.elim
  | some _ :: _,[],_,_,_,h,_,_ => h.elim
  | none :: _,[],_,_,_,h,_,_ => h.elim
def GKeep (g : TG)(map : List (Option Nat)) : Prop := ∀ v σ H Q,g v σ H Q -> g v σ H fun σ' H' => (σ'.length = σ.length /\ ∀ j i : Nat,map[j]? = some (some i) -> σ'[j]? = σ[j]?) /\ Q σ' H'
def PIf (X : Cx)(ifs : List Expr)(t : TT) : Prop :=
  ∀ (pins : List (Addr × Obj)) (s : Shared) (σ : St) (H : Hp) (Q : Bool -> Hp -> Prop),Inv X pins σ H s -> t σ H Q -> wpAny (model X.prog X.w) X.A (tries ifs X.env) (TP X pins σ Q) X.xe s
def tTrue : TT := fun _ H Q => Q true H
theorem pif_nil {X : Cx} : PIf X [] tTrue := fun _ _ _ H _ I h => wpAny_pure ⟨H,I,h⟩
theorem lookup_relabel {env : Env}{x : Str}{k : NameKind} : ∀ {names : List (Str × NameKind)},
    (names.map fun (p : Str × NameKind) => match p with | (n,k) => if (k == NameKind.free && env.scope.kind == .function && env.kindOf n == some .cell) then (n,NameKind.cell) else (n,k)).lookup x = some k ->
    ∃ k',names.lookup x = some k' /\ (k' = k \/ (k' = .free /\ k = .cell))
  | [],h => by simp at h
  | (n,k') :: r,h => by
    rw [List.map_cons] at h
    by_cases hc : (k' == NameKind.free && env.scope.kind == .function && env.kindOf n == some .cell) = true
    · simp only [if_pos hc,List.lookup_cons] at h
      rw [List.lookup_cons]
      cases hx : x == n with
      | true =>
        rw [hx] at h
        cases h
        refine ⟨k',rfl,.inr ⟨?_,rfl⟩⟩
        simp only [Bool.and_eq_true,beq_iff_eq] at hc
        exact hc.1.1
      | false =>
        rw [hx] at h
        exact lookup_relabel h
    · simp only [if_neg hc,List.lookup_cons] at h
      rw [List.lookup_cons]
      cases hx : x == n with
      | true =>
        rw [hx] at h
        cases h
        exact ⟨_,rfl,.inl rfl⟩
      | false =>
        rw [hx] at h
        exact lookup_relabel h
theorem relabel_free {env : Env}{x : Str} : ∀ {names : List (Str × NameKind)},names.lookup x = some .free ->
    (names.map fun (p : Str × NameKind) => match p with | (n,k) => if (k == NameKind.free && env.scope.kind == .function && env.kindOf n == some .cell) then (n,NameKind.cell) else (n,k)).lookup x = some .cell \/
    (names.map fun (p : Str × NameKind) => match p with | (n,k) => if (k == NameKind.free && env.scope.kind == .function && env.kindOf n == some .cell) then (n,NameKind.cell) else (n,k)).lookup x = some .free
  | [],h => by simp at h
  | (n,k') :: r,h => by
    rw [List.map_cons]
    rw [List.lookup_cons] at h
    by_cases hc : (k' == NameKind.free && env.scope.kind == .function && env.kindOf n == some .cell) = true
    · simp only [if_pos hc,List.lookup_cons]
      cases hx : x == n with
      | true => exact .inl rfl
      | false =>
        rw [hx] at h
        exact relabel_free h
    · simp only [if_neg hc,List.lookup_cons]
      cases hx : x == n with
      | true =>
        rw [hx] at h
        cases h
        exact .inr rfl
      | false =>
        rw [hx] at h
        exact relabel_free h
end L2
set_option Elab.async false
set_option linter.all false
set_option maxRecDepth 100000
set_option maxHeartbeats 4000000
namespace L2
open PySem PySem.Spec PyProof.Rows
section
variable {X : Cx}{elt iter tg : Expr}{ifs : List Expr}{scope : Scope}{pos : Pos}{N' : List Str}{map : List (Option Nat)}{wi : TI}{g : TG}{tt : TT}{te : TE}
def Turns (J : It)(g : TG)(tt : TT)(te : TE)(σc : St)(Fin : List V -> Hp -> Prop)(W : Nat -> Nat -> List V -> Hp -> Prop) : Prop :=
  ∀ i m acc H2,W i m acc H2 -> (J.stop i H2 /\ acc.length <= sizeLine /\ Fin acc H2) \/
    (J.go i H2 /\ acc.length < sizeLine /\ ∃ N : List V -> Hp -> Prop,(∀ acc' H',N acc' H' -> ∃ m',m' < m /\ W (i + 1) m' acc' H') /\ ∀ x H3,J.yld i H2 x H3 -> g x σc H3 fun σ4 H4 => tt σ4 H4 fun b H5 => if b = true then te σ4 H5 fun v H6 => N (acc ++ [v]) H6 else N acc H5)
structure TurnG (R : Cx -> Prop)(P : Program)(w : World)(K : PySem.W.Frag)(tg : Expr)(J : It)(fp : List Addr)(it : Addr)(tn : Nat -> Heap -> Prop) : Prop where
  mem : it ∈ fp
  obj : ∀ i h,tn i h -> ∀ b ∈ fp,∃ o,h.get? b = some o /\ ∀ v,o.data ≠ .cell v
  keep : ∀ i h h',tn i h -> (∀ b ∈ fp,∀ o,h.get? b = some o -> h'.get? b = some o) -> tn i h'
  item : ∀ (X : Cx),X.prog = P -> X.w = w -> X.K = K -> R X -> ∀ (i : Nat) (pins : List (Addr × Obj)) (s : Shared) (σ : St) (H : Hp) (E : Value -> Shared -> Prop),Inv X pins σ H s -> (∀ b ∈ fp,FpOk X pins H b) -> tn i s.heap -> J.go i H -> wpAny (model P w) X.A (pyNext (.ref it)) (fun r s1 => ∃ u,r = some u /\
      wpAny (model P w) X.A (letOwnedTupleGo tg (.ref it) u) (fun _ s2 => ∃ x H',Inv X pins σ H' s2 /\ RelV x u /\ J.yld i H x H' /\ tn (i + 1) s2.heap /\ ∀ b ∈ fp,H' b = none) E s1) E s
  done : ∀ (X : Cx),X.prog = P -> X.w = w -> X.K = K -> R X -> ∀ (i : Nat) (pins : List (Addr × Obj)) (s : Shared) (σ : St) (H : Hp) (E : Value -> Shared -> Prop),Inv X pins σ H s -> (∀ b ∈ fp,FpOk X pins H b) -> tn i s.heap -> J.stop i H -> wpAny (model P w) X.A (pyNext (.ref it)) (fun r s1 => r = none /\ Inv X pins σ H s1) E s
  self : ∀ (A : Around) (i : Nat) (s : Shared) (Q : Value -> Shared -> Prop) (E : Value -> Shared -> Prop),tn i s.heap -> Q (.ref it) s -> wpAny (model P w) A (pyIter (.ref it)) Q E s
theorem Turn.gen {P : Program}{w : World}{K : PySem.W.Frag}{tg : Expr}{J : It}{fp : List Addr}{it : Addr}{tn : Nat -> Heap -> Prop}(T : Turn P w K tg J fp it tn) : TurnG (fun X => X.calm = true) P w K tg J fp it tn := ⟨T.mem,T.obj,T.keep,T.item,T.done,T.self⟩
def CompIn (X : Cx)(C : Addr)(fp : List Addr)(s : Shared)(H : Hp) : Prop := ∃ pins σ,Inv X pins σ H s /\ (∀ b ∈ fp,FpOk X pins H b) /\ s.heap.objs.size <= C
structure BlkM (X : Cx)(N' : List Str)(scope : Scope)(map : List (Option Nat))(tg elt : Expr)(ifs : List Expr)(g : TG)(tt : TT)(te : TE) : Prop where
  kind : scope.kind = .function
  loc : ∀ x ∈ scope.names,x.2 = .local -> scope.names.lookup x.1 = some .local
  free : (scope.names.all fun p => !(p.2 == NameKind.free) || (X.env.kindOf p.1 == some .cell || X.env.kindOf p.1 == some .free)) = true
  cap : CapOk X scope map N'
  keep : GKeep g map
  run : ∀ cells C fp s H,CompIn X C fp s H -> PG (cxComp X N' scope cells C fp s H) tg g /\ PIf (cxComp X N' scope cells C fp s H) ifs tt /\ PE (cxComp X N' scope cells C fp s H) elt te
structure Blk (X : Cx)(N' : List Str)(scope : Scope)(map : List (Option Nat))(tg elt : Expr)(ifs : List Expr)(g : TG)(tt : TT)(te : TE) : Prop where
  calm : X.calm = true
  kind : scope.kind = .function
  loc : ∀ x ∈ scope.names,x.2 = .local -> scope.names.lookup x.1 = some .local
  free : (scope.names.all fun p => !(p.2 == NameKind.free) || (X.env.kindOf p.1 == some .cell || X.env.kindOf p.1 == some .free)) = true
  cap : CapOk X scope map N'
  keep : GKeep g map
  run : ∀ cells C fp s H,CompIn X C fp s H -> PG (cxComp X N' scope cells C fp s H) tg g /\ PIf (cxComp X N' scope cells C fp s H) ifs tt /\ PE (cxComp X N' scope cells C fp s H) elt te
theorem Blk.m (B : Blk X N' scope map tg elt ifs g tt te) : BlkM X N' scope map tg elt ifs g tt te := ⟨B.kind,B.loc,B.free,B.cap,B.keep,B.run⟩
theorem blk_inv {pins : List (Addr × Obj)}{σ : St}{H1 : Hp}{s2 : Shared}{cl : List (Str × Addr)}{fp : List Addr}(I : Inv X pins σ H1 s2)(B : BlkM X N' scope map tg elt ifs g tt te)
    (hsub : ∀ x c,cl.lookup x = some c -> X.env.cells.lookup x = some c) (hhas : ∀ x,(x,NameKind.free) ∈ scope.names -> (cl.lookup x).isSome = true)
    (hf : ∀ b ∈ fp,FpOk X pins H1 b) (hfo : ∀ b ∈ fp,∃ o,s2.heap.get? b = some o) (C : Addr) (h3 : Heap) (hC : s2.heap.objs.size <= C) (k3 : ∀ b o,s2.heap.get? b = some o -> h3.get? b = some o) (hCsz : C < h3.objs.size) (hns : h3.Ns C fun _ => none) (tk : Nat) :
    Inv (cxComp X N' scope (cellsFrom h3.objs.size scope.names cl) C fp s2 H1) [] (capt σ map) H1 { s2 with heap := pushCells h3 scope.names,toks := tk } := by
  have kk : ∀ b o,s2.heap.get? b = some o -> (pushCells h3 scope.names).get? b = some o := fun b o e => pushCells_keeps _ _ b o (k3 b o e)
  have fsz : ∀ b ∈ fp,b < s2.heap.objs.size := fun b hb => by obtain ⟨o,e⟩ := hfo b hb; exact Heap.lt_size e
  have clz : ∀ x c,cl.lookup x = some c -> c < s2.heap.objs.size := fun x c e => by
    obtain ⟨v,o,ho,_⟩ := I.cell x c (hsub x c e)
    exact Heap.lt_size ho
  have h3sz : s2.heap.objs.size < h3.objs.size := Nat.lt_of_le_of_lt hC hCsz
  have cof : ∀ x c,(cellsFrom h3.objs.size scope.names cl).lookup x = some c -> X.env.cells.lookup x = some c \/ h3.objs.size <= c := fun x c e => (cf_of _ _ _ x c e).imp (hsub x c) id
  have cnb : ∀ x c,(cellsFrom h3.objs.size scope.names cl).lookup x = some c -> ∀ b ∈ fp,c ≠ b := fun x c e b hb z => by
    rcases cof x c e with q | q
    · exact (hf b hb).2.2.2.2.1 x c q z
    · have h1 := fsz b hb
      rw [<- z] at h1
      exact absurd (Nat.lt_of_lt_of_le (Nat.lt_trans h1 h3sz) q) (Nat.lt_irrefl _)
  have fnf : ∀ b ∈ fp,b ∉ frs X.stack := fun b hb hm => by
    obtain ⟨_,f1,f2,_⟩ := hf b hb
    rcases List.mem_cons.mp (I.stkSub b hm) with z | z
    · exact f1 z
    · exact f2 z
  have cellI : ∀ x c,(cellsFrom h3.objs.size scope.names cl).lookup x = some c -> ∃ v,(pushCells h3 scope.names).IsCell c v := fun x c e =>
    cf_cell scope.names h3 cl (fun x' c' q => by
      obtain ⟨v,w⟩ := I.cell x' c' (hsub x' c' q)
      exact ⟨v,w.keeps k3⟩) x c e
  have hC0 : H1 C = none := I.hok.fresh hC
  have ok : (cxComp X N' scope (cellsFrom h3.objs.size scope.names cl) C fp s2 H1).Ok :=
    { mod := I.ok.mod
      kind := B.kind
      glob := I.ok.glob
      blt := I.ok.blt
      above := hC
      inj := cf_inj scope.names h3.objs.size cl (fun x c e => Nat.lt_trans (clz x c e) h3sz) fun x y c e1 e2 => I.ok.inj x y c (hsub x c e1) (hsub y c e2)
      has := fun x hx => by
        have hx : (relabel scope X.env).names.lookup x = some .cell \/ (relabel scope X.env).names.lookup x = some .free := hx
        have goal : (scope.names.lookup x = some .cell \/ (cl.lookup x).isSome = true) := by
          rcases hx with q | q
          · obtain ⟨k',e1,e2⟩ := lookup_relabel q
            rcases e2 with z | ⟨z,_⟩
            · exact .inl (by rw [e1,z])
            · exact .inr (hhas x (PySem.mem_of_lookup (by rw [e1,z])))
          · obtain ⟨k',e1,e2⟩ := lookup_relabel q
            rcases e2 with z | ⟨z,z'⟩
            · exact .inr (hhas x (PySem.mem_of_lookup (by rw [e1,z])))
            · cases z'
        exact Option.isSome_iff_exists.mp (PySem.W.cellsFrom_some scope.names h3.objs.size cl goal)
      cab := fun x c hx e => Nat.le_of_lt (Nat.lt_of_lt_of_le h3sz (cf_own scope.names h3.objs.size cl (Nat.le_refl _) (PySem.mem_of_lookup (of_decide_eq_true hx)) c e))
      hd := I.ok.hd
      frames := I.ok.frames
      stk := .inl rfl
      exf := fun b hb => ⟨fun z => absurd (fsz b hb) (by rw [z]; exact Nat.not_lt.mpr hC),fun x c e => cnb x c e b hb⟩
      bs := I.bs
      bsz := Nat.le_trans I.ok.bsz I.sz
      noex := fun b o e hb => by
        rcases (hf b hb).2.2.2.1 with z | z
        · exact I.ok.noex b o e z
        · exact absurd (Heap.lt_size (I.ok.bs b o e).1) (Nat.not_lt.mpr z)
      exfs := fnf
      funs := I.stack
      frf := I.stkFree }
  refine ⟨ok,rfl,I.bare,Un.kept kk,⟨fun _ => none,hns.keeps fun b o e => pushCells_keeps _ _ b o e,fun j x v e1 e2 e3 => ?_⟩,cellI,hC0,fun x c e => ?_,fun p hp => absurd (show p ∈ ([] : List (Addr × Obj)) from hp) (by simp),I.hok.kept kk,?_⟩
  · have e2' : (capt σ map)[j]? = some (some v) := e2
    unfold capt at e2'
    rw [List.getElem?_map] at e2'
    cases hm : map[j]? with
    | none => rw [hm] at e2'; cases e2'
    | some o =>
      rw [hm] at e2'
      cases o with
      | none => simp at e2'
      | some i =>
        have e2'' : (σ[i]?).join = some v := by simpa using e2'
        have hσ : σ[i]? = some (some v) := by
          cases q : σ[i]? with
          | none => rw [q] at e2''; cases e2''
          | some o' =>
            rw [q] at e2''
            have : o' = some v := by simpa using e2''
            rw [this]
        obtain ⟨c1,c2,c3,c4⟩ := B.cap.get hm e1
        obtain ⟨m,hn,hl⟩ := I.loc
        have vis : Vis X.env.scope x := by
          rcases c4 with z | z
          · exact .inr (.inl z)
          · exact .inr (.inr z)
        obtain ⟨u,r,l⟩ := hl i x v c1 hσ vis
        refine ⟨u,r,?_⟩
        rcases l with ⟨z,_⟩ | ⟨_,c,ec,hcell⟩
        · rcases c4 with q | q
          · rw [q] at z; cases z
          · rw [q] at z; cases z
        · right
          refine ⟨relabel_free c2,c,?_,hcell.keeps kk⟩
          show (cellsFrom h3.objs.size scope.names cl).lookup x = some c
          rw [cf_not _ _ _ c3]
          obtain ⟨c',hc'⟩ := Option.isSome_iff_exists.mp (hhas x (PySem.mem_of_lookup c2))
          have := hsub x c' hc'
          rw [ec] at this
          cases this
          exact hc'
  · rcases cof x c e with q | q
    · exact I.freeC x c q
    · exact I.hok.fresh (Nat.le_trans (Nat.le_of_lt h3sz) q)
  · show (capt σ map).length = N'.length
    unfold capt
    rw [List.length_map]
    exact B.cap.length
theorem blk_run {pins : List (Addr × Obj)}{σ : St}{H1 : Hp}{s2 : Shared}{cl : List (Str × Addr)}{fp : List Addr}{it : Addr}{tn : Nat -> Heap -> Prop}{J : It}{E : Value -> Shared -> Prop}(I : Inv X pins σ H1 s2)(B : BlkM X N' scope map tg elt ifs g tt te)
    (hsub : ∀ x c,cl.lookup x = some c -> X.env.cells.lookup x = some c) (hhas : ∀ x,(x,NameKind.free) ∈ scope.names -> (cl.lookup x).isSome = true)
    {R : Cx -> Prop} (hR : ∀ cells C fp s H,R (cxComp X N' scope cells C fp s H)) (T : TurnG R X.prog X.w X.K tg J fp it tn) (st : tn 0 s2.heap) (hf : ∀ b ∈ fp,FpOk X pins H1 b) {Fin : List V -> Hp -> Prop} {W : Nat -> Nat -> List V -> Hp -> Prop} {m0 : Nat} (w0 : W 0 m0 [] H1) (ht : Turns J g tt te (capt σ map) Fin W)
    {RR : Value -> Addr -> Result -> Shared -> Prop}
    (hOk : ∀ D C acc H' s' m,Inv X pins σ (upd H' D (.lst acc)) s' -> H' D = none -> s'.heap.Ns C m -> upd H' D (.lst acc) C = none -> C ≠ X.env.locals -> X.s₀.heap.objs.size <= C -> (∀ x c,X.env.cells.lookup x = some c -> c ≠ C) -> (∀ p ∈ X.pn ++ pins,p.1 ≠ C) -> Fin acc H' -> RR (.ref D) C (.ok .next) s')
    (hErr : ∀ D C e s',CErr X C e s' -> RR (.ref D) C (.error e) s') :
    wpAny (model X.prog X.w) X.A (newList []) (fun acc s3 => wpAny (model X.prog X.w) X.A (newFunctionEnv scope X.env.globals cl [] X.env.qual none .none (some X.env)) (fun cenv s4 =>
      codeAny (model X.prog X.w) X.A (.compStart (.ListComp elt [⟨tg,iter,ifs,0⟩] scope pos) 0 (.ref it) acc { cenv with scope := relabel scope X.env }) (RR acc cenv.locals) s4) E s3) E s2 := by
  have fo : ∀ b ∈ fp,∃ o,s2.heap.get? b = some o := fun b hb => by obtain ⟨o,e,_⟩ := T.obj 0 _ st b hb; exact ⟨o,e⟩
  refine wpAny_newObj_type ?_
  generalize hH2 : s2.heap.push { cls := .type "list",dict := none,data := .seq ([] : List Value).toArray } = H2
  have szD : H2.objs.size = s2.heap.objs.size + 1 := by rw [<- hH2,Heap.size_push]
  have kD : ∀ b o,s2.heap.get? b = some o -> H2.get? b = some o := fun b o e => hH2 ▸ Heap.get?_push_of_some _ e
  simp only [newFunctionEnv,Option.isSome_some,if_true]
  refine wpAny_bind (wpAny_alloc ?_)
  refine wpAny_bind (wpAny_layCells _ (fun name kind cells => by cases hkc : kind == NameKind.cell <;> simp [hkc]) _ _ _ _ ?_)
  dsimp only
  generalize hH3 : H2.push { cls := .type "dict",dict := none,data := .dict #[] } = h3
  have sz3 : h3.objs.size = H2.objs.size + 1 := by rw [<- hH3,Heap.size_push]
  have kC : ∀ b o,H2.get? b = some o -> h3.get? b = some o := fun b o e => hH3 ▸ Heap.get?_push_of_some _ e
  have nsC : h3.Ns H2.objs.size fun _ => none := hH3 ▸ Heap.Ns.new H2 (.type "dict")
  refine wpAny_bind (wpAny_pure (wpAny_pure ?_))
  show codeAny _ _ (.compStart (.ListComp elt [⟨tg,iter,ifs,0⟩] scope pos) 0 (.ref it) (.ref s2.heap.objs.size) (compEnvC scope (cellsFrom h3.objs.size scope.names cl) H2.objs.size X.env)) _ _
  generalize hX' : cxComp X N' scope (cellsFrom h3.objs.size scope.names cl) H2.objs.size fp s2 H1 = X'
  have I4 : Inv X' [] (capt σ map) H1 { s2 with heap := pushCells h3 scope.names } := hX' ▸ blk_inv I B hsub hhas hf fo H2.objs.size h3 (by rw [szD]; exact Nat.le_succ _) (fun b o e => kC b o (kD b o e)) (by rw [sz3]; exact Nat.lt_succ_self _) nsC s2.toks
  obtain ⟨pg,pif,pel⟩ := B.run (cellsFrom h3.objs.size scope.names cl) H2.objs.size fp s2 H1 ⟨pins,σ,I,hf,by rw [szD]; exact Nat.le_succ _⟩
  rw [hX'] at pg pif pel
  have eprog : X'.prog = X.prog := by rw [<- hX']; rfl
  have ew : X'.w = X.w := by rw [<- hX']; rfl
  have eK : X'.K = X.K := by rw [<- hX']; rfl
  have eA : X'.A = X.A := by rw [<- hX']; rfl
  have ecalm : R X' := by rw [<- hX']; exact hR _ _ _ _ _
  have eenv : X'.env = compEnvC scope (cellsFrom h3.objs.size scope.names cl) H2.objs.size X.env := by rw [<- hX']; rfl
  have exe : X'.xe = notedBy (model X.prog X.w) X.A (compEnvC scope (cellsFrom h3.objs.size scope.names cl) H2.objs.size X.env) (CErr X H2.objs.size) := by rw [<- hX']; rfl
  have es0 : X'.s₀ = s2 := by rw [<- hX']; rfl
  have eH0 : X'.H₀ = H1 := by rw [<- hX']; rfl
  have eex : X'.ex = fp := by rw [<- hX']; rfl
  have efs : X'.fs = frs X.stack := by rw [<- hX']; rfl
  have epn : X'.pn = [] := by rw [<- hX']; rfl
  have eL : X'.env.locals = H2.objs.size := by rw [eenv]; rfl
  generalize hDd : s2.heap.objs.size = D at *
  have fD : ∀ b ∈ fp,b ≠ D := fun b hb => by obtain ⟨o,e⟩ := fo b hb; exact Nat.ne_of_lt (hDd ▸ Heap.lt_size e)
  have nfsD : D ∉ X'.fs := fun hb => by
    rw [efs] at hb
    have h1 := I.stkSub D hb
    rcases List.mem_cons.mp h1 with z | z
    · have := I.lt; rw [hDd,<- z] at this; exact Nat.lt_irrefl _ this
    · exact I.nofs (by rw [hDd]; exact Nat.le_refl _) z
  have ncD : ∀ x c,X'.env.cells.lookup x = some c -> c ≠ D := fun x c e z => by
    rw [eenv] at e
    rcases cf_of _ _ _ x c e with q | q
    · obtain ⟨v,o,ho,_⟩ := I.cell x c (hsub x c q)
      have := Heap.lt_size ho
      rw [hDd,z] at this
      exact Nat.lt_irrefl _ this
    · rw [z,sz3,szD] at q
      exact absurd (Nat.lt_of_lt_of_le (Nat.lt_succ_of_lt (Nat.lt_succ_self D)) q) (Nat.lt_irrefl _)
  have f4 : ∀ {H' : Hp} {pl : List (Addr × Obj)},(∀ b ∈ fp,H' b = none) -> (∀ p ∈ pl,p.1 = D) -> ∀ b ∈ fp,FpOk X' pl H' b := fun {H' pl} hn hpl b hb => by
    have q := hf b hb
    refine ⟨hn b hb,?_,?_,.inl (by rw [eex]; exact hb),fun x c e => ?_,fun p hp => ?_⟩
    · rw [eL]
      obtain ⟨o,e⟩ := fo b hb
      have := Heap.lt_size e
      rw [hDd] at this
      intro z
      rw [z,szD] at this
      exact absurd (Nat.lt_of_succ_lt this) (Nat.lt_irrefl _)
    · have := I4.ok.exfs b (by rw [eex]; exact hb)
      exact this
    · exact (I4.ok.exf b (by rw [eex]; exact hb)).2 x c e
    · rw [epn] at hp
      have hp : p ∈ pl := by simpa using hp
      rw [hpl p hp]
      exact (fD b hb).symm
  have noCell : ∀ {its : Array Value} {n : Nat} (v : Option Value),({ cls := .type "list",data := .seq its n } : Obj).data ≠ .cell v := fun v z => by cases z
  have hD4 : (pushCells h3 scope.names).get? D = some { cls := .type "list",data := .seq ([] : List Value).toArray 0 } := pushCells_keeps _ _ _ _ (kC _ _ (by rw [<- hH2,<- hDd]; exact Heap.get?_push_size _ rfl))
  have loop : codeAny (model X.prog X.w) X.A (.compLoop (.ListComp elt [⟨tg,iter,ifs,0⟩] scope pos) 0 (.ref it) (.ref D) (compEnvC scope (cellsFrom h3.objs.size scope.names cl) H2.objs.size X.env)) (RR (.ref D) H2.objs.size) { s2 with heap := pushCells h3 scope.names } := by
    refine compLoop_any (fun n s' => ∃ i acc H' its k,Inv X' [] (capt σ map) H' s' /\ tn i s'.heap /\ (∀ b ∈ fp,H' b = none) /\ H' D = none /\ s'.heap.get? D = some { cls := .type "list",data := .seq (List.toArray its) k } /\ Vals acc its /\ W i n acc H') ?_ m0
      ⟨0,[],H1,[],0,I4,T.keep _ _ _ st fun b hb o e => pushCells_keeps _ _ _ _ (kC _ _ (kD _ _ e)),fun b hb => (hf b hb).1,I.hok.fresh (by rw [hDd]; exact Nat.le_refl _),hD4,.nil,w0⟩
    rintro n s5 ⟨i,acc,H5,its,k,I5,st5,fr5,hD5,oD5,rv5,w5⟩
    have pinD : Inv X' [(D,{ cls := .type "list",data := .seq (List.toArray its) k })] (capt σ map) H5 s5 := I5.pins_of fun p hp => by
      have e : p = (D,{ cls := .type "list",data := .seq (List.toArray its) k }) := by simpa using hp
      subst e
      refine ⟨oD5,hD5,?_,nfsD,fun v => noCell v⟩
      rw [eL,szD]
      exact Nat.ne_of_lt (Nat.lt_succ_self _)
    have plD : ∀ p ∈ [(D,({ cls := .type "list",data := .seq (List.toArray its) k } : Obj))],p.1 = D := fun p hp => by
      have e : p = (D,{ cls := .type "list",data := .seq (List.toArray its) k }) := by simpa using hp
      rw [e]
    have err : ∀ e s',X'.xe e s' -> notedBy (model X.prog X.w) X.A (compEnvC scope (cellsFrom h3.objs.size scope.names cl) H2.objs.size X.env) (fun e s' => RR (.ref D) H2.objs.size (.error e) s') e s' := fun e s' he => by
      rw [exe] at he
      exact wpAny_mono he (fun _ s'' q => hErr D _ e s'' q) fun e'' s'' q => hErr D _ e'' s'' q
    rcases ht i n acc H5 w5 with ⟨stop,hsz,fin⟩ | ⟨go,hsz,NN,hNN,step⟩
    · have dn := T.done X' eprog ew eK ecalm i _ s5 (capt σ map) H5 (notedBy (model X.prog X.w) X.A (compEnvC scope (cellsFrom h3.objs.size scope.names cl) H2.objs.size X.env) fun e s' => RR (.ref D) H2.objs.size (.error e) s') pinD (f4 fr5 plD) st5 stop
      rw [eA] at dn
      refine thn dn fun r s6 ⟨hr,I6⟩ => ?_
      subst hr
      obtain ⟨oD6,hD6,_⟩ := I6.pin (D,_) (by rw [epn]; exact List.mem_cons_self)
      obtain ⟨m,nsm,_⟩ := I6.loc
      rw [eL] at nsm
      have un := I6.base
      rw [efs,eex,eH0,es0] at un
      have hok := I6.hok
      rw [eprog,ew] at hok
      have os6 := I6.os
      rw [es0] at os6
      have fC : H5 H2.objs.size = none := by rw [<- eL]; exact I6.free
      have nDC : H2.objs.size ≠ D := by rw [szD]; exact Nat.ne_of_gt (Nat.lt_succ_self _)
      refine hOk D H2.objs.size acc H5 s6 m (I.call' (ch := fp) os6 ?_ ?_ I6.bare fun b hb => ?_) hD5 nsm (by rw [upd_ne nDC]; exact fC) ?_ ?_ ?_ ?_ fin
      · refine ⟨un.keep,un.slot,fun b o e n hx => ?_,un.there,fun b xs e => ?_,fun b o u e => ?_,fun b ps e => ?_⟩
        · rw [upd_ne (Nat.ne_of_lt (hDd ▸ Heap.lt_size e))]
          exact un.free b o e n hx
        · have := un.tups b xs e
          rw [upd_ne (ne_of_none this hD5)]
          exact this
        · have := un.frzs b o u e
          rw [upd_ne (ne_of_none this hD5)]
          exact this
        · obtain ⟨more,this⟩ := un.tbls b ps e
          exact ⟨more,by rw [upd_ne (ne_of_none this hD5)]; exact this⟩
      · intro b o e
        by_cases hb : b = D
        · subst hb
          rw [upd_same] at e
          cases e
          exact ⟨hsz,its,k,rv5,oD6⟩
        · rw [upd_ne hb] at e
          exact (hok b o e).stay (fun _ _ _ q => q) (fun c q => by rw [upd_ne (ne_of_none q hD5)]; exact q) fun c xs q => by rw [upd_ne (ne_of_none q hD5)]; exact q
      · obtain ⟨f0,f1,f2,f3,f4',f5⟩ := hf b hb
        exact ⟨f3,f1,f4',f5⟩
      · have := I.lt
        rw [hDd] at this
        intro z
        rw [<- z,szD] at this
        exact absurd (Nat.lt_of_succ_lt this) (Nat.lt_irrefl _)
      · have := I.sz
        rw [hDd] at this
        omega
      · intro x c e z
        obtain ⟨v,o,ho,_⟩ := I.cell x c e
        have := Heap.lt_size ho
        rw [hDd,z,szD] at this
        exact absurd (Nat.lt_of_succ_lt this) (Nat.lt_irrefl _)
      · intro p hp z
        have := Heap.lt_size (I.pin p hp).1
        rw [hDd,z,szD] at this
        exact absurd (Nat.lt_of_succ_lt this) (Nat.lt_irrefl _)
    · have im := T.item X' eprog ew eK ecalm i _ s5 (capt σ map) H5 (notedBy (model X.prog X.w) X.A (compEnvC scope (cellsFrom h3.objs.size scope.names cl) H2.objs.size X.env) fun e s' => RR (.ref D) H2.objs.size (.error e) s') pinD (f4 fr5 plD) st5 go
      rw [eA] at im
      refine thn im fun r s6 ⟨u,hr,h6⟩ => ?_
      subst hr
      refine thn h6 fun _ s7 ⟨x,H7,I7,r7,y7,st7,fr7⟩ => ?_
      have I7' := I7.pinned (f4 fr7 plD) (T.obj _ _ st7)
      have stp := B.keep _ _ _ _ (step x H7 y7)
      have pgx := pg _ s7 (capt σ map) H7 x u _ I7' r7 stp
      rw [eprog,ew,eA,eenv] at pgx
      refine wpAny_mono pgx (fun _ s8 ⟨σ8,H8,I8,⟨kl,k8⟩,q8⟩ => ?_) err
      have pix := pif _ s8 σ8 H8 _ I8 q8
      rw [eprog,ew,eA,eenv] at pix
      refine wpAny_mono pix (fun b s9 ⟨H9,I9,q9⟩ => ?_) err
      have wk : ∀ {σa : St} {Ha : Hp} {sa : Shared},σa = σ8 -> Inv X' ([(D,({ cls := .type "list",data := .seq (List.toArray its) k } : Obj))] ++ pinsAt fp s7.heap) σa Ha sa ->
          Inv X' [] (capt σ map) Ha sa /\ tn (i + 1) sa.heap /\ (∀ b ∈ fp,Ha b = none) /\ Ha D = none /\ sa.heap.get? D = some { cls := .type "list",data := .seq (List.toArray its) k } := fun {σa Ha sa} ea Ia => by
        subst ea
        refine ⟨(Ia.pins_of (pins' := []) fun p hp => absurd hp (by simp)).weak kl.symm fun j v e => ?_,T.keep _ _ _ st7 fun b hb o e => (Ia.pin (b,o) (List.mem_append_right _ (List.mem_append_right _ (mem_pinsAt hb e)))).1,fun b hb => ?_,?_,?_⟩
        · have e' := e
          unfold capt at e'
          rw [List.getElem?_map] at e'
          cases hm : map[j]? with
          | none => rw [hm] at e'; cases e'
          | some o =>
            rw [hm] at e'
            cases o with
            | none => simp at e'
            | some i' => rw [k8 j i' hm]; exact e
        · obtain ⟨o,e,d⟩ := T.obj _ _ st7 b hb
          exact (Ia.pin (b,o) (List.mem_append_right _ (List.mem_append_right _ (mem_pinsAt hb e)))).2.1
        · exact (Ia.pin (D,_) (List.mem_append_right _ (List.mem_append_left _ List.mem_cons_self))).2.1
        · exact (Ia.pin (D,_) (List.mem_append_right _ (List.mem_append_left _ List.mem_cons_self))).1
      cases b with
      | false =>
        rw [if_neg Bool.false_ne_true] at q9 ⊢
        obtain ⟨m',hm',w9⟩ := hNN _ _ q9
        obtain ⟨a1,a2,a3,a4,a5⟩ := wk rfl I9
        exact ⟨m',hm',i + 1,acc,H9,its,k,a1,a2,a3,a4,a5,rv5,w9⟩
      | true =>
        rw [if_pos rfl] at q9 ⊢
        have pex := pel _ s9 σ8 H9 _ I9 q9
        rw [eprog,ew,eA,eenv] at pex
        refine wpAny_mono pex (fun v s10 ⟨y,H10,I10,r10,q10⟩ => ?_) err
        obtain ⟨m',hm',w10⟩ := hNN _ _ q10
        obtain ⟨a1,a2,a3,a4,a5⟩ := wk rfl I10
        have hl := rv5.length
        refine wpAny_list_append_plain (items := List.toArray its) ⟨k,a5⟩ (fun h11 pl11 sb11 => ?_) (by simp only [List.size_toArray]; omega)
        obtain ⟨k',e11⟩ := pl11
        refine ⟨m',hm',i + 1,acc ++ [y],H10,its ++ [v],k',a1.turned (t' := s10.toks) (it := D) (fun b o hb e => (sb11.2 b hb).trans e) a4 ?_ (.inr (by rw [es0,hDd]; exact Nat.le_refl _)) ncD (fun p hp => absurd hp (by rw [epn]; simp)),T.keep _ _ _ a2 fun b hb o e => (sb11.2 b (fD b hb)).trans e,a3,a4,?_,rv5.append (.cons r10 .nil),w10⟩
        · rw [eL,szD]
          exact Nat.ne_of_lt (Nat.lt_succ_self _)
        · rw [e11,List.push_toArray]
  exact codeAny_compStart_list loop (T.self _ 0 _ _ _ (T.keep _ _ _ st fun b hb o e => pushCells_keeps _ _ _ _ (kC _ _ (kD _ _ e))) loop)
theorem Blk.clos {pins : List (Addr × Obj)}{σ : St}{H : Hp}{s : Shared}(B : Blk X N' scope map tg elt ifs g tt te)(I : Inv X pins σ H s) :
    ∃ cl,closureFor scope X.env = pure cl /\ (∀ x c,cl.lookup x = some c -> X.env.cells.lookup x = some c) /\ ∀ x,(x,NameKind.free) ∈ scope.names -> (cl.lookup x).isSome = true :=
  closureFor_ok fun x hx => I.ok.has x (by
    have q := List.all_eq_true.mp B.free _ hx
    simpa using q)
def tComp (wi : TI)(map : List (Option Nat))(g : TG)(tt : TT)(te : TE) : TE := fun σ H Q => wi σ H fun J H1 => ∃ W : Nat -> Nat -> List V -> Hp -> Prop,(∃ m,W 0 m [] H1) /\
  Turns J g tt te (capt σ map) (fun acc H' => ∀ D,H' D = none -> Q (.ref D) (upd H' D (.lst acc))) W
theorem pe_comp (B : Blk X N' scope map tg elt ifs g tt te)(hi : PI X tg iter wi)(hs : ∀ x,foldedSetIterable iter X.env x = pure x := by intro _; rfl) : PE X (.ListComp elt [⟨tg,iter,ifs,0⟩] scope pos) (tComp wi map g tt te) := by
  intro pins s σ H Q I h
  obtain ⟨cl,hcl,hsub,hhas⟩ := B.clos I
  rw [eval_ListComp]
  refine wpAny_comprehension_free (use := none) rfl hs hcl B.kind B.loc (thn (hi pins s σ H _ I h) fun v s1 h1 => thn h1 fun itv s2 h2 => ?_)
  obtain ⟨it,fp,tn,J,H2,e,I2,T,st2,f2,W,⟨m0,w0⟩,turn⟩ := h2
  subst e
  refine blk_run (RR := fun acc C => compPost (model X.prog X.w) X.A X.xe none (EP X pins σ Q) acc C) I2 B.m hsub hhas (R := fun X => X.calm = true) (fun _ _ _ _ _ => B.calm) T.gen st2 f2 w0 turn (fun D C acc H' s' m I' hD nsm fC c1 c2 c3 c4 fin => ?_) fun D C e s' z => z
  refine ⟨m,nsm,fun h' sb => ⟨.ref D,_,?_,rfl,fin D hD⟩⟩
  exact I'.turned (t' := s'.toks) (fun b o hb e => (sb.2 b hb).trans e) fC c1 (.inr c2) c3 c4
def tSetComp (i : Nat)(wi : TI)(map : List (Option Nat))(g : TG)(tt : TT)(te : TE) : TS := fun D σ H => wi σ H fun J H1 => ∃ W : Nat -> Nat -> List V -> Hp -> Prop,(∃ m,W 0 m [] H1) /\
  Turns J g tt te (capt σ map) (fun acc H' => ∀ d,H' d = none -> D.nx (σ.set i (some (.ref d))) (upd H' d (.lst acc))) W
theorem ps_setComp {i : Nat}{y : Str}{py spos : Pos}(hN : X.N.Nodup)(hiN : X.N[i]? = some y)(hy : Loc X.env.scope y)(B : Blk X N' scope map tg elt ifs g tt te)(hi : PI X tg iter wi)
    (hsw : swapsWith (.ListComp elt [⟨tg,iter,ifs,0⟩] scope pos) (some (.Name y py)) spos.line X.env = pure true := by rfl) (hfn : X.fn y = true \/ X.env.scope.names.lookup y = some .local := by first | exact .inl rfl | exact .inr rfl)
    (hs : ∀ x,foldedSetIterable iter X.env x = pure x := by intro _; rfl) : PS X (.Assign [.Name y py] (.ListComp elt [⟨tg,iter,ifs,0⟩] scope pos) spos) (tSetComp i wi map g tt te) := by
  intro pins s σ H D I h
  obtain ⟨cl,hcl,hsub,hhas⟩ := B.clos I
  rw [exec_Assign_Name_used _ _ _ _ hsw]
  refine wpAny_bind (wpAny_standAt (wpAny_bind ?_))
  show wpAny _ _ (do let _ <- comprehension (.ListComp elt [⟨tg,iter,ifs,0⟩] scope pos) scope X.env _ (newList []) false (eval iter X.env) (some (assign (.Name y py) X.env))) _ _ _
  refine wpAny_bind (thn (wpAny_comprehension_free (use := some (assign (.Name y py) X.env)) (Q := fun _ s' => SP X pins D .next s') rfl hs hcl B.kind B.loc (thn (hi pins s σ H _ I h) fun v s1 h1 => thn h1 fun itv s2 h2 => ?_)) fun _ s' hq => wpAny_pure (wpAny_pure hq))
  obtain ⟨it,fp,tn,J,H2,e,I2,T,st2,f2,W,⟨m0,w0⟩,turn⟩ := h2
  subst e
  refine blk_run (RR := fun acc C => compPost (model X.prog X.w) X.A X.xe (some (assign (.Name y py) X.env)) (fun _ s' => SP X pins D .next s') acc C) I2 B.m hsub hhas (R := fun X => X.calm = true) (fun _ _ _ _ _ => B.calm) T.gen st2 f2 w0 turn (fun d C acc H' s' m I' hD nsm fC c1 c2 c3 c4 fin => ?_) fun D C e s' z => z
  refine wpAny_assign_Name (store_ok2 I' hN hiN hy (v := .ref d) rfl (fun s'' I'' ⟨a,sb,ha⟩ => ?_) hfn)
  have hCa : C ≠ a := by
    rcases ha with z | z
    · rw [z]; exact c1
    · exact (c3 y a z).symm
  refine ⟨m,nsm.sameBut sb hCa,fun h' sb' => ⟨_,_,?_,fin d hD⟩⟩
  exact I''.turned (t' := s''.toks) (fun b o hb e => (sb'.2 b hb).trans e) fC c1 (.inr c2) c3 c4
end
theorem gkeep_name {j : Nat}{map : List (Option Nat)}(h : map[j]? = some none) : GKeep (gName j) map := fun v σ H Q q => by
  refine ⟨⟨by simp,fun j' i hm => ?_⟩,q⟩
  have : j ≠ j' := fun z => by rw [z,hm] at h; cases h
  rw [List.getElem?_set_ne this]
end L2
set_option Elab.async false
set_option linter.all false
set_option maxRecDepth 100000
set_option maxHeartbeats 4000000
namespace L2
open PySem PySem.Spec PyProof.Rows
def Bd (n : Nat)(i : Int) : Prop := i.natAbs < 2 ^ n
theorem Bd.mono {m n : Nat}{i : Int}(h : Bd m i)(k : m <= n) : Bd n i := Nat.lt_of_lt_of_le h (Nat.pow_le_pow_right (by decide) k)
theorem Bd.neg {m : Nat}{i : Int}(h : Bd m i) : Bd m (-i) := by
  unfold Bd at *
  rw [Int.natAbs_neg]
  exact h
theorem Bd.of {n : Nat}{i : Int}(h1 : -(2 ^ n : Nat) < i)(h2 : i < (2 ^ n : Nat)) : Bd n i := by
  unfold Bd
  omega
theorem bits_of {n : Nat}{i : Int}(h : Bd n i) : Builtin.Int.intBits i <= n := by
  unfold Builtin.Int.intBits
  split
  · exact Nat.zero_le _
  · rename_i hz
    have h0 : i.natAbs ≠ 0 := fun z => hz (by have : i = 0 := Int.natAbs_eq_zero.mp z; simp [this])
    exact (Nat.log2_lt h0).mpr h
def CMulB (i j : Int) : Prop := (∃ m n,Bd m i /\ Bd n j /\ m + n <= 100000000) \/ Bd 64 j
def CDivB (i j : Int) : Prop := 0 < j /\ ∃ n,Bd n j /\ n <= 9000
section
variable {X : Cx}
theorem op_mulB : OpR X (binaryOp .Mult) (rI CMulB fun i j => .int (i * j)) := opI fun i j _ _ _ _ _ hc q => mul_int q (by
  rcases hc with ⟨m,n,h1,h2,h3⟩ | h1
  case inr => exact .of_right (bits_of h1)
  have e1 := bits_of h1
  have e2 := bits_of h2
  unfold IntMulOk
  have e3 : Builtin.Int.intTooBig (Builtin.Int.intBits i + Builtin.Int.intBits j) = false := by
    unfold Builtin.Int.intTooBig
    refine decide_eq_false ?_
    have : bitsLine = 134217728 := by unfold bitsLine; decide
    rw [this]
    omega
  rw [e3]
  simp)
theorem op_fdivB : OpR X (binaryOp .FloorDiv) (rI CDivB fun i j => .int (i / j)) := opI fun i j _ _ _ _ _ hc q => by
  obtain ⟨h1,n,h2,h3⟩ := hc
  refine floordiv_int (by omega) (by rw [Int.fdiv_eq_ediv_of_nonneg i (by omega)]; exact q) (.inl (PyProof.noPylong_of_log2 ?_))
  have h0 : j.natAbs ≠ 0 := by omega
  exact (Nat.log2_lt h0).mpr (h2.mono h3)
end
theorem Same.upd {H : Hp}{p : Addr}{o : HO}(h : H p = none) : Same H (upd H p o) := fun b u e => by rw [upd_ne (ne_of_none e h)]; exact e
def Keep (p : Addr)(H H' : Hp) : Prop := ∀ b o,b ≠ p -> H b = some o -> H' b = some o
theorem Keep.trans {p : Addr}{H H1 H2 : Hp}(a : Keep p H H1)(b : Keep p H1 H2) : Keep p H H2 := fun c o n e => b c o n (a c o n e)
theorem Keep.upd {p : Addr}{H : Hp}{o : HO} : Keep p H (upd H p o) := fun b u n e => by rw [upd_ne n]; exact e
theorem Same.keep {p : Addr}{H H' : Hp}(h : Same H H') : Keep p H H' := fun b o _ e => h b o e
structure Callee (P : Program)(w : World)(K : PySem.W.Frag)(mg : Str -> Option Value)(base : Heap)(CX : CXT)(x : Str)(k : Nat)(ps : List Str)(sp : Sp) : Prop where
  ex : ∃ f fd,FnOk P w K mg base CX k f fd ps sp /\ mg x = some (.ref f) /\ PySem.W.keepIn K (.ref f) = true /\ Binds K fd ps []
section
variable {X : Cx}{CX : CXT}{k : Nat}{ps : List Str}{sp : Sp}{E : XK}{x : Str}{p pos : Pos}{e : Expr}{es : List Expr}{t : TA}
theorem pe_own (G : Callee X.prog X.w X.K X.mg X.base CX0 x k ps sp)(hr : Room k X.A)(hg : Gl X x)(ha : PA X (e :: es) t)(hdb : (x == ("__debug__" : Str)) = false := by decide) (he : starEach (e :: es) X.env = (false,eval e X.env) :: starEach es X.env := by rfl) (hpl : (backTo pos (starEach es X.env)).any (·.1) = false := by rfl) :
    PE X (.Call (.Name x p) (e :: es) [] pos) (tCall sp [] E0 t) := by
  obtain ⟨f,fd,F,hm,hk,hb⟩ := G.ex
  exact pe_call F hr hg hm hk hb .nil pass0 ha hdb he hpl
theorem pe_own0 (G : Callee X.prog X.w X.K X.mg X.base CX0 x k ps sp)(hr : Room k X.A)(hg : Gl X x)(hdb : (x == ("__debug__" : Str)) = false := by decide) : PE X (.Call (.Name x p) [] [] pos) (tCall sp [] E0 tNil) := by
  obtain ⟨f,fd,F,hm,hk,hb⟩ := G.ex
  exact pe_call0 F hr hg hm hk hb .nil pass0 hdb
theorem call_isinst : CallR X (.builtin "isinstance") (fun xs H Q => ∃ y c t b,xs = [y,.ty c] /\ TyOf X.K H y t /\ PySem.W.kitOne X.K t (.type c) = some b /\ Q (.bl b) H) := by
  intro pins s σ H xs us Q I r h
  obtain ⟨y,c,t,b,rfl,ty,e,q⟩ := h
  obtain ⟨u,w',rfl,r1,r2⟩ := vals2 r
  cases (show w' = Value.type c from r2)
  exact isinst_ok I r1 ty e fun tk => ⟨.bl b,H,I.tok _,rfl,q⟩
end
theorem Callee.mk' {P : Program}{w : World}{K : PySem.W.Frag}{mg : Str -> Option Value}{base : Heap}{CX : CXT}{x qual : Str}{st : Stmt}{f : Addr}{fd : FuncData}{k : Nat}{ps : List Str}{sp : Sp}(F : Fun K x qual st f fd)(G : FnOk P w K mg base CX k f fd ps sp)(hm : mg x = some (.ref f))(hb : Binds K fd ps []) :
    Callee P w K mg base CX x k ps sp := ⟨f,fd,G,hm,F.kp,hb⟩
theorem iteB {c : Bool}{A B : Prop}(h1 : c = true -> A)(h2 : c = false -> B) : if c = true then A else B := by
  cases c with
  | true => exact iteT (h1 rfl)
  | false => exact iteF (h2 rfl)
theorem bt_len : bootBuiltins "len" = some (.builtin "len") := by decide +kernel
theorem bt_isinstance : bootBuiltins "isinstance" = some (.builtin "isinstance") := by decide +kernel
theorem bt_max : bootBuiltins "max" = some (.builtin "max") := by decide +kernel
theorem bt_min : bootBuiltins "min" = some (.builtin "min") := by decide +kernel
theorem bt_all : bootBuiltins "all" = some (.builtin "all") := by decide +kernel
theorem bt_any : bootBuiltins "any" = some (.builtin "any") := by decide +kernel
theorem bt_int : bootBuiltins "int" = some (.type "int") := by decide +kernel
theorem bt_bool : bootBuiltins "bool" = some (.type "bool") := by decide +kernel
theorem bt_tuple : bootBuiltins "tuple" = some (.type "tuple") := by decide +kernel
theorem bt_ValueError : bootBuiltins "ValueError" = some (.type "ValueError") := by decide +kernel
theorem Same.get {H H' : Hp}{a : Addr}{o : HO}(S : Same H H')(h : H a = some o) : H' a = some o := S a o h
theorem Keep.get {p : Addr}{H H' : Hp}{a : Addr}{o : HO}(S : Keep p H H')(n : a ≠ p)(h : H a = some o) : H' a = some o := S a o n h
theorem Bd.num (i : Int)(h : i.natAbs < 18446744073709551616) : Bd 64 i := h
theorem le1000 : 1000 <= sizeLine := by decide
theorem dec_t {p : Prop}[Decidable p](h : decide p = true) : p := of_decide_eq_true h
def Bag (H : Hp)(p : Addr) : Prop := ∃ f m : Int,H p = some (.lst [.int f,.int m]) /\ 0 <= f /\ 0 <= m /\ m < 2147483647
theorem Bag.ne {H : Hp}{p a : Addr}{xs : List V}(b : Bag H p)(h : H a = some (.tup xs)) : a ≠ p := by
  obtain ⟨f,m,e,_⟩ := b
  exact ne_of h e (by intro z; cases z)
theorem CMulB.right {i j : Int}(h : Bd 64 j) : CMulB i j := .inr h
theorem Keep.tup {p : Addr}{H H' : Hp}{a : Addr}{xs : List V}(S : Keep p H H')(b : Bag H p)(h : H a = some (.tup xs)) : H' a = some (.tup xs) := S a _ (b.ne h) h
theorem atI_some {xs : List V}{i : Int}(h0 : 0 <= i)(h1 : i < xs.length) : ∃ v,atI xs i = some v /\ v ∈ xs := by
  obtain ⟨j,rfl⟩ : ∃ j : Nat,i = j := ⟨i.toNat,by omega⟩
  have hj : j < xs.length := by omega
  exact ⟨xs[j],atI_nat (List.getElem?_eq_getElem hj),List.getElem_mem hj⟩
end L2
set_option Elab.async false
set_option linter.all false
set_option maxRecDepth 100000
set_option maxHeartbeats 4000000
namespace L2
open PySem PySem.Spec PyProof.Rows
theorem nodupS (l : List Str)(h : l.Nodup) : l.Nodup := h
section
variable {X : Cx}{tg l : Expr}{tl : TE}
theorem ix_tupK (K : PySem.W.Frag)(h : X.K = K) : IxR X (rIxT K) := by subst h; exact ix_tup
theorem ix_listK (K : PySem.W.Frag)(h : X.K = K) : IxR X (rIxL K) := by subst h; exact ix_list
theorem pg_tupK {es : List Expr}{k : Nat}{t : TGs}{n : Nat}{pos : Pos}(K : PySem.W.Frag)(h : X.K = K)(hc : X.calm = true)(hs : PGs X es t)(hn : (assignEach es X.env).length = n := by rfl)(hst : (assignEach es X.env).findIdx? (·.1) = none := by rfl) : PG X (.Tuple es k pos) (gTup K n t) := by subst h; exact pg_tup hc hs hn hst
theorem call_len_seqK (K : PySem.W.Frag)(h : X.K = K) : CallR X (.builtin "len") (fun xs H Q => ∃ p ys,xs = [.ref p] /\ (SqL K H p ys \/ SqT K H p ys) /\ Q (.int ys.length) H) := by subst h; exact call_len_seq
theorem call_tuple_ofK (K : PySem.W.Frag)(h : X.K = K) : CallR X (.type "tuple") (fun xs H Q => ∃ p ys,xs = [.ref p] /\ ((SqL K H p ys /\ ∀ l,H l = none -> Q (.ref l) (upd H l (.tup ys))) \/ (SqT K H p ys /\ Q (.ref p) H))) := by subst h; exact call_tuple_of
theorem pt_truthK {a : Expr}{ta : TE}(K : PySem.W.Frag)(h : X.K = K)(ha : PE X a ta)(he : ∀ whole,isTrue a X.env whole = (do let v <- whole; standAt a.pos; holding [v] (truthy v))) : PT X a (fun σ H Q => ta σ H fun x H' => ∃ k,TruV K x H' k /\ Q k H') := by subst h; exact pt_truth ha he
end
section
variable {X : Cx}
end
end L2
set_option Elab.async false
set_option linter.all false
set_option maxRecDepth 100000
set_option maxHeartbeats 4000000
namespace L2
open PySem PySem.Spec PyProof.Rows
section
variable {X : Cx}
theorem bools_are : ∀ {bs : List Bool} {us : List Value},Vals (bs.map V.bl) us -> us = bs.map Value.bool
  | [],us,r => by
    cases r
    rfl
  | b :: bs,us,r => by
    cases r with
    | cons r1 r2 =>
      cases r1
      rw [bools_are r2]
      rfl
theorem range_bools (bs : List Bool) : (List.range bs.length).map (fun i => bs[i]?.getD false) = bs := by
  apply List.ext_getElem
  · simp
  · intro i h1 h2
    simp at h1
    simp [h1]
theorem call_allL (K : PySem.W.Frag)(hK : X.K = K)(hc : X.calm = true) : CallR X (.builtin "all") (fun xs H Q => ∃ (p : Addr) (bs : List Bool),xs = [.ref p] /\ SqL K H p (bs.map V.bl) /\ Q (.bl (bs.all id)) H) := by
  subst hK
  intro pins s σ H xs us Q I r h
  obtain ⟨p,bs,rfl,hq,q⟩ := h
  obtain ⟨u,rfl,rx⟩ := vals1 r
  cases rx
  obtain ⟨its,rv,pl,hz⟩ := I.list hq
  have e1 := bools_are rv
  subst e1
  have hl := pl.isList
  have hlt : p < s.heap.objs.size := by obtain ⟨_,e,_⟩ := hl; exact Heap.lt_size e
  refine call_all_walk (wpAny_pyIter_list hl ?_)
  refine ⟨_,_,_,_,_,_,(fun i => bs[i]?.getD false),rfl,Walks.list (A := X.A.in1) (I.ok.hd hc) _ p (Nat.ne_of_lt hlt) (bs.map Value.bool).toArray,⟨⟨_,Heap.get?_push_size _ rfl,rfl,rfl⟩,hl.push _⟩,?_,fun h' tk hk => ?_⟩
  · intro i v s' Q' E' hv hq'
    have e : bs[i]?.map Value.bool = some v := by simpa using hv
    cases hb : bs[i]? with
    | none => rw [hb] at e; cases e
    | some b =>
      rw [hb] at e
      cases e
      have hq'' : Q' (bs[i]?.getD false) s' := hq'
      rw [hb] at hq''
      exact wpAny_truthy_bool hq''
  · have ea : (List.range (bs.map Value.bool).toArray.size).all (fun i => bs[i]?.getD false) = bs.all id := by
      have := congrArg (fun l : List Bool => l.all id) (range_bools bs)
      simpa [List.all_map] using this
    rw [ea]
    refine ⟨.bl (bs.all id),H,I.kept fun b o e => hk b o (fun hm => ?_) (Heap.get?_push_of_some _ e),rfl,q⟩
    have : b = s.heap.objs.size := by simpa using hm
    exact absurd (this ▸ Heap.lt_size e) (Nat.lt_irrefl _)
theorem call_anyL (K : PySem.W.Frag)(hK : X.K = K)(hc : X.calm = true) : CallR X (.builtin "any") (fun xs H Q => ∃ (p : Addr) (bs : List Bool),xs = [.ref p] /\ SqL K H p (bs.map V.bl) /\ Q (.bl (bs.any id)) H) := by
  subst hK
  intro pins s σ H xs us Q I r h
  obtain ⟨p,bs,rfl,hq,q⟩ := h
  obtain ⟨u,rfl,rx⟩ := vals1 r
  cases rx
  obtain ⟨its,rv,pl,hz⟩ := I.list hq
  have e1 := bools_are rv
  subst e1
  have hl := pl.isList
  have hlt : p < s.heap.objs.size := by obtain ⟨_,e,_⟩ := hl; exact Heap.lt_size e
  refine call_any_walk (wpAny_pyIter_list hl ?_)
  refine ⟨_,_,_,_,_,_,(fun i => bs[i]?.getD false),rfl,Walks.list (A := X.A.in1) (I.ok.hd hc) _ p (Nat.ne_of_lt hlt) (bs.map Value.bool).toArray,⟨⟨_,Heap.get?_push_size _ rfl,rfl,rfl⟩,hl.push _⟩,?_,fun h' tk hk => ?_⟩
  · intro i v s' Q' E' hv hq'
    have e : bs[i]?.map Value.bool = some v := by simpa using hv
    cases hb : bs[i]? with
    | none => rw [hb] at e; cases e
    | some b =>
      rw [hb] at e
      cases e
      have hq'' : Q' (bs[i]?.getD false) s' := hq'
      rw [hb] at hq''
      exact wpAny_truthy_bool hq''
  · have ea : (List.range (bs.map Value.bool).toArray.size).any (fun i => bs[i]?.getD false) = bs.any id := by
      have := congrArg (fun l : List Bool => l.any id) (range_bools bs)
      simpa [List.any_map] using this
    rw [ea]
    refine ⟨.bl (bs.any id),H,I.kept fun b o e => hk b o (fun hm => ?_) (Heap.get?_push_of_some _ e),rfl,q⟩
    have : b = s.heap.objs.size := by simpa using hm
    exact absurd (this ▸ Heap.lt_size e) (Nat.lt_irrefl _)
end
section
variable {X : Cx}
end
end L2
set_option Elab.async false
set_option linter.all false
set_option maxRecDepth 100000
set_option maxHeartbeats 4000000
namespace L2
open PySem PySem.Spec PyProof.Rows
section
variable {prog : Program}{w : World}{A : Around}{E : Value -> Shared -> Prop}{s : Shared}
def ItAt (b : Bool)(h : Heap)(u l : Addr)(j : Nat) : Prop := match b with | false => h.IsListIter u l j | true => h.IsTupleIter u l j
def SeqAt (b : Bool)(h : Heap)(l : Addr)(xs : Array Value) : Prop := match b with | false => h.IsList l xs | true => h.IsTuple l xs
theorem ItAt.at {b : Bool}{h h' : Heap}{u l : Addr}{j : Nat}(x : ItAt b h u l j)(k : ∀ o,h.get? u = some o -> h'.get? u = some o) : ItAt b h' u l j := by
  cases b with
  | false => exact Heap.IsListIter.at x k
  | true => exact Heap.IsTupleIter.at x k
theorem SeqAt.at {b : Bool}{h h' : Heap}{l : Addr}{xs : Array Value}(x : SeqAt b h l xs)(k : ∀ o,h.get? l = some o -> h'.get? l = some o) : SeqAt b h' l xs := by
  cases b with
  | false => obtain ⟨o,e,r⟩ := x; exact ⟨o,k o e,r⟩
  | true => obtain ⟨o,e,r⟩ := x; exact ⟨o,k o e,r⟩
end
section
variable {X : Cx}{pins : List (Addr × Obj)}{σ : St}{H : Hp}{s : Shared}{h' : Heap}
end
section
variable {prog : Program}{w : World}{A : Around}{E : Value -> Shared -> Prop}{s : Shared}
end
section
variable {prog : Program}{w : World}{A : Around}{E : Value -> Shared -> Prop}{s : Shared}
end
end L2
set_option Elab.async false
set_option linter.all false
set_option maxRecDepth 100000
set_option maxHeartbeats 4000000
namespace L2
open PySem PySem.Spec PyProof.Rows
section
variable {prog : Program}{w : World}{A : Around}{E : Value -> Shared -> Prop}{s : Shared}
end
section
variable {prog : Program}{w : World}{A : Around}{E : Value -> Shared -> Prop}{s : Shared}
end
section
variable {prog : Program}{w : World}{A : Around}{E : Value -> Shared -> Prop}{s : Shared}
end
end L2
set_option Elab.async false
set_option linter.all false
set_option maxRecDepth 100000
set_option maxHeartbeats 4000000
namespace L2
open PySem PySem.Spec PyProof.Rows
end L2
set_option Elab.async false
set_option linter.all false
set_option maxRecDepth 100000
set_option maxHeartbeats 4000000
namespace L2
open PySem PySem.Spec PyProof.Rows
section
variable {X : Cx}
theorem pa_ints : ∀ cs : List (Int × Nat × Pos),PA X (cs.map fun c => .Constant (.int c.1) c.2.1 c.2.2) (fun σ H Q => Q (cs.map fun c => V.int c.1) H)
  | [] => pa_nil
  | c :: cs => by
    intro pos pins s σ H Q I h
    exact pa_cons (e := .Constant (.int c.1) c.2.1 c.2.2) pe_int (pa_ints cs) (by rfl) pos pins s σ H Q I h
theorem pe_tupInts {es : List Expr}{x1}{pos : Pos}(cs : List (Int × Nat × Pos))(h : es = cs.map fun c => .Constant (.int c.1) c.2.1 c.2.2) : PE X (.Tuple es x1 pos) (tTup fun σ H Q => Q (cs.map fun c => V.int c.1) H) := by
  subst h
  exact pe_tup (pa_ints cs)
theorem pss_says {sts0 : List Stmt}{t : TS}(h : PSs X sts0 t) : ∀ {sts : List Stmt},PSs X sts (fun D σ H => sts = sts0 /\ t D σ H) := by
  intro sts pins s σ H D I q
  obtain ⟨e,q⟩ := q
  subst e
  exact h pins s σ H D I q
end
end L2
set_option Elab.async false
set_option linter.all false
set_option maxRecDepth 100000
set_option maxHeartbeats 4000000
namespace L2
open PySem PySem.Spec PyProof.Rows
section
variable {X : Cx}{pins : List (Addr × Obj)}{σ : St}{H : Hp}{s : Shared}
end
end L2
set_option Elab.async false
set_option linter.all false
set_option maxRecDepth 100000
set_option maxHeartbeats 4000000
namespace L2
open PySem PySem.Spec PyProof.Rows
theorem eqV_self {x : V}(h : flatV x = true) : eqV x x = true := by
  cases x <;> simp_all [flatV,eqV]
section
variable {X : Cx}{pins : List (Addr × Obj)}{σ : St}{H : Hp}{s : Shared}
end
end L2
set_option Elab.async false
set_option linter.all false
set_option maxRecDepth 100000
set_option maxHeartbeats 4000000
namespace L2
open PySem PySem.Spec PyProof.Rows
section
variable {X : Cx}{x : Str}{C : Addr}{bm bmN : List Value}{newId Bn inN B nid initId : String}{e0 : Expr}{rest : List Expr}{t : TA}{np cpos pos : Pos}
theorem ps_raise (O : OwnCls x C bm newId X.mg X.base)(Fn : ExcBaseFacts Bn newId inN bmN)(hBn : bm.contains (.type Bn) = true)(FB : ExcBaseFacts B nid initId bm)(hc : X.calm = true)(hg : Gl X x)(E : XK)
    (hx : ∀ (pins : List (Addr × Obj)) (σ : St) (H : Hp) (s : Shared) (h' : Heap) (e : Addr) (us : List Value),Inv X pins σ H s -> Heap.MadeExcOf s.heap h' e (.ref C) us -> E (.ref C) none H -> X.xe (.ref e) { s with heap := h' })
    (ha : PA X (e0 :: rest) t) (hz : ∀ σ H Q,t σ H Q -> t σ H fun vs H1 => vs.length <= sizeLine /\ Q vs H1)
    (he : starEach (e0 :: rest) X.env = (false,eval e0 X.env) :: starEach rest X.env := by rfl) (hpl : (backTo cpos (starEach rest X.env)).any (·.1) = false := by rfl) (hd : (x == ("__debug__" : Str)) = false := by decide) :
    PS X (.Raise (some (.Call (.Name x np) (e0 :: rest) [] cpos)) none pos) (fun _ σ H => t σ H fun _ H1 => E (.ref C) none H1) := by
  intro pins s σ H D I q
  obtain ⟨tl,N,nm,qn,bs,hdct,sn,sub,ab,col,dd,k0,k1,k2,k3,k5,mN,hC,hN,hni,T⟩ := O.obj
  refine wpAny_Raise_call_subU (C := C) (nm := nm) (q := qn) (N := N) (bs := bs) (bm := tl) (hdct := hdct) (sn := sn) (sub := sub) (ab := ab) (col := col) (dd := dd) (k0 := k0) (k1 := k1) (k2 := k2) (k3 := k3) (k5 := k5)
    Fn hBn FB (mN := mN) (T.hasType FB.hasBase) (I.ok.hd hc) (by rw [he]; show (false || (backTo cpos (starEach rest X.env)).any (·.1)) = false; rw [hpl]; rfl) hni (ld_glob I hg O.bound ⟨rfl,?_⟩ hd)
  have h1 := ha cpos pins s σ H _ I (hz _ _ _ q)
  rw [he] at h1 ⊢
  refine Calls.evalArgs_plain (wpAny_mono h1 (fun us s2 ⟨vs,H1,I1,r,z,w⟩ => ⟨rfl,by rw [<- r.length]; exact z,I1.bk _ _ hC,hN.keeps I1.bk,T.keeps I1.bk,fun h' e hm => hx pins σ H1 s2 h' e us I1 hm w⟩) fun _ _ y => y)
end
end L2
set_option Elab.async false
set_option linter.all false
set_option maxRecDepth 100000
set_option maxHeartbeats 4000000
namespace L2
open PySem PySem.Spec PyProof.Rows
section
variable {M : Model}{A : Around}{E : Value -> Shared -> Prop}{s : Shared}
structure Gone (fs : List Addr)(x : Addr)(ox : Obj)(old : List Addr)(h h' : Heap)(T : Addr) : Prop where
  keep : ∀ b o,b ∉ fs -> b ≠ x -> b ∉ old -> h.get? b = some o -> h'.get? b = some o
  slot : ∀ b o,b ∈ fs -> h.get? b = some o -> ∃ sl,h'.get? b = some { o with slots := sl }
  new : h.objs.size <= T
  exc : h'.get? x = some (ox.mapFields (·.setIfInBounds 1 (.ref T)))
  tr : ∃ oT ts,h'.get? T = some oT /\ oT.data = .fields ts /\ ts[3]? = some .none
theorem entry_gone {base : Heap}{env : Env}{outer : List Env}{L x : Addr}{ox : Obj}{vs : Array Value}{hd : Value}{nx : Bool}{Q : Unit -> Shared -> Prop}(f1 : A.frames = some (env :: outer))(f2 : s.heap.FunFrames base (env :: outer))(f3 : env.frame = some L)
    (x1 : s.heap.get? x = some ox) (x2 : ox.data = .fields vs) (x3 : 1 < vs.size) (q : ∀ h' T,Gone ((env :: outer).filterMap (·.frame)) x ox [] s.heap h' T -> Q () { s with heap := h' }) :
    wpAny M A (do let a <- frameOf env; let pl <- entryPlaceOf L nx; let b <- EntryCells.newEntry hd a .none (rawInt L) .none pl; setField (.ref x) 1 b) (fun _ s' => wpAny M A (setFlight (.ref x) none) Q E s') E s := by
  have xf : x ∉ (env :: outer).filterMap (·.frame) := fun hm => by
    obtain ⟨_,o,e1,e2⟩ := f2.mem hm
    rw [x1] at e1
    cases e1
    exact e2 vs x2
  refine wpAny_bind (wpAny_frameOf_fun f1 f2 f3 fun g1 m1 => wpAny_bind (wpAny_entryPlaceOf fun pl hpl => ?_))
  unfold EntryCells.newEntry newFields
  refine wpAny_bind (wpAny_newObj_type ?_ (hpl.sizeOk5 _ _ _ _ _))
  generalize hob : ({ cls := .type "traceback",dict := none,data := .fields ([hd,.ref L,.none,rawInt L,.none] ++ (if pl.isEmpty then List.replicate 6 Value.none else pl)).toArray } : Obj) = ob
  have dob : ob.data = .fields ([hd,.ref L,.none,rawInt L,.none] ++ (if pl.isEmpty then List.replicate 6 Value.none else pl)).toArray := by rw [<- hob]
  have lob : ob.isFreed = false := Obj.isFreed_of_fields dob
  have xg1 : g1.get? x = some ox := (m1.2.1 x xf).trans x1
  have xg2 := Heap.get?_push_of_some (h := g1) ob xg1
  refine wpAny_setField xg2 x2 x3 ?_
  have nTx : g1.objs.size ≠ x := Nat.ne_of_gt (Heap.lt_size xg1)
  have dx := Obj.data_mapFields x2 (·.setIfInBounds 1 (Value.ref g1.objs.size))
  have xg3 := Heap.get?_update_self (Obj.mapFields (·.setIfInBounds 1 (Value.ref g1.objs.size))) xg2 (Obj.isFreed_of_fields dx)
  have tg3 := (Heap.get?_update_other (g1.push ob) (Obj.mapFields (·.setIfInBounds 1 (Value.ref g1.objs.size))) (Ne.symm nTx)).trans (Heap.get?_push_size g1 lob)
  unfold setFlight
  refine wpAny_bind (wpAny_field xg3 dx (x := .ref g1.objs.size) (by simp [x3]) ?_)
  rw [if_pos (show (Value.ref g1.objs.size != Value.none) = true from by simp)]
  refine wpAny_setField tg3 dob (by simp only [List.size_toArray,List.length_append,List.length_cons,List.length_nil] <;> omega) (q _ g1.objs.size ⟨?_,?_,?_,?_,?_⟩)
  · intro b o nf nx' _ e
    have e1 : g1.get? b = some o := (m1.2.1 b nf).trans e
    rw [Heap.get?_update_other _ _ (Nat.ne_of_gt (Heap.lt_size e1)),Heap.get?_update_other _ _ (Ne.symm nx')]
    exact Heap.get?_push_of_some _ e1
  · intro b o hb e
    obtain ⟨sl,e1⟩ := m1.2.2 b o e
    refine ⟨sl,?_⟩
    have nbx : b ≠ x := fun z => xf (z ▸ hb)
    rw [Heap.get?_update_other _ _ (Nat.ne_of_gt (Heap.lt_size e1)),Heap.get?_update_other _ _ (Ne.symm nbx)]
    exact Heap.get?_push_of_some _ e1
  · rw [m1.1]
    exact Nat.le_refl _
  · rw [Heap.get?_update_other _ _ nTx]
    exact xg3
  · refine ⟨_,_,Heap.get?_update_self _ tg3 (Obj.isFreed_of_fields (Obj.data_mapFields dob _)),Obj.data_mapFields dob _,?_⟩
    first | (simp; done) | (rcases hpl with rfl | ⟨_,_,_,_,_,_,_,rfl⟩ <;> simp)
theorem leave_first {base : Heap}{env : Env}{outer : List Env}{L x : Addr}{ox : Obj}{vs : Array Value}{Q : Unit -> Shared -> Prop}(f1 : A.frames = some (env :: outer))(f2 : s.heap.FunFrames base (env :: outer))(f3 : env.frame = some L)
    (x1 : s.heap.get? x = some ox) (x2 : ox.data = .fields vs) (x3 : vs[1]? = some .none) (q : ∀ h' T,Gone ((env :: outer).filterMap (·.frame)) x ox [] s.heap h' T -> Q () { s with heap := h' }) : wpAny M A (leaving env (.ref x)) Q E s := by
  unfold leaving noteFrame; simp only [f3]
  refine wpAny_bind (wpAny_bind (wpAny_field x1 x2 x3 ?_)); rw [if_neg (by decide)]
  exact entry_gone f1 f2 f3 x1 x2 (Array.getElem?_eq_some_iff.mp x3).1 q
theorem leave_next {base : Heap}{env : Env}{outer : List Env}{L x T0 : Addr}{ox oT : Obj}{vs ts : Array Value}{Q : Unit -> Shared -> Prop}(f1 : A.frames = some (env :: outer))(f2 : s.heap.FunFrames base (env :: outer))(f3 : env.frame = some L)
    (x1 : s.heap.get? x = some ox) (x2 : ox.data = .fields vs) (x3 : vs[1]? = some (.ref T0)) (t1 : s.heap.get? T0 = some oT) (t2 : oT.data = .fields ts) (t3 : ts[3]? = some .none) (tx : T0 ≠ x)
    (q : ∀ h' T,Gone ((env :: outer).filterMap (·.frame)) x ox [T0] s.heap h' T -> Q () { s with heap := h' }) : wpAny M A (leaving env (.ref x)) Q E s := by
  unfold leaving noteFrame; simp only [f3]
  refine wpAny_bind (wpAny_bind (wpAny_field x1 x2 x3 ?_)); rw [if_pos (show (Value.ref T0 != Value.none) = true from by simp)]
  refine wpAny_bind (wpAny_field t1 t2 t3 ?_); rw [if_neg (show ¬ ((Value.none == rawInt L) = true) from by simp [rawInt])]
  refine wpAny_bind (wpAny_setField t1 t2 (Array.getElem?_eq_some_iff.mp t3).1 ?_)
  have oth : ∀ b,b ≠ T0 -> (s.heap.update T0 (Obj.mapFields (·.setIfInBounds 3 Value.none))).get? b = s.heap.get? b := fun b hb => Heap.get?_update_other _ _ (Ne.symm hb)
  have nrec : ∀ b o,s.heap.get? b = some o -> (∀ vs,o.data ≠ .fields vs) -> b ≠ T0 := fun b o e n z => by
    rw [z,t1] at e
    cases e
    exact n ts t2
  have fT : ∀ b ∈ (env :: outer).filterMap (·.frame),b ≠ T0 := fun b hb => by
    obtain ⟨_,o,e1,e2⟩ := f2.mem hb
    exact nrec b o e1 e2
  refine entry_gone f1 (f2.of_keeps fun b o e n => ⟨o,(oth b (nrec b o e n)).trans e,rfl⟩) f3 ((oth x (Ne.symm tx)).trans x1) x2 (Array.getElem?_eq_some_iff.mp x3).1 fun h' T g => q h' T ⟨?_,?_,?_,g.exc,g.tr⟩
  · intro b o nf nx no e
    exact g.keep b o nf nx (by simp) ((oth b (by simpa using no)).trans e)
  · intro b o hb e
    exact g.slot b o hb ((oth b (fT b hb)).trans e)
  · have := g.new
    simpa using this
end
end L2
set_option Elab.async false
set_option linter.all false
set_option maxRecDepth 100000
set_option maxHeartbeats 4000000
namespace L2
open PySem PySem.Spec PyProof.Rows
theorem ObjOk.ex {P : Program}{w : World}{H : Hp}{h : Heap}{a : Addr}{o : HO}(x : ObjOk P w H h a o) : ∃ ob,h.get? a = some ob := by
  cases o with
  | lst xs => obtain ⟨_,_,_,_,e⟩ := x; exact ⟨_,e⟩
  | tup xs => obtain ⟨_,_,_,ob,e,_⟩ := x; exact ⟨_,e⟩
  | dK kvs => obtain ⟨_,_,_,_,o,_,_,e,_⟩ := x; exact ⟨_,e⟩
  | dT kvs => obtain ⟨_,_,_,_,o,_,_,e,_⟩ := x; exact ⟨_,e⟩
  | set S n => obtain ⟨o,_,_,_,e,_⟩ := x; exact ⟨_,e⟩
  | ins C dx fs => obtain ⟨_,_,_,e,_⟩ := x; exact ⟨_,e⟩
  | own y => exact x
  | xd fs => obtain ⟨_,⟨_,_,_,e,_⟩,_⟩ := x; exact ⟨_,e⟩
  | rng lo hi => obtain ⟨_,_,_,e⟩ := x; exact ⟨_,e⟩
  | frz ob u => obtain ⟨e,_⟩ := x; exact ⟨_,e⟩
  | tbl ps => exact ⟨_,(show h.get? a = some _ from x)⟩
  | cod q => obtain ⟨_,e,_⟩ := x; exact ⟨_,e⟩
  | met f y => exact ⟨_,(show h.get? a = some _ from x)⟩
  | ext φ => obtain ⟨_,e,_⟩ := x; exact e
theorem dict_mapF (o : Obj)(f : Array Value -> Array Value) : (o.mapFields f).dict = o.dict := by unfold Obj.mapFields; split <;> rfl
def Exd (H : Hp)(base g h : Heap)(x C : Addr) : Prop := H x = none /\ base.get? x = none /\ g.get? x = none /\ ∃ ox vs T oT ts,h.get? x = some ox /\ ox.cls = .ref C /\ ox.dict = none /\ ox.data = .fields vs /\ vs[1]? = some (.ref T) /\ vs[2]? = some .none /\
  T ≠ x /\ H T = none /\ base.get? T = none /\ g.get? T = none /\ h.get? T = some oT /\ oT.data = .fields ts /\ ts[3]? = some .none
def CX1 (P : Program)(w : World)(base : Heap) : CXT := fun outer H s E e s' => ∃ (x C : Addr) (H' : Hp),e = .ref x /\ s'.os = s.os /\ AllBare s'.gens /\ Un (frs outer) [] H H' s.heap s'.heap /\ HOk P w H' s'.heap /\ Exd H' base s.heap s'.heap x C /\ E (.ref C) none H'
theorem xe_raise {P : Program}{w : World}{K : PySem.W.Frag}{mg : Str -> Option Value}{base : Heap}{N : List Str}{qual : Str}{scope : Scope}{f : Addr}{cd : Value}{A : Around}{outer : List Env}{s : Shared}{H : Hp}{E : XK}{C : Addr}
    (pins : List (Addr × Obj)) (σ : St) (H1 : Hp) (s1 : Shared) (h' : Heap) (e : Addr) (us : List Value) (I : Inv (cxOf (CX1 P w base) P w K mg base N qual scope f cd A outer s H E) pins σ H1 s1) (hm : Heap.MadeExcOf s1.heap h' e (.ref C) us) (q : E (.ref C) none H1) :
    (cxOf (CX1 P w base) P w K mg base N qual scope f cd A outer s H E).xe (.ref e) { s1 with heap := h' } := by
  obtain ⟨t,e1,e2,e3⟩ := hm.there
  have nH : ∀ b,s1.heap.get? b = none -> H1 b = none := fun b hb => by
    cases z : H1 b with
    | none => rfl
    | some o =>
      obtain ⟨ob,eo⟩ : ∃ ob,s1.heap.get? b = some ob := (I.hok b o z).ex
      rw [hb] at eo
      cases eo
  have hst : s1.heap.FunFrames base (envOfC qual scope s.heap.objs.size f cd :: outer) := I.stack
  have hfree : ∀ b ∈ frs (envOfC qual scope s.heap.objs.size f cd :: outer),H1 b = none := I.stkFree
  show wpAny (model P w) (A.deeper (envOfC qual scope s.heap.objs.size f cd)) (leaving (envOfC qual scope s.heap.objs.size f cd) (.ref e)) _ _ { s1 with heap := h' }
  refine leave_first (s := { s1 with heap := h' }) (base := base) I.ok.frames (hst.of_keeps fun b o eb _ => ⟨o,hm.keeps b o eb,rfl⟩) rfl e1 rfl rfl fun h2 T g => ?_
  have lt1 : ∀ b o,s1.heap.get? b = some o -> b < h'.objs.size := fun b o eb => Heap.lt_size (hm.keeps b o eb)
  have neE : ∀ b o,s1.heap.get? b = some o -> b ≠ e := fun b o eb z => by rw [z,hm.new] at eb; cases eb
  have kp : ∀ b o,b ∉ frs (envOfC qual scope s.heap.objs.size f cd :: outer) -> s1.heap.get? b = some o -> h2.get? b = some o := fun b o nf eb => g.keep b o nf (neE b o eb) (by simp) (hm.keeps b o eb)
  have sl : ∀ b o,b ∈ frs (envOfC qual scope s.heap.objs.size f cd :: outer) -> s1.heap.get? b = some o -> ∃ z,h2.get? b = some { o with slots := z } := fun b o hb eb => g.slot b o hb (hm.keeps b o eb)
  have nTo : ∀ b o,s1.heap.get? b = some o -> b ≠ T := fun b o eb z => by
    have h1 := lt1 b o eb
    rw [z] at h1
    exact absurd (Nat.lt_of_lt_of_le h1 g.new) (Nat.lt_irrefl _)
  have baseK : ∀ b o,base.get? b = some o -> s1.heap.get? b = some o := I.bk
  have nf : ∀ b o,s.heap.get? b = some o -> b ∉ frs outer -> b ∉ frs (envOfC qual scope s.heap.objs.size f cd :: outer) := fun b o eb nb hb => by
    rcases List.mem_cons.mp (show b ∈ s.heap.objs.size :: frs outer from hb) with z | z
    · exact absurd (Heap.lt_size eb) (by rw [z]; exact Nat.lt_irrefl _)
    · exact nb z
  have tH : H1 T = none := by
    cases z : H1 T with
    | none => rfl
    | some o =>
      obtain ⟨ob,eo⟩ := (I.hok T o z).ex
      exact absurd rfl (nTo T ob eo)
  have U : Un (frs outer) [] H H1 s.heap s1.heap := I.base
  refine ⟨e,C,H1,rfl,I.os,I.bare,⟨fun b o eb n hb hx => kp b o (nf b o eb hb) (U.keep b o eb n hb hx),fun b o eb n hb hx => ?_,U.free,fun b o eb hx => ?_,U.tups,U.frzs,U.tbls⟩,fun b o eb => ?_,⟨nH e hm.new,?_,?_,?_⟩,q⟩
  · obtain ⟨z,e4⟩ := U.slot b o eb n hb hx
    obtain ⟨z',e5⟩ := sl b _ (List.mem_cons_of_mem _ hb) e4
    exact ⟨z',e5⟩
  · obtain ⟨o',e4⟩ := U.there b o eb hx
    by_cases hb : b ∈ frs (envOfC qual scope s.heap.objs.size f cd :: outer)
    · obtain ⟨z,e5⟩ := sl b o' hb e4
      exact ⟨_,e5⟩
    · exact ⟨o',kp b o' hb e4⟩
  · refine (I.hok b o eb).stay (fun c v hc ev => kp c v (fun hb => ?_) ev) (fun _ z => z) fun _ _ z => z
    have := hfree c hb
    rcases hc with z | z
    · rw [z,eb] at this
      cases this
    · rw [z] at this
      cases this
  · cases z : base.get? e with
    | none => rfl
    | some o => exact absurd rfl (neE e o (baseK e o z))
  · cases z : s.heap.get? e with
    | none => rfl
    | some o =>
      obtain ⟨o',e4⟩ := U.there e o z (by simp)
      exact absurd rfl (neE e o' e4)
  · obtain ⟨oT,ts,g1,g2,g3⟩ := g.tr
    refine ⟨_,_,T,oT,ts,g.exc,rfl,rfl,rfl,rfl,rfl,?_,tH,?_,?_,g1,g2,g3⟩
    · intro z
      have := Heap.lt_size e1
      rw [<- z] at this
      exact absurd (Nat.lt_of_lt_of_le this g.new) (Nat.lt_irrefl _)
    · cases z : base.get? T with
      | none => rfl
      | some o => exact absurd rfl (nTo T o (baseK T o z))
    · cases z : s.heap.get? T with
      | none => rfl
      | some o =>
        obtain ⟨o',e4⟩ := U.there T o z (by simp)
        exact absurd rfl (nTo T o' e4)
end L2
set_option Elab.async false
set_option linter.all false
set_option maxRecDepth 100000
set_option maxHeartbeats 4000000
namespace L2
open PySem PySem.Spec PyProof.Rows
theorem Inv.raised {X : Cx}{pins : List (Addr × Obj)}{σ : St}{H H2 : Hp}{s s' : Shared}(I : Inv X pins σ H s)(os : s'.os = s.os)(bare : AllBare s'.gens)(un : Un (frs X.stack) [] H H2 s.heap s'.heap)(hok : HOk X.prog X.w H2 s'.heap) : Inv X pins σ H2 s' := by
  obtain ⟨hh,g,d,t,os'⟩ := s'
  obtain rfl : os' = s.os := os
  exact I.call (h' := hh) (g' := g) (d' := d) (t' := t) (ch := []) un hok bare (fun b z => absurd z (by simp))
theorem Fun.okX {P : Program}{w : World}{K : PySem.W.Frag}{mg : Str -> Option Value}{base : Heap}{CX : CXT}{x qual : Str}{st : Stmt}{f : Addr}{fd : FuncData}{N ps : List Str}{k : Nat}{sp : Sp}(F : Fun K x qual st f fd)(S : FnScope N ps (defScope st))(len : ∀ vs H Q E,sp vs H Q E -> vs.length = ps.length)
    (hbody : ∀ (cdv : Value) (A : Around) (outer : List Env) (s : Shared) (H : Hp) (vs : List V) (Q : VK) (E : XK),Room k (A.deeper (envOfC qual (defScope st) s.heap.objs.size f cdv)) -> sp vs H Q E ->
      ∃ t,PSs (cxOf CX P w K mg base N qual (defScope st) f cdv A outer s H E) (defBody st) t /\ t { nx := fun _ H' => Q .non H',rt := Q } (start N vs) H) : FnOk P w K mg base CX (k + 1) f fd ps sp := by
  obtain ⟨oc,od,kV,doc,pm,an,cdv,ct,osl,rfl,lk,hcd⟩ := F.ex
  exact fn_of lk hcd S len fun A outer s H vs Q E hr hsp => hbody cdv A outer s H vs Q E hr hsp
theorem pe_ownX {X : Cx}{CX : CXT}{k : Nat}{ps : List Str}{sp : Sp}{E : XK}{x : Str}{p pos : Pos}{e : Expr}{es : List Expr}{t : TA}(hp : Passes CX X E)(G : Callee X.prog X.w X.K X.mg X.base CX x k ps sp)(hr : Room k X.A)(hg : Gl X x)(ha : PA X (e :: es) t)
    (hdb : (x == ("__debug__" : Str)) = false := by decide) (he : starEach (e :: es) X.env = (false,eval e X.env) :: starEach es X.env := by rfl) (hpl : (backTo pos (starEach es X.env)).any (·.1) = false := by rfl) : PE X (.Call (.Name x p) (e :: es) [] pos) (tCall sp [] E t) := by
  obtain ⟨f,fd,F,hm,hk,hb⟩ := G.ex
  exact pe_call F hr hg hm hk hb .nil hp ha hdb he hpl
end L2
set_option Elab.async false
set_option linter.all false
set_option maxRecDepth 100000
set_option maxHeartbeats 4000000
namespace L2
open PySem PySem.Spec PyProof.Rows
theorem entry_unchain : entryFor table "proto.unchain" = some Builtin.«proto.unchain» := entryFor_of_fast (by kernel_rfl)
section
variable {prog : Program}{w : World}{A : Around}{E : Value -> Shared -> Prop}{s : Shared}
theorem raise_ctx {α : Type}{e x : Addr}{oe ox : Obj}{vs ve : Array Value}{Q : α -> Shared -> Prop}(hh : A.handled = some (.ref x))(hne : x ≠ e)(hx : s.heap.get? x = some ox)(xd : ox.data = .fields vs)(x2 : vs[2]? = some .none)
    (he : s.heap.get? e = some oe) (ed : oe.data = .fields ve) (e2 : 2 < ve.size) (h : E (.ref e) { s with heap := s.heap.update e (Obj.mapFields (·.setIfInBounds 2 (.ref x))) }) : wpAny (model prog w) A (raiseNew (.ref e) : Sem α) Q E s := by
  unfold raiseNew; refine wpAny_bind (wpAny_handled ?_); rw [hh]
  show wpAny _ _ (if (Value.ref x != Value.ref e) = true then _ else _) _ _ s
  rw [if_pos (by simpa using hne)]
  refine wpAny_bind (wpAny_holding (wpAny_runValue (codeAny_builtin entry_unchain ?_)))
  refine wpAny_bind (wpAny_field hx xd x2 ?_)
  rw [if_pos (by decide)]
  refine wpAny_pure ?_
  show wpAny _ _ (setField (.ref e) 2 (.ref x) >>= fun _ => throw (.ref e)) _ _ s
  exact wpAny_bind (wpAny_setField he ed e2 (wpAny_throw h))
theorem list_endM {it l x : Addr}{ox : Obj}{vs : Array Value}{i : Nat}{items : Array Value}{Q : Option Value -> Shared -> Prop}(hh : A.handled = some (.ref x))(hx : s.heap.get? x = some ox)(xd : ox.data = .fields vs)(x2 : vs[2]? = some .none)(hne : x ≠ it)
    (hit : s.heap.IsListIter it l i) (hl : s.heap.IsList l items) (hi : items[i]? = none) (hQ : ∀ h',(∀ b o,b ≠ it -> s.heap.get? b = some o -> h'.get? b = some o) -> Q none { s with heap := h' }) : wpAny (model prog w) A (pyNext (.ref it)) Q E s := by
  obtain ⟨o,ho,hc,hd⟩ := id hit; obtain ⟨ol,hol,_,nl,hdl⟩ := hl
  unfold pyNext; refine wpAny_bind (wpAny_attempt (wpAny_callSpecial?_slot (name := Str.ofString "__next__") hit.typeIs slot_listiter_next (wpAny_call_entry slot_listiter_next hit.typeIs entry_listiter_next ?_ (args_listiter_next _))))
  show wpAny _ _ (field (.ref it) 0 >>= _) _ _ s; refine wpAny_bind (wpAny_field ho hd (x := .ref l) rfl ?_)
  show wpAny _ _ (if (Value.ref l == Value.none) = true then _ else _) _ _ s; rw [if_neg (show ¬ ((Value.ref l == Value.none) = true) from Bool.false_ne_true)]
  show wpAny _ _ (field (.ref it) 1 >>= _) _ _ s; refine wpAny_bind (wpAny_field ho hd (x := .int i 0) rfl ?_)
  show wpAny _ _ (seqItems? (.ref l) >>= _) _ _ s; refine wpAny_bind (wpAny_seqItems hol hdl ?_)
  simp only [Int.toNat_natCast,hi]; refine wpAny_bind (wpAny_rule (wpAny_bind (wpAny_setField ho hd (by simp) ?_)))
  have hx' := (Heap.get?_update_other s.heap (Obj.mapFields (·.setIfInBounds 0 Value.none)) (Ne.symm hne)).trans hx
  have lx := Heap.lt_size hx'
  show wpAny _ _ (newExc (.type "StopIteration") [] >>= _) _ _ _; refine wpAny_bind ?_
  simp only [newExc,newTuple]; refine wpAny_bind (wpAny_newObj_type ?_ (by size_fits))
  refine wpAny_bind (m := firstArgMember _ _) (wpAny_of_eq (a := Value.none) (by first | rfl | (simp only [firstArgMember]; rfl)) ?_); refine wpAny_newObj_type ?_ (by size_fits)
  refine raise_ctx (x := x) (by first | exact hh) ?_ (Heap.get?_push_of_some _ (Heap.get?_push_of_some _ hx')) xd x2 (Heap.get?_push_size _ rfl) rfl (by rw [Array.size_append]; exact Nat.lt_of_lt_of_le (show 2 < 6 by decide) (Nat.le_add_right 6 _)) ?_
  · rw [Heap.size_push]; exact Nat.ne_of_lt (Nat.lt_succ_of_lt lx)
  refine wpAny_bind (wpAny_isInstance (T := "StopIteration") (b := true) ⟨_,Heap.get?_update_self _ (Heap.get?_push_size _ rfl) (Obj.isFreed_of_fields (Obj.data_mapFields rfl _)),rfl⟩ isSubtype_stop ?_)
  refine wpAny_pure (hQ _ fun b o' hb e => ?_)
  have e' := (Heap.get?_update_other s.heap (Obj.mapFields (·.setIfInBounds 0 Value.none)) (Ne.symm hb)).trans e
  have lb := Heap.lt_size e'
  rw [Heap.get?_update_other _ _ (by rw [Heap.size_push]; exact Nat.ne_of_gt (Nat.lt_succ_of_lt lb))]
  exact Heap.get?_push_of_some _ (Heap.get?_push_of_some _ e')
end
end L2
set_option Elab.async false
set_option linter.all false
set_option maxRecDepth 100000
set_option maxHeartbeats 4000000
namespace L2
open PySem PySem.Spec PyProof.Rows
def ExcO (x C : Addr) : HO := .ext fun h => ∃ (ox : Obj) (vs : Array Value),h.get? x = some ox /\ ox.cls = .ref C /\ ox.dict = none /\ ox.data = .fields vs /\ vs[2]? = some .none
theorem ExcO.ok {P : Program}{w : World}{H : Hp}{h : Heap}{x C : Addr}{ox : Obj}{vs : Array Value}(e : h.get? x = some ox)(c : ox.cls = .ref C)(d : ox.dict = none)(f : ox.data = .fields vs)(v : vs[2]? = some .none) : ObjOk P w H h x (ExcO x C) :=
  ⟨⟨ox,vs,e,c,d,f,v⟩,⟨ox,e⟩,fun h1 h2 ⟨ox',vs',e',c',d',f',v'⟩ k => ⟨ox',vs',k _ e',c',d',f',v'⟩⟩
theorem Inv.exc {X : Cx}{pins : List (Addr × Obj)}{σ : St}{H : Hp}{s : Shared}{x C : Addr}(I : Inv X pins σ H s)(hx : H x = some (ExcO x C)) : ∃ (ox : Obj) (vs : Array Value),s.heap.get? x = some ox /\ ox.cls = .ref C /\ ox.dict = none /\ ox.data = .fields vs /\ vs[2]? = some .none := (I.hok x _ hx).1
abbrev TurnM (P : Program)(w : World)(K : PySem.W.Frag)(A₀ : Around)(tg : Expr)(J : It)(fp : List Addr)(it : Addr)(tn : Nat -> Heap -> Prop) : Prop := TurnG (fun X => X.A = A₀) P w K tg J fp it tn
def PIEM (X : Cx)(pins : List (Addr × Obj))(σ : St)(tg : Expr)(R : It -> Hp -> Prop)(itv : Value)(s2 : Shared) : Prop :=
  ∃ (it : Addr) (fp : List Addr) (tn : Nat -> Heap -> Prop) (J : It) (H' : Hp),itv = .ref it /\ Inv X pins σ H' s2 /\ TurnM X.prog X.w X.K X.A tg J fp it tn /\ tn 0 s2.heap /\ (∀ b ∈ fp,FpOk X pins H' b) /\ R J H'
def PIM (X : Cx)(tg iter : Expr)(wi : TI) : Prop :=
  ∀ (pins : List (Addr × Obj)) (s : Shared) (σ : St) (H : Hp) (R : It -> Hp -> Prop),Inv X pins σ H s -> wi σ H R -> wpAny (model X.prog X.w) X.A (eval iter X.env) (fun v s1 => wpAny (model X.prog X.w) X.A (pyIter v) (PIEM X pins σ tg R) X.xe s1) X.xe s
def ItlM (K : PySem.W.Frag)(a x C : Addr) : It := ⟨(Itl K a).go,(Itl K a).yld,fun i H => (Itl K a).stop i H /\ H x = some (ExcO x C)⟩
theorem turnM_list {P : Program}{w : World}{K : PySem.W.Frag}{A₀ : Around}{tg : Expr}{x C : Addr}(hh : A₀.handled = some (.ref x))(a it : Addr) : TurnM P w K A₀ tg (ItlM K a x C) [it] it (fun i h => h.IsListIter it a i) where
  mem := (turn_list (P := P) (w := w) (K := K) (tg := tg) a it).mem
  obj := (turn_list (P := P) (w := w) (K := K) (tg := tg) a it).obj
  keep := (turn_list (P := P) (w := w) (K := K) (tg := tg) a it).keep
  item := by
    intro X hP hw hK hA i pins s σ H E I hf st ⟨xs,x,hq,hx⟩
    subst hP hw hK
    obtain ⟨its,rv,p,hz⟩ := I.list hq; obtain ⟨u,hu,ru⟩ := rv.get hx; obtain ⟨f0,f1,f2,f3,f4,f5⟩ := hf it (by simp)
    refine wpAny_pyNext_list_item st p.isList (x := u) (by simpa using hu) fun h' st' sb => ?_
    have I1 : Inv X pins σ H { s with heap := h' } := I.turned (t' := s.toks) (fun b o hb e => (sb.2 b hb).trans e) f0 f1 f3 f4 f5; obtain ⟨o,e,c,d⟩ := id st'
    refine ⟨u,rfl,go_of (s := { s with heap := h' }) e c d (by decide) ⟨x,H,I1,ru,⟨rfl,fun ys hy => by rw [I.list_inj hy hq]; exact hx⟩,st',fun b hb => (hf b hb).1⟩⟩
  done := by
    intro X hP hw hK hA i pins s σ H E I hf st ⟨⟨xs,hq,hx⟩,ht⟩
    subst hP hw hK hA
    obtain ⟨its,rv,p,hz⟩ := I.list hq; obtain ⟨f0,f1,f2,f3,f4,f5⟩ := hf it (by simp)
    obtain ⟨ox,vs,x1,_,_,x2,x3⟩ := I.exc ht
    have hl := rv.length
    have hne : x ≠ it := fun z => by rw [z,f0] at ht; cases ht
    exact list_endM hh x1 x2 x3 hne st p.isList (by simp; omega) fun h' eb => ⟨rfl,I.turned (t' := s.toks) (fun b o hb e => eb b o hb e) f0 f1 f3 f4 f5⟩
  self := (turn_list (P := P) (w := w) (K := K) (tg := tg) a it).self
section
variable {X : Cx}{tg : Expr}
def iListM (K : PySem.W.Frag)(x C : Addr)(tl : TE) : TI := fun σ H R => tl σ H fun v H1 => ∃ a,v = .ref a /\ (∃ xs,SqL K H1 a xs) /\ R (ItlM K a x C) H1
theorem pi_listM (K : PySem.W.Frag)(hK : X.K = K){l : Expr}{tl : TE}{x C : Addr}(hh : X.A.handled = some (.ref x))(hl : PE X l tl) : PIM X tg l (iListM K x C tl) := by
  intro pins s σ H R I h
  subst hK
  refine thn (hl pins s σ H _ I h) fun v s1 ⟨z,H1,I1,r1,a,e,⟨xs,hq⟩,q⟩ => ?_
  subst e; cases r1
  obtain ⟨its,rv,p,hz⟩ := I1.list hq
  refine wpAny_pyIter_list p.isList ⟨s1.heap.objs.size,[s1.heap.objs.size],_,_,H1,rfl,I1.kept (t' := s1.toks) fun b o e => Heap.get?_push_of_some _ e,turnM_list hh a _,⟨_,Heap.get?_push_size _ rfl,rfl,rfl⟩,fun b hb => ?_,q⟩
  have e : b = s1.heap.objs.size := by simpa using hb
  subst e
  refine I1.fpOk (Nat.le_refl _) (I1.hok.fresh (Nat.le_refl _))
end
section
variable {X : Cx}{elt iter tg : Expr}{ifs : List Expr}{scope : Scope}{pos : Pos}{N' : List Str}{map : List (Option Nat)}{wi : TI}{g : TG}{tt : TT}{te : TE}
theorem BlkM.clos {pins : List (Addr × Obj)}{σ : St}{H : Hp}{s : Shared}(B : BlkM X N' scope map tg elt ifs g tt te)(I : Inv X pins σ H s) :
    ∃ cl,closureFor scope X.env = pure cl /\ (∀ x c,cl.lookup x = some c -> X.env.cells.lookup x = some c) /\ ∀ x,(x,NameKind.free) ∈ scope.names -> (cl.lookup x).isSome = true :=
  closureFor_ok fun x hx => I.ok.has x (by
    have q := List.all_eq_true.mp B.free _ hx
    simpa using q)
theorem pe_compM (B : BlkM X N' scope map tg elt ifs g tt te)(hi : PIM X tg iter wi)(hs : ∀ x,foldedSetIterable iter X.env x = pure x := by intro _; rfl) : PE X (.ListComp elt [⟨tg,iter,ifs,0⟩] scope pos) (tComp wi map g tt te) := by
  intro pins s σ H Q I h
  obtain ⟨cl,hcl,hsub,hhas⟩ := B.clos I
  rw [eval_ListComp]
  refine wpAny_comprehension_free (use := none) rfl hs hcl B.kind B.loc (thn (hi pins s σ H _ I h) fun v s1 h1 => thn h1 fun itv s2 h2 => ?_)
  obtain ⟨it,fp,tn,J,H2,e,I2,T,st2,f2,W,⟨m0,w0⟩,turn⟩ := h2
  subst e
  refine blk_run (RR := fun acc C => compPost (model X.prog X.w) X.A X.xe none (EP X pins σ Q) acc C) I2 B hsub hhas (R := fun Y => Y.A = X.A) (fun _ _ _ _ _ => rfl) T st2 f2 w0 turn (fun D C acc H' s' m I' hD nsm fC c1 c2 c3 c4 fin => ?_) fun D C e s' z => z
  refine ⟨m,nsm,fun h' sb => ⟨.ref D,_,?_,rfl,fin D hD⟩⟩
  exact I'.turned (t' := s'.toks) (fun b o hb e => (sb.2 b hb).trans e) fC c1 (.inr c2) c3 c4
end
theorem comp_listM {K : PySem.W.Frag}{a x C : Addr}{xs : List V}{g : TG}{tt : TT}{te : TE}{σc : St}{H : Hp}{Fin : List V -> Hp -> Prop}(Pv : Nat -> List V -> Hp -> Prop)(hz : xs.length <= sizeLine)(h0 : Pv 0 [] H)(hn : ∀ i acc H,Pv i acc H -> acc.length <= i /\ SqL K H a xs /\ H x = some (ExcO x C))
    (hs : ∀ i y acc H,xs[i]? = some y -> Pv i acc H -> g y σc H fun σ4 H4 => tt σ4 H4 fun b H5 => if b = true then te σ4 H5 fun v H6 => Pv (i + 1) (acc ++ [v]) H6 else Pv (i + 1) acc H5)
    (hd : ∀ acc H,Pv xs.length acc H -> Fin acc H) : ∃ W : Nat -> Nat -> List V -> Hp -> Prop,(∃ m,W 0 m [] H) /\ Turns (ItlM K a x C) g tt te σc Fin W := by
  refine ⟨fun i m acc H => m = xs.length - i /\ i <= xs.length /\ Pv i acc H,⟨xs.length,by simp,Nat.zero_le _,h0⟩,?_⟩
  rintro i m acc H ⟨rfl,hi,p⟩
  obtain ⟨hacc,q,ht⟩ := hn i acc H p
  by_cases hlt : i < xs.length
  · refine .inr ⟨⟨xs,xs[i],q,by simp [hlt]⟩,by omega,Pv (i + 1),fun acc' H' p' => ⟨xs.length - (i + 1),by omega,rfl,hlt,p'⟩,fun y H' z => ?_⟩
    obtain ⟨e,z⟩ := z; subst e
    exact hs i y acc _ (z xs q) p
  · have e : i = xs.length := by omega
    subst e
    exact .inl ⟨⟨⟨xs,q,Nat.le_refl _⟩,ht⟩,by omega,hd acc H p⟩
end L2
set_option Elab.async false
set_option linter.all false
set_option maxRecDepth 100000
set_option maxHeartbeats 4000000
namespace L2
open PySem PySem.Spec PyProof.Rows
structure RoomM (k : Nat)(A : Around) : Prop where
  dp : A.depth + 3 * k + 5 < recursionLimit
  un : A.units + 16 * k + 200 < cLine
theorem RoomM.deeper {k : Nat}{A : Around}(r : RoomM (k + 1) A)(env : Env) : RoomM k (A.deeper env) := ⟨by have := r.dp; show A.depth + 1 + 3 * k + 5 < _; omega,by have := r.un; show A.units + 3 + 16 * k + 200 < _; omega⟩
theorem RoomM.depth {k : Nat}{A : Around}(r : RoomM k A) : A.depth < recursionLimit := by have := r.dp; omega
theorem RoomM.units {k : Nat}{A : Around}(r : RoomM k A) : A.units + 64 < cLine := by have := r.un; omega
theorem RoomM.units0 {k : Nat}{A : Around}(r : RoomM k A) : A.units < cLine := by have := r.un; omega
theorem Room.mark {k : Nat}{A : Around}(r : Room k A)(h : Option Value) : RoomM k (A.mark h) := ⟨r.dp,r.un⟩
structure FnOkM (P : Program)(w : World)(K : PySem.W.Frag)(mg : Str -> Option Value)(base : Heap)(k : Nat)(f : Addr)(fd : FuncData)(ps : List Str)(sp : Addr -> Sp) : Prop where
  len : ∀ x vs H Q E,sp x vs H Q E -> vs.length = ps.length
  run : ∀ (A : Around) (outer : List Env) (s : Shared) (H : Hp) (args : Args) (us : List Value) (vs : List V) (Q : VK) (x : Addr),RoomM k A -> A.handled = some (.ref x) -> Env0 P w K mg base A outer s H -> BindsTo s fd args (ps.zip us) -> Vals vs us -> sp x vs H Q E0 -> codeAny (model P w) A (.call (.ref f) args) (CR CX0 outer P w H s Q E0) s
def cxOfM (P : Program)(w : World)(K : PySem.W.Frag)(mg : Str -> Option Value)(base : Heap)(N : List Str)(qual : Str)(scope : Scope)(f : Addr)(cd : Value)(A : Around)(outer : List Env)(s : Shared)(H : Hp) : Cx where
  prog := P
  w := w
  K := K
  mg := mg
  base := base
  A := A.deeper (envOfC qual scope s.heap.objs.size f cd)
  N := N
  s₀ := s
  H₀ := H
  env := envOfC qual scope s.heap.objs.size f cd
  outer := outer
  stack := envOfC qual scope s.heap.objs.size f cd :: outer
  ex := []
  calm := false
  fn := fun _ => true
  pn := []
  xe := fun _ _ => False
theorem inv_startM {P : Program}{w : World}{K : PySem.W.Frag}{mg : Str -> Option Value}{base : Heap}{N ps : List Str}{qual : Str}{scope : Scope}{f : Addr}{cd : Value}{A : Around}{outer : List Env}{s s1 : Shared}{H : Hp}{us : List Value}{vs : List V}
    (S : FnScope N ps scope) (e0 : Env0 P w K mg base A outer s H) (hl : vs.length = ps.length) (r : Vals vs us)
    (x : InCallC s s.heap.objs.size (bindL (envOfC qual scope s.heap.objs.size f cd).kindOf (ps.zip us) fun _ => none) (cellsFrom (s.heap.objs.size + 1) scope.names []) (bindC (envOfC qual scope s.heap.objs.size f cd).kindOf (ps.zip us) fun _ => none) s1) :
    Inv (cxOfM P w K mg base N qual scope f cd A outer s H) [] (start N vs) H s1 := by
  have hpl : ps.length <= N.length := by have := congrArg List.length S.pre; rw [List.length_take] at this; omega
  obtain ⟨h1,tk,rfl,hk⟩ := x.done
  have noA : ∀ b : Addr,b ∉ (cxOfM P w K mg base N qual scope f cd A outer s H).ex := fun b z => absurd (show b ∈ ([] : List Addr) from z) (by simp)
  refine ⟨⟨e0.mod,S.kind,rfl,rfl,Nat.le_refl _,fun y z c h1 h2 => ?_,fun y hy => ?_,fun y c _ h => ?_,fun z => (by cases z),Around.frames_deeper e0.frames,.inr ⟨rfl,rfl⟩,fun b z => absurd z (noA b),e0.bs,e0.bsz,fun b _ _ => noA b,fun b z => absurd z (noA b),e0.funs,e0.frf⟩,
    rfl,e0.bare,Un.kept hk,⟨_,x.toInCall.ns,fun i y v h1 h2 h3 => ?_⟩,fun y c h => ⟨_,x.cell y c h⟩,e0.hok.fresh (Nat.le_refl _),fun y c h => ?_,fun p hp => absurd (show p ∈ ([] : List (Addr × Obj)) from hp) (by simp),e0.hok.kept hk,?_⟩
  · exact name_of_addr x.apart (PySem.mem_of_lookup h1) (PySem.mem_of_lookup h2)
  · have hy : scope.names.lookup y = some .cell \/ scope.names.lookup y = some .free := hy
    rcases hy with hy | hy
    · exact cell_has hy
    · exact absurd rfl (S.nofree _ (PySem.mem_of_lookup hy))
  · exact Nat.le_of_lt (x.above y c (PySem.mem_of_lookup h))
  · have hi : i < vs.length := by
      unfold start at h2
      by_cases hi : i < vs.length
      · exact hi
      · rw [List.getElem?_append_right (by simpa using hi)] at h2
        rw [List.getElem?_replicate] at h2
        split at h2 <;> cases h2
    have ha : vs[i]? = some v := by
      unfold start at h2
      rw [List.getElem?_append_left (by simpa using hi),List.getElem?_map] at h2
      cases e : vs[i]? with
      | none => rw [e] at h2; cases h2
      | some a => rw [e] at h2; cases h2; rfl
    obtain ⟨u,hu,rv⟩ := r.get ha
    have hp : ps[i]? = some y := by
      rw [<- S.pre,List.getElem?_take_of_lt (by omega)]; exact h1
    have ndP : ps.Nodup := by rw [<- S.pre]; exact S.nd.sublist (List.take_sublist _ _)
    refine ⟨u,rv,?_⟩
    rcases S.par y (List.mem_of_getElem? hp) with k | k
    · exact .inl ⟨k,bindL_get ndP hp hu k⟩
    · obtain ⟨c,e⟩ := cell_has (n := s.heap.objs.size + 1) k
      refine .inr ⟨.inl k,c,e,?_⟩
      have q := x.cell y c e
      rw [bindC_get ndP hp hu (by show scope.names.lookup y ≠ _; rw [k]; decide)] at q
      exact q
  · exact e0.hok.fresh (Nat.le_of_lt (x.above y c (PySem.mem_of_lookup h)))
  · unfold start
    show _ = N.length
    rw [List.length_append,List.length_map,List.length_replicate]
    omega
theorem fn_ofM {P : Program}{w : World}{K : PySem.W.Frag}{mg : Str -> Option Value}{base : Heap}{k : Nat}{f : Addr}{name qual : Str}{params : Arguments}{body : List Stmt}{scope : Scope}{dV kV doc pm cdv ct oc : Value}{an od : Option Addr}
    {osl : Array (Option Value)} {N ps : List Str} {sp : Addr -> Sp} (lk : K.lookup f = some ⟨oc,od,.func (PySem.W.fnOf name qual params body scope dV kV doc pm an cdv ct),osl⟩) (hcd : PySem.W.codeIn K cdv qual = true) (S : FnScope N ps scope)
    (len : ∀ x vs H Q E,sp x vs H Q E -> vs.length = ps.length)
    (hbody : ∀ (A : Around) (outer : List Env) (s : Shared) (H : Hp) (vs : List V) (Q : VK) (x : Addr),RoomM k (A.deeper (envOfC qual scope s.heap.objs.size f cdv)) -> A.handled = some (.ref x) -> sp x vs H Q E0 ->
      ∃ t,PSs (cxOfM P w K mg base N qual scope f cdv A outer s H) body t /\ t { nx := fun _ H' => Q .non H',rt := Q } (start N vs) H) :
    FnOkM P w K mg base (k + 1) f (PySem.W.fnOf name qual params body scope dV kV doc pm an cdv ct) ps sp := by
  refine ⟨len,fun A outer s H args us vs Q x hr hh e0 hb r hsp => ?_⟩
  have hl := len _ _ _ _ _ hsp
  have KX : K.In s.heap := e0.mod.kin.keeps fun b o e => (e0.bs b o e).1
  have lim : s.heap.NoLimit := e0.mod.nolimit.keeps fun b o e => (e0.bs b o e).1
  have hkind : ∀ y ∈ ps.zip us,scope.names.lookup y.1 = some .local \/ (scope.names.lookup y.1 = some .cell /\ ((cellsFrom (s.heap.objs.size + 1) scope.names []).lookup y.1).isSome = true) := fun ⟨n,v⟩ hy => by
    rcases S.par n (List.of_mem_zip hy).1 with q | q
    · exact .inl q
    · exact .inr ⟨q,PySem.W.cellsFrom_some _ _ _ (.inl q)⟩
  refine codeAny_call_function hr.depth (KX _ _ lk) rfl S.co S.gen rfl (PySem.W.codeRec_of KX hcd) (hb _ _ _ _ ?_)
  refine wpAny_newFunctionEnv_cells S.kind hkind fun env he s1 xc => ?_
  subst he
  refine ⟨lim.keeps xc.toInCall.keep,codeAny_func ?_⟩
  obtain ⟨t,ht,hq⟩ := hbody A outer s H vs Q x (hr.deeper _) hh hsp
  have I : Inv (cxOfM P w K mg base N qual scope f cdv A outer s H) [] (start N vs) H s1 := inv_startM S e0 hl r xc
  refine wpAny_mono (ht [] s1 (start N vs) H _ I hq) (fun fl s' hs => ?_) fun e s' hs => hs.elim
  have fin : ∀ {σ' : St} {H' : Hp} {v : V} {u : Value},Inv (cxOfM P w K mg base N qual scope f cdv A outer s H) [] σ' H' s' -> RelV v u -> Q v H' -> CE outer P w H s Q u s' :=
    fun {σ' H' v u} J rv q => ⟨v,H',J.os,J.bare,J.base,J.hok,rv,q⟩
  cases fl with
  | ret u =>
    obtain ⟨v,σ',H',J,rv,q⟩ := hs
    exact fin J rv q
  | next =>
    obtain ⟨σ',H',J,q⟩ := hs
    exact fin (v := V.non) (u := Value.none) J rfl q
  | brk =>
    obtain ⟨_,_,_,q⟩ := hs
    exact False.elim q
  | cont =>
    obtain ⟨_,_,_,q⟩ := hs
    exact False.elim q
theorem Fun.okM {P : Program}{w : World}{K : PySem.W.Frag}{mg : Str -> Option Value}{base : Heap}{x qual : Str}{st : Stmt}{f : Addr}{fd : FuncData}{N ps : List Str}{k : Nat}{sp : Addr -> Sp}(F : Fun K x qual st f fd)(S : FnScope N ps (defScope st))(len : ∀ y vs H Q E,sp y vs H Q E -> vs.length = ps.length)
    (hbody : ∀ (cdv : Value) (A : Around) (outer : List Env) (s : Shared) (H : Hp) (vs : List V) (Q : VK) (y : Addr),RoomM k (A.deeper (envOfC qual (defScope st) s.heap.objs.size f cdv)) -> A.handled = some (.ref y) -> sp y vs H Q E0 ->
      ∃ t,PSs (cxOfM P w K mg base N qual (defScope st) f cdv A outer s H) (defBody st) t /\ t { nx := fun _ H' => Q .non H',rt := Q } (start N vs) H) : FnOkM P w K mg base (k + 1) f fd ps sp := by
  obtain ⟨oc,od,kV,doc,pm,an,cdv,ct,osl,rfl,lk,hcd⟩ := F.ex
  exact fn_ofM lk hcd S len fun A outer s H vs Q y hr hh hsp => hbody cdv A outer s H vs Q y hr hh hsp
structure CalleeM (P : Program)(w : World)(K : PySem.W.Frag)(mg : Str -> Option Value)(base : Heap)(x : Str)(k : Nat)(ps : List Str)(sp : Addr -> Sp) : Prop where
  ex : ∃ f fd,FnOkM P w K mg base k f fd ps sp /\ mg x = some (.ref f) /\ PySem.W.keepIn K (.ref f) = true /\ Binds K fd ps []
theorem CalleeM.mk' {P : Program}{w : World}{K : PySem.W.Frag}{mg : Str -> Option Value}{base : Heap}{x qual : Str}{st : Stmt}{f : Addr}{fd : FuncData}{k : Nat}{ps : List Str}{sp : Addr -> Sp}(F : Fun K x qual st f fd)(G : FnOkM P w K mg base k f fd ps sp)(hm : mg x = some (.ref f))(hb : Binds K fd ps []) :
    CalleeM P w K mg base x k ps sp := ⟨f,fd,G,hm,F.kp,hb⟩
theorem pe_ownM {X : Cx}{k : Nat}{ps : List Str}{sp : Addr -> Sp}{x : Str}{p pos : Pos}{e : Expr}{es : List Expr}{t : TA}{y : Addr}(hh : X.A.handled = some (.ref y))(G : CalleeM X.prog X.w X.K X.mg X.base x k ps sp)(hr : RoomM k X.A)(hg : Gl X x)(ha : PA X (e :: es) t)(hdb : (x == ("__debug__" : Str)) = false := by decide)
    (he : starEach (e :: es) X.env = (false,eval e X.env) :: starEach es X.env := by rfl) (hpl : (backTo pos (starEach es X.env)).any (·.1) = false := by rfl) : PE X (.Call (.Name x p) (e :: es) [] pos) (tCall (sp y) [] E0 t) := by
  obtain ⟨f,fd,F,hm,hk,hb⟩ := G.ex
  intro pins s σ H Q I h
  refine wpAny_Call_Name_kw (ld_glob I hg hm ?_ hdb)
  refine PySem.W.callWith_K (h₀ := X.base) I.ok.mod.kin hk (thn (ha pos pins s σ H _ I h) fun us s1 ⟨vs,H1,I1,r,q⟩ => ⟨I1.kIn,?_⟩) he hpl
  have q : sp y (vs ++ []) H1 Q E0 := q
  rw [List.append_nil] at q
  have hl : us.length = ps.length := by rw [<- r.length]; exact F.len _ _ _ _ _ q
  have hb' := hb s1 us I1.kIn (by simpa using hl)
  rw [List.append_nil] at hb'
  refine wpAny_call (codeAny_mono (F.run X.A X.stack s1 H1 ⟨us,[]⟩ us vs Q y hr hh I1.env0 hb' r q) fun r s' hq => ?_)
  cases r with
  | error e => exact hq.elim
  | ok fl =>
    cases fl with
    | ret u => exact I1.after hq
    | next => exact False.elim hq
    | brk => exact False.elim hq
    | cont => exact False.elim hq
end L2
set_option Elab.async false
set_option linter.all false
set_option maxRecDepth 100000
set_option maxHeartbeats 4000000
namespace L2
open PySem PySem.Spec PyProof.Rows
structure XCls (K : PySem.W.Frag)(D : Addr) : Prop where
  get : PySem.W.findIn K (.ref D) "__getattribute__" = some (some (.builtin "BaseException.__getattribute__"))
  hook : PySem.W.findIn K (.ref D) "__getattr__" = some none
  fnd : PySem.W.findObj K D none "__class__" = some (.bind (.builtin "getset_descriptor.__get__") (.builtin "object.__class__"))
  mro : PySem.W.mroIn K D (.type "object") = some true
  cls : (PySem.W.clsIn K D).isSome = true
  exc : PySem.W.subIn K (.ref D) (.type "BaseException") = some true
theorem chk_args {M : Model}{A : Around}{E : Value -> Shared -> Prop}{s : Shared}{id : String}{args : Args}{Q : Unit -> Shared -> Prop}(ha : argsOk id args)(h : Q () s) : wpAny M A (match Manifest.signature? id with | some sig => Bind.checkArgs id sig args | x => pure ()) Q E s := by
  cases hsig : Manifest.signature? id with
  | none => exact wpAny_pure h
  | some sig =>
    simp only [argsOk,hsig] at ha
    have h2 : Bind.checkArgs id sig args = pure () := ha
    dsimp only
    rw [h2]
    exact wpAny_pure h
theorem xbody {prog : Program}{w : World}{A : Around}{E : Value -> Shared -> Prop}{s : Shared}{K : PySem.W.Frag}{x D : Addr}{ox : Obj}{t : Tok}{Q : Fin -> Shared -> Prop}(X : K.In s.heap)(I : PySem.W.InstAt s.heap x ox D none)(F : XCls K D)(h : Q (.done (.ret (.ref D))) s) :
    wpAny (model prog w) A (Builtin.«object.__getattribute__» ⟨[.ref x,.str "__class__" t],[]⟩) Q E s := by
  obtain ⟨h0,g,d,tt,os⟩ := s
  have L0 := I.type (M := model prog w)
  have L3 := PySem.W.looks_find (M := model prog w) X I F.fnd
  unfold Builtin.«object.__getattribute__»
  refine wpAny_bind (wpAny_pure ?_)
  refine wpAny_bind (wpAny_pure ?_)
  refine wpAny_bind (L0.at ?_)
  refine wpAny_bind (L3.at ?_)
  dsimp only
  unfold Builtin.ObjectAttr.bindTo
  refine wpAny_bind (wpAny_holding (wpAny_call (PySem.W.class_get (s := ⟨h0,g,d,tt,os⟩) (ox := ox) (od := none) X I F.mro ?_)))
  exact wpAny_pure h
theorem xget {prog : Program}{w : World}{A : Around}{E : Value -> Shared -> Prop}{s : Shared}{K : PySem.W.Frag}{x D : Addr}{ox : Obj}{Q : Option Value -> Shared -> Prop}(X : K.In s.heap)(I : PySem.W.InstAt s.heap x ox D none)(F : XCls K D)(h : Q (some (.ref D)) { s with toks := s.toks + 1 }) :
    wpAny (model prog w) A (getAttr? (.ref x) "__class__") Q E s := by
  obtain ⟨h0,g,d,tt,os⟩ := s
  have L0 := I.type (M := model prog w)
  have L1 := PySem.W.looks_findIn (M := model prog w) X F.get
  have L2 := PySem.W.looks_findIn (M := model prog w) X F.hook
  have L3 := PySem.W.looks_find (M := model prog w) X I F.fnd
  have LB : PySem.W.Looks (model prog w) h0 (isInstance (.ref x) (.type "BaseException")) true := L0.andThen (PySem.W.looks_subIn X F.exc)
  have f3 := PySem.F.attr_ValueError.ga.bind (.ref x)
  have hx2 : (Value.builtin "BaseException.__getattribute__" == Value.builtin "object.__getattribute__") = false := by decide +kernel
  unfold getAttr? getAttrBy? getAttrBy; refine wpAny_bind (wpAny_mkText (wpAny_bind (wpAny_attempt (wpAny_holding (wpAny_bind (L0.at (wpAny_bind (L1.at ?_))))))))
  dsimp only; rw [if_neg (by rw [hx2]; simp)]
  unfold getAttrByItsOwn hookBefore; refine wpAny_bind ?_
  rw [if_pos (by rfl)]; refine L2.at ?_
  refine wpAny_bind (wpAny_attempt (wpAny_holding ?_))
  unfold callGetattribute; rw [if_neg (by simp)]
  unfold boundAndCalled; rw [f3]; refine wpAny_bind (wpAny_pure ?_)
  refine wpAny_call (codeAny_call_builtin PySem.F.attr_ValueError.ga.plain PySem.F.entry_bexc_ga ?_)
  have hk : builtinKind "BaseException.__getattribute__" = some .slot := by decide +kernel
  have hsplit : splitId "BaseException.__getattribute__" = some ("BaseException","__getattribute__") := by decide +kernel
  have ha := PySem.F.args_bexc_ga (.ref x) (.str "__class__" tt)
  simp only [checkBuiltinCall,hk,hsplit]
  refine wpAny_bind (LB.at ?_)
  simp only [if_true,Bool.not_true,Bool.false_eq_true,if_false]
  refine chk_args ha (xbody X I F ?_)
  dsimp only
  exact PySem.W.handed_on rfl (wpAny_pure h)
theorem looks_cls {K : PySem.W.Frag}{M : Model}{h : Heap}{C : Addr}(X : K.In h)(e1 : (PySem.W.clsIn K C).isSome = true) : PySem.W.Looks M h (isType (.ref C)) true := by
  unfold PySem.W.clsIn at e1
  split at e1
  · rename_i c' d' cd' sl' ho
    intro A' Q' E' s' k q
    unfold isType loadHead; exact wpAny_bind (wpAny_loadPart (k _ _ (X _ _ ho)) (wpAny_pure q))
  · cases e1
section
variable {prog : Program}{w : World}{A : Around}{E : Value -> Shared -> Prop}{s : Shared}{K : PySem.W.Frag}{x C D : Addr}{ox : Obj}{T : String}{Q : Value -> Shared -> Prop}
theorem isi_not (X : K.In s.heap)(I : PySem.W.InstAt s.heap x ox D none)(F : XCls K D)(e : PySem.W.kin_not K D C = true)(h : Q (.bool false) { s with toks := s.toks + 1 }) : wpAny (model prog w) A (call (.builtin "isinstance") [.ref x,.ref C]) Q E s := by
  unfold PySem.W.kin_not at e
  rw [Bool.and_eq_true,Bool.and_eq_true,Bool.and_eq_true] at e
  obtain ⟨⟨⟨e0,e1⟩,e2⟩,e3⟩ := e
  have hne : (Value.ref D == Value.ref C) = false := Bool.eq_false_iff.mpr fun q => of_decide_eq_true e0 (Value.ref.inj (beq_iff_eq.mp q))
  refine call_isinstance_of ?_ (by intro q; cases q)
  obtain ⟨h0,g,d,tt,os⟩ := s
  have L0 := I.type (M := model prog w)
  have hsub : PySem.W.Looks (model prog w) h0 (isSubtype (.ref D) (.ref C)) false := PySem.W.looks_subIn X (beq_iff_eq.mp e3)
  have hty : PySem.W.Looks (model prog w) h0 (typeOf (.ref C)) (.type "type") := PySem.W.looks_typeIn X (beq_iff_eq.mp e2)
  have LI : PySem.W.Looks (model prog w) h0 (isInstance (.ref x) (.ref C)) false := L0.andThen hsub
  unfold Builtin.«isinstance.nested»; refine wpAny_bind (L0.at ?_)
  rw [if_neg (fun q => by rw [hne] at q; exact Bool.noConfusion q)]; refine wpAny_bind (hty.at ?_)
  rw [if_pos (by decide)]; k_delta "plainIsInstance"
  refine wpAny_bind (wpAny_bind ((looks_cls X e1).at ?_)); simp only [Bool.not_true,Bool.false_eq_true,if_false]
  refine wpAny_bind (LI.at ?_); simp only [Bool.false_eq_true,if_false]
  refine wpAny_bind (xget (s := ⟨h0,g,d,tt,os⟩) X I F ?_)
  refine wpAny_bind ((looks_cls X F.cls).at ?_); simp only [Bool.not_true,Bool.false_eq_true,if_false]
  refine wpAny_bind (wpAny_rule ?_); refine hsub.at ?_
  first | exact wpAny_pure h | exact wpAny_pure (wpAny_pure h) | exact wpAny_bind (wpAny_pure (wpAny_pure h))
theorem isi_self (I : PySem.W.InstAt s.heap x ox D none)(h : Q (.bool true) s) : wpAny (model prog w) A (call (.builtin "isinstance") [.ref x,.ref D]) Q E s := by
  refine call_isinstance_of ?_ (by intro q; cases q)
  obtain ⟨h0,g,d,tt,os⟩ := s
  have L0 := I.type (M := model prog w)
  unfold Builtin.«isinstance.nested»; refine wpAny_bind (L0.at ?_)
  rw [if_pos (by simp)]
  repeat (first | refine wpAny_pure ?_ | refine wpAny_rule ?_ | refine wpAny_bind ?_)
  exact h
theorem isi_base (X : K.In s.heap)(I : PySem.W.InstAt s.heap x ox D none)(e : PySem.W.subIn K (.ref D) (.type T) = some true)(ht : typeOf (.type T) = pure (.type "type")) (h : Q (.bool true) s) : wpAny (model prog w) A (call (.builtin "isinstance") [.ref x,.type T]) Q E s := by
  refine call_isinstance_of ?_ (by intro q; cases q)
  obtain ⟨h0,g,d,tt,os⟩ := s
  have L0 := I.type (M := model prog w)
  have LI : PySem.W.Looks (model prog w) h0 (isInstance (.ref x) (.type T)) true := L0.andThen (PySem.W.looks_subIn X e)
  unfold Builtin.«isinstance.nested»; refine wpAny_bind (L0.at ?_)
  rw [if_neg (by intro q; cases eq_of_beq q)]; refine wpAny_bind (wpAny_of_eq ht ?_)
  rw [if_pos (by decide)]; k_delta "plainIsInstance"
  refine wpAny_bind (wpAny_bind (m := isType (.type T)) (wpAny_pure (a := true) ?_)); simp only [Bool.not_true,Bool.false_eq_true,if_false]
  refine wpAny_bind (LI.at ?_); simp only [if_true]
  first | exact wpAny_pure h | exact wpAny_pure (wpAny_pure h) | exact wpAny_bind (wpAny_pure (wpAny_pure h))
end
section
variable {X : Cx}
theorem Inv.instAt {pins : List (Addr × Obj)}{σ : St}{H : Hp}{s : Shared}{x C : Addr}(I : Inv X pins σ H s)(hx : H x = some (ExcO x C)) : ∃ ox,PySem.W.InstAt s.heap x ox C none := by
  obtain ⟨ox,vs,e1,e2,e3,e4,e5⟩ := I.exc hx
  exact ⟨ox,e1,e2,by unfold PySem.W.notCls; rw [e4],by rw [e3]; trivial⟩
theorem call_isinstX (K : PySem.W.Frag)(hK : X.K = K) : CallR X (.builtin "isinstance") (fun xs H Q => ∃ (x D C : Addr) (b : Bool),xs = [.ref x,.ref C] /\ H x = some (ExcO x D) /\ ((b = true /\ C = D) \/ (b = false /\ XCls K D /\ PySem.W.kin_not K D C = true)) /\ Q (.bl b) H) := by
  intro pins s σ H xs us Q I r h
  subst hK
  obtain ⟨x,D,C,b,rfl,hx,hb,q⟩ := h
  obtain ⟨u,w',rfl,r1,r2⟩ := vals2 r
  cases r1; cases r2
  obtain ⟨ox,hI⟩ := I.instAt hx
  rcases hb with ⟨rfl,rfl⟩ | ⟨rfl,F,e⟩
  · exact isi_self hI ⟨.bl true,H,I,rfl,q⟩
  · exact isi_not I.kIn hI F e ⟨.bl false,H,I.tok _,rfl,q⟩
theorem call_isinstXT (K : PySem.W.Frag)(hK : X.K = K) : CallR X (.builtin "isinstance") (fun xs H Q => ∃ (x D : Addr) (T : String),xs = [.ref x,.ty T] /\ H x = some (ExcO x D) /\ PySem.W.subIn K (.ref D) (.type T) = some true /\ typeOf (.type T) = pure (.type "type") /\ Q (.bl true) H) := by
  intro pins s σ H xs us Q I r h
  subst hK
  obtain ⟨x,D,T,rfl,hx,e,ht,q⟩ := h
  obtain ⟨u,w',rfl,r1,r2⟩ := vals2 r
  cases r1; cases (show w' = Value.type T from r2)
  obtain ⟨ox,hI⟩ := I.instAt hx
  exact isi_base I.kIn hI e ht ⟨.bl true,H,I,rfl,q⟩
theorem pe_globC {x : Str}{C : Addr}{pos : Pos}(hg : Gl X x)(hm : X.mg x = some (.ref C))(hd : (x == ("__debug__" : Str)) = false := by decide) : PE X (.Name x pos) (tC (.ref C)) := pe_glob hg hm rfl hd
end
theorem exm_own {M : Model}{A : Around}{E : Value -> Shared -> Prop}{s : Shared}{K : PySem.W.Frag}{x B C : Addr}{ox : Obj}{Q : Bool -> Shared -> Prop}(X : K.In s.heap)(I : PySem.W.InstAt s.heap x ox C none)(hB : (PySem.W.clsIn K B).isSome = true)(tB : PySem.W.typeIn K (.ref B) = some (.type "type"))
    (bB : PySem.W.subIn K (.ref B) (.type "BaseException") = some true) (cB : PySem.W.subIn K (.ref C) (.ref B) = some true) (h : Q true s) : wpAny M A (excMatches (.ref x) (.ref B)) Q E s := by
  obtain ⟨h0,g,d,tt,os⟩ := s
  have LT : PySem.W.Looks M h0 (isInstance (.ref B) (.type "tuple")) false := (PySem.W.looks_typeIn X tB).andThen (PySem.W.Looks.of_pure tc_notTuple)
  have LE : PySem.W.Looks M h0 (isExcClass (.ref B)) true := by
    unfold isExcClass
    exact (looks_cls X hB).andThen (PySem.W.looks_subIn X bB)
  unfold excMatches
  refine wpAny_bind (LT.at ?_)
  simp only [Bool.false_eq_true,if_false]
  refine wpAny_bind (wpAny_pure ?_)
  simp only [List.forIn_cons,List.forIn_nil]
  refine wpAny_bind (wpAny_bind (wpAny_bind (LE.at ?_)))
  simp only [Bool.not_true,Bool.false_eq_true,if_false]
  refine wpAny_pure (wpAny_pure ?_)
  refine wpAny_bind (I.type.at ?_)
  refine wpAny_bind (wpAny_bind (wpAny_bind ((PySem.W.looks_subIn X cB).at ?_)))
  simp only [if_true]
  exact wpAny_pure (wpAny_pure (wpAny_pure h))
end L2
set_option Elab.async false
set_option linter.all false
set_option maxRecDepth 100000
set_option maxHeartbeats 4000000
namespace L2
open PySem PySem.Spec PyProof.Rows
abbrev Cx.re (X : Cx)(E : Value -> Shared -> Prop)(pn : List (Addr × Obj)) : Cx := { X with xe := E,pn := pn }
abbrev Cx.marked (X : Cx)(x : Addr) : Cx := { X with A := X.A.mark (some (.ref x)),calm := false,xe := fun _ _ => False }
section
variable {X : Cx}{pins pl : List (Addr × Obj)}{σ : St}{H : Hp}{s : Shared}{E : Value -> Shared -> Prop}{x : Addr}
theorem Cx.Ok.re (ok : X.Ok)(E : Value -> Shared -> Prop)(pn : List (Addr × Obj)) : (X.re E pn).Ok := ⟨ok.mod,ok.kind,ok.glob,ok.blt,ok.above,ok.inj,ok.has,ok.cab,ok.hd,ok.frames,ok.stk,ok.exf,ok.bs,ok.bsz,ok.noex,ok.exfs,ok.funs,ok.frf⟩
theorem Cx.Ok.unre {pn : List (Addr × Obj)}(ok : (X.re E pn).Ok) : X.Ok := ⟨ok.mod,ok.kind,ok.glob,ok.blt,ok.above,ok.inj,ok.has,ok.cab,ok.hd,ok.frames,ok.stk,ok.exf,ok.bs,ok.bsz,ok.noex,ok.exfs,ok.funs,ok.frf⟩
theorem Cx.Ok.marked (ok : X.Ok)(x : Addr) : (X.marked x).Ok := ⟨ok.mod,ok.kind,ok.glob,ok.blt,ok.above,ok.inj,ok.has,ok.cab,fun z => (by cases z),ok.frames,ok.stk,ok.exf,ok.bs,ok.bsz,ok.noex,ok.exfs,ok.funs,ok.frf⟩
theorem Inv.re (I : Inv X pins σ H s)(E : Value -> Shared -> Prop) : Inv (X.re E (X.pn ++ pins)) [] σ H s := ⟨I.ok.re E _,I.os,I.bare,I.base,I.loc,I.cell,I.free,I.freeC,fun p hp => I.pin p (by simpa using hp),I.hok,I.len⟩
theorem Inv.unre (I : Inv (X.re E (X.pn ++ pins)) pl σ H s) : Inv X pins σ H s := ⟨I.ok.unre,I.os,I.bare,I.base,I.loc,I.cell,I.free,I.freeC,fun p hp => I.pin p (List.mem_append_left _ hp),I.hok,I.len⟩
theorem Inv.marked (I : Inv X pins σ H s)(x : Addr) : Inv (X.marked x) pins σ H s := ⟨I.ok.marked x,I.os,I.bare,I.base,I.loc,I.cell,I.free,I.freeC,I.pin,I.hok,I.len⟩
theorem Inv.unmarked (ok : X.Ok)(I : Inv (X.marked x) pins σ H s) : Inv X pins σ H s := ⟨ok,I.os,I.bare,I.base,I.loc,I.cell,I.free,I.freeC,I.pin,I.hok,I.len⟩
theorem Inv.forget {i : Nat}{n : Str}{m : Str -> Option Value}{u : Option Value}{h' : Heap}(I : Inv X pins σ H s)(hN : X.N.Nodup)(hi : X.N[i]? = some n)(hσ : σ[i]? = some none)(hn : s.heap.Ns X.env.locals m)(hn' : h'.Ns X.env.locals (fun y => if y = n then u else m y))(hs : Heap.SameBut X.env.locals s.heap h') :
    Inv X pins σ H { s with heap := h' } := by
  obtain ⟨m0,hn0,hl⟩ := id I.loc
  obtain ⟨oL,_,_,hoL,_⟩ := id hn
  have cne := I.cne
  have mm : m0 = m := by
    obtain ⟨o,es,ep,e1,d1,_,f1⟩ := hn0; obtain ⟨o',es',ep',e2,d2,_,f2⟩ := hn
    rw [e1] at e2; cases e2; rw [d1] at d2; cases d2; funext y; rw [<- f1,<- f2]
  subst mm
  refine ⟨I.ok,I.os,I.bare,⟨fun b o e n hb hx => ?_,fun b o e n hb hx => ?_,I.base.free,fun b o e hx => ?_,I.base.tups,I.base.frzs,I.base.tbls⟩,⟨_,hn',fun j y v' e1 e2 e3 => ?_⟩,fun y c e => ?_,I.free,I.freeC,fun p hp => ?_,fun b ob e => ?_,I.len⟩
  · exact (hs.2 b (Nat.ne_of_lt (Nat.lt_of_lt_of_le (Heap.lt_size e) I.ok.above))).trans (I.base.keep b o e n hb hx)
  · obtain ⟨sl,e1⟩ := I.base.slot b o e n hb hx
    exact ⟨sl,(hs.2 b (Nat.ne_of_lt (Nat.lt_of_lt_of_le (Heap.lt_size e) I.ok.above))).trans e1⟩
  · obtain ⟨o',e1⟩ := I.base.there b o e hx
    exact ⟨o',(hs.2 b (Nat.ne_of_lt (Nat.lt_of_lt_of_le (Heap.lt_size e) I.ok.above))).trans e1⟩
  · obtain ⟨u',r',q⟩ := hl j y v' e1 e2 e3
    refine ⟨u',r',?_⟩
    have hj : j ≠ i := fun z => by rw [z,hσ] at e2; cases e2
    rcases q with ⟨k,e⟩ | ⟨k,c,e,z⟩
    · refine .inl ⟨k,?_⟩
      have : y ≠ n := fun e => hj (nodup_ix hN e1 (e ▸ hi))
      simp [this,e]
    · exact .inr ⟨k,c,e,z.sameBut hs (cne y c e)⟩
  · obtain ⟨w',z⟩ := I.cell y c e
    exact ⟨w',z.sameBut hs (cne y c e)⟩
  · obtain ⟨e,n,ne,nf,d⟩ := I.pin p hp
    exact ⟨(hs.2 p.1 ne).trans e,n,ne,nf,d⟩
  · refine (I.hok b ob e).stay (fun c w' hc q => (hs.2 c ?_).trans q) (fun _ q => q) fun _ _ q => q
    rintro rfl
    rcases hc with rfl | hc
    · rw [I.free] at e; cases e
    · rw [I.free] at hc; cases hc
theorem unbind_ok {M : Model}{A : Around}{F : Value -> Shared -> Prop}{i : Nat}{n : Str}{pos : Pos}{Q : Unit -> Shared -> Prop}(I : Inv X pins σ H s)(hN : X.N.Nodup)(hi : X.N[i]? = some n)(hx : X.env.scope.names.lookup n = some .local)
    (h : ∀ s',Inv X pins (σ.set i none) H s' -> Q () s') : wpAny M A (do bindName X.env n .none; unbindBehindTheSuite X.env n pos) Q F s := by
  have hcls : (X.env.scope.kind == .class || (X.env.scope.kind == .module && X.env.locals != X.env.globals)) = false := by rw [I.ok.kind]; rfl
  have hiσ : i < σ.length := by rw [I.len]; exact (List.getElem?_eq_some_iff.mp hi).1
  refine wpAny_bind (wpAny_bindName (store_ok I hN hi (.inl hx) (v := V.non) (u := Value.none) rfl (fun s1 I1 => ?_) (.inr hx)))
  unfold unbindBehindTheSuite; refine wpAny_onRaise ?_
  obtain ⟨m,hn,hl⟩ := id I1.loc
  obtain ⟨u,r,q⟩ := hl i n .non hi (by simp [hiσ]) (.inl hx)
  have hv : m n = some u := by
    rcases q with ⟨_,e⟩ | ⟨k,_⟩
    · exact e
    · have hx' : X.env.kindOf n = some .local := hx
      rw [hx'] at k
      rcases k with z | z <;> cases z
  refine wpAny_unbindName_local hx hn hv hcls fun h' u' hn' hs => h _ ?_
  have I2 : Inv X pins (σ.set i none) H s1 := I1.weak (by simp) fun j v e => by
    by_cases hj : j = i
    · subst hj
      rw [List.getElem?_set_self hiσ] at e; cases e
    · rw [List.getElem?_set_ne (Ne.symm hj)] at e ⊢
      exact e
  exact I2.forget hN hi (by rw [List.getElem?_set_self hiσ]) hn hn' hs
end
theorem note_next {M : Model}{A : Around}{F : Value -> Shared -> Prop}{s : Shared}{base : Heap}{env : Env}{outer : List Env}{L x T0 : Addr}{ox oT : Obj}{vs ts : Array Value}{Q : Unit -> Shared -> Prop}(f1 : A.frames = some (env :: outer))(f2 : s.heap.FunFrames base (env :: outer))(f3 : env.frame = some L)
    (x1 : s.heap.get? x = some ox) (x2 : ox.data = .fields vs) (x3 : vs[1]? = some (.ref T0)) (t1 : s.heap.get? T0 = some oT) (t2 : oT.data = .fields ts) (t3 : ts[3]? = some .none) (tx : T0 ≠ x)
    (q : ∀ h' T,Gone ((env :: outer).filterMap (·.frame)) x ox [T0] s.heap h' T -> Q () { s with heap := h' }) : wpAny M A (noteFrame (.ref x) env) (fun _ s' => wpAny M A (setFlight (.ref x) none) Q F s') F s := by
  unfold noteFrame; simp only [f3]
  refine wpAny_bind (wpAny_field x1 x2 x3 ?_); rw [if_pos (show (Value.ref T0 != Value.none) = true from by simp)]
  refine wpAny_bind (wpAny_field t1 t2 t3 ?_); rw [if_neg (show ¬ ((Value.none == rawInt L) = true) from by simp [rawInt])]
  refine wpAny_bind (wpAny_setField t1 t2 (Array.getElem?_eq_some_iff.mp t3).1 ?_)
  have oth : ∀ b,b ≠ T0 -> (s.heap.update T0 (Obj.mapFields (·.setIfInBounds 3 Value.none))).get? b = s.heap.get? b := fun b hb => Heap.get?_update_other _ _ (Ne.symm hb)
  have nrec : ∀ b o,s.heap.get? b = some o -> (∀ vs,o.data ≠ .fields vs) -> b ≠ T0 := fun b o e n z => by
    rw [z,t1] at e
    cases e
    exact n ts t2
  have fT : ∀ b ∈ (env :: outer).filterMap (·.frame),b ≠ T0 := fun b hb => by
    obtain ⟨_,o,e1,e2⟩ := f2.mem hb
    exact nrec b o e1 e2
  refine entry_gone f1 (f2.of_keeps fun b o e n => ⟨o,(oth b (nrec b o e n)).trans e,rfl⟩) f3 ((oth x (Ne.symm tx)).trans x1) x2 (Array.getElem?_eq_some_iff.mp x3).1 fun h' T g => q h' T ⟨?_,?_,?_,g.exc,g.tr⟩
  · intro b o nf nx no e
    exact g.keep b o nf nx (by simp) ((oth b (by simpa using no)).trans e)
  · intro b o hb e
    exact g.slot b o hb ((oth b (fT b hb)).trans e)
  · have := g.new
    simpa using this
structure XBase (K : PySem.W.Frag)(B : Addr) : Prop where
  cls : (PySem.W.clsIn K B).isSome = true
  typ : PySem.W.typeIn K (.ref B) = some (.type "type")
  exc : PySem.W.subIn K (.ref B) (.type "BaseException") = some true
def tTry (N : List Str)(K : PySem.W.Frag)(Ba : Addr)(i : Nat)(tb : XK -> TS)(th : Addr -> TS) : TS := fun D σ H => ∃ E : XK,tb E D σ H /\ ∀ C H' x,E (.ref C) none H' -> H' x = none -> PySem.W.subIn K (.ref C) (.ref Ba) = some true /\
  th x { nx := fun σ' H'' => D.nx (σ'.set i none) H'',rt := D.rt,bk := fun σ' H'' => D.bk (σ'.set i none) H'',ct := fun σ' H'' => D.ct (σ'.set i none) H'' } ((List.replicate N.length none).set i (some (.ref x))) (upd H' x (ExcO x C))
theorem ps_try {X : Cx}{body : List Stmt}{B n : Str}{np hpos pos : Pos}{b₀ : Stmt}{suite : List Stmt}{i : Nat}{tb : XK -> TS}{th : Addr -> TS}{Ba : Addr}(K : PySem.W.Frag)(hK : X.K = K)(hst : X.stack = X.env :: X.outer)(hfr : X.env.frame = some X.env.locals)(hg : Gl X B)(hm : X.mg B = some (.ref Ba))(F : XBase K Ba)
    (hN : X.N.Nodup) (hi : X.N[i]? = some n) (hn : X.env.scope.names.lookup n = some .local)
    (hb : ∀ (xe : Value -> Shared -> Prop) (pn : List (Addr × Obj)) (E : XK),Passes (CX1 X.prog X.w X.base) (X.re xe pn) E -> PSs (X.re xe pn) body (tb E)) (hs : ∀ x,PSs (X.marked x) (b₀ :: suite) (th x)) (hd : (B == ("__debug__" : Str)) = false := by decide) :
    PS X (.Try body [.ExceptHandler (some (.Name B np)) (some n) (b₀ :: suite) hpos] [] [] pos) (tTry X.N K Ba i tb th) := by
  intro pins s σ H D I ⟨E,hbody,hcatch⟩
  subst hK
  refine wpAny_Try_except ?_
  have hp : Passes (CX1 X.prog X.w X.base) (X.re (fun e s' => ∃ σ0 H0 s0,Inv X pins σ0 H0 s0 /\ CX1 X.prog X.w X.base X.stack H0 s0 E e s') (X.pn ++ pins)) E := fun pins' σ' H1 s1 e s' I1 h => ⟨σ',H1,s1,I1.unre,h⟩
  refine wpAny_mono (hb _ _ E hp [] s σ H D (I.re _) hbody) (fun f s1 q => ?_) (fun e s1 hx => ?_)
  · cases f with
    | next => obtain ⟨σ',H',I',q⟩ := q; exact wpAny_execs_nil ⟨σ',H',I'.unre,q⟩
    | brk => obtain ⟨σ',H',I',q⟩ := q; exact ⟨σ',H',I'.unre,q⟩
    | cont => obtain ⟨σ',H',I',q⟩ := q; exact ⟨σ',H',I'.unre,q⟩
    | ret u => obtain ⟨v,σ',H',I',r,q⟩ := q; exact ⟨v,σ',H',I'.unre,r,q⟩
  obtain ⟨σ0,H0,s0,I0,x,C,H2,rfl,os,bare,U,hok,⟨hx0,hb0,hg0,ox,vs,T0,oT,ts',x1,xc,xn,xd,v1,v2,tx,hT0,bT0,gT0,t1,t2,t3⟩,q⟩ := hx
  obtain ⟨cB,hth⟩ := hcatch C H2 x q hx0
  have I2 : Inv X pins σ0 H2 s1 := I0.raised os bare U hok
  have hfrm : X.A.frames = some (X.env :: X.outer) := by rw [<- hst]; exact I2.ok.frames
  have hstk : s1.heap.FunFrames X.base (X.env :: X.outer) := by rw [<- hst]; exact I2.stack
  refine note_next (base := X.base) hfrm hstk hfr x1 xd v1 t1 t2 t3 tx fun h2 T g => ?_
  have hfs : (X.env :: X.outer).filterMap (·.frame) = frs X.stack := by rw [hst]; rfl
  rw [hfs] at g
  have ne1 : ∀ b o,s0.heap.get? b = some o -> b ≠ x /\ b ≠ T0 := fun b o eb => ⟨fun z => (by rw [z,hg0] at eb; cases eb),fun z => (by rw [z,gT0] at eb; cases eb)⟩
  have nTo : ∀ b o,s1.heap.get? b = some o -> b ≠ T := fun b o eb z => by
    have h1 := Heap.lt_size eb
    rw [z] at h1
    exact absurd (Nat.lt_of_lt_of_le h1 g.new) (Nat.lt_irrefl _)
  have tH : H2 T = none := by
    cases z : H2 T with
    | none => rfl
    | some o =>
      obtain ⟨ob,eo⟩ := (hok T o z).ex
      exact absurd rfl (nTo T ob eo)
  have hTx : T ≠ x := fun z => nTo x ox x1 z.symm
  have dx := Obj.data_mapFields xd (·.setIfInBounds 1 (Value.ref T))
  obtain ⟨oT',tv,g1,g2,g3⟩ := g.tr
  have mk : ∀ h3 : Heap,(∀ b o,b ≠ T -> h2.get? b = some o -> h3.get? b = some o) -> Inv X pins σ0 (upd H2 x (ExcO x C)) { s1 with heap := h3 } := fun h3 k3 => by
    have nT0 : ∀ b o,s0.heap.get? b = some o -> b ≠ T := fun b o eb => by
      obtain ⟨o',e'⟩ := U.there b o eb (by simp)
      exact nTo b o' e'
    have xg : h3.get? x = some (ox.mapFields (·.setIfInBounds 1 (Value.ref T))) := k3 _ _ (Ne.symm hTx) g.exc
    have hok3 : HOk X.prog X.w (upd H2 x (ExcO x C)) h3 := fun b o eb => by
      by_cases hbx : b = x
      · subst hbx
        rw [upd_same] at eb
        cases eb
        refine ExcO.ok xg ((Obj.cls_mapFields ..).trans xc) ((dict_mapF ..).trans xn) dx ?_
        rw [Array.getElem?_setIfInBounds_ne (by decide)]
        exact v2
      · rw [upd_ne hbx] at eb
        refine (hok b o eb).stay (fun c v hc ev => k3 c v (nTo c v ev) (g.keep c v (fun hb => ?_) (fun z => ?_) (fun z => ?_) ev)) (fun c z => ?_) fun c xs z => ?_
        · have := I2.stkFree c hb
          rcases hc with y | y
          · rw [y,eb] at this; cases this
          · rw [y] at this; cases this
        · rcases hc with y | y
          · exact hbx (y ▸ z)
          · rw [z,hx0] at y; cases y
        · have z : c = T0 := by simpa using z
          rcases hc with y | y
          · rw [<- y,z,hT0] at eb; cases eb
          · rw [z,hT0] at y; cases y
        · rw [upd_ne (ne_of_none z hx0)]; exact z
        · rw [upd_ne (ne_of_none z hx0)]; exact z
    refine I0.raised (s' := { s1 with heap := h3 }) os bare ⟨fun b o eb n hb hx => ?_,fun b o eb n hb hx => ?_,fun b o eb n hx => ?_,fun b o eb hx => ?_,fun b xs e => ?_,fun b o u e => ?_,fun b ps e => ?_⟩ hok3
    · exact k3 b o (nT0 b o eb) (g.keep b o hb (ne1 b o eb).1 (by simpa using (ne1 b o eb).2) (U.keep b o eb n hb hx))
    · obtain ⟨z,e4⟩ := U.slot b o eb n hb hx
      obtain ⟨z',e5⟩ := g.slot b _ hb e4
      exact ⟨z',k3 b _ (nT0 b o eb) e5⟩
    · rw [upd_ne (ne1 b o eb).1]
      exact U.free b o eb n hx
    · obtain ⟨o',e4⟩ := U.there b o eb hx
      by_cases hb : b ∈ frs X.stack
      · obtain ⟨z,e5⟩ := g.slot b o' hb e4
        exact ⟨_,k3 b _ (nT0 b o eb) e5⟩
      · exact ⟨o',k3 b _ (nT0 b o eb) (g.keep b o' hb (ne1 b o eb).1 (by simpa using (ne1 b o eb).2) e4)⟩
    · have := U.tups b xs e
      rw [upd_ne (ne_of_none this hx0)]; exact this
    · have := U.frzs b o u e
      rw [upd_ne (ne_of_none this hx0)]; exact this
    · obtain ⟨more,this⟩ := U.tbls b ps e
      exact ⟨more,by rw [upd_ne (ne_of_none this hx0)]; exact this⟩
  have I3 := mk h2 fun _ _ _ e => e
  obtain ⟨o3,hI3⟩ := I3.instAt (x := x) (C := C) upd_same
  refine wpAny_handleBy_cons (codeAny_handlers_test (ld_glob (X := X.marked x) (I3.marked x) hg hm ?_ hd)) (by intro z; cases z)
  refine exm_own I3.kIn hI3 F.cls F.typ F.exc cB ?_
  show codeAny _ _ (.handlers (.ref x) [.ExceptHandler none (some n) (b₀ :: suite) hpos] X.env) _ _
  refine codeAny_handlers_suite_as ?_
  unfold setFlight
  refine wpAny_bind (wpAny_field g.exc dx (x := .ref T) (by have := (Array.getElem?_eq_some_iff.mp v1).1; simp [this]) ?_); rw [if_pos (show (Value.ref T != Value.none) = true from by simp)]
  refine wpAny_setField g1 g2 (Array.getElem?_eq_some_iff.mp g3).1 ?_
  have I4 := (mk _ fun b o hb e => (Heap.get?_update_other h2 (Obj.mapFields (·.setIfInBounds 3 Value.none)) (Ne.symm hb)).trans e).marked x
  have hiN : i < X.N.length := (List.getElem?_eq_some_iff.mp hi).1
  have I5 : Inv (X.marked x) pins (List.replicate X.N.length none) _ _ := I4.weak (σ' := List.replicate X.N.length none) (by rw [List.length_replicate]; exact I4.len.symm) fun j v e => by
    rw [List.getElem?_replicate] at e
    split at e <;> cases e
  refine store_ok (X := X.marked x) I5 hN hi (.inl hn) (v := V.ref x) (u := .ref x) rfl (fun s5 I6 => ?_) (.inr hn)
  refine wpAny_mono (hs x pins s5 _ _ _ I6 hth) (fun f s6 q6 => ?_) fun _ _ z => False.elim z
  cases f with
  | next => obtain ⟨σ',H',I',q⟩ := q6; exact unbind_ok (I'.unmarked I.ok) hN hi hn fun s7 I7 => ⟨_,_,I7,q⟩
  | brk => obtain ⟨σ',H',I',q⟩ := q6; exact unbind_ok (I'.unmarked I.ok) hN hi hn fun s7 I7 => ⟨_,_,I7,q⟩
  | cont => obtain ⟨σ',H',I',q⟩ := q6; exact unbind_ok (I'.unmarked I.ok) hN hi hn fun s7 I7 => ⟨_,_,I7,q⟩
  | ret u => obtain ⟨v,σ',H',I',r,q⟩ := q6; exact unbind_ok (I'.unmarked I.ok) hN hi hn fun s7 I7 => ⟨v,_,_,I7,r,q⟩
end L2
set_option Elab.async false
set_option linter.all false
set_option maxRecDepth 100000
set_option maxHeartbeats 4000000
namespace L2
open PySem PySem.Spec PyProof.Rows
abbrev bmV : List Value := [.type "ValueError",.type "Exception",.type "BaseException",.type "object"]
theorem own_K {K : PySem.W.Frag}{base : Heap}{mg : Str -> Option Value}{x : Str}{C : Addr}{bmB : List Value}{newId : String}(X : K.In base)(G : base.Ns mainGlobals mg)(e : PySem.W.nsIn K mainGlobals x = some (some (.ref C)))(q : PySem.W.excIn K C bmB newId = true) : OwnCls x C bmB newId mg base := by
  refine ⟨PySem.W.mg_of X G e,?_⟩
  unfold PySem.W.excIn at q
  split at q
  · rename_i dd cd sl ho
    split at q
    · rename_i C' bm k0 k1 k2 k3 n k5 hm hs
      simp only [Bool.and_eq_true,beq_iff_eq,Bool.not_eq_true'] at q; obtain ⟨⟨⟨⟨⟨rfl,rfl⟩,hdel⟩,ht⟩,hok⟩,hni⟩ := q
      obtain ⟨nm,bs,mro,ns,qn,hd,sn,sub,ab,col,del⟩ := cd
      dsimp only at hm hdel hok hni; subst hm hdel
      have hsl : sl = #[k0,k1,k2,k3,some (.builtin n),k5] := by
        obtain ⟨l⟩ := sl
        simp only at hs; rw [hs]
      subst hsl
      refine ⟨bm,ns,nm,qn,bs,hd,sn,sub,ab,col,dd,k0,k1,k2,k3,k5,_,X _ _ ho,.of_isNs (PySem.W.isNs_of_in X hok),PySem.W.nsMap_none_of_in X hok hni,PySem.W.tail_of_in X ht⟩
    · cases q
  · cases q
theorem pass10 {P : Program}{w : World}{base : Heap}{X : Cx} : Passes (CX1 P w base) X E0 := fun _ _ _ _ _ _ _ h => by
  obtain ⟨_,_,_,_,_,_,_,_,_,q⟩ := h
  exact q.elim
theorem ty_ValueError : typeOf (.type "ValueError") = pure (.type "type") := by kernel_rfl
theorem ps_raise1 {P : Program}{w : World}{K : PySem.W.Frag}{mg : Str -> Option Value}{base : Heap}{N : List Str}{qual : Str}{scope : Scope}{f : Addr}{cd : Value}{A : Around}{outer : List Env}{s : Shared}{H : Hp}{E : XK}{x m : Str}{C : Addr}{j}{mp np cpos pos : Pos}(O : OwnCls x C bmV "ValueError.__new__" mg base)
    (hg : Gl (cxOf (CX1 P w base) P w K mg base N qual scope f cd A outer s H E) x) (hd : (x == ("__debug__" : Str)) = false := by decide) :
    PS (cxOf (CX1 P w base) P w K mg base N qual scope f cd A outer s H E) (.Raise (some (.Call (.Name x np) [.Constant (.str m) j mp] [] cpos)) none pos) (fun _ _ H1 => E (.ref C) none H1) :=
  ps_raise (X := cxOf (CX1 P w base) P w K mg base N qual scope f cd A outer s H E) O PySem.F.excBase_ValueError (by decide) PySem.F.excBase_ValueError rfl hg E (fun pins σ H1 s1 h' e us I hm q => xe_raise pins σ H1 s1 h' e us I hm q) (pa_cons pe_str pa_nil) (fun σ H Q q => ⟨Nat.le_trans (Nat.le_of_ble_eq_true rfl) le1000,q⟩) rfl rfl hd
section
variable {X : Cx}
theorem pa_strs : ∀ cs : List (Str × Nat × Pos),PA X (cs.map fun c => .Constant (.str c.1) c.2.1 c.2.2) (fun σ H Q => Q (cs.map fun c => V.str c.1) H)
  | [] => pa_nil
  | c :: cs => by
    intro pos pins s σ H Q I h
    exact pa_cons (e := .Constant (.str c.1) c.2.1 c.2.2) pe_str (pa_strs cs) (by rfl) pos pins s σ H Q I h
theorem pe_lstStrs {es : List Expr}{pos : Pos}(cs : List (Str × Nat × Pos))(h : es = cs.map fun c => .Constant (.str c.1) c.2.1 c.2.2) : PE X (.List es pos) (tLst fun σ H Q => Q (cs.map fun c => V.str c.1) H) := by
  subst h
  exact pe_lst (pa_strs cs)
end
end L2
set_option Elab.async false
set_option linter.all false
set_option maxRecDepth 100000
set_option maxHeartbeats 4000000
namespace L2
open PySem PySem.Spec PyProof.Rows
section
variable {prog : Program}{w : World}{A : Around}{E : Value -> Shared -> Prop}{s : Shared}
theorem draw_lst {it l : Addr}{items : Array Value}(hne : l ≠ it) : ∀ (n i : Nat) (s : Shared) (Q : List Value -> Shared -> Prop),s.heap.IsListIter it l i -> s.heap.IsList l items -> i + n <= items.size ->
    (∀ h',h'.IsListIter it l (i + n) -> Heap.SameBut it s.heap h' -> Q ((items.toList.drop i).take n) { s with heap := h' }) -> wpAny (model prog w) A (draw (.ref it) n) Q E s
  | 0,i,s,Q,hit,_,_,hQ => by
    show wpAny _ _ (pure []) Q E s; exact wpAny_pure (by simpa using hQ s.heap hit (Heap.SameBut.refl ..))
  | n + 1,i,s,Q,hit,ht,hle,hQ => by
    have hlt : i < items.size := by omega
    show wpAny _ _ (pyNext (.ref it) >>= _) Q E s; refine wpAny_bind (wpAny_pyNext_list_item hit ht (x := items[i]) (by simp [hlt]) fun h₁ hit₁ hs₁ => ?_)
    have ht1 : h₁.IsList l items := by
      obtain ⟨o,e,r⟩ := ht
      exact ⟨o,(hs₁.2 l hne).trans e,r⟩
    refine wpAny_bind (wpAny_holding (draw_lst hne n (i + 1) _ _ hit₁ ht1 (by omega) fun h₂ hit₂ hs₂ => wpAny_pure ?_))
    have hd : items.toList.drop i = items[i] :: items.toList.drop (i + 1) := by simp [List.drop_eq_getElem_cons,hlt]
    have := hQ h₂ (by rw [show i + (n + 1) = i + 1 + n by omega]; exact hit₂) (hs₁.trans hs₂)
    rw [hd,List.take_succ_cons] at this
    exact this
theorem unpackItems_lst {l : Addr}{items : Array Value}{Q : List Value -> Shared -> Prop}(hh : A.handled = none)(ht : s.heap.IsList l items)
    (hQ : ∀ h',Heap.ExtBut s.heap.objs.size s.heap h' -> Q items.toList { s with heap := h' }) : wpAny (model prog w) A (unpackItems (.ref l) items.size none) Q E s := by
  have hlt : l ≠ s.heap.objs.size := by obtain ⟨o,ho,_⟩ := ht; exact Nat.ne_of_lt (Heap.lt_size ho)
  have ty : s.TypeIs (.ref l) "list" := by obtain ⟨o,ho,hc,_⟩ := ht; exact ⟨o,ho,hc⟩
  unfold unpackItems; refine wpAny_bind ?_
  unfold notIterableAtAll; refine wpAny_bind (wpAny_specialOf ty slot_list_iter.lookup ?_)
  refine wpAny_pure ?_; simp only [Bool.false_eq_true,if_false]
  refine wpAny_bind (wpAny_holding (wpAny_pyIter_list ht ?_))
  have hp : ∀ ob : Obj,(s.heap.push ob).IsList l items := fun ob => by
    obtain ⟨o,e,r⟩ := ht
    exact ⟨o,Heap.get?_push_of_some _ e,r⟩
  refine wpAny_bind (wpAny_holding (draw_lst hlt items.size 0 _ _ ⟨_,Heap.get?_push_size _ rfl,rfl,rfl⟩ (hp _) (by omega) fun h₁ hit₁ hs₁ => ?_))
  have hall : List.take items.size (List.drop 0 items.toList) = items.toList := by rw [List.drop_zero]; exact List.take_of_length_le (by simp)
  rw [hall,if_neg (by simp)]
  have ht₁ : h₁.IsList l items := by
    obtain ⟨o,e,r⟩ := ht
    exact ⟨o,(hs₁.2 l hlt).trans (Heap.get?_push_of_some _ e),r⟩
  refine wpAny_bind (wpAny_holding (wpAny_pyNext_list_end hh hit₁ ht₁ (by simp) fun h₂ he₂ => ?_))
  simp only [Option.isSome_none,Bool.false_eq_true,if_false]
  refine wpAny_pure (hQ h₂ fun b o hb e => he₂ b o hb (hs₁.extBut b o hb (Heap.get?_push_of_some _ e)))
end
section
variable {X : Cx}
def gLst (K : PySem.W.Frag)(n : Nat)(t : TGs) : TG := fun v σ H Q => ∃ a xs,v = .ref a /\ SqL K H a xs /\ xs.length = n /\ t xs σ H Q
theorem pg_lstK {es : List Expr}{k : Nat}{t : TGs}{n : Nat}{pos : Pos}(K : PySem.W.Frag)(hK : X.K = K)(hc : X.calm = true)(h : PGs X es t)(hn : (assignEach es X.env).length = n := by rfl)(hst : (assignEach es X.env).findIdx? (·.1) = none := by rfl) : PG X (.Tuple es k pos) (gLst K n t) := by
  subst hK
  intro pins s σ H v u Q I r hw
  obtain ⟨a,xs,e1,hq,hl,hw⟩ := hw
  subst e1
  cases r
  obtain ⟨its,rv,p,hz⟩ := I.list hq
  have hl' : its.toArray.size = n := by simp [<- hl,rv.length]
  rw [assign_Tuple]; refine wpAny_bind (wpAny_standAt ?_)
  unfold unpack; rw [hn,hst,<- hl']
  refine wpAny_bind (wpAny_holding (unpackItems_lst (I.ok.hd hc) p.isList fun h' hx => ?_))
  have I1 : Inv X pins σ H { s with heap := h' } := I.kept (t' := s.toks) fun b o e => hx b o (Nat.ne_of_lt (Heap.lt_size e)) e
  exact h pins _ σ H xs _ Q I1 (by simpa using rv) hw
theorem op_eqL (K : PySem.W.Frag)(hK : X.K = K)(hu : X.A.units < cLine) : OpR X (compareOp .Eq) (fun x y H Q => ∃ (a b : Addr) (xs : List V),x = .ref a /\ y = .ref b /\ SqL K H a xs /\ SqL K H b xs /\ (∀ x ∈ xs,flatV x = true) /\ Q (.bl true) H) := by
  subst hK
  intro pins s σ H x y v u Q I rx ry h
  obtain ⟨a,b,xs,rfl,rfl,ha,hb,hf,q⟩ := h
  cases rx
  cases ry
  obtain ⟨its,r1,p1,_⟩ := I.list ha; obtain ⟨its2,r2,p2,_⟩ := I.list hb
  have l1 : its.length = xs.length := r1.length.symm
  have l2 : its2.length = xs.length := r2.length.symm
  refine SeqAt.eq_listAt (items := its.toArray) (items2 := its2.toArray) (e := fun _ => true) p1.isList p2.isList (by simp [l1,l2]) hu (fun j h1 h2 => ?_) ?_
  · have g1 : j < its.length := by simpa using h1
    have g2 : j < its2.length := by simpa using h2
    have hx : xs[j]? = some (xs[j]'(by omega)) := List.getElem?_eq_getElem (by omega)
    obtain ⟨u1,m1,t1⟩ := r1.get hx; obtain ⟨u2,m2,t2⟩ := r2.get hx
    have w1 : its[j] = u1 := by rw [List.getElem?_eq_getElem g1] at m1; exact Option.some.inj m1
    have w2 : its2[j] = u2 := by rw [List.getElem?_eq_getElem g2] at m2; exact Option.some.inj m2
    simp only [List.getElem_toArray,w1,w2]
    have fx := hf _ (List.getElem_mem (l := xs) (n := j) (by omega))
    have := eqAt_V (A := X.A.in1) (s := s) t1 t2 fx fx
    rw [eqV_self fx] at this
    exact this
  · have : (List.range its.toArray.size).all (fun _ => true) = true := by simp
    rw [this]
    exact ⟨.bl true,H,I,rfl,q⟩
end
end L2
set_option Elab.async false
set_option linter.all false
set_option maxRecDepth 100000
set_option maxHeartbeats 4000000
namespace L2
open PySem PySem.Spec PyProof.Rows
section
variable {X : Cx}{e : Expr}{es : List Expr}{te : TE}{t : TA}{pos : Pos}
end
end L2
set_option Elab.async false
set_option linter.all false
set_option maxRecDepth 100000
set_option maxHeartbeats 4000000
namespace L2
open PySem PySem.Spec PyProof.Rows
structure Frg where
  ads : List Addr
  R : (Addr -> Prop) -> Hp -> V -> Prop
  keep : ∀ M H H' v,(∀ c o,(¬ M c \/ c ∈ ads) -> H c = some o -> H' c = some o) -> R M H v -> R M H' v
  avoid : ∀ M M' H v,(∀ c,M' c -> M c \/ H c = none) -> R M H v -> R M' H v
  ref : ∀ M H v,R M H v -> ∃ a,v = .ref a
  nt : ∀ M H v,R M H v -> ∀ c ∈ ads,∃ o,H c = some o /\ ∀ vs,o ≠ .tup vs
abbrev Tg := List (List Int × Addr × Value) × Nat
inductive D where
  | non | bl (b : Bool) | int (i : Int) | str (x : Str) | ty (n : String) | adr (a : Addr)
  | tup (xs : List D) | lst (xs : List D) | own (xs : List D) | bag | scr (ns : List Int) | dct (t : Tg) (ks : List (List Int)) (xs : List D) | frg (f : Frg) (d : D)
structure BagT where
  ok : Addr -> Hp -> Prop
  st : ∀ p H H',ok p H -> (∀ o,H p = some o -> H' p = some o) -> ok p H'
  dm : ∀ p H,ok p H -> ∃ o,H p = some o
def KTp (K : PySem.W.Frag)(a : Addr)(xs : List V) : Prop := ∃ (o : Obj) (its : Array Value) (n : Nat),K.lookup a = some o /\ o.cls = .type "tuple" /\ o.data = .seq its n /\ its.size <= sizeLine /\ Vals xs its.toList
def TpA (K : PySem.W.Frag)(M : Addr -> Prop)(H : Hp)(a : Addr)(vs : List V) : Prop := (¬ M a /\ H a = some (.tup vs)) \/ KTp K a vs
theorem TpA.sq {K : PySem.W.Frag}{M : Addr -> Prop}{H : Hp}{a : Addr}{vs : List V}(h : TpA K M H a vs) : SqT K H a vs := h.elim (fun z => .inl (.inl z.2)) .inr
theorem TpA.keep {K : PySem.W.Frag}{M : Addr -> Prop}{H H' : Hp}{a : Addr}{vs : List V}(k : ∀ b o,¬ M b -> H b = some o -> H' b = some o)(h : TpA K M H a vs) : TpA K M H' a vs := h.imp (fun z => ⟨z.1,k _ _ z.1 z.2⟩) id
theorem TpA.avoid {K : PySem.W.Frag}{M M' : Addr -> Prop}{H : Hp}{a : Addr}{vs : List V}(k : ∀ b,M' b -> M b \/ H b = none)(h : TpA K M H a vs) : TpA K M' H a vs := by
  refine h.imp (fun z => ⟨fun m => ?_,z.2⟩) id
  rcases k a m with n | n
  · exact z.1 n
  · rw [n] at z; cases z.2
def KL (K : PySem.W.Frag)(a : Addr)(xs : List V) : Prop := ∃ (o : Obj) (its : Array Value) (n : Nat),K.lookup a = some o /\ o.cls = .type "list" /\ o.dict = none /\ o.data = .seq its n /\ its.size <= sizeLine /\ Vals xs its.toList
def tkH (ns : List Int) : Int := reduceHash (Builtin.Tuple.tupleHashOf (ns.map hashInt))
def dEnt (x : List Int × Addr × Value) : DictEntry := ⟨tkH x.1,.ref x.2.1,x.2.2⟩
def DOb (a : Addr)(es : List (List Int × Addr × Value))(ep : Nat) : HO := .ext fun h => ((a == sysModules) = false /\ es.length <= sizeLine /\ (es.map (·.1)).Nodup) /\ ∃ (o : Obj) (ds : Array DictEntry),h.get? a = some o /\ o.ExactDict /\ o.data = .dict ds ep /\ ds.toList = es.map dEnt
def DctE (K : PySem.W.Frag)(M : Addr -> Prop)(H : Hp)(es : List (List Int × Addr × Value))(ks : List (List Int))(vs : List V) : Prop := es.map (·.1) = ks /\ (∀ e ∈ es,TpA K M H e.2.1 (e.1.map V.int)) /\ Vals vs (es.map (·.2.2))
theorem DctE.keep {K : PySem.W.Frag}{M : Addr -> Prop}{H H' : Hp}{es : List (List Int × Addr × Value)}{ks : List (List Int)}{vs : List V}(k : ∀ b o,¬ M b -> H b = some o -> H' b = some o)(h : DctE K M H es ks vs) : DctE K M H' es ks vs := ⟨h.1,fun e m => (h.2.1 e m).keep k,h.2.2⟩
theorem DctE.avoid {K : PySem.W.Frag}{M M' : Addr -> Prop}{H : Hp}{es : List (List Int × Addr × Value)}{ks : List (List Int)}{vs : List V}(k : ∀ b,M' b -> M b \/ H b = none)(h : DctE K M H es ks vs) : DctE K M' H es ks vs := ⟨h.1,fun e m => (h.2.1 e m).avoid k,h.2.2⟩
mutual
def Rep (K : PySem.W.Frag)(M : Addr -> Prop)(H : Hp) : D -> V -> Prop
  | .non,v => v = .non
  | .bl b,v => v = .bl b
  | .int i,v => v = .int i
  | .str x,v => v = .str x
  | .ty n,v => v = .ty n
  | .adr a,v => v = .ref a
  | .tup xs,v => ∃ a vs,v = .ref a /\ TpA K M H a vs /\ Reps K M H xs vs
  | .lst xs,v => ∃ a vs,v = .ref a /\ (¬ M a /\ H a = some (.lst vs)) /\ Reps K M H xs vs
  | .own _,_ => False
  | .bag,_ => False
  | .frg _ _,_ => False
  | .scr ns,v => ∃ a,v = .ref a /\ ((¬ M a /\ Rd H a (.lst (ns.map V.int))) \/ KL K a (ns.map V.int))
  | .dct t ks xs,v => ∃ (a : Addr) (vs : List V),v = .ref a /\ (¬ M a /\ H a = some (DOb a t.1 t.2) /\ DctE K M H t.1 ks vs) /\ Reps K M H xs vs
def Reps (K : PySem.W.Frag)(M : Addr -> Prop)(H : Hp) : List D -> List V -> Prop
  | [],vs => vs = []
  | d :: ds,vs => ∃ v r,vs = v :: r /\ Rep K M H d v /\ Reps K M H ds r
end
theorem Rd.keep {H H' : Hp}{a : Addr}{u : HO}(k : ∀ o,H a = some o -> H' a = some o)(h : Rd H a u) : Rd H' a u := by
  rcases h with h | ⟨o,h⟩
  · exact .inl (k _ h)
  · exact .inr ⟨o,k _ h⟩
theorem Rd.some {H : Hp}{a : Addr}{u : HO}(h : Rd H a u) : H a ≠ none := by
  rcases h with h | ⟨o,h⟩ <;> rw [h] <;> simp
section
variable {K : PySem.W.Frag}{M M' : Addr -> Prop}{H H' : Hp}
mutual
theorem Rep.keep (k : ∀ b o,¬ M b -> H b = some o -> H' b = some o) : ∀ (d : D) (v : V),Rep K M H d v -> Rep K M H' d v
  | .non,_,h => h
  | .bl _,_,h => h
  | .int _,_,h => h
  | .str _,_,h => h
  | .ty _,_,h => h
  | .adr _,_,h => h
  | .tup xs,v,h => by
    obtain ⟨a,vs,e,z,r⟩ := h
    exact ⟨a,vs,e,z.keep k,Reps.keep k xs vs r⟩
  | .lst xs,v,h => by
    obtain ⟨a,vs,e,z,r⟩ := h
    exact ⟨a,vs,e,⟨z.1,k _ _ z.1 z.2⟩,Reps.keep k xs vs r⟩
  | .own _,_,h => h
  | .bag,_,h => h
  | .frg _ _,_,h => h
  | .scr ns,v,h => by
    obtain ⟨a,e,z⟩ := h
    exact ⟨a,e,z.imp (fun q => ⟨q.1,q.2.keep fun o => k a o q.1⟩) id⟩
  | .dct t ks xs,v,h => by
    obtain ⟨a,vs,e,z,r⟩ := h
    exact ⟨a,vs,e,⟨z.1,k _ _ z.1 z.2.1,z.2.2.keep k⟩,Reps.keep k xs _ r⟩
theorem Reps.keep (k : ∀ b o,¬ M b -> H b = some o -> H' b = some o) : ∀ (ds : List D) (vs : List V),Reps K M H ds vs -> Reps K M H' ds vs
  | [],_,h => h
  | d :: ds,vs,h => by
    obtain ⟨v,r,e,h1,h2⟩ := h
    exact ⟨v,r,e,Rep.keep k d v h1,Reps.keep k ds r h2⟩
end
mutual
theorem Rep.avoid (k : ∀ b,M' b -> M b \/ H b = none) : ∀ (d : D) (v : V),Rep K M H d v -> Rep K M' H d v
  | .non,_,h => h
  | .bl _,_,h => h
  | .int _,_,h => h
  | .str _,_,h => h
  | .ty _,_,h => h
  | .adr _,_,h => h
  | .tup xs,v,h => by
    obtain ⟨a,vs,e,z,r⟩ := h
    exact ⟨a,vs,e,z.avoid k,Reps.avoid k xs vs r⟩
  | .lst xs,v,h => by
    obtain ⟨a,vs,e,z,r⟩ := h
    refine ⟨a,vs,e,⟨fun m => ?_,z.2⟩,Reps.avoid k xs vs r⟩
    rcases k a m with n | n
    · exact z.1 n
    · rw [n] at z; cases z.2
  | .own _,_,h => h
  | .bag,_,h => h
  | .frg _ _,_,h => h
  | .scr ns,v,h => by
    obtain ⟨a,e,z⟩ := h
    refine ⟨a,e,z.imp (fun q => ⟨fun m => ?_,q.2⟩) id⟩
    rcases k a m with n | n
    · exact q.1 n
    · exact q.2.some n
  | .dct t ks xs,v,h => by
    obtain ⟨a,vs,e,z,r⟩ := h
    refine ⟨a,vs,e,⟨fun m => ?_,z.2.1,z.2.2.avoid k⟩,Reps.avoid k xs _ r⟩
    rcases k a m with n | n
    · exact z.1 n
    · rw [n] at z; cases z.2.1
theorem Reps.avoid (k : ∀ b,M' b -> M b \/ H b = none) : ∀ (ds : List D) (vs : List V),Reps K M H ds vs -> Reps K M' H ds vs
  | [],_,h => h
  | d :: ds,vs,h => by
    obtain ⟨v,r,e,h1,h2⟩ := h
    exact ⟨v,r,e,Rep.avoid k d v h1,Reps.avoid k ds r h2⟩
end
end
end L2
set_option Elab.async false
set_option linter.all false
set_option maxRecDepth 100000
set_option maxHeartbeats 4000000
namespace L2
open PySem PySem.Spec PyProof.Rows
abbrev Ev := List (Option D)
structure Wd where
  K : PySem.W.Frag
  B : BagT
  H0 : Hp
  M0 : Addr -> Prop
  b0 : Option Addr
def okB (B : BagT)(b : Option Addr)(H : Hp) : Prop := ∀ p,b = some p -> B.ok p H
def Kp (b : Option Addr)(H H' : Hp) : Prop := ∀ c o,b ≠ some c -> H c = some o -> H' c = some o
theorem Kp.refl (b : Option Addr)(H : Hp) : Kp b H H := fun _ _ _ h => h
theorem Kp.trans {b : Option Addr}{H H1 H2 : Hp}(x : Kp b H H1)(y : Kp b H1 H2) : Kp b H H2 := fun c o n h => y c o n (x c o n h)
theorem Kp.upd {b : Option Addr}{H : Hp}{p : Addr}{o : HO}(h : H p = none) : Kp b H (upd H p o) := fun c u _ e => Same.upd h c u e
theorem Kp.same {b : Option Addr}{H H' : Hp}(h : Same H H') : Kp b H H' := fun c o _ e => h c o e
def RepX (W : Wd)(M : Addr -> Prop)(b : Option Addr)(H : Hp) : D -> V -> Prop
  | .own xs,v => ∃ a vs,v = .ref a /\ M a /\ b ≠ some a /\ W.H0 a = none /\ ¬ W.M0 a /\ H a = some (.lst vs) /\ Reps W.K M H xs vs
  | .bag,v => ∃ p,b = some p /\ v = .ref p
  | .frg f d,v => (∀ c ∈ f.ads,M c /\ b ≠ some c /\ W.H0 c = none /\ ¬ W.M0 c) /\ f.R M H v /\ Rep W.K (fun c => M c /\ c ∉ f.ads) H d v
  | d,v => Rep W.K M H d v
def plain : D -> Bool
  | .own _ => false
  | .bag => false
  | .frg _ _ => false
  | _ => true
def notOwn : D -> Bool
  | .own _ => false
  | .frg _ _ => false
  | _ => true
theorem RepX.rep {W : Wd}{M : Addr -> Prop}{b : Option Addr}{H : Hp}{d : D}{v : V}(h : RepX W M b H d v)(p : plain d = true) : Rep W.K M H d v := by
  cases d <;> first | exact h | cases p
theorem Rep.x {W : Wd}{M : Addr -> Prop}{b : Option Addr}{H : Hp}{d : D}{v : V}(h : Rep W.K M H d v) : RepX W M b H d v := by
  cases d <;> first | exact h | exact h.elim
def RepXs (W : Wd)(M : Addr -> Prop)(b : Option Addr)(H : Hp) : List D -> List V -> Prop
  | [],vs => vs = []
  | d :: ds,vs => ∃ v r,vs = v :: r /\ RepX W M b H d v /\ RepXs W M b H ds r
structure Hs (W : Wd)(M : Addr -> Prop)(b : Option Addr)(H : Hp) : Prop where
  ok : okB W.B b H
  bagM : ∀ p,b = some p -> M p
  dom : ∀ c,M c -> ∃ o,H c = some o
  m0 : ∀ c,W.M0 c -> M c
theorem RepX.move {W : Wd}{M M' : Addr -> Prop}{b b' : Option Addr}{H H' : Hp}{f : Frg}{d : D}{v : V}(h : RepX W M b H (.frg f d) v)(ow : ∀ c ∈ f.ads,M c -> b ≠ some c -> M' c /\ b' ≠ some c)(k : ∀ c o,(¬ M' c \/ c ∈ f.ads) -> H c = some o -> H' c = some o)(a : ∀ c,M' c -> M c \/ H c = none) : RepX W M' b' H' (.frg f d) v := by
  refine ⟨fun c m => ?_,f.keep M' H H' v k (f.avoid M M' H v a h.2.1),Rep.keep (fun c o n e => k c o ?_ e) _ _ (Rep.avoid (fun c m => (a c m.1).imp (fun z => ⟨z,m.2⟩) id) _ _ h.2.2)⟩
  · obtain ⟨q1,q2,q3,q4⟩ := h.1 c m
    obtain ⟨z1,z2⟩ := ow c m q1 q2
    exact ⟨z1,z2,q3,q4⟩
  · by_cases z : c ∈ f.ads
    · exact .inr z
    · exact .inl fun m => n ⟨m,z⟩
theorem RepX.step {W : Wd}{M : Addr -> Prop}{b : Option Addr}{H H' : Hp}{d : D}{v : V}(hb : ∀ p,b = some p -> M p)(k : Kp b H H')(h : RepX W M b H d v) : RepX W M b H' d v := by
  have k' : ∀ c o,¬ M c -> H c = some o -> H' c = some o := fun c o n e => k c o (fun z => n (hb c z)) e
  cases d
  case own xs =>
    obtain ⟨a,vs,e,m,n,n0,m0,h1,h2⟩ := h
    exact ⟨a,vs,e,m,n,n0,m0,k _ _ n h1,Reps.keep k' _ _ h2⟩
  case bag => exact h
  case frg f d => exact RepX.move h (fun c m m1 n => ⟨m1,n⟩) (fun c o q e => q.elim (fun n => k' c o n e) fun m => k c o (h.1 c m).2.1 e) fun c m => .inl m
  all_goals exact Rep.keep k' _ _ h
theorem RepXs.reps {W : Wd}{M : Addr -> Prop}{b : Option Addr}{H : Hp} : ∀ (ds : List D) (vs : List V),RepXs W M b H ds vs -> ds.all plain = true -> Reps W.K M H ds vs
  | [],_,h,_ => h
  | d :: ds,vs,h,p => by
    obtain ⟨v,r,e,h1,h2⟩ := h
    simp only [List.all_cons,Bool.and_eq_true] at p
    exact ⟨v,r,e,h1.rep p.1,RepXs.reps ds r h2 p.2⟩
theorem Reps.length {K : PySem.W.Frag}{M : Addr -> Prop}{H : Hp} : ∀ (ds : List D) (vs : List V),Reps K M H ds vs -> vs.length = ds.length
  | [],_,h => by cases (show _ = _ from h); rfl
  | d :: ds,vs,h => by
    obtain ⟨v,r,rfl,h1,h2⟩ := h
    simp [Reps.length ds r h2]
theorem Reps.get {K : PySem.W.Frag}{M : Addr -> Prop}{H : Hp} : ∀ {ds : List D} {vs : List V} {i : Nat} {d : D},Reps K M H ds vs -> ds[i]? = some d -> ∃ v,vs[i]? = some v /\ Rep K M H d v
  | [],_,_,_,h,e => by simp at e
  | d :: ds,vs,0,_,h,e => by
    obtain ⟨v,r,rfl,h1,h2⟩ := h
    simp at e; subst e
    exact ⟨v,rfl,h1⟩
  | d :: ds,vs,i + 1,d',h,e => by
    obtain ⟨v,r,rfl,h1,h2⟩ := h
    obtain ⟨u,e1,e2⟩ := Reps.get (i := i) h2 (by simpa using e)
    exact ⟨u,by simpa using e1,e2⟩
theorem Reps.at {K : PySem.W.Frag}{M : Addr -> Prop}{H : Hp}{ds : List D}{vs : List V}{i : Int}{d : D}(h : Reps K M H ds vs)(e : atI ds i = some d) : ∃ v,atI vs i = some v /\ Rep K M H d v := by
  unfold atI at *
  rw [h.length]
  cases q : ixN ds.length i with
  | none => rw [q] at e; cases e
  | some j =>
    rw [q] at e
    exact Reps.get h e
theorem Reps.append {K : PySem.W.Frag}{M : Addr -> Prop}{H : Hp} : ∀ {ds es : List D} {vs us : List V},Reps K M H ds vs -> Reps K M H es us -> Reps K M H (ds ++ es) (vs ++ us)
  | [],_,_,_,h,h' => by cases (show _ = _ from h); exact h'
  | d :: ds,_,_,_,h,h' => by
    obtain ⟨v,r,rfl,h1,h2⟩ := h
    exact ⟨v,_,rfl,h1,Reps.append h2 h'⟩
theorem Reps.set {K : PySem.W.Frag}{M : Addr -> Prop}{H : Hp}{d : D}{v : V}(h0 : Rep K M H d v) : ∀ {ds : List D} {vs : List V} (j : Nat),Reps K M H ds vs -> Reps K M H (ds.set j d) (vs.set j v)
  | [],_,_,h => by cases (show _ = _ from h); exact rfl
  | e :: ds,_,0,h => by
    obtain ⟨v',r,rfl,h1,h2⟩ := h
    exact ⟨v,r,rfl,h0,h2⟩
  | e :: ds,_,j + 1,h => by
    obtain ⟨v',r,rfl,h1,h2⟩ := h
    exact ⟨v',_,rfl,h1,Reps.set h0 j h2⟩
theorem Reps.drop {K : PySem.W.Frag}{M : Addr -> Prop}{H : Hp} : ∀ {ds : List D} {vs : List V} (j : Nat),Reps K M H ds vs -> Reps K M H (ds.drop j) (vs.drop j)
  | _,_,0,h => h
  | [],_,_ + 1,h => by cases (show _ = _ from h); exact rfl
  | e :: ds,_,j + 1,h => by
    obtain ⟨v',r,rfl,h1,h2⟩ := h
    exact Reps.drop j h2
theorem Reps.take {K : PySem.W.Frag}{M : Addr -> Prop}{H : Hp} : ∀ {ds : List D} {vs : List V} (j : Nat),Reps K M H ds vs -> Reps K M H (ds.take j) (vs.take j)
  | _,_,0,h => rfl
  | [],_,_ + 1,h => by cases (show _ = _ from h); exact rfl
  | e :: ds,_,j + 1,h => by
    obtain ⟨v',r,rfl,h1,h2⟩ := h
    exact ⟨v',_,rfl,h1,Reps.take j h2⟩
def PinR (W : Wd)(M : Addr -> Prop)(b : Option Addr)(H : Hp) : D -> V -> Prop
  | .own xs,v => RepX W M b H (.own xs) v
  | d,v => Rep W.K M H d v
theorem PinR.x {W : Wd}{M : Addr -> Prop}{b : Option Addr}{H : Hp}{d : D}{v : V}(h : PinR W M b H d v) : RepX W M b H d v := by
  cases d <;> first | exact h | exact h.elim
theorem RepX.pin {W : Wd}{M : Addr -> Prop}{b : Option Addr}{H : Hp}{d : D}{v : V}(h : RepX W M b H d v)(p : plain d = true) : PinR W M b H d v := by
  cases d <;> first | exact h | cases p
theorem PinR.to {W : Wd}{M M' : Addr -> Prop}{b b' : Option Addr}{H H' : Hp}{d : D}{v : V}(h : PinR W M b H d v)(rep : ∀ d v,Rep W.K M H d v -> Rep W.K M' H' d v)(reps : ∀ ds vs,Reps W.K M H ds vs -> Reps W.K M' H' ds vs)(own : ∀ xs a vs,d = .own xs -> v = .ref a -> M a -> b ≠ some a -> H a = some (.lst vs) -> M' a /\ b' ≠ some a /\ H' a = some (.lst vs)) : PinR W M' b' H' d v := by
  cases d
  case own xs =>
    obtain ⟨a,vs,rfl,m1,m2,m3,m4,hh,r⟩ := h
    obtain ⟨q1,q2,q3⟩ := own xs a vs rfl rfl m1 m2 hh
    exact ⟨a,vs,rfl,q1,q2,m3,m4,q3,reps _ _ r⟩
  case bag => exact h.elim
  all_goals exact rep _ _ h
def mineA : D -> V -> Addr -> Prop
  | .own _,v,c => v = .ref c
  | .frg f _,_,c => c ∈ f.ads
  | _,_,_ => False
def mine : D -> Bool
  | .own _ => true
  | .frg _ _ => true
  | _ => false
theorem mineA.m {d : D}{v : V}{c : Addr}(h : mineA d v c) : mine d = true := by cases d <;> first | rfl | exact h.elim
theorem RepX.mine {W : Wd}{M : Addr -> Prop}{b : Option Addr}{H : Hp}{d : D}{v : V}{c : Addr}(h : RepX W M b H d v)(m : mineA d v c) : M c /\ b ≠ some c /\ W.H0 c = none /\ ¬ W.M0 c := by
  cases d
  case own xs =>
    obtain ⟨a,vs,e,m1,n,n0,m0,h1,h2⟩ := h
    cases (e.symm.trans (show v = .ref c from m))
    exact ⟨m1,n,n0,m0⟩
  case frg f d => exact h.1 c m
  all_goals exact m.elim
structure Sta (W : Wd)(pn : List (D × V))(M : Addr -> Prop)(b : Option Addr)(H : Hp)(σ : St)(ρ : Ev) : Prop extends Hs W M b H where
  kp : Kp W.b0 W.H0 H
  new : b = W.b0 \/ (W.b0 = none /\ ∀ p,b = some p -> W.H0 p = none)
  env : ∀ (i : Nat) d,ρ[i]? = some (some d) -> ∃ v,σ[i]? = some (some v) /\ RepX W M b H d v
  len : ρ.length = σ.length
  pin : ∀ q ∈ pn,PinR W M b H q.1 q.2
theorem Sta.step {W : Wd}{pn : List (D × V)}{M : Addr -> Prop}{b : Option Addr}{H H' : Hp}{σ : St}{ρ : Ev}(s : Sta W pn M b H σ ρ)(k : Kp b H H')(o : okB W.B b H') : Sta W pn M b H' σ ρ where
  ok := o
  bagM := s.bagM
  dom := fun c m => by
    by_cases z : b = some c
    · exact W.B.dm c H' (o c z)
    · obtain ⟨u,e⟩ := s.dom c m
      exact ⟨u,k c u z e⟩
  m0 := s.m0
  kp := fun c u n e => by
    refine k c u (fun z => ?_) (s.kp c u n e)
    rcases s.new with q | ⟨_,q⟩
    · exact n (q ▸ z)
    · rw [q c z] at e; cases e
  new := s.new
  env := fun i d e => by
    obtain ⟨v,e1,r⟩ := s.env i d e
    exact ⟨v,e1,r.step s.bagM k⟩
  len := s.len
  pin := fun q hq => (s.pin q hq).to (fun _ _ r => Rep.keep (fun c o n e => k c o (fun z => n (s.bagM c z)) e) _ _ r) (fun _ _ r => Reps.keep (fun c o n e => k c o (fun z => n (s.bagM c z)) e) _ _ r) fun xs a vs _ _ m n hh => ⟨m,n,k _ _ n hh⟩
theorem Hs.new {W : Wd}{M : Addr -> Prop}{b : Option Addr}{H : Hp}(s : Hs W M b H){p : Addr}(h : H p = none) : ¬ M p := fun m => by
  obtain ⟨o,e⟩ := s.dom p m
  rw [h] at e; cases e
theorem Hs.okU {W : Wd}{M : Addr -> Prop}{b : Option Addr}{H : Hp}(s : Hs W M b H){p : Addr}{o : HO}(h : H p = none) : okB W.B b (upd H p o) := fun q e => W.B.st q H _ (s.ok q e) fun u e' => Same.upd h q u e'
abbrev DE := Ev -> (D -> Prop) -> Prop
abbrev DT := Ev -> (Bool -> Prop) -> Prop
abbrev DA := Ev -> (List D -> Prop) -> Prop
def dn (W : Wd)(d : DE) : TE := fun σ H Q => ∃ pn M b ρ P,Sta W pn M b H σ ρ /\ d ρ P /\ ∀ x v H',P x -> RepX W M b H' x v -> Kp b H H' -> okB W.B b H' -> Q v H'
def dnT (W : Wd)(d : DT) : TT := fun σ H Q => ∃ pn M b ρ P,Sta W pn M b H σ ρ /\ d ρ P /\ ∀ x H',P x -> Kp b H H' -> okB W.B b H' -> Q x H'
def dnA (W : Wd)(d : DA) : TA := fun σ H Q => ∃ pn M b ρ P,Sta W pn M b H σ ρ /\ d ρ P /\ ∀ xs vs H',P xs -> RepXs W M b H' xs vs -> Kp b H H' -> okB W.B b H' -> Q vs H'
theorem dn.elim {W : Wd}{d : DE}{σ : St}{H : Hp}{Q : VK}{R : Prop}(h : dn W d σ H Q)(f : ∀ pn M b ρ P,Sta W pn M b H σ ρ -> d ρ P -> (∀ x v H',P x -> RepX W M b H' x v -> Kp b H H' -> okB W.B b H' -> Q v H') -> R) : R := by
  obtain ⟨pn,M,b,ρ,P,st,h,k⟩ := h
  exact f pn M b ρ P st h k
theorem dnT.elim {W : Wd}{d : DT}{σ : St}{H : Hp}{Q : Bool -> Hp -> Prop}{R : Prop}(h : dnT W d σ H Q)(f : ∀ pn M b ρ P,Sta W pn M b H σ ρ -> d ρ P -> (∀ x H',P x -> Kp b H H' -> okB W.B b H' -> Q x H') -> R) : R := by
  obtain ⟨pn,M,b,ρ,P,st,h,k⟩ := h
  exact f pn M b ρ P st h k
theorem dnA.elim {W : Wd}{d : DA}{σ : St}{H : Hp}{Q : List V -> Hp -> Prop}{R : Prop}(h : dnA W d σ H Q)(f : ∀ pn M b ρ P,Sta W pn M b H σ ρ -> d ρ P -> (∀ xs vs H',P xs -> RepXs W M b H' xs vs -> Kp b H H' -> okB W.B b H' -> Q vs H') -> R) : R := by
  obtain ⟨pn,M,b,ρ,P,st,h,k⟩ := h
  exact f pn M b ρ P st h k
section
variable {X : Cx}{W : Wd}{e a b c : Expr}{es : List Expr}{pos : Pos}{d da db dc : DE}{dA : DA}{t : TE}
theorem PE.mono {t' : TE}(h : PE X e t)(m : ∀ σ H Q,t' σ H Q -> t σ H Q) : PE X e t' := fun pins s σ H Q I q => h pins s σ H Q I (m σ H Q q)
theorem PT.mono {t t' : TT}(h : PT X e t)(m : ∀ σ H Q,t' σ H Q -> t σ H Q) : PT X e t' := fun pins s σ H Q I q => h pins s σ H Q I (m σ H Q q)
theorem PA.mono {t t' : TA}(h : PA X es t)(m : ∀ σ H Q,t' σ H Q -> t σ H Q) : PA X es t' := fun pos pins s σ H Q I q => h pos pins s σ H Q I (m σ H Q q)
def dVar (i : Nat) : DE := fun ρ P => match ρ[i]? with | some (some d) => P d | _ => False
theorem dv (i : Nat) {x : Str} {pos : Pos} (hN : X.N[i]? = some x := by rfl) (hv : Vis X.env.scope x := by first | exact Or.inl rfl | exact Or.inr (Or.inl rfl) | exact Or.inr (Or.inr rfl)) (hd : (x == ("__debug__" : Str)) = false := by decide)
    (hcd : (x == ("__classdict__" : Str)) = false := by decide) : PE X (.Name x pos) (dn W (dVar i)) := (pe_var hN hv hd hcd).mono fun σ H Q hh => hh.elim fun pn M b ρ P st h k => by
  unfold dVar at h
  split at h
  case h_1 d e =>
    obtain ⟨v,e1,r⟩ := st.env i d e
    exact ⟨v,e1,k d v H h r (Kp.refl _ _) st.ok⟩
  case h_2 => exact h.elim
def dC (d : D) : DE := fun _ P => P d
theorem de_c {d : D}{v : V}(h : PE X e (tC v))(hr : ∀ M H,Rep W.K M H d v) : PE X e (dn W (dC d)) := h.mono fun σ H Q hh => hh.elim fun pn M b ρ P st h k => k d v H h (Rep.x (hr M H)) (Kp.refl _ _) st.ok
theorem de_int {i j pos} : PE X (.Constant (.int i) j pos) (dn W (dC (.int i))) := de_c pe_int fun _ _ => rfl
theorem de_bl {i j pos} : PE X (.Constant (.bool i) j pos) (dn W (dC (.bl i))) := de_c pe_bl fun _ _ => rfl
theorem de_non {j pos} : PE X (.Constant .none j pos) (dn W (dC .non)) := de_c pe_non fun _ _ => rfl
theorem de_str {i j pos} : PE X (.Constant (.str i) j pos) (dn W (dC (.str i))) := de_c pe_str fun _ _ => rfl
theorem de_bltn {x : Str}{T : String}{pos : Pos}(hg : Gl X x)(hm : X.mg x = none)(hv : bootBuiltins x = some (.type T))(hn : x ≠ "__name__" := by decide) (hd : (x == ("__debug__" : Str)) = false := by decide) : PE X (.Name x pos) (dn W (dC (.ty T))) := de_c (pe_bltn (v := .ty T) hg hm hv rfl hn hd) fun _ _ => rfl
def OpD (W : Wd)(r : R2)(o : D -> D -> (D -> Prop) -> Prop) : Prop := ∀ M b H x y v u P Q,Hs W M b H -> RepX W M b H x v -> RepX W M b H y u -> o x y P -> (∀ z w H',P z -> RepX W M b H' z w -> Kp b H H' -> okB W.B b H' -> Q w H') -> r v u H Q
def dOp (o : D -> D -> (D -> Prop) -> Prop)(da db : DE) : DE := fun ρ P => da ρ fun x => db ρ fun y => o x y P
theorem up_op {r : R2}{o : D -> D -> (D -> Prop) -> Prop}(hd : OpD W r o) : ∀ σ H Q,dn W (dOp o da db) σ H Q -> tOp r (dn W da) (dn W db) σ H Q := by
  intro σ H Q hh
  refine hh.elim fun pn M b ρ P st h k => ?_
  refine ⟨pn,M,b,ρ,_,st,h,fun x v H1 hx rx k1 o1 => ?_⟩
  refine ⟨pn,M,b,ρ,_,st.step k1 o1,hx,fun y u H2 hy ry k2 o2 => ?_⟩
  exact hd M b H2 x y v u P Q ((st.step k1 o1).step k2 o2).toHs (rx.step st.bagM k2) ry hy fun z w H' hz rz k3 o3 => k z w H' hz rz ((k1.trans k2).trans k3) o3
theorem de_op {op : Operator}{r : R2}{o : D -> D -> (D -> Prop) -> Prop}(ho : OpR X (binaryOp op) r)(hd : OpD W r o)(ha : PE X a (dn W da))(hb : PE X b (dn W db)) : PE X (.BinOp a op b pos) (dn W (dOp o da db)) := (pe_op ho ha hb).mono (up_op hd)
theorem de_cmp {op : CmpOp}{r : R2}{o : D -> D -> (D -> Prop) -> Prop}(ho : OpR X (compareOp op) r)(hd : OpD W r o)(ha : PE X a (dn W da))(hb : PE X b (dn W db))(hm : behindInMarks op b = false) : PE X (.Compare a [op] [b] pos) (dn W (dOp o da db)) := (pe_cmpR ho ha hb hm).mono (up_op hd)
theorem de_ix {r : R2}{o : D -> D -> (D -> Prop) -> Prop}(hr : IxR X r)(hd : OpD W r o)(ha : PE X a (dn W da))(hb : PE X b (dn W db))(hs : PlainIx b) : PE X (.Subscript a b pos) (dn W (dOp o da db)) := (pe_ix hr ha hb hs).mono (up_op hd)
def oI (C : Int -> Int -> Prop)(g : Int -> Int -> Int) : D -> D -> (D -> Prop) -> Prop
  | .int i,.int j,P => C i j /\ P (.int (g i j))
  | _,_,_ => False
def oI0 (g : Int -> Int -> Int) : D -> D -> (D -> Prop) -> Prop
  | .int i,.int j,P => P (.int (g i j))
  | _,_,_ => False
def oB0 (g : Int -> Int -> Bool) : D -> D -> (D -> Prop) -> Prop
  | .int i,.int j,P => P (.bl (g i j))
  | _,_,_ => False
theorem od_I {C : Int -> Int -> Prop}{g : Int -> Int -> Int} : OpD W (rI C fun i j => .int (g i j)) (oI C g) := by
  intro M b H x y v u P Q hs rx ry ho k
  cases x <;> first | exact ho.elim | skip
  cases y <;> first | exact ho.elim | skip
  cases (show _ = _ from rx)
  cases (show _ = _ from ry)
  exact ⟨_,_,rfl,rfl,ho.1,k _ _ H ho.2 (show _ = _ from rfl) (Kp.refl _ _) hs.ok⟩
theorem od_I0 {g : Int -> Int -> Int} : OpD W (rI0 fun i j => .int (g i j)) (oI0 g) := by
  intro M b H x y v u P Q hs rx ry ho k
  cases x <;> first | exact ho.elim | skip
  cases y <;> first | exact ho.elim | skip
  cases (show _ = _ from rx)
  cases (show _ = _ from ry)
  exact ⟨_,_,rfl,rfl,k _ _ H ho (show _ = _ from rfl) (Kp.refl _ _) hs.ok⟩
theorem od_B0 {g : Int -> Int -> Bool} : OpD W (rI0 fun i j => .bl (g i j)) (oB0 g) := by
  intro M b H x y v u P Q hs rx ry ho k
  cases x <;> first | exact ho.elim | skip
  cases y <;> first | exact ho.elim | skip
  cases (show _ = _ from rx)
  cases (show _ = _ from ry)
  exact ⟨_,_,rfl,rfl,k _ _ H ho (show _ = _ from rfl) (Kp.refl _ _) hs.ok⟩
def oEqS (neg : Bool) : D -> D -> (D -> Prop) -> Prop
  | .int i,.int j,P => P (.bl (decide (i = j) != neg))
  | .bl i,.bl j,P => P (.bl (decide (i = j) != neg))
  | .str i,.str j,P => P (.bl (decide (i = j) != neg))
  | .non,.non,P => P (.bl (true != neg))
  | .non,.int _,P => P (.bl (false != neg))
  | .int _,.non,P => P (.bl (false != neg))
  | .str _,.int _,P => P (.bl (false != neg))
  | .int _,.str _,P => P (.bl (false != neg))
  | _,_,_ => False
theorem od_eqS : OpD W rEq (oEqS false) := by
  intro M b H x y v u P Q hs rx ry ho k
  cases x <;> cases y <;> first | exact ho.elim | skip
  all_goals (cases (show _ = _ from rx); cases (show _ = _ from ry); refine ⟨rfl,?_⟩; refine k _ _ H ho ?_ (Kp.refl _ _) hs.ok)
  all_goals (show V.bl _ = V.bl _; simp)
def oIx : D -> D -> (D -> Prop) -> Prop
  | .tup xs,.int i,P => (atI xs i).elim False P
  | .lst xs,.int i,P => (atI xs i).elim False P
  | .own xs,.int i,P => (atI xs i).elim False P
  | _,_,_ => False
theorem ix_any (K : PySem.W.Frag)(h : X.K = K) : IxR X (fun x y H Q => rIxT K x y H Q \/ rIxL K x y H Q) := (ix_tupK K h).or (ix_listK K h)
theorem od_ix : OpD W (fun x y H Q => rIxT W.K x y H Q \/ rIxL W.K x y H Q) oIx := by
  intro M b H x y v u P Q hs rx ry ho k
  cases x <;> first | exact ho.elim | skip
  all_goals (cases y <;> first | exact ho.elim | skip)
  all_goals cases (show _ = _ from ry)
  case tup.int xs i =>
    obtain ⟨a,vs,rfl,hh,r⟩ := rx
    simp only [oIx] at ho
    cases e : atI xs i with
    | none => rw [e] at ho; exact ho.elim
    | some d =>
      rw [e] at ho
      obtain ⟨w,e1,r1⟩ := r.at e
      exact .inl ⟨a,vs,i,w,rfl,rfl,hh.sq,e1,k d w H ho r1.x (Kp.refl _ _) hs.ok⟩
  case lst.int xs i =>
    obtain ⟨a,vs,rfl,hh,r⟩ := rx
    simp only [oIx] at ho
    cases e : atI xs i with
    | none => rw [e] at ho; exact ho.elim
    | some d =>
      rw [e] at ho
      obtain ⟨w,e1,r1⟩ := r.at e
      exact .inr ⟨a,vs,i,w,rfl,rfl,SqL.of hh.2,e1,k d w H ho r1.x (Kp.refl _ _) hs.ok⟩
  case own.int xs i =>
    obtain ⟨a,vs,rfl,_,_,_,_,hh,r⟩ := rx
    simp only [oIx] at ho
    cases e : atI xs i with
    | none => rw [e] at ho; exact ho.elim
    | some d =>
      rw [e] at ho
      obtain ⟨w,e1,r1⟩ := r.at e
      exact .inr ⟨a,vs,i,w,rfl,rfl,SqL.of hh,e1,k d w H ho r1.x (Kp.refl _ _) hs.ok⟩
def dUn (o : D -> (D -> Prop) -> Prop)(da : DE) : DE := fun ρ P => da ρ fun x => o x P
def oNeg : D -> (D -> Prop) -> Prop
  | .int i,P => P (.int (-i))
  | _,_ => False
theorem de_neg (ha : PE X a (dn W da)) : PE X (.UnaryOp .USub a pos) (dn W (dUn oNeg da)) := (pe_un un_neg ha).mono fun σ H Q hh => hh.elim fun pn M b ρ P st h k => by
  refine ⟨pn,M,b,ρ,_,st,h,fun x v H1 hx rx k1 o1 => ?_⟩
  cases x <;> first | exact hx.elim | skip
  cases (show _ = _ from rx)
  exact ⟨_,rfl,k _ _ H1 hx (show _ = _ from rfl) k1 o1⟩
inductive IfP (c : Bool)(A B : Prop) : Prop
  | t (e : c = true) (h : A) : IfP c A B
  | f (e : c = false) (h : B) : IfP c A B
theorem IfP.of {c : Bool}{A B : Prop}(h1 : c = true -> A)(h2 : c = false -> B) : IfP c A B := by
  cases c
  · exact .f rfl (h2 rfl)
  · exact .t rfl (h1 rfl)
theorem IfP.true_of {A B : Prop}(h : IfP true A B) : A := by
  cases h with
  | t _ h => exact h
  | f e _ => cases e
theorem IfP_true {A B : Prop} : IfP true A B = A := propext ⟨IfP.true_of,fun h => .t rfl h⟩
def dAnd (da db : DE) : DE := fun ρ P => da ρ fun x => match x with | .bl k => IfP k (db ρ P) (P (.bl false)) | _ => False
def dOr (da db : DE) : DE := fun ρ P => da ρ fun x => match x with | .bl k => IfP k (P (.bl true)) (db ρ P) | _ => False
def dNot (da : DE) : DE := fun ρ P => da ρ fun x => match x with | .bl k => P (.bl (!k)) | _ => False
variable {rest : List Expr}
theorem de_one {op}(h : PE X a (dn W da)) : PE X (.BoolOp op [a] pos) (dn W da) := pe_one h
theorem de_and (ha : PE X a (dn W da))(hb : PE X (.BoolOp .And (b :: rest) pos) (dn W db)) : PE X (.BoolOp .And (a :: b :: rest) pos) (dn W (dAnd da db)) := (pe_and ha hb).mono fun σ H Q hh => hh.elim fun pn M b ρ P st h k => by
  refine ⟨pn,M,b,ρ,_,st,h,fun x v H1 hx rx k1 o1 => ?_⟩
  cases x <;> first | exact hx.elim | skip
  case bl c =>
    cases (show _ = _ from rx)
    refine ⟨c,rfl,?_⟩
    cases hx with
    | f e hx => subst e; rw [if_neg Bool.false_ne_true]; exact k _ _ H1 hx (show _ = _ from rfl) k1 o1
    | t e hx => subst e; rw [if_pos rfl]; exact ⟨pn,M,b,ρ,P,st.step k1 o1,hx,fun x v H' hp r k2 o2 => k x v H' hp r (k1.trans k2) o2⟩
theorem de_or (ha : PE X a (dn W da))(hb : PE X (.BoolOp .Or (b :: rest) pos) (dn W db)) : PE X (.BoolOp .Or (a :: b :: rest) pos) (dn W (dOr da db)) := (pe_or ha hb).mono fun σ H Q hh => hh.elim fun pn M b ρ P st h k => by
  refine ⟨pn,M,b,ρ,_,st,h,fun x v H1 hx rx k1 o1 => ?_⟩
  cases x <;> first | exact hx.elim | skip
  case bl c =>
    cases (show _ = _ from rx)
    refine ⟨c,rfl,?_⟩
    cases hx with
    | f e hx => subst e; rw [if_neg Bool.false_ne_true]; exact ⟨pn,M,b,ρ,P,st.step k1 o1,hx,fun x v H' hp r k2 o2 => k x v H' hp r (k1.trans k2) o2⟩
    | t e hx => subst e; rw [if_pos rfl]; exact k _ _ H1 hx (show _ = _ from rfl) k1 o1
theorem de_not (ha : PE X a (dn W da)) : PE X (.UnaryOp .Not a pos) (dn W (dNot da)) := (pe_not ha).mono fun σ H Q hh => hh.elim fun pn M b ρ P st h k => by
  refine ⟨pn,M,b,ρ,_,st,h,fun x v H1 hx rx k1 o1 => ?_⟩
  cases x <;> first | exact hx.elim | skip
  case bl c =>
    cases (show _ = _ from rx)
    exact ⟨c,rfl,k _ _ H1 hx (show _ = _ from rfl) k1 o1⟩
def dTest (da : DE) : DT := fun ρ P => da ρ fun x => match x with | .bl k => P k | _ => False
theorem dt_cmp {op : CmpOp}{r : R2}{o : D -> D -> (D -> Prop) -> Prop}(ho : OpR X (compareOp op) r)(hd : OpD W r o)(ha : PE X a (dn W da))(hb : PE X b (dn W db))(hm : behindInMarks op b = false) : PT X (.Compare a [op] [b] pos) (dnT W (dTest (dOp o da db))) := (pt_cmpR ho ha hb hm).mono fun σ H Q hh => hh.elim fun pn M b ρ P st h k => by
  refine up_op hd σ H _ ⟨pn,M,b,ρ,_,st,h,fun x v H1 hx rx k1 o1 => ?_⟩
  cases x <;> first | exact hx.elim | skip
  case bl c =>
    cases (show _ = _ from rx)
    exact ⟨c,rfl,k _ H1 hx k1 o1⟩
def dTru (da : DE) : DT := fun ρ P => da ρ fun x => match x with
  | .bl k => P k
  | .int i => P (i != 0)
  | .non => P false
  | .tup xs => P (!xs.isEmpty)
  | .lst xs => P (!xs.isEmpty)
  | .own xs => P (!xs.isEmpty)
  | _ => False
theorem Reps.empty {K : PySem.W.Frag}{M : Addr -> Prop}{H : Hp}{ds : List D}{vs : List V}(h : Reps K M H ds vs) : (!ds.isEmpty) = !vs.isEmpty := by
  cases ds with
  | nil => cases (show _ = _ from h); rfl
  | cons d ds => obtain ⟨v,r,rfl,_⟩ := h; rfl
theorem dt_truth (hK : X.K = W.K)(ha : PE X a (dn W da))(he : ∀ whole,isTrue a X.env whole = (do let v <- whole; standAt a.pos; holding [v] (truthy v))) : PT X a (dnT W (dTru da)) := (pt_truthK W.K hK ha he).mono fun σ H Q hh => hh.elim fun pn M b ρ P st h k => by
  refine ⟨pn,M,b,ρ,_,st,h,fun x v H1 hx rx k1 o1 => ?_⟩
  cases x <;> first | exact hx.elim | skip
  case bl c => cases (show _ = _ from rx); exact ⟨_,rfl,k _ H1 hx k1 o1⟩
  case int c => cases (show _ = _ from rx); exact ⟨_,rfl,k _ H1 hx k1 o1⟩
  case non => cases (show _ = _ from rx); exact ⟨_,rfl,k _ H1 hx k1 o1⟩
  case tup xs => obtain ⟨a,vs,rfl,hh,r⟩ := rx; exact ⟨_,.inr (.inl ⟨vs,hh.sq,r.empty⟩),k _ H1 hx k1 o1⟩
  case lst xs => obtain ⟨a,vs,rfl,hh,r⟩ := rx; exact ⟨_,.inl ⟨vs,SqL.of hh.2,r.empty⟩,k _ H1 hx k1 o1⟩
  case own xs => obtain ⟨a,vs,rfl,_,_,_,_,hh,r⟩ := rx; exact ⟨_,.inl ⟨vs,SqL.of hh,r.empty⟩,k _ H1 hx k1 o1⟩
def dTOr (t u : DT) : DT := fun ρ P => t ρ fun c => IfP c (P true) (u ρ P)
def dTNot (t : DT) : DT := fun ρ P => t ρ fun c => P (!c)
variable {ta tb : DT}
theorem up_or : ∀ σ H Q,dnT W (dTOr ta tb) σ H Q -> tOr (dnT W ta) (dnT W tb) σ H Q := by
  intro σ H Q hh
  refine hh.elim fun pn M b ρ P st h k => ?_
  refine ⟨pn,M,b,ρ,_,st,h,fun x H1 hx k1 o1 => ?_⟩
  cases hx with
  | t e hx => rw [if_pos e]; exact k _ H1 hx k1 o1
  | f e hx => rw [if_neg (by rw [e]; exact Bool.false_ne_true)]; exact ⟨pn,M,b,ρ,P,st.step k1 o1,hx,fun x H' hp k2 o2 => k x H' hp (k1.trans k2) o2⟩
theorem PW.mono {t t' : TT}(h : PW X e t)(m : ∀ σ H Q,t' σ H Q -> t σ H Q) : PW X e t' := fun wh pins s σ H Q I q => h wh pins s σ H Q I (m σ H Q q)
theorem dw_or1 (ha : PT X a (dnT W ta)) : PW X (.BoolOp .Or [a] pos) (dnT W ta) := pw_or1 ha
theorem dw_or (ha : PT X a (dnT W ta))(hb : PW X (.BoolOp .Or (b :: rest) pos) (dnT W tb)) : PW X (.BoolOp .Or (a :: b :: rest) pos) (dnT W (dTOr ta tb)) := (pw_or ha hb).mono up_or
theorem dt_not (ha : PT X a (dnT W ta)) : PT X (.UnaryOp .Not a pos) (dnT W (dTNot ta)) := (pt_not ha).mono fun σ H Q hh => hh.elim fun pn M b ρ P st h k => ⟨pn,M,b,ρ,_,st,h,fun x H1 hx k1 o1 => k _ H1 hx k1 o1⟩
def dChain (o o' : D -> D -> (D -> Prop) -> Prop)(da db dc : DE) : DE := fun ρ P => da ρ fun x => db ρ fun y => o x y fun z => match z with | .bl k => IfP k (dc ρ fun w => o' y w P) (P (.bl false)) | _ => False
theorem de_chain {op op' : CmpOp}{r r' : R2}{o o' : D -> D -> (D -> Prop) -> Prop}(ho : OpR X (compareOp op) r)(ho' : OpR X (compareOp op') r')(hd : OpD W r o)(hd' : OpD W r' o')(ha : PE X a (dn W da))(hb : PE X b (dn W db))(hc : PE X c (dn W dc))
    (hm : lastMarks [op,op'] [b,c] = false := by with_unfolding_all rfl) : PE X (.Compare a [op,op'] [b,c] pos) (dn W (dChain o o' da db dc)) := (pe_chain ho ho' ha hb hc hm).mono fun σ H Q hh => hh.elim fun pn M b ρ P st h k => by
  refine ⟨pn,M,b,ρ,_,st,h,fun x v H1 hx rx k1 o1 => ?_⟩
  refine ⟨pn,M,b,ρ,_,st.step k1 o1,hx,fun y u H2 hy ry k2 o2 => ?_⟩
  refine hd M b H2 x y v u _ _ ((st.step k1 o1).step k2 o2).toHs (rx.step st.bagM k2) ry hy fun z w H' hz rz k3 o3 => ?_
  cases z <;> first | exact hz.elim | skip
  case bl q =>
    cases (show _ = _ from rz)
    refine ⟨q,rfl,?_⟩
    cases hz with
    | f e hz => subst e; rw [if_neg Bool.false_ne_true]; exact k _ _ H' hz (show _ = _ from rfl) ((k1.trans k2).trans k3) o3
    | t e hz =>
      subst e
      rw [if_pos rfl]
      refine ⟨pn,M,b,ρ,_,((st.step k1 o1).step k2 o2).step k3 o3,hz,fun w u' H4 hw rw' k4 o4 => ?_⟩
      exact hd' M b H4 y w u u' P Q ((((st.step k1 o1).step k2 o2).step k3 o3).step k4 o4).toHs ((ry.step st.bagM k3).step st.bagM k4) rw' hw fun z w H' hz rz k5 o5 => k z w H' hz rz ((((k1.trans k2).trans k3).trans k4).trans k5) o5
def aNil : DA := fun _ P => P []
def aCons (da : DE)(dr : DA) : DA := fun ρ P => da ρ fun x => dr ρ fun xs => P (x :: xs)
theorem da_nil : PA X [] (dnA W aNil) := pa_nil.mono fun σ H Q hh => hh.elim fun pn M b ρ P st h k => k [] [] H h rfl (Kp.refl _ _) st.ok
theorem da_cons {dr : DA}(ha : PE X e (dn W da))(hr : PA X es (dnA W dr))(hs : starEach (e :: es) X.env = (false,eval e X.env) :: starEach es X.env := by rfl) : PA X (e :: es) (dnA W (aCons da dr)) := (pa_cons ha hr hs).mono fun σ H Q hh => hh.elim fun pn M b ρ P st h k => by
  refine ⟨pn,M,b,ρ,_,st,h,fun x v H1 hx rx k1 o1 => ?_⟩
  refine ⟨pn,M,b,ρ,_,st.step k1 o1,hx,fun xs vs H2 hy ry k2 o2 => ?_⟩
  exact k _ _ H2 hy ⟨v,vs,rfl,rx.step st.bagM k2,ry⟩ (k1.trans k2) o2
def okIt (xs : List D) : Bool := xs.all plain && decide (xs.length <= 1000)
def dTup (dA : DA) : DE := fun ρ P => dA ρ fun xs => okIt xs = true /\ P (.tup xs)
def dLst (dA : DA) : DE := fun ρ P => dA ρ fun xs => okIt xs = true /\ P (.lst xs)
theorem okIt.len {xs : List D}(h : okIt xs = true) : xs.length <= sizeLine := by
  unfold okIt at h
  simp only [Bool.and_eq_true,decide_eq_true_eq] at h
  exact Nat.le_trans h.2 le1000
theorem okIt.pl {xs : List D}(h : okIt xs = true) : xs.all plain = true := by
  unfold okIt at h
  simp only [Bool.and_eq_true,decide_eq_true_eq] at h
  exact h.1
theorem new_tup {M : Addr -> Prop}{bg : Option Addr}{H : Hp}{xs : List D}{vs : List V}{p : Addr}(hs : Hs W M bg H)(r : Reps W.K M H xs vs)(h : H p = none) : RepX W M bg (upd H p (.tup vs)) (.tup xs) (.ref p) :=
  ⟨p,vs,rfl,.inl ⟨hs.new h,upd_same⟩,Reps.keep (fun c o _ e => Same.upd h c o e) _ _ r⟩
theorem new_lst {M : Addr -> Prop}{bg : Option Addr}{H : Hp}{xs : List D}{vs : List V}{p : Addr}(hs : Hs W M bg H)(r : Reps W.K M H xs vs)(h : H p = none) : RepX W M bg (upd H p (.lst vs)) (.lst xs) (.ref p) :=
  ⟨p,vs,rfl,⟨hs.new h,upd_same⟩,Reps.keep (fun c o _ e => Same.upd h c o e) _ _ r⟩
theorem de_tup {x1}(h : PA X es (dnA W dA)) : PE X (.Tuple es x1 pos) (dn W (dTup dA)) := (pe_tup h).mono fun σ H Q hh => hh.elim fun pn M b ρ P st h k => by
  refine ⟨pn,M,b,ρ,_,st,h,fun xs vs H1 hx rx k1 o1 => ?_⟩
  have rr := rx.reps _ _ (okIt.pl hx.1)
  refine ⟨by rw [rr.length]; exact okIt.len hx.1,fun p hp => k _ _ _ hx.2 (new_tup (st.step k1 o1).toHs rr hp) (k1.trans (Kp.upd hp)) ((st.step k1 o1).okU hp)⟩
theorem de_lst (h : PA X es (dnA W dA)) : PE X (.List es pos) (dn W (dLst dA)) := (pe_lst h).mono fun σ H Q hh => hh.elim fun pn M b ρ P st h k => by
  refine ⟨pn,M,b,ρ,_,st,h,fun xs vs H1 hx rx k1 o1 => ?_⟩
  have rr := rx.reps _ _ (okIt.pl hx.1)
  refine ⟨by rw [rr.length]; exact okIt.len hx.1,fun p hp => k _ _ _ hx.2 (new_lst (st.step k1 o1).toHs rr hp) (k1.trans (Kp.upd hp)) ((st.step k1 o1).okU hp)⟩
end
end L2
set_option Elab.async false
set_option linter.all false
set_option maxRecDepth 100000
set_option maxHeartbeats 4000000
namespace L2
open PySem PySem.Spec PyProof.Rows
abbrev DSp := List D -> (D -> Prop) -> (Addr -> Prop) -> Prop
def RepA (K : PySem.W.Frag)(M : Addr -> Prop)(b : Option Addr)(H : Hp) : D -> V -> Prop
  | .own _,_ => False
  | .bag,v => ∃ p,b = some p /\ v = .ref p
  | d,v => Rep K M H d v
def RepAs (K : PySem.W.Frag)(M : Addr -> Prop)(b : Option Addr)(H : Hp) : List D -> List V -> Prop
  | [],vs => vs = []
  | d :: ds,vs => ∃ v r,vs = v :: r /\ RepA K M b H d v /\ RepAs K M b H ds r
def liftSp (K : PySem.W.Frag)(B : BagT)(S : DSp) : Sp := fun vs H Q E => ∃ (M : Addr -> Prop) (b : Option Addr) (ds : List D) (P : D -> Prop) (Ed : Addr -> Prop),S ds P Ed /\ RepAs K M b H ds vs /\ okB B b H /\ (∀ p,b = some p -> M p) /\ (∀ c,M c -> ∃ o,H c = some o) /\
  (∀ d v H',P d -> Rep K M H' d v -> Kp b H H' -> okB B b H' -> Q v H') /\ ∀ C H',Ed C -> Kp b H H' -> okB B b H' -> E (.ref C) none H'
theorem RepXs.args {W : Wd}{M : Addr -> Prop}{b : Option Addr}{H : Hp} : ∀ (ds : List D) (vs : List V),RepXs W M b H ds vs -> ds.all notOwn = true -> RepAs W.K M b H ds vs
  | [],_,h,_ => h
  | d :: ds,vs,h,p => by
    obtain ⟨v,r,e,h1,h2⟩ := h
    simp only [List.all_cons,Bool.and_eq_true] at p
    refine ⟨v,r,e,?_,RepXs.args ds r h2 p.2⟩
    cases d <;> first | exact h1 | cases p.1
theorem RepAs.length {K : PySem.W.Frag}{M : Addr -> Prop}{b : Option Addr}{H : Hp} : ∀ {ds : List D} {vs : List V},RepAs K M b H ds vs -> vs.length = ds.length
  | [],_,h => by cases (show _ = _ from h); rfl
  | d :: ds,vs,h => by
    obtain ⟨v,r,rfl,h1,h2⟩ := h
    simp [RepAs.length h2]
def ELink (W : Wd)(E : XK)(Ed : Addr -> Prop) : Prop := ∀ C H',Ed C -> Kp W.b0 W.H0 H' -> okB W.B W.b0 H' -> E (.ref C) none H'
theorem Sta.ok0 {W : Wd}{pn : List (D × V)}{M : Addr -> Prop}{b : Option Addr}{H : Hp}{σ : St}{ρ : Ev}(s : Sta W pn M b H σ ρ) : okB W.B W.b0 H := by
  rcases s.new with q | ⟨q,_⟩
  · rw [<- q]; exact s.ok
  · intro p e; rw [q] at e; cases e
section
variable {X : Cx}{W : Wd}{e a b c : Expr}{es : List Expr}{pos p : Pos}{d da db dc : DE}{dA : DA}{x : Str}{k : Nat}{ps : List Str}{S : DSp}
def dCall (S : DSp)(Ed : Addr -> Prop)(dA : DA) : DE := fun ρ P => dA ρ fun ds => ds.all notOwn = true /\ S ds P Ed
theorem up_call {E : XK}{Ed : Addr -> Prop}(hE : ELink W E Ed) : ∀ σ H Q,dn W (dCall S Ed dA) σ H Q -> tCall (liftSp W.K W.B S) [] E (dnA W dA) σ H Q := by
  intro σ H Q hh
  refine hh.elim fun pn M b ρ P st h k => ?_
  refine ⟨pn,M,b,ρ,_,st,h,fun xs vs H1 hx rx k1 o1 => ?_⟩
  have st1 := st.step k1 o1
  refine ⟨M,b,xs,P,Ed,hx.2,?_,o1,st.bagM,st1.dom,fun d v H' hd rd k2 o2 => k d v H' hd rd.x (k1.trans k2) o2,fun C H' hC k2 o2 => ?_⟩
  · rw [List.append_nil]; exact rx.args _ _ hx.1
  · have st2 := st1.step k2 o2
    exact hE C H' hC st2.kp st2.ok0
theorem elink0 : ELink W E0 (fun _ => False) := fun _ _ h => h.elim
theorem de_own (G : Callee X.prog X.w X.K X.mg X.base CX0 x k ps (liftSp W.K W.B S))(hr : Room k X.A)(hg : Gl X x)(ha : PA X (e :: es) (dnA W dA))(hdb : (x == ("__debug__" : Str)) = false := by decide) (he : starEach (e :: es) X.env = (false,eval e X.env) :: starEach es X.env := by rfl) (hpl : (backTo pos (starEach es X.env)).any (·.1) = false := by rfl) :
    PE X (.Call (.Name x p) (e :: es) [] pos) (dn W (dCall S (fun _ => False) dA)) := (pe_own G hr hg ha hdb he hpl).mono (up_call elink0)
theorem de_ownX {CX : CXT}{E : XK}{Ed : Addr -> Prop}(hE : ELink W E Ed)(hp : Passes CX X E)(G : Callee X.prog X.w X.K X.mg X.base CX x k ps (liftSp W.K W.B S))(hr : Room k X.A)(hg : Gl X x)(ha : PA X (e :: es) (dnA W dA))(hdb : (x == ("__debug__" : Str)) = false := by decide) (he : starEach (e :: es) X.env = (false,eval e X.env) :: starEach es X.env := by rfl) (hpl : (backTo pos (starEach es X.env)).any (·.1) = false := by rfl) :
    PE X (.Call (.Name x p) (e :: es) [] pos) (dn W (dCall S Ed dA)) := (pe_ownX hp G hr hg ha hdb he hpl).mono (up_call hE)
def CallD (W : Wd)(r : List V -> Hp -> VK -> Prop)(o : List D -> (D -> Prop) -> Prop) : Prop := ∀ M b H xs vs P Q,Hs W M b H -> RepXs W M b H xs vs -> o xs P -> (∀ z w H',P z -> RepX W M b H' z w -> Kp b H H' -> okB W.B b H' -> Q w H') -> r vs H Q
def dCB (o : List D -> (D -> Prop) -> Prop)(dA : DA) : DE := fun ρ P => dA ρ fun xs => o xs P
variable {r : List V -> Hp -> VK -> Prop}{o : List D -> (D -> Prop) -> Prop}{id T : String}
theorem up_cb (hd : CallD W r o) : ∀ σ H Q,dn W (dCB o dA) σ H Q -> tCB r (dnA W dA) σ H Q := by
  intro σ H Q hh
  refine hh.elim fun pn M b ρ P st h k => ?_
  refine ⟨pn,M,b,ρ,_,st,h,fun xs vs H1 hx rx k1 o1 => ?_⟩
  exact hd M b H1 xs vs P Q (st.step k1 o1).toHs rx hx fun z w H' hz rz k2 o2 => k z w H' hz rz (k1.trans k2) o2
theorem de_callB (hc : CallR X (.builtin id) r)(hd : CallD W r o)(hg : Gl X x)(hm : X.mg x = none)(hv : bootBuiltins x = some (.builtin id))(ha : PA X (e :: es) (dnA W dA))(hn : x ≠ "__name__" := by decide) (hdb : (x == ("__debug__" : Str)) = false := by decide)
    (he : starEach (e :: es) X.env = (false,eval e X.env) :: starEach es X.env := by rfl) (hpl : (backTo pos (starEach es X.env)).any (·.1) = false := by rfl) : PE X (.Call (.Name x p) (e :: es) [] pos) (dn W (dCB o dA)) := (pe_callB hc hg hm hv ha hn hdb he hpl).mono (up_cb hd)
theorem de_callTy (hc : CallR X (.type T) r)(hd : CallD W r o)(hg : Gl X x)(hm : X.mg x = none)(hv : bootBuiltins x = some (.type T))(ha : PA X (e :: es) (dnA W dA))(hn : x ≠ "__name__" := by decide) (hdb : (x == ("__debug__" : Str)) = false := by decide)
    (he : starEach (e :: es) X.env = (false,eval e X.env) :: starEach es X.env := by rfl) (hpl : (backTo pos (starEach es X.env)).any (·.1) = false := by rfl) : PE X (.Call (.Name x p) (e :: es) [] pos) (dn W (dCB o dA)) := (pe_callTy hc hg hm hv ha hn hdb he hpl).mono (up_cb hd)
theorem rx1 {M : Addr -> Prop}{b : Option Addr}{H : Hp}{x : D}{vs : List V}(h : RepXs W M b H [x] vs) : ∃ v,vs = [v] /\ RepX W M b H x v := by
  obtain ⟨v,r,rfl,h1,h2⟩ := h
  cases (show _ = _ from h2)
  exact ⟨v,rfl,h1⟩
theorem rx2 {M : Addr -> Prop}{b : Option Addr}{H : Hp}{x y : D}{vs : List V}(h : RepXs W M b H [x,y] vs) : ∃ v u,vs = [v,u] /\ RepX W M b H x v /\ RepX W M b H y u := by
  obtain ⟨v,r,rfl,h1,h2⟩ := h
  obtain ⟨u,rfl,h3⟩ := rx1 h2
  exact ⟨v,u,rfl,h1,h3⟩
def intsOf : List D -> Option (List Int)
  | [] => some []
  | .int i :: r => (intsOf r).map (i :: ·)
  | _ => none
def blsOf : List D -> Option (List Bool)
  | [] => some []
  | .bl i :: r => (blsOf r).map (i :: ·)
  | _ => none
theorem intsOf.eq : ∀ {ds : List D} {ns : List Int},intsOf ds = some ns -> ds = ns.map D.int
  | [],ns,h => by cases h; rfl
  | d :: r,ns,h => by
    cases d <;> first | cases h | skip
    case int i =>
      simp only [intsOf,Option.map_eq_some_iff] at h
      obtain ⟨m,e,rfl⟩ := h
      rw [intsOf.eq e]; rfl
theorem blsOf.eq : ∀ {ds : List D} {ns : List Bool},blsOf ds = some ns -> ds = ns.map D.bl
  | [],ns,h => by cases h; rfl
  | d :: r,ns,h => by
    cases d <;> first | cases h | skip
    case bl i =>
      simp only [blsOf,Option.map_eq_some_iff] at h
      obtain ⟨m,e,rfl⟩ := h
      rw [blsOf.eq e]; rfl
theorem Reps.ints {K : PySem.W.Frag}{M : Addr -> Prop}{H : Hp} : ∀ {ns : List Int} {vs : List V},Reps K M H (ns.map D.int) vs -> vs = ns.map V.int
  | [],_,h => by cases (show _ = _ from h); rfl
  | n :: ns,_,h => by
    obtain ⟨v,r,rfl,h1,h2⟩ := h
    cases (show _ = _ from h1)
    rw [Reps.ints h2]; rfl
theorem Reps.bls {K : PySem.W.Frag}{M : Addr -> Prop}{H : Hp} : ∀ {ns : List Bool} {vs : List V},Reps K M H (ns.map D.bl) vs -> vs = ns.map V.bl
  | [],_,h => by cases (show _ = _ from h); rfl
  | n :: ns,_,h => by
    obtain ⟨v,r,rfl,h1,h2⟩ := h
    cases (show _ = _ from h1)
    rw [Reps.bls h2]; rfl
def asL : D -> Option (List D)
  | .lst xs => some xs
  | .own xs => some xs
  | _ => none
theorem asL.rep {M : Addr -> Prop}{b : Option Addr}{H : Hp}{x : D}{v : V}{xs : List D}(h : RepX W M b H x v)(e : asL x = some xs) : ∃ a vs,v = .ref a /\ H a = some (.lst vs) /\ Reps W.K M H xs vs := by
  cases x <;> first | cases e | skip
  case lst => obtain ⟨a,vs,rfl,hh,r⟩ := h; exact ⟨a,vs,rfl,hh.2,r⟩
  case own => obtain ⟨a,vs,rfl,_,_,_,_,hh,r⟩ := h; exact ⟨a,vs,rfl,hh,r⟩
def oLen : List D -> (D -> Prop) -> Prop
  | [.lst xs],P => P (.int xs.length)
  | [.own xs],P => P (.int xs.length)
  | [.tup xs],P => P (.int xs.length)
  | [.scr ns],P => P (.int ns.length)
  | _,_ => False
theorem cd_len : CallD W (fun xs H Q => ∃ p ys,xs = [.ref p] /\ (SqL W.K H p ys \/ SqT W.K H p ys) /\ Q (.int ys.length) H) oLen := by
  intro M b H xs vs P Q hs rx ho k
  match xs,ho with
  | [.lst xs],ho =>
    obtain ⟨v,rfl,r⟩ := rx1 rx
    obtain ⟨a,us,rfl,hh,r'⟩ := r
    exact ⟨a,us,rfl,.inl (SqL.of hh.2),k _ _ H ho (by show _ = _; rw [r'.length]) (Kp.refl _ _) hs.ok⟩
  | [.own xs],ho =>
    obtain ⟨v,rfl,r⟩ := rx1 rx
    obtain ⟨a,us,rfl,_,_,_,_,hh,r'⟩ := r
    exact ⟨a,us,rfl,.inl (SqL.of hh),k _ _ H ho (by show _ = _; rw [r'.length]) (Kp.refl _ _) hs.ok⟩
  | [.tup xs],ho =>
    obtain ⟨v,rfl,r⟩ := rx1 rx
    obtain ⟨a,us,rfl,hh,r'⟩ := r
    exact ⟨a,us,rfl,.inr (hh.sq),k _ _ H ho (by show _ = _; rw [r'.length]) (Kp.refl _ _) hs.ok⟩
  | [.scr ns],ho =>
    obtain ⟨v,rfl,r⟩ := rx1 rx
    obtain ⟨a,rfl,hh⟩ := r
    refine ⟨a,ns.map V.int,rfl,.inl (hh.imp (·.2) id),k _ _ H ho (by show _ = _; rw [List.length_map]) (Kp.refl _ _) hs.ok⟩
def oTuple : List D -> (D -> Prop) -> Prop
  | [.lst xs],P => P (.tup xs)
  | [.own xs],P => P (.tup xs)
  | [.tup xs],P => P (.tup xs)
  | _,_ => False
theorem cd_tuple : CallD W (fun xs H Q => ∃ p ys,xs = [.ref p] /\ ((SqL W.K H p ys /\ ∀ l,H l = none -> Q (.ref l) (upd H l (.tup ys))) \/ (SqT W.K H p ys /\ Q (.ref p) H))) oTuple := by
  intro M b H xs vs P Q hs rx ho k
  match xs,ho with
  | [.lst xs],ho =>
    obtain ⟨v,rfl,r⟩ := rx1 rx
    obtain ⟨a,us,rfl,hh,r'⟩ := r
    exact ⟨a,us,rfl,.inl ⟨SqL.of hh.2,fun l hl => k _ _ _ ho (new_tup hs r' hl) (Kp.upd hl) (hs.okU hl)⟩⟩
  | [.own xs],ho =>
    obtain ⟨v,rfl,r⟩ := rx1 rx
    obtain ⟨a,us,rfl,_,_,_,_,hh,r'⟩ := r
    exact ⟨a,us,rfl,.inl ⟨SqL.of hh,fun l hl => k _ _ _ ho (new_tup hs r' hl) (Kp.upd hl) (hs.okU hl)⟩⟩
  | [.tup xs],ho =>
    obtain ⟨v,rfl,r⟩ := rx1 rx
    obtain ⟨a,us,rfl,hh,r'⟩ := r
    exact ⟨a,us,rfl,.inr ⟨hh.sq,k _ _ H ho ⟨a,us,rfl,hh,r'⟩ (Kp.refl _ _) hs.ok⟩⟩
def oInt1 : List D -> (D -> Prop) -> Prop
  | [.int i],P => P (.int i)
  | [.bl c],P => P (.int (if c then 1 else 0))
  | _,_ => False
theorem cd_int1 : CallD W (fun xs H Q => (∃ i,xs = [.int i] /\ Q (.int i) H) \/ ∃ k,xs = [.bl k] /\ Q (.int (if k then 1 else 0)) H) oInt1 := by
  intro M b H xs vs P Q hs rx ho k
  match xs,ho with
  | [.int i],ho =>
    obtain ⟨v,rfl,r⟩ := rx1 rx
    cases (show _ = _ from r)
    exact .inl ⟨i,rfl,k _ _ H ho (show _ = _ from rfl) (Kp.refl _ _) hs.ok⟩
  | [.bl i],ho =>
    obtain ⟨v,rfl,r⟩ := rx1 rx
    cases (show _ = _ from r)
    exact .inr ⟨i,rfl,k _ _ H ho (show _ = _ from rfl) (Kp.refl _ _) hs.ok⟩
def o2I (g : Int -> Int -> Int) : List D -> (D -> Prop) -> Prop
  | [.int i,.int j],P => P (.int (g i j))
  | _,_ => False
theorem cd_2I {g : Int -> Int -> Int} : CallD W (fun xs H Q => ∃ i j,xs = [.int i,.int j] /\ Q (.int (g i j)) H) (o2I g) := by
  intro M b H xs vs P Q hs rx ho k
  match xs,ho with
  | [.int i,.int j],ho =>
    obtain ⟨v,u,rfl,r,r'⟩ := rx2 rx
    cases (show _ = _ from r)
    cases (show _ = _ from r')
    exact ⟨i,j,rfl,k _ _ H ho (show _ = _ from rfl) (Kp.refl _ _) hs.ok⟩
def oBls (g : List Bool -> Bool) : List D -> (D -> Prop) -> Prop
  | [x],P => (asL x).elim False fun xs => (blsOf xs).elim False fun ns => P (.bl (g ns))
  | _,_ => False
theorem cd_bls {g : List Bool -> Bool} : CallD W (fun xs H Q => ∃ (p : Addr) (bs : List Bool),xs = [.ref p] /\ SqL W.K H p (bs.map V.bl) /\ Q (.bl (g bs)) H) (oBls g) := by
  intro M b H xs vs P Q hs rx ho k
  match xs,ho with
  | [x],ho =>
    obtain ⟨v,rfl,r⟩ := rx1 rx
    simp only [oBls] at ho
    cases ex : asL x with
    | none => rw [ex] at ho; exact ho.elim
    | some xs =>
      rw [ex] at ho
      simp only [Option.elim] at ho
      cases en : blsOf xs with
      | none => rw [en] at ho; exact ho.elim
      | some ns =>
        rw [en] at ho
        cases blsOf.eq en
        obtain ⟨a,us,rfl,hh,r'⟩ := asL.rep r ex
        cases r'.bls
        exact ⟨a,ns,rfl,SqL.of hh,k _ _ H ho (show _ = _ from rfl) (Kp.refl _ _) hs.ok⟩
theorem call_isinstA (K : PySem.W.Frag)(h : X.K = K) : CallR X (.builtin "isinstance") (fun xs H Q => ∃ y c t b,xs = [y,.ty c] /\ (TyOf K H y t \/ ∃ a vs,y = .ref a /\ KTp K a vs /\ t = .type "tuple") /\ PySem.W.kitOne K t (.type c) = some b /\ Q (.bl b) H) := by
  subst h
  intro pins s σ H xs us Q I rs q
  obtain ⟨y,c,t,b,rfl,ty,e,q⟩ := q
  rcases ty with ty | ⟨a,vs,rfl,⟨o,its,n,hk,hc,hs,hz,r⟩,rfl⟩
  · exact call_isinst pins s σ H _ us Q I rs ⟨y,c,t,b,rfl,ty,e,q⟩
  · obtain ⟨u1,u2,rfl,r1,r2⟩ := vals2 rs
    cases (show u2 = Value.type c from r2)
    cases (show u1 = Value.ref a from r1)
    refine PySem.W.kia_one PySem.W.kitx_tuple I.kIn ⟨o,I.kIn a o hk,hc⟩ e (fun z => nomatch z) fun tk => ?_
    exact ⟨.bl b,H,I.tok _,rfl,q⟩
def tyName : D -> Option String
  | .non => some "NoneType"
  | .bl _ => some "bool"
  | .int _ => some "int"
  | .str _ => some "str"
  | .lst _ => some "list"
  | .own _ => some "list"
  | .tup _ => some "tuple"
  | .frg _ (.lst _) => some "list"
  | _ => none
def isTy (K : PySem.W.Frag)(t c : String)(b : Bool) : Prop := PySem.W.kitOne K (.type t) (.type c) = some b
def oIsI (K : PySem.W.Frag) : List D -> (D -> Prop) -> Prop
  | [x,.ty c],P => match tyName x with | some t => ∃ b,isTy K t c b /\ P (.bl b) | none => False
  | _,_ => False
theorem cd_isinst : CallD W (fun xs H Q => ∃ y c t b,xs = [y,.ty c] /\ (TyOf W.K H y t \/ ∃ a vs,y = .ref a /\ KTp W.K a vs /\ t = .type "tuple") /\ PySem.W.kitOne W.K t (.type c) = some b /\ Q (.bl b) H) (oIsI W.K) := by
  intro M b H xs vs P Q hs rx ho k
  match xs,ho with
  | [x,.ty c],ho =>
    obtain ⟨v,u,rfl,r,r'⟩ := rx2 rx
    cases (show _ = _ from r')
    simp only [oIsI] at ho
    split at ho
    case h_2 => exact ho.elim
    case h_1 t et =>
      obtain ⟨q,hq,hp⟩ := ho
      refine ⟨v,c,.type t,q,rfl,?_,hq,k _ _ H hp (show _ = _ from rfl) (Kp.refl _ _) hs.ok⟩
      cases x <;> first | cases et | skip
      case non => cases (show _ = _ from r); exact .inl (.non)
      case bl => cases (show _ = _ from r); exact .inl (.bl _)
      case int => cases (show _ = _ from r); exact .inl (.int _)
      case str => cases (show _ = _ from r); exact .inl (.str _)
      case lst => obtain ⟨a,us,rfl,hh,r'⟩ := r; exact .inl (.lst hh.2)
      case own => obtain ⟨a,us,rfl,_,_,_,_,hh,r'⟩ := r; exact .inl (.lst hh)
      case frg f d =>
        cases d <;> first | cases et | skip
        case lst => obtain ⟨a,us,rfl,hh,r'⟩ := r.2.2; exact .inl (.lst hh.2)
      case tup =>
        obtain ⟨a,us,rfl,hh,r'⟩ := r
        exact hh.elim (fun z => .inl (.tup z.2)) fun z => .inr ⟨a,us,rfl,z,rfl⟩
end
end L2
set_option Elab.async false
set_option linter.all false
set_option maxRecDepth 100000
set_option maxHeartbeats 4000000
namespace L2
open PySem PySem.Spec PyProof.Rows
theorem Reps.plain {K : PySem.W.Frag}{M : Addr -> Prop}{H : Hp} : ∀ {ds : List D} {vs : List V},Reps K M H ds vs -> ds.all plain = true
  | [],_,_ => rfl
  | d :: ds,_,h => by
    obtain ⟨v,r,rfl,h1,h2⟩ := h
    rw [List.all_cons,Reps.plain h2,Bool.and_true]
    cases d <;> first | rfl | exact h1.elim
theorem Reps.xs {W : Wd}{M : Addr -> Prop}{b : Option Addr}{H : Hp} : ∀ {ds : List D} {vs : List V},Reps W.K M H ds vs -> RepXs W M b H ds vs
  | [],_,h => h
  | d :: ds,_,h => by
    obtain ⟨v,r,rfl,h1,h2⟩ := h
    exact ⟨v,r,rfl,h1.x,Reps.xs h2⟩
def ItOk (W : Wd)(J : It)(need : List (D × V))(items : List D) : Prop := ∀ M b H,Hs W M b H -> (∀ q ∈ need,RepX W M b H q.1 q.2) ->
  (∀ (i : Nat) d,items[i]? = some d -> J.go i H /\ ∀ x H3,J.yld i H x H3 -> Same H H3 /\ RepX W M b H3 d x) /\ ∀ i,items.length <= i -> J.stop i H
def dnI (W : Wd)(fz : Bool)(di : DA) : TI := fun σ H R => ∃ pn M b ρ P,Sta W pn M b H σ ρ /\ di ρ P /\ ∀ items J need H',P items -> items.all plain = true -> ItOk W J need items -> (∀ q ∈ need,RepX W M b H' q.1 q.2 /\ (fz = true -> plain q.1 = true)) -> Kp b H H' -> okB W.B b H' -> R J H'
theorem dnI.elim {W : Wd}{fz : Bool}{d : DA}{σ : St}{H : Hp}{R : It -> Hp -> Prop}{Z : Prop}(h : dnI W fz d σ H R)(f : ∀ pn M b ρ P,Sta W pn M b H σ ρ -> d ρ P -> (∀ items J need H',P items -> items.all plain = true -> ItOk W J need items -> (∀ q ∈ need,RepX W M b H' q.1 q.2 /\ (fz = true -> plain q.1 = true)) -> Kp b H H' -> okB W.B b H' -> R J H') -> Z) : Z := by
  obtain ⟨pn,M,b,ρ,P,st,h,k⟩ := h
  exact f pn M b ρ P st h k
section
variable {X : Cx}{W : Wd}{tg l e a b c : Expr}{es : List Expr}{pos p : Pos}{d da db dc dl : DE}{dA di : DA}{fz : Bool}
theorem PI.mono {t t' : TI}(h : PI X tg l t)(m : ∀ σ H R,t' σ H R -> t σ H R) : PI X tg l t' := fun pins s σ H R I q => h pins s σ H R I (m σ H R q)
theorem pi_any {tl : TE}(K : PySem.W.Frag)(h : X.K = K)(hl : PE X l tl) : PI X tg l (fun σ H R => tl σ H fun x H1 => (∃ a,x = .ref a /\ (∃ xs,SqL K H1 a xs) /\ R (Itl K a) H1) \/ (∃ a,x = .ref a /\ (∃ xs,SqT K H1 a xs) /\ R (Itt K a) H1)) := by
  subst h
  intro pins s σ H R I h
  refine thn (hl pins s σ H _ I h) fun v s1 ⟨x,H1,I1,r1,q1⟩ => ?_
  rcases q1 with ⟨a,e,⟨xs,hq⟩,q⟩ | ⟨a,e,⟨xs,hq⟩,q⟩
  · subst e
    cases r1
    obtain ⟨its,rv,p,hz⟩ := I1.list hq
    refine wpAny_pyIter_list p.isList ?_
    refine ⟨s1.heap.objs.size,[s1.heap.objs.size],_,_,H1,rfl,I1.kept (t' := s1.toks) fun b o e => Heap.get?_push_of_some _ e,turn_list a _,⟨_,Heap.get?_push_size _ rfl,rfl,rfl⟩,fun b hb => ?_,q⟩
    have e : b = s1.heap.objs.size := by simpa using hb
    subst e
    exact I1.fpOk (Nat.le_refl _) (I1.hok.fresh (Nat.le_refl _))
  · subst e
    cases r1
    obtain ⟨its,rv,p,hz⟩ := I1.tuple hq
    refine wpAny_pyIter_tuple (show s1.heap.IsTuple a its.toArray from p) ?_
    refine ⟨s1.heap.objs.size,[s1.heap.objs.size],_,_,H1,rfl,I1.kept (t' := s1.toks) fun b o e => Heap.get?_push_of_some _ e,turn_tuple a _,⟨_,Heap.get?_push_size _ rfl,rfl,rfl⟩,fun b hb => ?_,q⟩
    have e : b = s1.heap.objs.size := by simpa using hb
    subst e
    exact I1.fpOk (Nat.le_refl _) (I1.hok.fresh (Nat.le_refl _))
def iSeq (fz : Bool)(dl : DE) : DA := fun ρ P => dl ρ fun x => match x with
  | .lst xs => P xs
  | .tup xs => P xs
  | .own xs => fz = false /\ P xs
  | _ => False
theorem it_lst {x : D}{xs : List D}{a : Addr}(hx : asL x = some xs) : ItOk W (Itl W.K a) [(x,.ref a)] xs := by
  intro M b H hs hn
  obtain ⟨a',vs,e,hh,r⟩ := asL.rep (hn _ (List.mem_singleton.mpr rfl)) hx
  cases e
  refine ⟨fun i d e => ?_,fun i hi => ⟨vs,SqL.of hh,by rw [r.length]; exact hi⟩⟩
  obtain ⟨v,e1,r1⟩ := r.get e
  refine ⟨⟨vs,v,SqL.of hh,e1⟩,fun y H3 ⟨eH,hy⟩ => ?_⟩
  subst eH
  have := hy vs (SqL.of hh)
  rw [e1] at this; cases this
  exact ⟨Same.refl _,r1.x⟩
theorem it_tup {xs : List D}{a : Addr} : ItOk W (Itt W.K a) [(.tup xs,.ref a)] xs := by
  intro M b H hs hn
  obtain ⟨a',vs,e,hh,r⟩ := hn _ (List.mem_singleton.mpr rfl)
  cases e
  refine ⟨fun i d e => ?_,fun i hi => ⟨vs,hh.sq,by rw [r.length]; exact hi⟩⟩
  obtain ⟨v,e1,r1⟩ := r.get e
  refine ⟨⟨vs,v,hh.sq,e1⟩,fun y H3 ⟨eH,hy⟩ => ?_⟩
  subst eH
  have := hy vs (hh.sq)
  rw [e1] at this; cases this
  exact ⟨Same.refl _,r1.x⟩
theorem need1 {M : Addr -> Prop}{b : Option Addr}{H : Hp}{x : D}{v : V}(r : RepX W M b H x v)(h : fz = true -> plain x = true) : ∀ q ∈ [(x,v)],RepX W M b H q.1 q.2 /\ (fz = true -> plain q.1 = true) := fun q hq => by
  have e := List.mem_singleton.mp hq
  subst e
  exact ⟨r,h⟩
theorem di_seq (hK : X.K = W.K)(hl : PE X l (dn W dl)) : PI X tg l (dnI W fz (iSeq fz dl)) := (pi_any W.K hK hl).mono fun σ H R hh => hh.elim fun pn M b ρ P st h k => by
  refine ⟨pn,M,b,ρ,_,st,h,fun x v H1 hx rx k1 o1 => ?_⟩
  cases x <;> first | exact hx.elim | skip
  case lst xs =>
    obtain ⟨a,vs,rfl,hh,r⟩ := (show RepX W M b H1 (.lst xs) v from rx)
    exact .inl ⟨a,rfl,⟨vs,SqL.of hh.2⟩,k xs _ _ H1 hx r.plain (it_lst (x := .lst xs) rfl) (need1 rx fun _ => rfl) k1 o1⟩
  case tup xs =>
    obtain ⟨a,vs,rfl,hh,r⟩ := (show RepX W M b H1 (.tup xs) v from rx)
    exact .inr ⟨a,rfl,⟨vs,hh.sq⟩,k xs _ _ H1 hx r.plain it_tup (need1 rx fun _ => rfl) k1 o1⟩
  case own xs =>
    obtain ⟨a,vs,rfl,m1,m2,m3,m4,hh,r⟩ := (show RepX W M b H1 (.own xs) v from rx)
    exact .inl ⟨a,rfl,⟨vs,SqL.of hh⟩,k xs _ _ H1 hx.2 r.plain (it_lst (x := .own xs) rfl) (need1 rx fun z => by rw [hx.1] at z; cases z) k1 o1⟩
def rangeD (lo : Int)(n : Nat) : List D := (List.range n).map fun (i : Nat) => .int (lo + i)
theorem rangeD_plain (lo : Int)(n : Nat) : (rangeD lo n).all plain = true := by
  simp [rangeD,plain]
theorem it_range {lo : Int}{n : Nat} : ItOk W (Itr lo n) [] (rangeD lo n) := by
  intro M b H hs _
  refine ⟨fun i d e => ?_,fun i hi => by show n <= i; simpa [rangeD] using hi⟩
  have hi : i < n := by
    have := (List.getElem?_eq_some_iff.mp e).1
    simpa [rangeD] using this
  refine ⟨hi,fun x H3 ⟨eH,ex⟩ => ?_⟩
  subst eH ex
  refine ⟨Same.refl _,?_⟩
  simp [rangeD,hi] at e
  subst e
  exact (show _ = _ from rfl)
def iRange1 (dA : DA) : DA := fun ρ P => dA ρ fun xs => match xs with
  | [.int j] => (-(2 ^ 62) <= j /\ j < 2 ^ 62) /\ P (rangeD 0 j.toNat)
  | _ => False
theorem di_range1 (hg : Gl X "range") (hm : X.mg "range" = none) (ha : PA X [a] (dnA W dA)) (hs : starEach [a] X.env = [(false,eval a X.env)] := by rfl) : PI X tg (.Call (.Name "range" p) [a] [] pos) (dnI W fz (iRange1 dA)) := (pi_range1 hg hm ha hs).mono fun σ H R hh => hh.elim fun pn M b ρ P st h k => by
  refine ⟨pn,M,b,ρ,_,st,h,fun xs vs H1 hx rx k1 o1 => ?_⟩
  match xs,hx with
  | [.int j],hx =>
    obtain ⟨v,rfl,r⟩ := rx1 rx
    cases (show _ = _ from r)
    exact ⟨j,rfl,hx.1.1,hx.1.2,k _ _ _ H1 hx.2 (rangeD_plain _ _) it_range (fun q hq => by cases hq) k1 o1⟩
end
def GD (W : Wd)(g : TG)(gd : D -> Ev -> (Ev -> Prop) -> Prop) : Prop := ∀ pn M b H σ ρ x v Q P,Sta W pn M b H σ ρ -> RepX W M b H x v -> plain x = true -> gd x ρ P -> (∀ ρ' σ',P ρ' -> Sta W pn M b H σ' ρ' -> (∀ (i : Nat) d,mine d = true -> ρ'[i]? = some (some d) -> ρ[i]? = some (some d) /\ σ'[i]? = σ[i]?) -> Q σ' H) -> g v σ H Q
theorem Sta.set {W : Wd}{pn : List (D × V)}{M : Addr -> Prop}{b : Option Addr}{H : Hp}{σ : St}{ρ : Ev}{x : D}{v : V}(s : Sta W pn M b H σ ρ)(j : Nat)(r : RepX W M b H x v) : Sta W pn M b H (σ.set j (some v)) (ρ.set j (some x)) where
  toHs := s.toHs
  kp := s.kp
  new := s.new
  len := by simp [s.len]
  pin := s.pin
  env := fun i d e => by
    by_cases z : j = i
    · subst z
      rw [List.getElem?_set] at e
      simp at e
      obtain ⟨hl,rfl⟩ := e
      exact ⟨v,by rw [List.getElem?_set]; simp [<- s.len,hl],r⟩
    · rw [List.getElem?_set_ne z] at e
      obtain ⟨w,e1,r1⟩ := s.env i d e
      exact ⟨w,by rw [List.getElem?_set_ne z]; exact e1,r1⟩
theorem own_set {ρ : Ev}{σ : St}{j : Nat}{x : D}{v : V}(p : plain x = true) : ∀ (i : Nat) d,mine d = true -> (ρ.set j (some x))[i]? = some (some d) -> ρ[i]? = some (some d) /\ (σ.set j (some v))[i]? = σ[i]? := fun i d hm e => by
  by_cases z : j = i
  · subst z
    rw [List.getElem?_set] at e
    simp at e
    obtain ⟨hl,rfl⟩ := e
    cases x <;> first | (cases hm; done) | (cases p; done)
  · rw [List.getElem?_set_ne z] at e
    exact ⟨e,by rw [List.getElem?_set_ne z]⟩
def gdN (j : Nat) : D -> Ev -> (Ev -> Prop) -> Prop := fun x ρ P => P (ρ.set j (some x))
theorem gd_name {W : Wd}(j : Nat) : GD W (gName j) (gdN j) := fun pn M b H σ ρ x v Q P st r p h k => k _ _ h (st.set j r) (own_set p)
def setAll : List Nat -> List D -> Ev -> Ev
  | j :: js,x :: xs,ρ => setAll js xs (ρ.set j (some x))
  | _,_,ρ => ρ
def gNames : List Nat -> TGs
  | [] => gNil
  | j :: js => gCons (gName j) (gNames js)
def gSeq (K : PySem.W.Frag)(n : Nat)(t : TGs) : TG := fun v σ H Q => gTup K n t v σ H Q \/ gLst K n t v σ H Q
def gdU (js : List Nat) : D -> Ev -> (Ev -> Prop) -> Prop := fun x ρ P => match x with
  | .tup xs => xs.length = js.length /\ P (setAll js xs ρ)
  | .lst xs => xs.length = js.length /\ P (setAll js xs ρ)
  | _ => False
theorem gd_names {W : Wd}{pn : List (D × V)}{M : Addr -> Prop}{b : Option Addr}{H : Hp}{Q : St -> Hp -> Prop}{P : Ev -> Prop} : ∀ (js : List Nat) (xs : List D) (vs : List V) (σ : St) (ρ : Ev),Sta W pn M b H σ ρ -> Reps W.K M H xs vs -> xs.length = js.length -> P (setAll js xs ρ) -> (∀ ρ' σ',P ρ' -> Sta W pn M b H σ' ρ' -> (∀ (i : Nat) d,mine d = true -> ρ'[i]? = some (some d) -> ρ[i]? = some (some d) /\ σ'[i]? = σ[i]?) -> Q σ' H) -> gNames js vs σ H Q
  | [],[],vs,σ,ρ,st,r,hl,h,k => ⟨r,k _ _ h st fun _ _ _ e => ⟨e,rfl⟩⟩
  | j :: js,x :: xs,vs,σ,ρ,st,r,hl,h,k => by
    obtain ⟨v,us,rfl,r1,r2⟩ := r
    refine ⟨v,us,rfl,?_⟩
    have p : plain x = true := by cases x <;> first | rfl | exact r1.elim
    refine gd_names js xs us _ (ρ.set j (some x)) (st.set j r1.x) r2 (by simpa using hl) h fun ρ' σ' hp st' ho => k ρ' σ' hp st' fun i xs hm e => ?_
    obtain ⟨z1,z2⟩ := ho i xs hm e
    obtain ⟨z3,z4⟩ := own_set (v := v) (σ := σ) p i xs hm z1
    exact ⟨z3,z2.trans z4⟩
theorem gd_seq {W : Wd}(js : List Nat) : GD W (gSeq W.K js.length (gNames js)) (gdU js) := fun pn M b H σ ρ x v Q P st r p h k => by
  cases x <;> first | exact h.elim | skip
  case tup xs =>
    obtain ⟨a,vs,rfl,hh,r⟩ := r
    exact .inl ⟨a,vs,rfl,hh.sq,by rw [r.length]; exact h.1,gd_names js xs vs σ ρ st r h.1 h.2 k⟩
  case lst xs =>
    obtain ⟨a,vs,rfl,hh,r⟩ := r
    exact .inr ⟨a,vs,rfl,SqL.of hh.2,by rw [r.length]; exact h.1,gd_names js xs vs σ ρ st r h.1 h.2 k⟩
theorem PG.or {X : Cx}{tg : Expr}{t u : TG}(h : PG X tg t)(h' : PG X tg u) : PG X tg (fun v σ H Q => t v σ H Q \/ u v σ H Q) := by
  intro pins s σ H v u' Q I r q
  rcases q with q | q
  · exact h pins s σ H v u' Q I r q
  · exact h' pins s σ H v u' Q I r q
def captD (ρ : Ev)(map : List (Option Nat)) : Ev := map.map fun o => o.bind fun i => (ρ[i]?).join
def dCompL (gd : D -> Ev -> (Ev -> Prop) -> Prop)(dt : DT)(de : DE)(ρc : Ev) : List D -> List D -> (List D -> Prop) -> Prop
  | [],acc,P => P acc
  | x :: xs,acc,P => gd x ρc fun ρ1 => dt ρ1 fun c => IfP c (de ρ1 fun y => plain y = true /\ dCompL gd dt de ρc xs (acc ++ [y]) P) (dCompL gd dt de ρc xs acc P)
inductive compI (gd : D -> Ev -> (Ev -> Prop) -> Prop)(dt : DT)(de : DE)(ρc : Ev)(items : List D)(P : List D -> Prop) : Prop
  | mk (I : Nat -> List D -> Prop) (h0 : I 0 []) (hs : ∀ (i : Nat) x acc,items[i]? = some x -> I i acc -> gd x ρc fun ρ1 => dt ρ1 fun c => IfP c (de ρ1 fun y => plain y = true /\ I (i + 1) (acc ++ [y])) (I (i + 1) acc)) (hd : ∀ acc,I items.length acc -> P acc) : compI gd dt de ρc items P
theorem comp_rec {gd : D -> Ev -> (Ev -> Prop) -> Prop}{dt : DT}{de : DE}{ρc : Ev}{items : List D}{P : List D -> Prop}(h : dCompL gd dt de ρc items [] P) : compI gd dt de ρc items P := by
  refine ⟨fun i acc => dCompL gd dt de ρc (items.drop i) acc P,h,fun i x acc e q => ?_,fun acc q => ?_⟩
  · obtain ⟨hlt,rfl⟩ := List.getElem?_eq_some_iff.mp e
    try dsimp only at q
    rw [List.drop_eq_getElem_cons hlt] at q
    exact q
  · (try dsimp only at q); rw [List.drop_length] at q; exact q
def dComp (map : List (Option Nat))(gd : D -> Ev -> (Ev -> Prop) -> Prop)(di : DA)(dt : DT)(de : DE) : DE := fun ρ P => di ρ fun items => items.length <= 1000 /\ compI gd dt de (captD ρ map) items fun acc => P (.lst acc)
theorem Sta.capt {W : Wd}{pn : List (D × V)}{M : Addr -> Prop}{b : Option Addr}{H : Hp}{σ : St}{ρ : Ev}(s : Sta W pn M b H σ ρ)(map : List (Option Nat)) : Sta W pn M b H (capt σ map) (captD ρ map) where
  toHs := s.toHs
  kp := s.kp
  new := s.new
  len := by simp [L2.capt,captD]
  pin := s.pin
  env := fun j d e => by
    unfold captD at e
    rw [List.getElem?_map] at e
    simp only [Option.map_eq_some_iff] at e
    obtain ⟨o,e1,e2⟩ := e
    simp only [Option.bind_eq_some_iff] at e2
    obtain ⟨i,rfl,e3⟩ := e2
    have e4 : ρ[i]? = some (some d) := by
      cases q : ρ[i]? with
      | none => rw [q] at e3; cases e3
      | some z => rw [q] at e3; exact congrArg some e3
    obtain ⟨v,e5,r⟩ := s.env i d e4
    exact ⟨v,by unfold L2.capt; rw [List.getElem?_map,e1]; simp [e5],r⟩
theorem comp_turns {W : Wd}{pn : List (D × V)}{M : Addr -> Prop}{b : Option Addr}{H : Hp}{σ : St}{ρ : Ev}{J : It}{need : List (D × V)}{items : List D}{g : TG}{gd : D -> Ev -> (Ev -> Prop) -> Prop}{dt : DT}{de : DE}{P : List D -> Prop}{Fin : List V -> Hp -> Prop}
    (hG : GD W g gd) (st : Sta W pn M b H σ ρ) (hp : items.all plain = true) (hI : ItOk W J need items) (hn : ∀ q ∈ need,RepX W M b H q.1 q.2) (hl : items.length <= 1000) (h : compI gd dt de ρ items P)
    (fin : ∀ ds acc H',P ds -> Reps W.K M H' ds acc -> acc.length <= sizeLine -> Kp b H H' -> okB W.B b H' -> Fin acc H') : ∃ Wf : Nat -> Nat -> List V -> Hp -> Prop,(∃ m,Wf 0 m [] H) /\ Turns J g (dnT W dt) (dn W de) σ Fin Wf := by
  obtain ⟨I,i0,istep,idone⟩ := h
  refine ⟨fun i m acc H2 => m = items.length - i /\ i <= items.length /\ acc.length <= i /\ Kp b H H2 /\ okB W.B b H2 /\ ∃ ds,Reps W.K M H2 ds acc /\ I i ds,⟨items.length,by simp,Nat.zero_le _,Nat.le_refl _,Kp.refl _ _,st.ok,[],rfl,i0⟩,?_⟩
  rintro i m acc H2 ⟨rfl,hi,ha,k2,o2,ds,r,q⟩
  have st2 := st.step k2 o2
  obtain ⟨hgo,hstop⟩ := hI M b H2 st2.toHs fun q hq => (hn q hq).step st.bagM k2
  by_cases hlt : i < items.length
  · have ei : items[i]? = some items[i] := List.getElem?_eq_getElem hlt
    replace q := istep i _ ds ei q
    refine .inr ⟨(hgo i _ ei).1,by have := le1000; omega,fun acc' H' => acc'.length <= i + 1 /\ Kp b H H' /\ okB W.B b H' /\ ∃ ds,Reps W.K M H' ds acc' /\ I (i + 1) ds,fun acc' H' n => ⟨items.length - (i + 1),by omega,rfl,hlt,n⟩,fun x H3 y => ?_⟩
    obtain ⟨S3,rx⟩ := (hgo i _ ei).2 x H3 y
    have o3 : okB W.B b H3 := fun p e => W.B.st p H2 H3 (o2 p e) fun o e' => S3 p o e'
    have k3 : Kp b H2 H3 := Kp.same S3
    have st3 := st2.step k3 o3
    refine hG pn M b H3 σ ρ items[i] x _ _ st3 rx (List.all_eq_true.mp hp _ (List.getElem_mem hlt)) q fun ρ1 σ1 h1 st4 _ => ?_
    refine ⟨pn,M,b,ρ1,_,st4,h1,fun c H5 h5 k5 o5 => ?_⟩
    cases h5 with
    | t e h5 =>
      rw [if_pos e]
      refine ⟨pn,M,b,ρ1,_,st4.step k5 o5,h5,fun y v H6 h6 ry k6 o6 => ?_⟩
      have kk := ((k3.trans k5).trans k6)
      refine ⟨by simp; omega,k2.trans kk,o6,ds ++ [y],Reps.append (Reps.keep (fun c o n e => kk c o (fun z => n (st.bagM c z)) e) _ _ r) ⟨v,[],rfl,ry.rep h6.1,rfl⟩,h6.2⟩
    | f e h5 =>
      rw [if_neg (by rw [e]; exact Bool.false_ne_true)]
      have kk := k3.trans k5
      exact ⟨by omega,k2.trans kk,o5,ds,Reps.keep (fun c o n e => kk c o (fun z => n (st.bagM c z)) e) _ _ r,h5⟩
  · have e : i = items.length := by omega
    subst e
    exact .inl ⟨hstop _ (Nat.le_refl _),by have := le1000; omega,fin ds acc H2 (idone _ q) r (by have := le1000; omega) k2 o2⟩
section
variable {X : Cx}{W : Wd}{elt iter tg : Expr}{ifs : List Expr}{scope : Scope}{pos : Pos}{N' : List Str}{map : List (Option Nat)}{g : TG}{gd : D -> Ev -> (Ev -> Prop) -> Prop}{di : DA}{dt : DT}{de : DE}
theorem de_comp (hG : GD W g gd)(B : Blk X N' scope map tg elt ifs g (dnT W dt) (dn W de))(hi : PI X tg iter (dnI W false di))(hs : ∀ x,foldedSetIterable iter X.env x = pure x := by intro _; rfl) : PE X (.ListComp elt [⟨tg,iter,ifs,0⟩] scope pos) (dn W (dComp map gd di dt de)) := (pe_comp B hi hs).mono fun σ H Q hh => hh.elim fun pn M b ρ P st h k => by
  refine ⟨pn,M,b,ρ,_,st,h,fun items J need H1 hx hp hI hn k1 o1 => ?_⟩
  have st1 := st.step k1 o1
  refine comp_turns hG (st1.capt map) hp hI (fun q hq => (hn q hq).1) hx.1 hx.2 fun ds acc H' hP r hl k2 o2 D hD => ?_
  exact k _ _ _ hP (new_lst (st1.step k2 o2).toHs r hD) ((k1.trans k2).trans (Kp.upd hD)) ((st1.step k2 o2).okU hD)
def dTrue : DT := fun _ P => P true
theorem dif_nil : PIf X [] (dnT W dTrue) := fun pins s σ H Q I hh => hh.elim fun pn M b ρ P st h k => pif_nil pins s σ H Q I (k true H h (Kp.refl _ _) st.ok)
end
end L2
set_option Elab.async false
set_option linter.all false
set_option maxRecDepth 100000
set_option maxHeartbeats 4000000
namespace L2
open PySem PySem.Spec PyProof.Rows
structure StS (W : Wd)(pn : List (D × V))(M : Addr -> Prop)(b : Option Addr)(H : Hp)(σ : St)(ρ : Ev) : Prop extends Sta W pn M b H σ ρ where
  dj : ∀ (i j : Nat) d e v u c,ρ[i]? = some (some d) -> ρ[j]? = some (some e) -> σ[i]? = some (some v) -> σ[j]? = some (some u) -> mineA d v c -> mineA e u c -> i = j
  lj : ∀ ys a,(D.own ys,V.ref a) ∈ pn -> ∀ (i : Nat) d v,ρ[i]? = some (some d) -> σ[i]? = some (some v) -> ¬ mineA d v a
theorem StS.own {W : Wd}{pn : List (D × V)}{M : Addr -> Prop}{b : Option Addr}{H : Hp}{σ : St}{ρ : Ev}(s : StS W pn M b H σ ρ) : ∀ (i j : Nat) xs ys a,ρ[i]? = some (some (.own xs)) -> ρ[j]? = some (some (.own ys)) -> σ[i]? = some (some (.ref a)) -> σ[j]? = some (some (.ref a)) -> i = j := fun i j xs ys a e1 e2 e3 e4 => s.dj i j _ _ _ _ a e1 e2 e3 e4 rfl rfl
theorem StS.lk {W : Wd}{pn : List (D × V)}{M : Addr -> Prop}{b : Option Addr}{H : Hp}{σ : St}{ρ : Ev}(s : StS W pn M b H σ ρ) : ∀ ys a,(D.own ys,V.ref a) ∈ pn -> ∀ (i : Nat) xs,ρ[i]? = some (some (.own xs)) -> σ[i]? ≠ some (some (.ref a)) := fun ys a hq i xs e y => s.lj ys a hq i _ _ e y rfl
theorem StS.step {W : Wd}{pn : List (D × V)}{M : Addr -> Prop}{b : Option Addr}{H H' : Hp}{σ : St}{ρ : Ev}(s : StS W pn M b H σ ρ)(k : Kp b H H')(o : okB W.B b H') : StS W pn M b H' σ ρ := ⟨s.toSta.step k o,s.dj,s.lj⟩
theorem StS.of2 {W : Wd}{pn pn' : List (D × V)}{M M' : Addr -> Prop}{b b' : Option Addr}{H H' : Hp}{σ σ' : St}{ρ ρ' : Ev}(s : StS W pn M b H σ ρ)(t : Sta W pn' M' b' H' σ' ρ')(hp : ∀ ys a,(D.own ys,V.ref a) ∈ pn' -> (D.own ys,V.ref a) ∈ pn)(h : ∀ (i : Nat) d v c,ρ'[i]? = some (some d) -> σ'[i]? = some (some v) -> mineA d v c -> ∃ d0,ρ[i]? = some (some d0) /\ σ[i]? = some (some v) /\ mineA d0 v c) : StS W pn' M' b' H' σ' ρ' :=
  ⟨t,fun i j d e v u c e1 e2 e3 e4 m1 m2 => by
    obtain ⟨d0,z1,z2,z3⟩ := h i d v c e1 e3 m1
    obtain ⟨d1,y1,y2,y3⟩ := h j e u c e2 e4 m2
    exact s.dj i j d0 d1 v u c z1 y1 z2 y2 z3 y3,fun ys a hq i d v e1 e2 m => by
    obtain ⟨d0,z1,z2,z3⟩ := h i d v a e1 e2 m
    exact s.lj ys a (hp ys a hq) i d0 v z1 z2 z3⟩
theorem StS.of {W : Wd}{pn : List (D × V)}{M M' : Addr -> Prop}{b b' : Option Addr}{H H' : Hp}{σ σ' : St}{ρ ρ' : Ev}(s : StS W pn M b H σ ρ)(t : Sta W pn M' b' H' σ' ρ')(h : ∀ (i : Nat) d,mine d = true -> ρ'[i]? = some (some d) -> ρ[i]? = some (some d) /\ σ'[i]? = σ[i]?) : StS W pn M' b' H' σ' ρ' :=
  s.of2 t (fun _ _ q => q) fun i d v c e1 e2 m => by
    obtain ⟨z1,z2⟩ := h i d m.m e1
    exact ⟨d,z1,z2 ▸ e2,m⟩
theorem StS.add {W : Wd}{pn : List (D × V)}{M M' : Addr -> Prop}{b b' : Option Addr}{H H' : Hp}{σ : St}{ρ : Ev}(s : StS W pn M b H σ ρ)(i : Nat){d : D}{v : V}(t : Sta W pn M' b' H' (σ.set i (some v)) (ρ.set i (some d)))(h : ∀ c,mineA d v c -> ¬ M c) : StS W pn M' b' H' (σ.set i (some v)) (ρ.set i (some d)) := by
  have slot : ∀ (j : Nat) e u,(ρ.set i (some d))[j]? = some (some e) -> (σ.set i (some v))[j]? = some (some u) -> (j = i /\ e = d /\ u = v) \/ (j ≠ i /\ ρ[j]? = some (some e) /\ σ[j]? = some (some u)) := fun j e u e1 e2 => by
    by_cases z : i = j
    · subst z
      rw [List.getElem?_set] at e1 e2
      simp at e1 e2
      exact .inl ⟨rfl,e1.2.symm,e2.2.symm⟩
    · rw [List.getElem?_set_ne z] at e1 e2
      exact .inr ⟨fun y => z y.symm,e1,e2⟩
  have old : ∀ (j : Nat) e u c,ρ[j]? = some (some e) -> σ[j]? = some (some u) -> mineA e u c -> M c := fun j e u c e1 e2 m => by
    obtain ⟨w,e3,r⟩ := s.env j e e1
    rw [e2] at e3; cases e3
    exact (r.mine m).1
  refine ⟨t,fun j k e f u w c e1 e2 e3 e4 m1 m2 => ?_,fun ys a hq j e u e1 e2 m => ?_⟩
  · rcases slot j e u e1 e3 with ⟨z1,z2,z3⟩ | ⟨z1,z2,z3⟩ <;> rcases slot k f w e2 e4 with ⟨y1,y2,y3⟩ | ⟨y1,y2,y3⟩
    · rw [z1,y1]
    · subst z2 z3; exact absurd (old k f w c y2 y3 m2) (h c m1)
    · subst y2 y3; exact absurd (old j e u c z2 z3 m1) (h c m2)
    · exact s.dj j k e f u w c z2 y2 z3 y3 m1 m2
  · rcases slot j e u e1 e2 with ⟨z1,z2,z3⟩ | ⟨z1,z2,z3⟩
    · subst z2 z3
      obtain ⟨a2,us2,ev,n1,_⟩ := (s.pin _ hq)
      cases ev
      exact absurd n1 (h a m)
    · exact s.lj ys a hq j e u z2 z3 m
structure DEnds where
  nx : Ev -> Prop
  rt : D -> Prop
  bk : Ev -> Prop := fun _ => False
  ct : Ev -> Prop := fun _ => False
  ro : List D -> Prop := fun _ => False
abbrev DS := DEnds -> Ev -> Prop
structure Link (W : Wd)(pn : List (D × V))(E : Ends)(F : DEnds) : Prop where
  nx : ∀ M b ρ σ H,StS W pn M b H σ ρ -> F.nx ρ -> E.nx σ H
  rt : ∀ d v H,F.rt d -> Rep W.K W.M0 H d v -> Kp W.b0 W.H0 H -> okB W.B W.b0 H -> E.rt v H
  bk : ∀ M b ρ σ H,StS W pn M b H σ ρ -> F.bk ρ -> E.bk σ H
  ct : ∀ M b ρ σ H,StS W pn M b H σ ρ -> F.ct ρ -> E.ct σ H
  ro : ∀ xs a vs H,F.ro xs -> W.H0 a = none -> ¬ W.M0 a -> H a = some (.lst vs) -> Reps W.K (fun c => W.M0 c \/ c = a) H xs vs -> Kp W.b0 W.H0 H -> okB W.B W.b0 H -> E.rt (.ref a) H
def sn (W : Wd)(d : DS) : TS := fun E σ H => ∃ pn M b ρ F,StS W pn M b H σ ρ /\ Link W pn E F /\ d F ρ
theorem sn.elim {W : Wd}{d : DS}{E : Ends}{σ : St}{H : Hp}{Z : Prop}(h : sn W d E σ H)(f : ∀ pn M b ρ F,StS W pn M b H σ ρ -> Link W pn E F -> d F ρ -> Z) : Z := by
  obtain ⟨pn,M,b,ρ,F,s,l,h⟩ := h
  exact f pn M b ρ F s l h
section
variable {X : Cx}{W : Wd}{e a b c tg iter l : Expr}{es : List Expr}{pos p : Pos}{d da db dc dl de : DE}{dA di : DA}{dt : DT}{st : Stmt}{rest sts : List Stmt}{d1 d2 : DS}{t : TS}
theorem PS.mono {t' : TS}(h : PS X st t)(m : ∀ E σ H,t' E σ H -> t E σ H) : PS X st t' := fun pins s σ H D I q => h pins s σ H D I (m D σ H q)
theorem PSs.mono {t' : TS}(h : PSs X sts t)(m : ∀ E σ H,t' E σ H -> t E σ H) : PSs X sts t' := fun pins s σ H D I q => h pins s σ H D I (m D σ H q)
def dNext : DS := fun F ρ => F.nx ρ
def dSeq (d1 d2 : DS) : DS := fun F ρ => d1 { F with nx := d2 F } ρ
theorem dss_nil : PSs X [] (sn W dNext) := pss_nil.mono fun E σ H hh => hh.elim fun pn M b ρ F s l h => l.nx _ _ _ _ _ s h
theorem dss_one (h : PS X st (sn W d1)) : PSs X [st] (sn W d1) := pss_one h
theorem dss_cons (h1 : PS X st (sn W d1))(h2 : PSs X rest (sn W d2)) : PSs X (st :: rest) (sn W (dSeq d1 d2)) := (pss_cons h1 h2).mono fun E σ H hh => hh.elim fun pn M b ρ F s l h => ⟨pn,M,b,ρ,{ F with nx := d2 F },s,⟨fun M b ρ σ H s' h' => ⟨pn,M,b,ρ,F,s',l,h'⟩,l.rt,l.bk,l.ct,l.ro⟩,h⟩
def dRet (de : DE) : DS := fun F ρ => de ρ fun x => match x with | .own xs => F.rt (.lst xs) | .bag => False | .frg _ _ => False | x => F.rt x
theorem ret_rep {M : Addr -> Prop}{b : Option Addr}{H : Hp}{x : D}{v : V}(hs : Hs W M b H)(r : Rep W.K M H x v) : Rep W.K W.M0 H x v := Rep.avoid (fun c m => .inl (hs.m0 c m)) _ _ r
theorem ds_ret (he : PE X e (dn W de)) : PS X (.Return (some e) pos) (sn W (dRet de)) := (ps_ret he).mono fun E σ H hh => hh.elim fun pn M b ρ F s l h => by
  refine ⟨pn,M,b,ρ,_,s.toSta,h,fun x v H' hx rx k o => ?_⟩
  have s' := s.toSta.step k o
  cases x
  case own xs =>
    obtain ⟨a,vs,rfl,m,n,n0,m0,hh,r⟩ := rx
    exact l.rt _ _ H' hx ⟨a,vs,rfl,⟨m0,hh⟩,Reps.avoid (fun c m => .inl (s'.m0 c m)) _ _ r⟩ s'.kp s'.ok0
  case bag => exact hx.elim
  case frg => exact hx.elim
  all_goals exact l.rt _ _ H' hx (ret_rep s'.toHs (RepX.rep rx rfl)) s'.kp s'.ok0
def dIfS (dt : DT)(d1 d2 : DS) : DS := fun F ρ => dt ρ fun c => IfP c (d1 F ρ) (d2 F ρ)
theorem ds_if {s1 s2 : List Stmt}(hc : PT X c (dnT W dt))(ha : PSs X s1 (sn W d1))(hb : PSs X s2 (sn W d2)) : PS X (.If c s1 s2 pos) (sn W (dIfS dt d1 d2)) := (ps_if hc ha hb).mono fun E σ H hh => hh.elim fun pn M b ρ F s l h => by
  refine ⟨pn,M,b,ρ,_,s.toSta,h,fun x H' hx k o => ?_⟩
  cases hx with
  | t e hx => rw [if_pos e]; exact ⟨pn,M,b,ρ,F,s.step k o,l,hx⟩
  | f e hx => rw [if_neg (by rw [e]; exact Bool.false_ne_true)]; exact ⟨pn,M,b,ρ,F,s.step k o,l,hx⟩
def dAsg (de : DE)(gd : D -> Ev -> (Ev -> Prop) -> Prop) : DS := fun F ρ => de ρ fun x => plain x = true /\ gd x ρ F.nx
theorem up_asg {g : TG}{gd : D -> Ev -> (Ev -> Prop) -> Prop}(hG : GD W g gd) : ∀ E σ H,sn W (dAsg de gd) E σ H -> tAsg (dn W de) g E σ H := fun E σ H hh => hh.elim fun pn M b ρ F s l h => by
  refine ⟨pn,M,b,ρ,_,s.toSta,h,fun x v H' hx rx k o => ?_⟩
  exact hG pn M b H' σ ρ x v E.nx F.nx (s.toSta.step k o) rx hx.1 hx.2 fun ρ' σ' hp st' ho => l.nx _ _ _ _ _ (s.of st' ho) hp
theorem ds_set {i : Nat} {x : Str} {pos' : Pos} (hN : X.N.Nodup) (hi : X.N[i]? = some x) (hx : Loc X.env.scope x) (he : PE X e (dn W de)) (hs : swapsWith e (some (.Name x pos')) pos.line X.env = pure false := by rfl) (hf : X.fn x = true \/ X.env.scope.names.lookup x = some .local := by first | exact .inl rfl | exact .inr rfl | assumption) :
    PS X (.Assign [.Name x pos'] e pos) (sn W (dAsg de (gdN i))) := (ps_set hN hi hx he hs hf).mono (up_asg (gd_name i))
theorem ds_asg {g : TG}{gd : D -> Ev -> (Ev -> Prop) -> Prop}(hG : GD W g gd)(he : PE X e (dn W de))(hg : PG X tg g)(hs : swapsWithSole [tg] e pos.line X.env = pure false := by rfl)(hw : swappedStores [tg] e X.env = pure none := by rfl)
    (h1 : (assignEach [tg] X.env).map (·.2) = [assign tg X.env] := by rfl) : PS X (.Assign [tg] e pos) (sn W (dAsg de gd)) := (ps_asg he hg hs hw h1).mono (up_asg hG)
theorem StS.newOwn {pn : List (D × V)}{M : Addr -> Prop}{b : Option Addr}{H : Hp}{σ : St}{ρ : Ev}{xs : List D}{vs : List V}{p : Addr}(s : StS W pn M b H σ ρ)(i : Nat)(r : Reps W.K M H xs vs)(h : H p = none) :
    StS W pn (fun c => M c \/ c = p) b (upd H p (.lst vs)) (σ.set i (some (.ref p))) (ρ.set i (some (.own xs))) := by
  have hM : ∀ c,(M c \/ c = p) -> M c \/ H c = none := fun c hc => hc.imp id (fun z => by rw [z]; exact h)
  have kk : ∀ c o,H c = some o -> upd H p (.lst vs) c = some o := fun c o e => Same.upd h c o e
  have rep : ∀ d v,Rep W.K M H d v -> Rep W.K (fun c => M c \/ c = p) (upd H p (.lst vs)) d v := fun d v r => Rep.keep (fun c o _ e => kk c o e) _ _ (Rep.avoid hM _ _ r)
  have reps : ∀ d v,Reps W.K M H d v -> Reps W.K (fun c => M c \/ c = p) (upd H p (.lst vs)) d v := fun d v r => Reps.keep (fun c o _ e => kk c o e) _ _ (Reps.avoid hM _ _ r)
  have hbp : b ≠ some p := fun z => by
    obtain ⟨o,e⟩ := W.B.dm p H (s.ok p z)
    rw [h] at e; cases e
  have h0 : W.H0 p = none := by
    cases q : W.H0 p with
    | none => rfl
    | some o =>
      by_cases z : W.b0 = some p
      · rcases s.new with y | ⟨y,_⟩
        · exact absurd (y.trans z) hbp
        · rw [y] at z; cases z
      · have := s.kp p o z q
        rw [h] at this; cases this
  have hm0 : ¬ W.M0 p := fun z => s.toHs.new h (s.m0 p z)
  refine s.add i ⟨⟨s.toHs.okU h,fun q e => .inl (s.bagM q e),fun c hc => ?_,fun c m => .inl (s.m0 c m)⟩,fun c o n e => kk c o (s.kp c o n e),s.new,fun j d e => ?_,by simp [s.len],fun q hq => (s.pin q hq).to rep reps fun xs a vs _ _ m n hh => ⟨.inl m,n,kk _ _ hh⟩⟩ fun c m => by
    cases (show V.ref p = V.ref c from m)
    exact s.toHs.new h
  · rcases hc with hc | hc
    · obtain ⟨o,e⟩ := s.dom c hc; exact ⟨o,kk c o e⟩
    · rw [hc]; exact ⟨_,upd_same⟩
  · by_cases z : i = j
    · subst z
      rw [List.getElem?_set] at e
      simp at e
      obtain ⟨hl,rfl⟩ := e
      exact ⟨.ref p,by rw [List.getElem?_set]; simp [<- s.len,hl],p,vs,rfl,.inr rfl,hbp,h0,hm0,upd_same,reps _ _ r⟩
    · rw [List.getElem?_set_ne z] at e
      obtain ⟨w,e1,r1⟩ := s.env j d e
      refine ⟨w,by rw [List.getElem?_set_ne z]; exact e1,?_⟩
      cases d
      case own ys =>
        obtain ⟨a,us,rfl,m1,m2,m3,m4,hh,r'⟩ := r1
        exact ⟨a,us,rfl,.inl m1,m2,m3,m4,kk _ _ hh,reps _ _ r'⟩
      case bag => exact r1
      case frg f _ => exact RepX.move r1 (fun c _ m n => ⟨.inl m,n⟩) (fun c o _ e => kk c o e) hM
      all_goals exact rep _ _ r1
theorem StS.setOwn {pn : List (D × V)}{M : Addr -> Prop}{b : Option Addr}{H : Hp}{σ : St}{ρ : Ev}{xs ys : List D}{vs : List V}{a : Addr}(s : StS W pn M b H σ ρ)(i : Nat)(e : ρ[i]? = some (some (.own xs)))(ea : σ[i]? = some (some (.ref a)))(r : Reps W.K M H ys vs) :
    StS W pn M b (upd H a (.lst vs)) σ (ρ.set i (some (.own ys))) := by
  obtain ⟨v,e1,a',us,ev,m1,m2,m3,m4,hh,r'⟩ := s.env i _ e
  rw [ea] at e1; cases e1; cases ev
  have kk : ∀ c o,¬ M c -> H c = some o -> upd H a (.lst vs) c = some o := fun c o n q => by rw [upd_ne (show c ≠ a from fun z => n (by rw [z]; exact m1))]; exact q
  have kb : ∀ c o,c ≠ a -> H c = some o -> upd H a (.lst vs) c = some o := fun c o n q => by rw [upd_ne n]; exact q
  refine s.of2 ⟨⟨fun q z => W.B.st q H _ (s.ok q z) fun o h => kb q o (fun w => m2 (w ▸ z)) h,s.bagM,fun c hc => ?_,s.m0⟩,fun c o n q => kb c o (fun z => by rw [z,m3] at q; cases q) (s.kp c o n q),s.new,fun j d e' => ?_,by simp [s.len],fun q hq => (s.pin q hq).to (fun _ _ r => Rep.keep kk _ _ r) (fun _ _ r => Reps.keep kk _ _ r) fun zs a2 us ed ev m n hh2 => ⟨m,n,kb _ _ (fun y => s.lk zs a2 (by rw [<- ed,<- ev]; exact hq) i xs e (by rw [y]; exact ea)) hh2⟩⟩ (fun _ _ q => q) fun j d v c e' e2 m => ?_
  · by_cases z : c = a
    · rw [z]; exact ⟨_,upd_same⟩
    · obtain ⟨o,q⟩ := s.dom c hc; exact ⟨o,kb c o z q⟩
  · by_cases z : i = j
    · subst z
      rw [List.getElem?_set] at e'
      simp at e'
      obtain ⟨hl,rfl⟩ := e'
      exact ⟨.ref a,ea,a,vs,rfl,m1,m2,m3,m4,upd_same,Reps.keep kk _ _ r⟩
    · rw [List.getElem?_set_ne z] at e'
      obtain ⟨w,e1,r1⟩ := s.env j d e'
      refine ⟨w,e1,?_⟩
      cases d
      case own zs =>
        obtain ⟨a2,us2,rfl,n1,n2,n3,n4,hh2,r2⟩ := r1
        have na : a2 ≠ a := fun y => z (s.own i j xs zs a e e' ea (y ▸ e1))
        exact ⟨a2,us2,rfl,n1,n2,n3,n4,kb _ _ na hh2,Reps.keep kk _ _ r2⟩
      case bag => exact r1
      case frg f _ =>
        have na : a ∉ f.ads := fun y => z (s.dj i j _ _ _ _ a e e' ea e1 rfl y)
        exact RepX.move r1 (fun c _ m n => ⟨m,n⟩) (fun c o q h => kb c o (fun y => q.elim (fun n => n (by rw [y]; exact m1)) (fun n => na (by rw [<- y]; exact n))) h) fun c m => .inl m
      all_goals exact Rep.keep kk _ _ r1
  · by_cases z : i = j
    · subst z
      rw [List.getElem?_set] at e'
      simp at e'
      obtain ⟨_,rfl⟩ := e'
      exact ⟨_,e,e2,m⟩
    · rw [List.getElem?_set_ne z] at e'
      exact ⟨d,e',e2,m⟩
def dSetC (own : Bool)(i : Nat)(map : List (Option Nat))(gd : D -> Ev -> (Ev -> Prop) -> Prop)(di : DA)(dt : DT)(de : DE) : DS := fun F ρ => di ρ fun items => items.length <= 1000 /\ compI gd dt de (captD ρ map) items fun acc => F.nx (ρ.set i (some (if own then .own acc else .lst acc)))
theorem ds_setC {elt iter tg : Expr}{ifs : List Expr}{scope : Scope}{N' : List Str}{map : List (Option Nat)}{g : TG}{gd : D -> Ev -> (Ev -> Prop) -> Prop}(own : Bool){i : Nat}{y : Str}{py spos : Pos}(hN : X.N.Nodup)(hiN : X.N[i]? = some y)(hy : Loc X.env.scope y)(hG : GD W g gd)(B : Blk X N' scope map tg elt ifs g (dnT W dt) (dn W de))(hi : PI X tg iter (dnI W false di))
    (hsw : swapsWith (.ListComp elt [⟨tg,iter,ifs,0⟩] scope pos) (some (.Name y py)) spos.line X.env = pure true := by rfl) (hfn : X.fn y = true \/ X.env.scope.names.lookup y = some .local := by first | exact .inl rfl | exact .inr rfl)
    (hs : ∀ x,foldedSetIterable iter X.env x = pure x := by intro _; rfl) : PS X (.Assign [.Name y py] (.ListComp elt [⟨tg,iter,ifs,0⟩] scope pos) spos) (sn W (dSetC own i map gd di dt de)) := (ps_setComp hN hiN hy B hi hsw hfn hs).mono fun E σ H hh => hh.elim fun pn M b ρ F s l h => by
  refine ⟨pn,M,b,ρ,_,s.toSta,h,fun items J need H1 hx hp hI hn k1 o1 => ?_⟩
  have s1 := s.step k1 o1
  refine comp_turns hG (s1.toSta.capt map) hp hI (fun q hq => (hn q hq).1) hx.1 hx.2 fun ds acc H' hP r hl k2 o2 q hq => ?_
  have s2 := s1.step k2 o2
  cases own
  · have s3 := (s2.step (Kp.upd (o := .lst acc) hq) (s2.toHs.okU hq))
    exact l.nx _ _ _ _ _ (s3.of (s3.toSta.set i (new_lst s2.toHs r hq)) (own_set rfl)) hP
  · exact l.nx _ _ _ _ _ (s2.newOwn i r hq) hP
theorem own_at {pn : List (D × V)}{M : Addr -> Prop}{b : Option Addr}{H : Hp}{σ : St}{ρ : Ev}{i : Nat}{ys : List D}(s : Sta W pn M b H σ ρ)(e : ρ[i]? = some (some (.own ys))) : ∃ a vs,σ[i]? = some (some (.ref a)) /\ b ≠ some a /\ H a = some (.lst vs) /\ Reps W.K M H ys vs := by
  obtain ⟨v,e1,a,us,rfl,m1,m2,m3,m4,hh,r⟩ := s.env i _ e
  exact ⟨a,us,e1,m2,hh,r⟩
def dSetI (i : Nat)(de dk : DE) : DS := fun F ρ => match ρ[i]? with
  | some (some (.own ys)) => de ρ fun x => dk ρ fun k => (match k with | .int k => plain x = true /\ (ixN ys.length k).elim False fun j => F.nx (ρ.set i (some (.own (ys.set j x)))) | _ => False)
  | _ => False
theorem up_setI {i : Nat}{dk : DE} : ∀ E σ H,sn W (dSetI i de dk) E σ H -> tAsg (dn W de) (gSub (tVar i) (dn W dk) rSetL) E σ H := fun E σ H hh => hh.elim fun pn M b ρ F s l h => by
  unfold dSetI at h
  split at h
  case h_2 => exact h.elim
  case h_1 ys e =>
    obtain ⟨a,vs,ea,nb,hh,r⟩ := own_at s.toSta e
    refine ⟨pn,M,b,ρ,_,s.toSta,h,fun x v H1 hx rx k1 o1 => ⟨.ref a,ea,pn,M,b,ρ,_,s.toSta.step k1 o1,hx,fun y u H2 hy ry k2 o2 => ?_⟩⟩
    cases y <;> first | exact hy.elim | skip
    case int k =>
      cases (show _ = _ from ry)
      have s' := (s.step k1 o1).step k2 o2
      obtain ⟨a',vs',ea',nb',hh',r'⟩ := own_at s'.toSta e
      rw [ea] at ea'; cases ea'
      obtain ⟨hp,hy⟩ := hy
      cases q : ixN ys.length k with
      | none => rw [q] at hy; exact hy.elim
      | some j =>
        rw [q] at hy
        exact ⟨a,vs',k,j,rfl,rfl,hh',by rw [r'.length]; exact q,l.nx _ _ _ _ _ (s'.setOwn i e ea (Reps.set ((rx.step s.bagM k2).rep hp) j r')) hy⟩
theorem ds_setI {i : Nat}{x : Str}{n : Expr}{dk : DE}{npos tpos : Pos}(hN : X.N[i]? = some x)(hv : Vis X.env.scope x)(he : PE X e (dn W de))(hk : PE X n (dn W dk))(hg : PG X (.Subscript (.Name x npos) n tpos) (gSub (tVar i) (dn W dk) rSetL))
    (hs : swapsWithSole [.Subscript (.Name x npos) n tpos] e pos.line X.env = pure false := by rfl) (hw : swappedStores [.Subscript (.Name x npos) n tpos] e X.env = pure none := by rfl)
    (h1 : (assignEach [.Subscript (.Name x npos) n tpos] X.env).map (·.2) = [assign (.Subscript (.Name x npos) n tpos) X.env] := by rfl) : PS X (.Assign [.Subscript (.Name x npos) n tpos] e pos) (sn W (dSetI i de dk)) := (ps_asg he hg hs hw h1).mono up_setI
def dForL (gd : D -> Ev -> (Ev -> Prop) -> Prop)(db : DS)(F : DEnds) : List D -> Ev -> Prop
  | [],ρ => F.nx ρ
  | x :: xs,ρ => gd x ρ fun ρ1 => db { F with nx := dForL gd db F xs,ct := dForL gd db F xs,bk := F.nx } ρ1
inductive forI (gd : D -> Ev -> (Ev -> Prop) -> Prop)(db : DS)(F : DEnds)(items : List D)(ρ : Ev) : Prop
  | mk (I : Nat -> Ev -> Prop) (h0 : I 0 ρ) (hs : ∀ (i : Nat) x ρ,items[i]? = some x -> I i ρ -> gd x ρ fun ρ1 => db { F with nx := I (i + 1),ct := I (i + 1),bk := F.nx } ρ1) (hd : ∀ ρ,I items.length ρ -> F.nx ρ) : forI gd db F items ρ
theorem for_rec {gd : D -> Ev -> (Ev -> Prop) -> Prop}{db : DS}{F : DEnds}{items : List D}{ρ : Ev}(h : dForL gd db F items ρ) : forI gd db F items ρ := by
  refine ⟨fun i ρ => dForL gd db F (items.drop i) ρ,h,fun i x ρ e q => ?_,fun ρ q => ?_⟩
  · obtain ⟨hlt,rfl⟩ := List.getElem?_eq_some_iff.mp e
    try dsimp only at q
    rw [List.drop_eq_getElem_cons hlt] at q
    exact q
  · (try dsimp only at q); rw [List.drop_length] at q; exact q
def dFor (gd : D -> Ev -> (Ev -> Prop) -> Prop)(di : DA)(db : DS) : DS := fun F ρ => di ρ fun items => forI gd db F items ρ
theorem Sta.pins {pn pn' : List (D × V)}{M : Addr -> Prop}{b : Option Addr}{H : Hp}{σ : St}{ρ : Ev}(s : Sta W pn M b H σ ρ)(h : ∀ q ∈ pn',PinR W M b H q.1 q.2) : Sta W pn' M b H σ ρ := ⟨s.toHs,s.kp,s.new,s.env,s.len,h⟩
theorem up_for {g : TG}{gd : D -> Ev -> (Ev -> Prop) -> Prop}{db : DS}(hG : GD W g gd) : ∀ E σ H,sn W (dFor gd di db) E σ H -> tFor (dnI W true di) g (sn W db) E σ H := fun E σ H hh => hh.elim fun pn M b ρ F s l h => by
  refine ⟨pn,M,b,ρ,_,s.toSta,h,fun items J need H1 hx hp hI hn k1 o1 => ?_⟩
  have s1 := s.step k1 o1
  have pins : ∀ q ∈ need ++ pn,PinR W M b H1 q.1 q.2 := fun q hq => (List.mem_append.mp hq).elim (fun z => (hn q z).1.pin ((hn q z).2 rfl)) fun z => s1.pin q z
  obtain ⟨I,i0,istep,idone⟩ := hx
  refine ⟨fun i m σ H => m = items.length - i /\ i <= items.length /\ ∃ M b ρ,StS W (need ++ pn) M b H σ ρ /\ I i ρ,⟨items.length,by simp,Nat.zero_le _,M,b,ρ,⟨s1.toSta.pins pins,s1.dj,fun ys a hq => (List.mem_append.mp hq).elim (fun z => by have := (hn _ z).2 rfl; cases this) fun z => s1.lj ys a z⟩,i0⟩,?_⟩
  rintro i m σ2 H2 ⟨rfl,hi,M2,b2,ρ2,s2,q⟩
  have unp : ∀ {M b ρ σ H},StS W (need ++ pn) M b H σ ρ -> StS W pn M b H σ ρ := fun s => ⟨s.toSta.pins fun q hq => s.pin q (List.mem_append_right _ hq),s.dj,fun ys a hq => s.lj ys a (List.mem_append_right _ hq)⟩
  obtain ⟨hgo,hstop⟩ := hI M2 b2 H2 s2.toHs fun q hq => (s2.pin q (List.mem_append_left _ hq)).x
  by_cases hlt : i < items.length
  · have ei : items[i]? = some items[i] := List.getElem?_eq_getElem hlt
    replace q := istep i _ ρ2 ei q
    refine .inr ⟨(hgo i _ ei).1,fun σ' H' => ∃ M b ρ,StS W (need ++ pn) M b H' σ' ρ /\ I (i + 1) ρ,fun σ' H' n => ⟨items.length - (i + 1),by omega,rfl,hlt,n⟩,fun x H3 y => ?_⟩
    obtain ⟨S3,rx⟩ := (hgo i _ ei).2 x H3 y
    have o3 : okB W.B b2 H3 := fun p e => W.B.st p H2 H3 (s2.ok p e) fun o e' => S3 p o e'
    have s3 := s2.step (Kp.same S3) o3
    refine hG (need ++ pn) M2 b2 H3 σ2 ρ2 items[i] x _ _ s3.toSta rx (List.all_eq_true.mp hp _ (List.getElem_mem hlt)) q fun ρ1 σ1 h1 st4 ho => ?_
    exact ⟨need ++ pn,M2,b2,ρ1,{ F with nx := I (i + 1),ct := I (i + 1),bk := F.nx },s3.of st4 ho,⟨fun M b ρ σ H s' h' => ⟨M,b,ρ,s',h'⟩,l.rt,fun M b ρ σ H s' h' => l.nx _ _ _ _ _ (unp s') h',fun M b ρ σ H s' h' => ⟨M,b,ρ,s',h'⟩,l.ro⟩,h1⟩
  · have e : i = items.length := by omega
    subst e
    exact .inl ⟨hstop _ (Nat.le_refl _),l.nx _ _ _ _ _ (unp s2) (idone _ q)⟩
theorem ds_for {g : TG}{gd : D -> Ev -> (Ev -> Prop) -> Prop}{db : DS}{body : List Stmt}(hG : GD W g gd)(hp : PassesOwn (model X.prog X.w) X.A X.env X.xe)(hc : X.calm = true)(hi : PI X tg iter (dnI W true di))(hg : PG X tg g)(hb : PSs X body (sn W db))
    (hs : ∀ x,foldedSetIterable iter X.env x = pure x := by intro _; rfl) : PS X (.For tg iter body [] pos) (sn W (dFor gd di db)) := (ps_for hp hc hi hg hb hs).mono (up_for hG)
def dFrz (i : Nat)(d : DS) : DS := fun F ρ => match ρ[i]? with | some (some (.own xs)) => d F (ρ.set i (some (.lst xs))) | _ => False
theorem Sta.avoid {pn : List (D × V)}{M M' : Addr -> Prop}{b : Option Addr}{H : Hp}{σ : St}{ρ : Ev}(s : Sta W pn M b H σ ρ)(h : ∀ c,M' c -> M c)(hb : ∀ p,b = some p -> M' p)(h0 : ∀ c,W.M0 c -> M' c)(ho : ∀ (i : Nat) d v c,ρ[i]? = some (some d) -> σ[i]? = some (some v) -> mineA d v c -> M' c)(hpo : ∀ xs a,(D.own xs,V.ref a) ∈ pn -> M' a) : Sta W pn M' b H σ ρ where
  ok := s.ok
  bagM := hb
  dom := fun c m => s.dom c (h c m)
  m0 := h0
  kp := s.kp
  new := s.new
  len := s.len
  pin := fun q hq => (s.pin q hq).to (fun _ _ r => Rep.avoid (fun c m => .inl (h c m)) _ _ r) (fun _ _ r => Reps.avoid (fun c m => .inl (h c m)) _ _ r) fun xs a vs ed ev m n hh => ⟨hpo xs a (by rw [<- ed,<- ev]; exact hq),n,hh⟩
  env := fun i d e => by
    obtain ⟨v,e1,r⟩ := s.env i d e
    refine ⟨v,e1,?_⟩
    cases d
    case own xs =>
      obtain ⟨a,us,rfl,m1,m2,m3,m4,hh,r'⟩ := r
      exact ⟨a,us,rfl,ho i _ _ a e e1 rfl,m2,m3,m4,hh,Reps.avoid (fun c m => .inl (h c m)) _ _ r'⟩
    case bag => exact r
    case frg f _ => exact RepX.move r (fun c m _ n => ⟨ho i _ _ c e e1 m,n⟩) (fun c o _ e => e) fun c m => .inl (h c m)
    all_goals exact Rep.avoid (fun c m => .inl (h c m)) _ _ r
theorem dss_frz (i : Nat)(h : PSs X sts (sn W d1)) : PSs X sts (sn W (dFrz i d1)) := h.mono fun E σ H hh => hh.elim fun pn M b ρ F s l h => by
  unfold dFrz at h
  split at h
  case h_2 => exact h.elim
  case h_1 xs e =>
    obtain ⟨v,e1,a,us,rfl,m1,m2,m3,m4,hh,r⟩ := s.env i _ e
    have st : Sta W pn (fun c => M c /\ c ≠ a) b H σ (ρ.set i none) := by
      refine Sta.avoid (M := M) ⟨s.toHs,s.kp,s.new,fun j d e' => ?_,by simp [s.len],s.pin⟩ (fun c m => m.1) (fun p z => ⟨s.bagM p z,fun y => m2 (by rw [<- y]; exact z)⟩) (fun c m => ⟨s.m0 c m,fun y => m4 (by rw [<- y]; exact m)⟩) (fun j d' v' c' e' e2 mm => ?_) fun ys a' hq => ⟨by
        obtain ⟨a2,us2,ev,n1,_⟩ := (s.pin _ hq)
        cases ev; exact n1,fun y => s.lk ys a' hq i xs e (by rw [y]; exact e1)⟩
      · by_cases z : i = j
        · subst z; rw [List.getElem?_set] at e'; simp at e'
        · rw [List.getElem?_set_ne z] at e'; exact s.env j d e'
      · by_cases z : i = j
        · subst z; rw [List.getElem?_set] at e'; simp at e'
        · rw [List.getElem?_set_ne z] at e'
          obtain ⟨v3,e3,r3⟩ := s.env j _ e'
          rw [e2] at e3; cases e3
          exact ⟨(r3.mine mm).1,fun y => z (s.dj i j _ _ _ _ a e e' e1 e2 rfl (by rw [<- y]; exact mm))⟩
    have st2 := st.set (x := .lst xs) (v := .ref a) i ⟨a,us,rfl,⟨fun m => m.2 rfl,hh⟩,Reps.avoid (fun c m => .inl m.1) _ _ r⟩
    have eσ : σ.set i (some (.ref a)) = σ := by
      apply List.ext_getElem?
      intro n
      by_cases z : i = n
      · subst z; rw [List.getElem?_set,e1]; simp; exact (List.getElem?_eq_some_iff.mp e1).1
      · rw [List.getElem?_set_ne z]
    rw [eσ,List.set_set] at st2
    refine ⟨pn,_,b,_,F,s.of st2 fun j ys hm e' => ?_,l,h⟩
    by_cases z : i = j
    · subst z; rw [List.getElem?_set] at e'; simp at e'; rw [<- e'.2] at hm; cases hm
    · rw [List.getElem?_set_ne z] at e'; exact ⟨e',rfl⟩
def dRaise (Ed : Addr -> Prop)(C : Addr) : DS := fun _ _ => Ed C
theorem ds_raise {E : XK}{Ed : Addr -> Prop}{C : Addr}(hE : ELink W E Ed)(h : PS X st (fun _ _ H1 => E (.ref C) none H1)) : PS X st (sn W (dRaise Ed C)) := h.mono fun E' σ H hh => hh.elim fun pn M b ρ F s l h => hE C H h s.kp s.ok0
end
def startD (N : List Str)(ds : List D) : Ev := ds.map some ++ List.replicate (N.length - ds.length) none
theorem RepAs.get {K : PySem.W.Frag}{M : Addr -> Prop}{b : Option Addr}{H : Hp} : ∀ {ds : List D} {vs : List V} {i : Nat} {d : D},RepAs K M b H ds vs -> ds[i]? = some d -> ∃ v,vs[i]? = some v /\ RepA K M b H d v
  | [],_,_,_,h,e => by simp at e
  | d :: ds,vs,0,_,h,e => by
    obtain ⟨v,r,rfl,h1,h2⟩ := h
    simp at e; subst e
    exact ⟨v,rfl,h1⟩
  | d :: ds,vs,i + 1,d',h,e => by
    obtain ⟨v,r,rfl,h1,h2⟩ := h
    obtain ⟨u,e1,e2⟩ := RepAs.get (i := i) h2 (by simpa using e)
    exact ⟨u,by simpa using e1,e2⟩
theorem startD_get {N : List Str}{ds : List D}{i : Nat}{d : D}(h : (startD N ds)[i]? = some (some d)) : ds[i]? = some d := by
  unfold startD at h
  by_cases hi : i < ds.length
  · rw [List.getElem?_append_left (by simpa using hi),List.getElem?_map] at h
    simpa using h
  · rw [List.getElem?_append_right (by simpa using hi)] at h
    have := List.mem_of_getElem? h
    simp at this
theorem enter {K : PySem.W.Frag}{B : BagT}{M : Addr -> Prop}{b : Option Addr}{N : List Str}{ds : List D}{vs : List V}{H : Hp}(hr : RepAs K M b H ds vs)(ho : okB B b H)(hb : ∀ p,b = some p -> M p)(hd : ∀ c,M c -> ∃ o,H c = some o) : StS ⟨K,B,H,M,b⟩ [] M b H (start N vs) (startD N ds) := by
  refine ⟨⟨⟨ho,hb,hd,fun _ m => m⟩,Kp.refl _ _,.inl rfl,fun i d e => ?_,by simp [start,startD,hr.length],fun _ hq => by cases hq⟩,fun i j d e v u c e0 _ _ _ m _ => ?_,fun _ _ hq => by cases hq⟩
  · obtain ⟨v,e1,r⟩ := hr.get (startD_get e)
    refine ⟨v,?_,?_⟩
    · unfold start
      rw [List.getElem?_append_left (by simpa using (List.getElem?_eq_some_iff.mp e1).1),List.getElem?_map,e1]; rfl
    · cases d <;> first | exact r | exact r.elim
  · obtain ⟨v',e1,r⟩ := hr.get (startD_get e0)
    cases d <;> first | exact m.elim | exact r.elim
theorem leave {K : PySem.W.Frag}{B : BagT}{M : Addr -> Prop}{b : Option Addr}{H : Hp}{Q : VK}{P : D -> Prop}(hq : ∀ d v H',P d -> Rep K M H' d v -> Kp b H H' -> okB B b H' -> Q v H') : Link ⟨K,B,H,M,b⟩ [] { nx := fun _ H' => Q .non H',rt := Q } { nx := fun _ => P .non,rt := P } :=
  ⟨fun M b ρ σ H s h => hq _ _ _ h rfl s.kp s.ok0,fun d v H h r k o => hq d v H h r k o,fun _ _ _ _ _ _ h => h.elim,fun _ _ _ _ _ _ h => h.elim,fun _ _ _ _ h => h.elim⟩
theorem run {K : PySem.W.Frag}{B : BagT}{M : Addr -> Prop}{b : Option Addr}{N : List Str}{ds : List D}{vs : List V}{H : Hp}{Q : VK}{P : D -> Prop}{d : DS}(hr : RepAs K M b H ds vs)(ho : okB B b H)(hb : ∀ p,b = some p -> M p)(hd : ∀ c,M c -> ∃ o,H c = some o)(hq : ∀ d v H',P d -> Rep K M H' d v -> Kp b H H' -> okB B b H' -> Q v H')
    (h : d { nx := fun _ => P .non,rt := P } (startD N ds)) : sn ⟨K,B,H,M,b⟩ d { nx := fun _ H' => Q .non H',rt := Q } (start N vs) H :=
  ⟨[],M,b,startD N ds,_,enter hr ho hb hd,leave hq,h⟩
theorem liftSp.len {K : PySem.W.Frag}{B : BagT}{S : DSp}{n : Nat}(h : ∀ ds P Ed,S ds P Ed -> ds.length = n) : ∀ vs H Q E,liftSp K B S vs H Q E -> vs.length = n := fun vs H Q E ⟨M,b,ds,P,Ed,hS,hr,_⟩ => by rw [hr.length]; exact h _ _ _ hS
end L2
set_option Elab.async false
set_option linter.all false
set_option maxRecDepth 100000
set_option maxHeartbeats 4000000
namespace L2
open PySem PySem.Spec PyProof.Rows
section
variable {X : Cx}{W : Wd}{e a b c tg iter l : Expr}{es : List Expr}{pos p : Pos}{d da db dc dl de : DE}{dA di : DA}{dt : DT}{st : Stmt}{rest sts : List Stmt}{d1 d2 : DS}{t : TS}
abbrev DO := Ev -> (Option Int -> Prop) -> Prop
def dnO (W : Wd)(d : DO) : TO := fun σ H Q => ∃ pn M b ρ P,Sta W pn M b H σ ρ /\ d ρ P /\ ∀ x H',P x -> Kp b H H' -> okB W.B b H' -> Q x H'
theorem dnO.elim {W : Wd}{d : DO}{σ : St}{H : Hp}{Q : Option Int -> Hp -> Prop}{R : Prop}(h : dnO W d σ H Q)(f : ∀ pn M b ρ P,Sta W pn M b H σ ρ -> d ρ P -> (∀ x H',P x -> Kp b H H' -> okB W.B b H' -> Q x H') -> R) : R := by
  obtain ⟨pn,M,b,ρ,P,st,h,k⟩ := h
  exact f pn M b ρ P st h k
theorem Reps.ne {K : PySem.W.Frag}{M : Addr -> Prop}{H : Hp}{ds : List D}{vs : List V}(h : Reps K M H ds vs)(n : ds ≠ []) : vs ≠ [] := fun z => by
  have := h.length
  rw [z] at this
  exact n (List.length_eq_zero_iff.mp this.symm)
def bagSp (K : PySem.W.Frag)(B : BagT)(pre : List D -> Prop) : Sp := fun vs H Q _ => ∃ (M : Addr -> Prop) (b : Option Addr) (ds : List D),RepAs K M b H ds vs /\ pre ds /\ ∀ p H1,H p = none -> Same H H1 -> B.ok p H1 -> Q (.ref p) H1
def dropB (ρ : Ev) : Ev := ρ.map fun o => match o with | some .bag => none | o => o
def dBag (i : Nat)(pre : List D -> Prop)(dA : DA) : DS := fun F ρ => dA ρ fun ds => ds.all notOwn = true /\ pre ds /\ F.nx ((dropB ρ).set i (some .bag))
theorem dropB_get {ρ : Ev}{i : Nat}{d : D}(h : (dropB ρ)[i]? = some (some d)) : ρ[i]? = some (some d) /\ d ≠ .bag := by
  unfold dropB at h
  rw [List.getElem?_map] at h
  cases q : ρ[i]? with
  | none => rw [q] at h; cases h
  | some o =>
    rw [q] at h
    cases o with
    | none => cases h
    | some d' => cases d' <;> simp at h <;> subst h <;> exact ⟨rfl,by intro z; cases z⟩
theorem ds_bag {spos : Pos}{x f : Str}{k : Nat}{ps : List Str}{pre : List D -> Prop}{i : Nat}{pos' : Pos}(hb0 : W.b0 = none)(hN : X.N.Nodup)(hi : X.N[i]? = some x)(hx : Loc X.env.scope x)(G : Callee X.prog X.w X.K X.mg X.base CX0 f k ps (bagSp W.K W.B pre))(hr : Room k X.A)(hg : Gl X f)(ha : PA X (e :: es) (dnA W dA))
    (hdb : (f == ("__debug__" : Str)) = false := by decide) (he : starEach (e :: es) X.env = (false,eval e X.env) :: starEach es X.env := by rfl) (hpl : (backTo pos (starEach es X.env)).any (·.1) = false := by rfl)
    (hs : swapsWith (.Call (.Name f p) (e :: es) [] pos) (some (.Name x pos')) spos.line X.env = pure false := by rfl) (hf : X.fn x = true \/ X.env.scope.names.lookup x = some .local := by first | exact .inl rfl | exact .inr rfl | assumption) :
    PS X (.Assign [.Name x pos'] (.Call (.Name f p) (e :: es) [] pos) spos) (sn W (dBag i pre dA)) := (ps_set hN hi hx (pe_own G hr hg ha hdb he hpl) hs hf).mono fun E σ H hh => hh.elim fun pn M b ρ F s l h => by
  refine ⟨pn,M,b,ρ,_,s.toSta,h,fun ds vs H' hx rx k o => ?_⟩
  have s1 := s.step k o
  refine ⟨M,b,ds,by rw [List.append_nil]; exact rx.args _ _ hx.1,hx.2.1,fun q H1 hq S ok => ?_⟩
  have rep : ∀ d v,Rep W.K M H' d v -> Rep W.K (fun c => M c \/ c = q) H1 d v := fun d v r => Rep.keep (fun c o _ e => S c o e) _ _ (Rep.avoid (fun c hc => hc.imp id fun z => by rw [z]; exact hq) _ _ r)
  have reps : ∀ d v,Reps W.K M H' d v -> Reps W.K (fun c => M c \/ c = q) H1 d v := fun d v r => Reps.keep (fun c o _ e => S c o e) _ _ (Reps.avoid (fun c hc => hc.imp id fun z => by rw [z]; exact hq) _ _ r)
  have h0 : W.H0 q = none := by
    cases z : W.H0 q with
    | none => rfl
    | some o =>
      have := s1.kp q o (by rw [hb0]; intro y; cases y) z
      rw [hq] at this; cases this
  have st1 : Sta W pn (fun c => M c \/ c = q) (some q) H1 σ (dropB ρ) := by
    refine ⟨⟨fun p e => by cases e; exact ok,fun p e => by cases e; exact .inr rfl,fun c hc => ?_,fun c m => .inl (s1.m0 c m)⟩,fun c o n e => S c o (s1.kp c o n e),.inr ⟨hb0,fun p e => by cases e; exact h0⟩,fun j d e => ?_,by simp [dropB,s.len],fun q' hq' => (s1.pin q' hq').to rep reps fun xs a vs _ _ m n hh => ⟨.inl m,(fun z => by cases z; rw [hq] at hh; cases hh),S _ _ hh⟩⟩
    · rcases hc with hc | hc
      · obtain ⟨o,e⟩ := s1.dom c hc; exact ⟨o,S c o e⟩
      · rw [hc]; exact W.B.dm q H1 ok
    · obtain ⟨e1,nb⟩ := dropB_get e
      obtain ⟨v,e2,r⟩ := s1.env j d e1
      refine ⟨v,e2,?_⟩
      cases d
      case own xs =>
        obtain ⟨a,us,rfl,m1,m2,m3,m4,hh,r'⟩ := r
        have nq : some q ≠ some a := fun z => by
          cases z
          rw [hq] at hh
          cases hh
        exact ⟨a,us,rfl,.inl m1,nq,m3,m4,S _ _ hh,reps _ _ r'⟩
      case bag => exact absurd rfl nb
      case frg f _ => exact RepX.move r (fun c _ m n => ⟨.inl m,fun z => by cases z; exact s1.toHs.new hq m⟩) (fun c o _ e => S c o e) fun c hc => hc.imp id fun z => by rw [z]; exact hq
      all_goals exact rep _ _ r
  refine l.nx _ _ _ _ _ (s1.of (st1.set (x := .bag) (v := .ref q) i ⟨q,rfl,rfl⟩) fun j xs hm e => ?_) hx.2.2
  by_cases z : i = j
  · subst z
    rw [List.getElem?_set] at e
    simp at e
    rw [<- e.2] at hm; cases hm
  · rw [List.getElem?_set_ne z] at e
    exact ⟨(dropB_get e).1,by rw [List.getElem?_set_ne z]⟩
theorem PSs.withE {A : Prop}(h : A -> PSs X sts t) : PSs X sts (fun E σ H => A /\ t E σ H) := fun pins s σ H D I q => h q.1 pins s σ H D I q.2
def HD (W : Wd)(N : List Str)(K : PySem.W.Frag)(Ba : Addr)(i : Nat)(th : Addr -> TS)(hd : Addr -> DEnds -> Prop) : Prop := ∀ C x H' E F pn,Link W pn E F -> hd C F -> Kp W.b0 W.H0 H' -> okB W.B W.b0 H' -> H' x = none -> PySem.W.subIn K (.ref C) (.ref Ba) = some true /\
  th x { nx := fun σ' H'' => E.nx (σ'.set i none) H'',rt := E.rt,bk := fun σ' H'' => E.bk (σ'.set i none) H'',ct := fun σ' H'' => E.ct (σ'.set i none) H'' } ((List.replicate N.length none).set i (some (.ref x))) (upd H' x (ExcO x C))
def dTry (db : DS)(Ed : Addr -> Prop)(hd : Addr -> DEnds -> Prop) : DS := fun F ρ => db F ρ /\ ∀ C,Ed C -> hd C F
theorem ds_try {N : List Str}{K : PySem.W.Frag}{Ba : Addr}{i : Nat}{th : Addr -> TS}{hd : Addr -> DEnds -> Prop}{db : DS}(Ed : Addr -> Prop)(hHD : HD W N K Ba i th hd)(h : PS X st (tTry N K Ba i (fun E D σ H => ELink W E Ed /\ sn W db D σ H) th)) : PS X st (sn W (dTry db Ed hd)) := h.mono fun E σ H hh => hh.elim fun pn M b ρ F s l q => by
  refine ⟨fun Cv _ H' => ∃ C,Cv = .ref C /\ Ed C /\ Kp W.b0 W.H0 H' /\ okB W.B W.b0 H',⟨fun C H' e k o => ⟨C,rfl,e,k,o⟩,pn,M,b,ρ,F,s,l,q.1⟩,fun C H' x hC hx => ?_⟩
  obtain ⟨C',e,hE,k,o⟩ := hC
  cases e
  exact hHD C x H' E F pn l (q.2 C hE) k o hx
end
end L2
set_option linter.all false
namespace K
open PySem L2
end K
set_option linter.all false
namespace K
open PySem L2
end K
namespace K
open PySem L2
end K
set_option linter.all false
namespace K
open PySem L2
end K
set_option linter.all false
namespace K
open PySem L2
end K
set_option Elab.async false
set_option linter.all false
set_option maxRecDepth 100000
set_option maxHeartbeats 4000000
namespace L2
open PySem PySem.Spec PyProof.Rows
theorem oIx_mem {xs : List D}{i : Int}{P : D -> Prop}(h0 : 0 <= i)(h1 : i < xs.length)(h : ∀ d ∈ xs,P d) : oIx (.lst xs) (.int i) P := by
  obtain ⟨j,rfl⟩ : ∃ j : Nat,i = j := ⟨i.toNat,by omega⟩
  have hj : j < xs.length := by omega
  have e : atI xs (j : Int) = some xs[j] := atI_nat (List.getElem?_eq_getElem hj)
  simp only [oIx,e]
  exact h _ (List.getElem_mem hj)
theorem ixm {xs : List D}{i : Int}{P : D -> Prop}(h0 : 0 <= i)(h1 : i < xs.length)(h : ∀ d ∈ xs,P d) : (atI xs i).elim False P := oIx_mem (P := P) h0 h1 h
theorem rangeD_get {lo : Int}{n i : Nat}{d : D}(h : (rangeD lo n)[i]? = some d) : d = .int (lo + i) /\ i < n := by
  have hi : i < n := by
    have := (List.getElem?_eq_some_iff.mp h).1
    simpa [rangeD] using this
  simp [rangeD,hi] at h
  exact ⟨h.symm,hi⟩
theorem rangeD_len (lo : Int)(n : Nat) : (rangeD lo n).length = n := by simp [rangeD]
abbrev sp4 (x y z w : Int) : D := .tup [.int x,.int y,.int z,.int w]
abbrev t3 (x y z : Int) : D := .tup [.int x,.int y,.int z]
abbrev t2 (x y : Int) : D := .tup [.int x,.int y]
theorem comp_all {gd : D -> Ev -> (Ev -> Prop) -> Prop}{de : DE}{ρc : Ev}{items : List D}{P : List D -> Prop}(Pv : Nat -> D -> Prop)
    (hs : ∀ (i : Nat) x (Q : D -> Prop),items[i]? = some x -> (∀ y,Pv i y -> Q y) -> gd x ρc fun ρ1 => de ρ1 Q) (hp : ∀ i y,Pv i y -> plain y = true)
    (hd : ∀ acc : List D,acc.length = items.length -> (∀ i y,acc[i]? = some y -> Pv i y) -> P acc) : compI gd dTrue de ρc items P := by
  refine ⟨fun i acc => acc.length = i /\ ∀ j y,acc[j]? = some y -> Pv j y,⟨rfl,fun j y e => by simp at e⟩,fun i x acc e ⟨hl,ha⟩ => ?_,fun acc ⟨hl,ha⟩ => hd acc hl ha⟩
  have := hs i x (fun y => plain y = true /\ ((acc ++ [y]).length = i + 1 /\ ∀ j z,(acc ++ [y])[j]? = some z -> Pv j z)) e fun y hy => ⟨hp i y hy,by simp [hl],fun j z ez => ?_⟩
  · simpa only [dTrue,IfP_true] using this
  · by_cases hj : j < acc.length
    · rw [List.getElem?_append_left hj] at ez
      exact ha j z ez
    · rw [List.getElem?_append_right (by omega)] at ez
      have : j - acc.length = 0 := by
        cases q : j - acc.length with
        | zero => rfl
        | succ m => rw [q] at ez; simp at ez
      rw [this] at ez
      simp at ez
      subst ez
      have : j = i := by omega
      subst this
      exact hy
theorem comp_map {gd : D -> Ev -> (Ev -> Prop) -> Prop}{de : DE}{ρc : Ev}{items : List D}{P : List D -> Prop}(f : D -> D)
    (hs : ∀ x (Q : D -> Prop),x ∈ items -> Q (f x) -> gd x ρc fun ρ1 => de ρ1 Q) (hp : ∀ x ∈ items,plain (f x) = true) (hd : P (items.map f)) : compI gd dTrue de ρc items P := by
  refine comp_all (fun i y => ∃ x,items[i]? = some x /\ y = f x) (fun i x Q e h => hs x Q (List.mem_of_getElem? e) (h _ ⟨x,e,rfl⟩)) (fun i y ⟨x,e,h⟩ => by rw [h]; exact hp x (List.mem_of_getElem? e)) fun acc hl ha => ?_
  have : acc = items.map f := by
    apply List.ext_getElem?
    intro i
    rw [List.getElem?_map]
    cases q : acc[i]? with
    | none =>
      have : items.length <= i := by rw [<- hl]; exact List.getElem?_eq_none_iff.mp q
      rw [List.getElem?_eq_none_iff.mpr this]; rfl
    | some y =>
      obtain ⟨x,e,rfl⟩ := ha i y q
      rw [e]; rfl
  rw [this]; exact hd
theorem okB.same {B : BagT}{b : Option Addr}{H H' : Hp}(o : okB B b H)(S : Same H H') : okB B b H' := fun p e => B.st p H H' (o p e) fun u h => S p u h
end L2
set_option Elab.async false
set_option linter.all false
set_option maxRecDepth 100000
set_option maxHeartbeats 4000000
namespace L2
open PySem PySem.Spec PyProof.Rows
structure JE (X : Cx)(W : Wd)(e : Expr)(d : DE) : Prop where
  h : PE X e (dn W d)
structure JT (X : Cx)(W : Wd)(e : Expr)(d : DT) : Prop where
  h : PT X e (dnT W d)
structure JW (X : Cx)(W : Wd)(e : Expr)(d : DT) : Prop where
  h : PW X e (dnT W d)
structure JA (X : Cx)(W : Wd)(es : List Expr)(d : DA) : Prop where
  h : PA X es (dnA W d)
structure JIf (X : Cx)(W : Wd)(es : List Expr)(d : DT) : Prop where
  h : PIf X es (dnT W d)
structure JI (X : Cx)(W : Wd)(fz : Bool)(tg l : Expr)(d : DA) : Prop where
  h : PI X tg l (dnI W fz d)
structure JS (X : Cx)(W : Wd)(st : Stmt)(d : DS) : Prop where
  h : PS X st (sn W d)
structure JSs (X : Cx)(W : Wd)(st : List Stmt)(d : DS) : Prop where
  h : PSs X st (sn W d)
section
variable {X : Cx}{W : Wd}{e a b c : Expr}{es : List Expr}{pos : Pos}{d da db dc : DE}{dA : DA}{t : TE}
theorem jdv (i : Nat) {x : Str} {pos : Pos} (hN : X.N[i]? = some x := by rfl) (hv : Vis X.env.scope x := by first | exact Or.inl rfl | exact Or.inr (Or.inl rfl) | exact Or.inr (Or.inr rfl)) (hd : (x == ("__debug__" : Str)) = false := by decide)
    (hcd : (x == ("__classdict__" : Str)) = false := by decide) : JE X W (.Name x pos) (dVar i) := ⟨dv i hN hv hd hcd⟩
theorem jde_int {i j pos} : JE X W (.Constant (.int i) j pos) (dC (.int i)) := ⟨de_int ⟩
theorem jde_bl {i j pos} : JE X W (.Constant (.bool i) j pos) (dC (.bl i)) := ⟨de_bl ⟩
theorem jde_non {j pos} : JE X W (.Constant .none j pos) (dC .non) := ⟨de_non ⟩
theorem jde_str {i j pos} : JE X W (.Constant (.str i) j pos) (dC (.str i)) := ⟨de_str ⟩
theorem jde_bltn {x : Str}{T : String}{pos : Pos}(hg : Gl X x)(hm : X.mg x = none)(hv : bootBuiltins x = some (.type T))(hn : x ≠ "__name__" := by decide) (hd : (x == ("__debug__" : Str)) = false := by decide) : JE X W (.Name x pos) (dC (.ty T)) := ⟨de_bltn hg hm hv hn hd⟩
theorem jde_op {op : Operator}{r : R2}{o : D -> D -> (D -> Prop) -> Prop}(ho : OpR X (binaryOp op) r)(hd : OpD W r o)(ha : JE X W a da)(hb : JE X W b db) : JE X W (.BinOp a op b pos) (dOp o da db) := ⟨de_op ho hd ha.h hb.h⟩
theorem jde_cmp {op : CmpOp}{r : R2}{o : D -> D -> (D -> Prop) -> Prop}(ho : OpR X (compareOp op) r)(hd : OpD W r o)(ha : JE X W a da)(hb : JE X W b db)(hm : behindInMarks op b = false) : JE X W (.Compare a [op] [b] pos) (dOp o da db) := ⟨de_cmp ho hd ha.h hb.h hm⟩
theorem jde_ix {r : R2}{o : D -> D -> (D -> Prop) -> Prop}(hr : IxR X r)(hd : OpD W r o)(ha : JE X W a da)(hb : JE X W b db)(hs : PlainIx b) : JE X W (.Subscript a b pos) (dOp o da db) := ⟨de_ix hr hd ha.h hb.h hs⟩
theorem jde_neg (ha : JE X W a da) : JE X W (.UnaryOp .USub a pos) (dUn oNeg da) := ⟨de_neg ha.h⟩
variable {rest : List Expr}
theorem jde_one {op}(h : JE X W a da) : JE X W (.BoolOp op [a] pos) da := ⟨de_one h.h⟩
theorem jde_and (ha : JE X W a da)(hb : JE X W (.BoolOp .And (b :: rest) pos) db) : JE X W (.BoolOp .And (a :: b :: rest) pos) (dAnd da db) := ⟨de_and ha.h hb.h⟩
theorem jde_or (ha : JE X W a da)(hb : JE X W (.BoolOp .Or (b :: rest) pos) db) : JE X W (.BoolOp .Or (a :: b :: rest) pos) (dOr da db) := ⟨de_or ha.h hb.h⟩
theorem jde_not (ha : JE X W a da) : JE X W (.UnaryOp .Not a pos) (dNot da) := ⟨de_not ha.h⟩
theorem jdt_cmp {op : CmpOp}{r : R2}{o : D -> D -> (D -> Prop) -> Prop}(ho : OpR X (compareOp op) r)(hd : OpD W r o)(ha : JE X W a da)(hb : JE X W b db)(hm : behindInMarks op b = false) : JT X W (.Compare a [op] [b] pos) (dTest (dOp o da db)) := ⟨dt_cmp ho hd ha.h hb.h hm⟩
theorem jdt_truth (hK : X.K = W.K)(ha : JE X W a da)(he : ∀ whole,isTrue a X.env whole = (do let v <- whole; standAt a.pos; holding [v] (truthy v))) : JT X W a (dTru da) := ⟨dt_truth hK ha.h he⟩
variable {ta tb : DT}
theorem jdw_or1 (ha : JT X W a ta) : JW X W (.BoolOp .Or [a] pos) ta := ⟨dw_or1 ha.h⟩
theorem jdw_or (ha : JT X W a ta)(hb : JW X W (.BoolOp .Or (b :: rest) pos) tb) : JW X W (.BoolOp .Or (a :: b :: rest) pos) (dTOr ta tb) := ⟨dw_or ha.h hb.h⟩
theorem jdt_not (ha : JT X W a ta) : JT X W (.UnaryOp .Not a pos) (dTNot ta) := ⟨dt_not ha.h⟩
theorem jde_chain {op op' : CmpOp}{r r' : R2}{o o' : D -> D -> (D -> Prop) -> Prop}(ho : OpR X (compareOp op) r)(ho' : OpR X (compareOp op') r')(hd : OpD W r o)(hd' : OpD W r' o')(ha : JE X W a da)(hb : JE X W b db)(hc : JE X W c dc)
    (hm : lastMarks [op,op'] [b,c] = false := by with_unfolding_all rfl) : JE X W (.Compare a [op,op'] [b,c] pos) (dChain o o' da db dc) := ⟨de_chain ho ho' hd hd' ha.h hb.h hc.h hm⟩
theorem jda_nil : JA X W [] aNil := ⟨da_nil ⟩
theorem jda_cons {dr : DA}(ha : JE X W e da)(hr : JA X W es dr)(hs : starEach (e :: es) X.env = (false,eval e X.env) :: starEach es X.env := by rfl) : JA X W (e :: es) (aCons da dr) := ⟨da_cons ha.h hr.h hs⟩
theorem jde_tup {x1}(h : JA X W es dA) : JE X W (.Tuple es x1 pos) (dTup dA) := ⟨de_tup h.h⟩
theorem jde_lst (h : JA X W es dA) : JE X W (.List es pos) (dLst dA) := ⟨de_lst h.h⟩
end
section
variable {X : Cx}{W : Wd}{e a b c : Expr}{es : List Expr}{pos p : Pos}{d da db dc : DE}{dA : DA}{x : Str}{k : Nat}{ps : List Str}{S : DSp}
theorem jde_own (G : Callee X.prog X.w X.K X.mg X.base CX0 x k ps (liftSp W.K W.B S))(hr : Room k X.A)(hg : Gl X x)(ha : JA X W (e :: es) dA)(hdb : (x == ("__debug__" : Str)) = false := by decide) (he : starEach (e :: es) X.env = (false,eval e X.env) :: starEach es X.env := by rfl) (hpl : (backTo pos (starEach es X.env)).any (·.1) = false := by rfl) :
    JE X W (.Call (.Name x p) (e :: es) [] pos) (dCall S (fun _ => False) dA) := ⟨de_own G hr hg ha.h hdb he hpl⟩
theorem jde_ownX {CX : CXT}{E : XK}{Ed : Addr -> Prop}(hE : ELink W E Ed)(hp : Passes CX X E)(G : Callee X.prog X.w X.K X.mg X.base CX x k ps (liftSp W.K W.B S))(hr : Room k X.A)(hg : Gl X x)(ha : JA X W (e :: es) dA)(hdb : (x == ("__debug__" : Str)) = false := by decide) (he : starEach (e :: es) X.env = (false,eval e X.env) :: starEach es X.env := by rfl) (hpl : (backTo pos (starEach es X.env)).any (·.1) = false := by rfl) :
    JE X W (.Call (.Name x p) (e :: es) [] pos) (dCall S Ed dA) := ⟨de_ownX hE hp G hr hg ha.h hdb he hpl⟩
variable {r : List V -> Hp -> VK -> Prop}{o : List D -> (D -> Prop) -> Prop}{id T : String}
theorem jde_callB (hc : CallR X (.builtin id) r)(hd : CallD W r o)(hg : Gl X x)(hm : X.mg x = none)(hv : bootBuiltins x = some (.builtin id))(ha : JA X W (e :: es) dA)(hn : x ≠ "__name__" := by decide) (hdb : (x == ("__debug__" : Str)) = false := by decide)
    (he : starEach (e :: es) X.env = (false,eval e X.env) :: starEach es X.env := by rfl) (hpl : (backTo pos (starEach es X.env)).any (·.1) = false := by rfl) : JE X W (.Call (.Name x p) (e :: es) [] pos) (dCB o dA) := ⟨de_callB hc hd hg hm hv ha.h hn hdb he hpl⟩
theorem jde_callTy (hc : CallR X (.type T) r)(hd : CallD W r o)(hg : Gl X x)(hm : X.mg x = none)(hv : bootBuiltins x = some (.type T))(ha : JA X W (e :: es) dA)(hn : x ≠ "__name__" := by decide) (hdb : (x == ("__debug__" : Str)) = false := by decide)
    (he : starEach (e :: es) X.env = (false,eval e X.env) :: starEach es X.env := by rfl) (hpl : (backTo pos (starEach es X.env)).any (·.1) = false := by rfl) : JE X W (.Call (.Name x p) (e :: es) [] pos) (dCB o dA) := ⟨de_callTy hc hd hg hm hv ha.h hn hdb he hpl⟩
end
section
variable {X : Cx}{W : Wd}{tg l e a b c : Expr}{es : List Expr}{pos p : Pos}{d da db dc dl : DE}{dA di : DA}{fz : Bool}
theorem jdi_seq (hK : X.K = W.K)(hl : JE X W l dl) : JI X W fz tg l (iSeq fz dl) := ⟨di_seq hK hl.h⟩
theorem jdi_range1 (hg : Gl X "range") (hm : X.mg "range" = none) (ha : JA X W [a] dA) (hs : starEach [a] X.env = [(false,eval a X.env)] := by rfl) : JI X W fz tg (.Call (.Name "range" p) [a] [] pos) (iRange1 dA) := ⟨di_range1 hg hm ha.h hs⟩
end
section
variable {X : Cx}{W : Wd}{elt iter tg : Expr}{ifs : List Expr}{scope : Scope}{pos : Pos}{N' : List Str}{map : List (Option Nat)}{g : TG}{gd : D -> Ev -> (Ev -> Prop) -> Prop}{di : DA}{dt : DT}{de : DE}
theorem jde_comp (hG : GD W g gd)(B : Blk X N' scope map tg elt ifs g (dnT W dt) (dn W de))(hi : JI X W false tg iter di)(hs : ∀ x,foldedSetIterable iter X.env x = pure x := by intro _; rfl) : JE X W (.ListComp elt [⟨tg,iter,ifs,0⟩] scope pos) (dComp map gd di dt de) := ⟨de_comp hG B hi.h hs⟩
theorem jdif_nil : JIf X W [] dTrue := ⟨dif_nil ⟩
end
section
variable {X : Cx}{W : Wd}{e a b c tg iter l : Expr}{es : List Expr}{pos p : Pos}{d da db dc dl de : DE}{dA di : DA}{dt : DT}{st : Stmt}{rest sts : List Stmt}{d1 d2 : DS}{t : TS}
theorem jdss_nil : JSs X W [] dNext := ⟨dss_nil ⟩
theorem jdss_one (h : JS X W st d1) : JSs X W [st] d1 := ⟨dss_one h.h⟩
theorem jdss_cons (h1 : JS X W st d1)(h2 : JSs X W rest d2) : JSs X W (st :: rest) (dSeq d1 d2) := ⟨dss_cons h1.h h2.h⟩
theorem jds_ret (he : JE X W e de) : JS X W (.Return (some e) pos) (dRet de) := ⟨ds_ret he.h⟩
theorem jds_if {s1 s2 : List Stmt}(hc : JT X W c dt)(ha : JSs X W s1 d1)(hb : JSs X W s2 d2) : JS X W (.If c s1 s2 pos) (dIfS dt d1 d2) := ⟨ds_if hc.h ha.h hb.h⟩
theorem jds_set {i : Nat} {x : Str} {pos' : Pos} (hN : X.N.Nodup) (hi : X.N[i]? = some x) (hx : Loc X.env.scope x) (he : JE X W e de) (hs : swapsWith e (some (.Name x pos')) pos.line X.env = pure false := by rfl) (hf : X.fn x = true \/ X.env.scope.names.lookup x = some .local := by first | exact .inl rfl | exact .inr rfl | assumption) :
    JS X W (.Assign [.Name x pos'] e pos) (dAsg de (gdN i)) := ⟨ds_set hN hi hx he.h hs hf⟩
theorem jds_asg {g : TG}{gd : D -> Ev -> (Ev -> Prop) -> Prop}(hG : GD W g gd)(he : JE X W e de)(hg : PG X tg g)(hs : swapsWithSole [tg] e pos.line X.env = pure false := by rfl)(hw : swappedStores [tg] e X.env = pure none := by rfl)
    (h1 : (assignEach [tg] X.env).map (·.2) = [assign tg X.env] := by rfl) : JS X W (.Assign [tg] e pos) (dAsg de gd) := ⟨ds_asg hG he.h hg hs hw h1⟩
theorem jds_setC {elt iter tg : Expr}{ifs : List Expr}{scope : Scope}{N' : List Str}{map : List (Option Nat)}{g : TG}{gd : D -> Ev -> (Ev -> Prop) -> Prop}(own : Bool){i : Nat}{y : Str}{py spos : Pos}(hN : X.N.Nodup)(hiN : X.N[i]? = some y)(hy : Loc X.env.scope y)(hG : GD W g gd)(B : Blk X N' scope map tg elt ifs g (dnT W dt) (dn W de))(hi : JI X W false tg iter di)
    (hsw : swapsWith (.ListComp elt [⟨tg,iter,ifs,0⟩] scope pos) (some (.Name y py)) spos.line X.env = pure true := by rfl) (hfn : X.fn y = true \/ X.env.scope.names.lookup y = some .local := by first | exact .inl rfl | exact .inr rfl)
    (hs : ∀ x,foldedSetIterable iter X.env x = pure x := by intro _; rfl) : JS X W (.Assign [.Name y py] (.ListComp elt [⟨tg,iter,ifs,0⟩] scope pos) spos) (dSetC own i map gd di dt de) := ⟨ds_setC own hN hiN hy hG B hi.h hsw hfn hs⟩
theorem jds_setI {i : Nat}{x : Str}{n : Expr}{dk : DE}{npos tpos : Pos}(hN : X.N[i]? = some x)(hv : Vis X.env.scope x)(he : JE X W e de)(hk : JE X W n dk)(hg : PG X (.Subscript (.Name x npos) n tpos) (gSub (tVar i) (dn W dk) rSetL))
    (hs : swapsWithSole [.Subscript (.Name x npos) n tpos] e pos.line X.env = pure false := by rfl) (hw : swappedStores [.Subscript (.Name x npos) n tpos] e X.env = pure none := by rfl)
    (h1 : (assignEach [.Subscript (.Name x npos) n tpos] X.env).map (·.2) = [assign (.Subscript (.Name x npos) n tpos) X.env] := by rfl) : JS X W (.Assign [.Subscript (.Name x npos) n tpos] e pos) (dSetI i de dk) := ⟨ds_setI hN hv he.h hk.h hg hs hw h1⟩
theorem jds_for {g : TG}{gd : D -> Ev -> (Ev -> Prop) -> Prop}{db : DS}{body : List Stmt}(hG : GD W g gd)(hp : PassesOwn (model X.prog X.w) X.A X.env X.xe)(hc : X.calm = true)(hi : JI X W true tg iter di)(hg : PG X tg g)(hb : JSs X W body db)
    (hs : ∀ x,foldedSetIterable iter X.env x = pure x := by intro _; rfl) : JS X W (.For tg iter body [] pos) (dFor gd di db) := ⟨ds_for hG hp hc hi.h hg hb.h hs⟩
theorem jdss_frz (i : Nat)(h : JSs X W sts d1) : JSs X W sts (dFrz i d1) := ⟨dss_frz i h.h⟩
theorem jds_raise {E : XK}{Ed : Addr -> Prop}{C : Addr}(hE : ELink W E Ed)(h : PS X st (fun _ _ H1 => E (.ref C) none H1)) : JS X W st (dRaise Ed C) := ⟨ds_raise hE h⟩
end
section
variable {X : Cx}{W : Wd}{e a b c tg iter l : Expr}{es : List Expr}{pos p : Pos}{d da db dc dl de : DE}{dA di : DA}{dt : DT}{st : Stmt}{rest sts : List Stmt}{d1 d2 : DS}{t : TS}
theorem jds_bag {spos : Pos}{x f : Str}{k : Nat}{ps : List Str}{pre : List D -> Prop}{i : Nat}{pos' : Pos}(hb0 : W.b0 = none)(hN : X.N.Nodup)(hi : X.N[i]? = some x)(hx : Loc X.env.scope x)(G : Callee X.prog X.w X.K X.mg X.base CX0 f k ps (bagSp W.K W.B pre))(hr : Room k X.A)(hg : Gl X f)(ha : JA X W (e :: es) dA)
    (hdb : (f == ("__debug__" : Str)) = false := by decide) (he : starEach (e :: es) X.env = (false,eval e X.env) :: starEach es X.env := by rfl) (hpl : (backTo pos (starEach es X.env)).any (·.1) = false := by rfl)
    (hs : swapsWith (.Call (.Name f p) (e :: es) [] pos) (some (.Name x pos')) spos.line X.env = pure false := by rfl) (hf : X.fn x = true \/ X.env.scope.names.lookup x = some .local := by first | exact .inl rfl | exact .inr rfl | assumption) :
    JS X W (.Assign [.Name x pos'] (.Call (.Name f p) (e :: es) [] pos) spos) (dBag i pre dA) := ⟨ds_bag hb0 hN hi hx G hr hg ha.h hdb he hpl hs hf⟩
theorem jds_try {N : List Str}{K : PySem.W.Frag}{Ba : Addr}{i : Nat}{th : Addr -> TS}{hd : Addr -> DEnds -> Prop}{db : DS}(Ed : Addr -> Prop)(hHD : HD W N K Ba i th hd)(h : PS X st (tTry N K Ba i (fun E D σ H => ELink W E Ed /\ sn W db D σ H) th)) : JS X W st (dTry db Ed hd) := ⟨ds_try Ed hHD h⟩
end
section
variable {X : Cx}{W : Wd}{a b : Expr}{rest : List Expr}{pos : Pos}{ta tb : DT}
theorem jdt_or (ha : JT X W a ta)(hb : JW X W (.BoolOp .Or (b :: rest) pos) tb) : JT X W (.BoolOp .Or (a :: b :: rest) pos) (dTOr ta tb) := ⟨(dw_or ha.h hb.h).pt⟩
end
theorem fsi_tuple {es : List Expr}{k}{pos : Pos}{env : Env} : ∀ x,foldedSetIterable (.Tuple es k pos) env x = pure x := fun _ => rfl
theorem blkJ {X : Cx} {W : Wd} {N' : List Str} {scope : Scope} {map : List (Option Nat)} {tg elt : Expr} {ifs : List Expr} {g : TG} {dt : DT} {de : DE} (calm : X.calm = true) (kind : scope.kind = .function) (loc : ∀ x ∈ scope.names,x.2 = .local -> scope.names.lookup x.1 = some .local) (free : (scope.names.all fun p => !(p.2 == NameKind.free) || (X.env.kindOf p.1 == some .cell || X.env.kindOf p.1 == some .free)) = true) (cap : CapOk X scope map N') (keep : GKeep g map)
    (run : ∀ cells C fp s H,PG (cxComp X N' scope cells C fp s H) tg g /\ JIf (cxComp X N' scope cells C fp s H) W ifs dt /\ JE (cxComp X N' scope cells C fp s H) W elt de) : Blk X N' scope map tg elt ifs g (dnT W dt) (dn W de) :=
  ⟨calm,kind,loc,free,cap,keep,fun cells C fp s H _ => ⟨(run cells C fp s H).1,(run cells C fp s H).2.1.h,(run cells C fp s H).2.2.h⟩⟩
theorem Fun.okD {P : Program}{w : World}{K : PySem.W.Frag}{mg : Str -> Option Value}{base : Heap}{x qual : Str}{st : Stmt}{f : Addr}{fd : FuncData}{N ps : List Str}{k : Nat}{B : BagT}{Sd : DSp}(F : Fun K x qual st f fd)(S : FnScope N ps (defScope st))(len : ∀ ds PP Ed,Sd ds PP Ed -> ds.length = ps.length)
    (hbody : ∀ (cdv : Value) (A : Around) (outer : List Env) (s : Shared) (H : Hp) (E : XK) (M : Addr -> Prop) (bg : Option Addr) (ds : List D) (PP : D -> Prop) (Ed : Addr -> Prop),Room k (A.deeper (envOfC qual (defScope st) s.heap.objs.size f cdv)) -> Sd ds PP Ed ->
      ∃ d,JSs (cxOf CX0 P w K mg base N qual (defScope st) f cdv A outer s H E).nox ⟨K,B,H,M,bg⟩ (defBody st) d /\ d { nx := fun _ => PP .non,rt := PP } (startD N ds)) : FnOk P w K mg base CX0 (k + 1) f fd ps (liftSp K B Sd) :=
  F.ok S (liftSp.len len) fun cdv A outer s H vs Q E hr h => by
    obtain ⟨M,bg,ds,PP,Ed,hS,hR,ho,hb,hd,hq,hx⟩ := h
    obtain ⟨d,J,q⟩ := hbody cdv A outer s H E M bg ds PP Ed hr hS
    exact ⟨_,J.h,run hR ho hb hd hq q⟩
theorem Fun.okDX {P : Program}{w : World}{K : PySem.W.Frag}{mg : Str -> Option Value}{base : Heap}{CX : CXT}{x qual : Str}{st : Stmt}{f : Addr}{fd : FuncData}{N ps : List Str}{k : Nat}{B : BagT}{Sd : DSp}(F : Fun K x qual st f fd)(S : FnScope N ps (defScope st))(len : ∀ ds PP Ed,Sd ds PP Ed -> ds.length = ps.length)
    (hbody : ∀ (cdv : Value) (A : Around) (outer : List Env) (s : Shared) (H : Hp) (E : XK) (M : Addr -> Prop) (bg : Option Addr) (ds : List D) (PP : D -> Prop) (Ed : Addr -> Prop),Room k (A.deeper (envOfC qual (defScope st) s.heap.objs.size f cdv)) -> ELink ⟨K,B,H,M,bg⟩ E Ed -> Sd ds PP Ed ->
      ∃ d,JSs (cxOf CX P w K mg base N qual (defScope st) f cdv A outer s H E) ⟨K,B,H,M,bg⟩ (defBody st) d /\ d { nx := fun _ => PP .non,rt := PP } (startD N ds)) : FnOk P w K mg base CX (k + 1) f fd ps (liftSp K B Sd) :=
  F.okX S (liftSp.len len) fun cdv A outer s H vs Q E hr h => by
    obtain ⟨M,bg,ds,PP,Ed,hS,hR,ho,hb,hd,hq,hx⟩ := h
    obtain ⟨d,J,q⟩ := hbody cdv A outer s H E M bg ds PP Ed hr (fun C H' e k o => hx C H' e k o) hS
    exact ⟨_,J.h,run hR ho hb hd hq q⟩
end L2
set_option Elab.async false
set_option linter.all false
set_option maxRecDepth 100000
set_option maxHeartbeats 4000000
namespace L2
open PySem PySem.Spec PyProof.Rows
mutual
def pyOf : D -> Option PyData
  | .non => some .none
  | .bl b => some (.bool b)
  | .int i => some (.int i)
  | .str x => if PyData.strOk x then some (.str x) else none
  | .tup xs => (pysOf xs).map .tuple
  | .lst xs => (pysOf xs).map .list
  | .own xs => (pysOf xs).map .list
  | .ty _ => none
  | .adr _ => none
  | .bag => none
  | .frg _ d => pyOf d
  | .scr _ => none
  | .dct _ _ _ => none
def pysOf : List D -> Option (List PyData)
  | [] => some []
  | d :: ds => (pyOf d).bind fun p => (pysOf ds).map (p :: ·)
end
mutual
theorem pyOf.lay : ∀ (d : D) (p : PyData),pyOf d = some p -> p.canLay0 = true
  | .non,p,h => by cases h; rfl
  | .bl b,p,h => by cases h; rfl
  | .int i,p,h => by cases h; rfl
  | .str x,p,h => by
    unfold pyOf at h
    split at h
    · cases h; unfold PyData.canLay0; assumption
    · cases h
  | .tup xs,p,h => by
    unfold pyOf at h
    obtain ⟨ps,e,rfl⟩ := Option.map_eq_some_iff.mp h
    unfold PyData.canLay0
    exact pysOf.lay xs ps e
  | .lst xs,p,h => by
    unfold pyOf at h
    obtain ⟨ps,e,rfl⟩ := Option.map_eq_some_iff.mp h
    unfold PyData.canLay0
    exact pysOf.lay xs ps e
  | .own xs,p,h => by
    unfold pyOf at h
    obtain ⟨ps,e,rfl⟩ := Option.map_eq_some_iff.mp h
    unfold PyData.canLay0
    exact pysOf.lay xs ps e
  | .ty _,p,h => by unfold pyOf at h; cases h
  | .adr _,p,h => by unfold pyOf at h; cases h
  | .bag,p,h => by unfold pyOf at h; cases h
  | .frg _ d,p,h => by unfold pyOf at h; exact pyOf.lay d p h
  | .scr _,p,h => by unfold pyOf at h; cases h
  | .dct _ _ _,p,h => by unfold pyOf at h; cases h
theorem pysOf.lay : ∀ (ds : List D) (ps : List PyData),pysOf ds = some ps -> PyData.canLayAll0 ps = true
  | [],ps,h => by cases h; rfl
  | d :: ds,ps,h => by
    unfold pysOf at h
    obtain ⟨p,e1,h⟩ := Option.bind_eq_some_iff.mp h
    obtain ⟨qs,e2,rfl⟩ := Option.map_eq_some_iff.mp h
    unfold PyData.canLayAll0
    rw [pyOf.lay d p e1,pysOf.lay ds qs e2]; rfl
end
section
variable {X : Cx}{pins : List (Addr × Obj)}{σ : St}{H : Hp}{s : Shared}{M : Addr -> Prop}
mutual
theorem rep_reads (I : Inv X pins σ H s) : ∀ (d : D) (v : V) (u : Value) (p : PyData),Rep X.K M H d v -> RelV v u -> pyOf d = some p -> ∃ as,Reads s.heap u p as
  | .non,v,u,p,r,q,h => by cases h; cases (show _ = _ from r); cases (show u = Value.none from q); exact ⟨_,.none⟩
  | .bl b,v,u,p,r,q,h => by cases h; cases (show _ = _ from r); cases (show u = Value.bool b from q); exact ⟨_,.bool _⟩
  | .int i,v,u,p,r,q,h => by
    cases h; cases (show _ = _ from r)
    obtain ⟨t,rfl⟩ := (show ∃ t,u = Value.int i t from q)
    exact ⟨_,.int _ _⟩
  | .str x,v,u,p,r,q,h => by
    unfold pyOf at h
    split at h
    · cases h; cases (show _ = _ from r)
      obtain ⟨t,rfl⟩ := (show ∃ t,u = Value.str x t from q)
      exact ⟨_,.str _ _⟩
    · cases h
  | .tup xs,v,u,p,r,q,h => by
    unfold pyOf at h
    obtain ⟨ps,e,rfl⟩ := Option.map_eq_some_iff.mp h
    obtain ⟨a,vs,rfl,z,rs⟩ := r
    cases (show u = Value.ref a from q)
    obtain ⟨its,r1,⟨o,h1,h2,n,h3⟩,_⟩ := I.tuple z.sq
    obtain ⟨as,ra⟩ := reps_reads I xs vs its ps rs r1 e
    exact ⟨as,.tuple h1 h2 h3 (by simpa using ra)⟩
  | .lst xs,v,u,p,r,q,h => by
    unfold pyOf at h
    obtain ⟨ps,e,rfl⟩ := Option.map_eq_some_iff.mp h
    obtain ⟨a,vs,rfl,z,rs⟩ := r
    cases (show u = Value.ref a from q)
    obtain ⟨its,r1,⟨o,n,h1,h2,_,h3⟩,_⟩ := I.list (SqL.of z.2)
    obtain ⟨as,ra⟩ := reps_reads I xs vs its ps rs r1 e
    exact ⟨a :: as,.list h1 h2 h3 (by simpa using ra)⟩
  | .own xs,v,u,p,r,q,h => r.elim
  | .ty _,_,_,p,_,_,h => by unfold pyOf at h; cases h
  | .adr _,_,_,p,_,_,h => by unfold pyOf at h; cases h
  | .bag,_,_,p,_,_,h => by unfold pyOf at h; cases h
  | .frg _ _,_,_,p,r,_,h => r.elim
  | .scr _,_,_,p,_,_,h => by unfold pyOf at h; cases h
  | .dct _ _ _,_,_,p,_,_,h => by unfold pyOf at h; cases h
theorem reps_reads (I : Inv X pins σ H s) : ∀ (ds : List D) (vs : List V) (us : List Value) (ps : List PyData),Reps X.K M H ds vs -> Vals vs us -> pysOf ds = some ps -> ∃ as,ReadsAll s.heap us ps as
  | [],vs,us,ps,r,q,h => by
    cases h
    cases (show vs = [] from r)
    cases q
    exact ⟨[],.nil⟩
  | d :: ds,vs,us,ps,r,q,h => by
    unfold pysOf at h
    obtain ⟨p,e1,h⟩ := Option.bind_eq_some_iff.mp h
    obtain ⟨qs,e2,rfl⟩ := Option.map_eq_some_iff.mp h
    obtain ⟨v,rv,rfl,r1,r2⟩ := r
    cases q with
    | cons q1 q2 =>
      obtain ⟨as,a1⟩ := rep_reads I d v _ p r1 q1 e1
      obtain ⟨bs,a2⟩ := reps_reads I ds rv _ qs r2 q2 e2
      exact ⟨as ++ bs,.cons a1 a2⟩
end
end
def RepG (K : PySem.W.Frag)(M : Addr -> Prop)(H : Hp) : D -> V -> Prop
  | .own xs,v => ∃ a vs,v = .ref a /\ H a = some (.lst vs) /\ Reps K M H xs vs
  | .frg _ d,v => ∃ M',Rep K M' H d v
  | d,v => Rep K M H d v
theorem RepX.g {W : Wd}{M : Addr -> Prop}{b : Option Addr}{H : Hp}{d : D}{v : V}{p : PyData}(h : RepX W M b H d v)(e : pyOf d = some p) : RepG W.K M H d v := by
  cases d
  case own xs => obtain ⟨a,vs,rfl,_,_,_,_,hh,r⟩ := h; exact ⟨a,vs,rfl,hh,r⟩
  case bag => unfold pyOf at e; cases e
  case frg f d => exact ⟨_,h.2.2⟩
  all_goals exact h
theorem repG_reads {X : Cx}{pins : List (Addr × Obj)}{σ : St}{H : Hp}{s : Shared}{M : Addr -> Prop}(I : Inv X pins σ H s){d : D}{v : V}{u : Value}{p : PyData}(r : RepG X.K M H d v)(q : RelV v u)(h : pyOf d = some p) : ∃ as,Reads s.heap u p as := by
  cases d
  case own xs =>
    obtain ⟨a,vs,rfl,hh,r⟩ := r
    unfold pyOf at h
    obtain ⟨ps,e,rfl⟩ := Option.map_eq_some_iff.mp h
    cases (show u = Value.ref a from q)
    obtain ⟨its,r1,⟨o,n,h1,h2,_,h3⟩,_⟩ := I.list (SqL.of hh)
    obtain ⟨as,ra⟩ := reps_reads I xs vs its ps r r1 e
    exact ⟨a :: as,.list h1 h2 h3 (by simpa using ra)⟩
  case frg f d =>
    obtain ⟨M',r⟩ := r
    exact rep_reads (M := M') I d _ _ _ r q (by unfold pyOf at h; exact h)
  all_goals exact rep_reads I _ _ _ _ r q h
def rEqG (K : PySem.W.Frag)(neg : Bool) : R2 := fun x y H Q => ∃ M dx dy p q,RepG K M H dx x /\ RepG K M H dy y /\ pyOf dx = some p /\ pyOf dy = some q /\ min p.depth q.depth <= 60 /\ Q (.bl (PyData.eqv p q != neg)) H
theorem op_neG {X : Cx}(K : PySem.W.Frag)(hK : X.K = K)(hu : X.A.units + 64 < cLine) : OpR X (compareOp .NotEq) (rEqG K true) := by
  subst hK
  intro pins s σ H x y v u Q I rx ry h
  obtain ⟨M,dx,dy,p,q,r1,r2,e1,e2,hd,hq⟩ := h
  obtain ⟨as,a1⟩ := repG_reads I r1 rx e1
  obtain ⟨bs,a2⟩ := repG_reads I r2 ry e2
  refine SeqAt.compareNe_reads a1 a2 (pyOf.lay _ _ e1) (pyOf.lay _ _ e2) (by omega) ?_
  exact ⟨.bl _,H,I,rfl,by simpa using hq⟩
inductive EqG (neg : Bool)(x y : D)(P : D -> Prop) : Prop
  | mk (p q : PyData) (e1 : pyOf x = some p) (e2 : pyOf y = some q) (hd : min p.depth q.depth <= 60) (h : P (.bl (PyData.eqv p q != neg))) : EqG neg x y P
def oEqG (neg : Bool) : D -> D -> (D -> Prop) -> Prop := fun x y P => EqG neg x y P
theorem od_eqG {W : Wd}{neg : Bool} : OpD W (rEqG W.K neg) (oEqG neg) := by
  intro M b H x y v u P Q hs rx ry ho k
  obtain ⟨p,q,e1,e2,hd,hp⟩ := ho
  exact ⟨M,x,y,p,q,rx.g e1,ry.g e2,e1,e2,hd,k _ _ H hp (show _ = _ from rfl) (Kp.refl _ _) hs.ok⟩
mutual
def fineD : Nat -> D -> Bool
  | _,.non => true
  | _,.bl _ => true
  | _,.int _ => true
  | _,.str x => PyData.strOk x
  | n + 1,.tup xs => finesD n xs
  | n + 1,.lst xs => finesD n xs
  | n + 1,.own xs => finesD n xs
  | n,.frg _ d => fineD n d
  | _,_ => false
def finesD : Nat -> List D -> Bool
  | _,[] => true
  | n,d :: ds => fineD n d && finesD n ds
end
mutual
theorem fine_py : ∀ (n : Nat) (d : D),fineD n d = true -> ∃ p,pyOf d = some p /\ p.depth <= n /\ PyData.eqv p p = true
  | n,.non,h => ⟨_,rfl,Nat.zero_le _,rfl⟩
  | n,.bl b,h => ⟨_,rfl,Nat.zero_le _,by simp [PyData.eqv]⟩
  | n,.int i,h => ⟨_,rfl,Nat.zero_le _,by simp [PyData.eqv]⟩
  | n,.str x,h => by
    have h : PyData.strOk x = true := by cases n <;> simpa [fineD] using h
    exact ⟨.str x,by unfold pyOf; rw [if_pos h],Nat.zero_le _,by simp [PyData.eqv]⟩
  | 0,.tup xs,h => by simp [fineD] at h
  | 0,.lst xs,h => by simp [fineD] at h
  | 0,.own xs,h => by simp [fineD] at h
  | n + 1,.tup xs,h => by
    obtain ⟨ps,e,hd,hq⟩ := fines_py n xs (by simpa [fineD] using h)
    exact ⟨.tuple ps,by unfold pyOf; rw [e]; rfl,by unfold PyData.depth; omega,by unfold PyData.eqv; exact hq⟩
  | n + 1,.lst xs,h => by
    obtain ⟨ps,e,hd,hq⟩ := fines_py n xs (by simpa [fineD] using h)
    exact ⟨.list ps,by unfold pyOf; rw [e]; rfl,by unfold PyData.depth; omega,by unfold PyData.eqv; exact hq⟩
  | n + 1,.own xs,h => by
    obtain ⟨ps,e,hd,hq⟩ := fines_py n xs (by simpa [fineD] using h)
    exact ⟨.list ps,by unfold pyOf; rw [e]; rfl,by unfold PyData.depth; omega,by unfold PyData.eqv; exact hq⟩
  | n,.ty _,h => by cases n <;> simp [fineD] at h
  | n,.adr _,h => by cases n <;> simp [fineD] at h
  | n,.bag,h => by cases n <;> simp [fineD] at h
  | n,.frg _ d,h => by
    obtain ⟨p,e,h1,h2⟩ := fine_py n d (by cases n <;> simpa [fineD] using h)
    exact ⟨p,by unfold pyOf; exact e,h1,h2⟩
  | n,.scr _,h => by cases n <;> simp [fineD] at h
  | n,.dct _ _ _,h => by cases n <;> simp [fineD] at h
theorem fines_py : ∀ (n : Nat) (ds : List D),finesD n ds = true -> ∃ ps,pysOf ds = some ps /\ PyData.depthAll ps <= n /\ PyData.eqvAll ps ps = true
  | n,[],h => ⟨[],rfl,Nat.zero_le _,rfl⟩
  | n,d :: ds,h => by
    unfold finesD at h
    obtain ⟨h1,h2⟩ := (Bool.and_eq_true _ _).mp h
    obtain ⟨p,e1,d1,q1⟩ := fine_py n d h1
    obtain ⟨ps,e2,d2,q2⟩ := fines_py n ds h2
    exact ⟨p :: ps,by unfold pysOf; rw [e1,e2]; rfl,by unfold PyData.depthAll; omega,by unfold PyData.eqvAll; rw [q1,q2]; rfl⟩
end
theorem eqG_same {x y : D}{neg : Bool}{P : D -> Prop}(n : Nat)(h : fineD n x = true)(e : pyOf y = pyOf x)(hn : n <= 60)(hp : P (.bl (!neg))) : EqG neg x y P := by
  obtain ⟨p,e1,d1,q1⟩ := fine_py n x h
  refine ⟨p,p,e1,e.trans e1,by omega,?_⟩
  rw [q1]
  simpa using hp
theorem de_globD {X : Cx}{W : Wd}{x : Str}{d : D}{pos : Pos}(hg : Gl X x)(hm : ∃ a,X.mg x = some (.ref a) /\ ∀ M H,Rep W.K M H d (.ref a))(hd : (x == ("__debug__" : Str)) = false := by decide) : PE X (.Name x pos) (dn W (dC d)) := by
  obtain ⟨a,h,r⟩ := hm
  exact de_c (pe_globC hg h hd) r
theorem jde_globD {X : Cx}{W : Wd}{x : Str}{d : D}{pos : Pos}(hg : Gl X x)(hm : ∃ a,X.mg x = some (.ref a) /\ ∀ M H,Rep W.K M H d (.ref a))(hd : (x == ("__debug__" : Str)) = false := by decide) : JE X W (.Name x pos) (dC d) := ⟨de_globD hg hm hd⟩
theorem jde_own0 {X : Cx}{W : Wd}{x : Str}{k : Nat}{ps : List Str}{S : DSp}{p pos : Pos}(G : Callee X.prog X.w X.K X.mg X.base CX0 x k ps (liftSp W.K W.B S))(hr : Room k X.A)(hg : Gl X x)(hdb : (x == ("__debug__" : Str)) = false := by decide) : JE X W (.Call (.Name x p) [] [] pos) (dCall S (fun _ => False) aNil) :=
  ⟨(pe_own0 G hr hg hdb).mono fun σ H Q hh => by
    have := up_call (W := W) (S := S) (dA := aNil) elink0 σ H Q hh
    obtain ⟨pn,M,b,ρ,P,st,h,k⟩ := this
    exact k [] [] H h (show _ = _ from rfl) (Kp.refl _ _) st.ok⟩
end L2
set_option Elab.async false
set_option linter.all false
set_option maxRecDepth 100000
set_option maxHeartbeats 4000000
namespace L2
open PySem PySem.Spec PyProof.Rows
mutual
def okRp : D -> Bool
  | .non => true
  | .bl _ => true
  | .int i => decide (i.natAbs.log2 < 1920)
  | .str x => PyData.strOk x
  | .tup xs => okRps xs
  | .lst xs => okRps xs
  | _ => false
def okRps : List D -> Bool
  | [] => true
  | d :: ds => okRp d && okRps ds
end
end L2
set_option Elab.async false
set_option linter.all false
set_option maxRecDepth 100000
set_option maxHeartbeats 4000000
namespace L2
open PySem PySem.Spec PyProof.Rows
end L2
set_option Elab.async false
set_option linter.all false
set_option maxRecDepth 100000
set_option maxHeartbeats 4000000
namespace L2
open PySem PySem.Spec PyProof.Rows
section
variable {X : Cx}{W : Wd}{e a b c tg iter l : Expr}{es : List Expr}{pos p : Pos}{d da db dc dl de : DE}{dA di : DA}{dt : DT}{fz : Bool}{x : Str}{k : Nat}{ps : List Str}{S : DSp}
end
end L2
set_option Elab.async false
set_option linter.all false
set_option maxRecDepth 100000
set_option maxHeartbeats 4000000
namespace L2
open PySem PySem.Spec PyProof.Rows
abbrev DSO := List D -> (List D -> Prop) -> (Addr -> Prop) -> Prop
section
variable {X : Cx}{W : Wd}{e a b c tg iter l : Expr}{es : List Expr}{pos p : Pos}{d da db dc dl de : DE}{dA di : DA}{dt : DT}{fz : Bool}{x : Str}{k : Nat}{ps : List Str}{S : DSO}
theorem Sta.fresh0 {pn : List (D × V)}{M : Addr -> Prop}{b : Option Addr}{H : Hp}{σ : St}{ρ : Ev}{p : Addr}(s : Sta W pn M b H σ ρ)(h : H p = none) : W.H0 p = none /\ ¬ W.M0 p := by
  have hbp : b ≠ some p := fun z => by
    obtain ⟨o,e⟩ := W.B.dm p H (s.ok p z)
    rw [h] at e; cases e
  refine ⟨?_,fun z => s.toHs.new h (s.m0 p z)⟩
  cases q : W.H0 p with
  | none => rfl
  | some o =>
    by_cases z : W.b0 = some p
    · rcases s.new with y | ⟨y,_⟩
      · exact absurd (y.trans z) hbp
      · rw [y] at z; cases z
    · have := s.kp p o z q
      rw [h] at this; cases this
section
variable {K : PySem.W.Frag}{M M' : Addr -> Prop}{H : Hp}
end
def BorAt : List D -> List V -> Addr -> Prop
  | .own _ :: ds,v :: vs,c => v = .ref c \/ BorAt ds vs c
  | .frg f _ :: ds,_ :: vs,c => c ∈ f.ads \/ BorAt ds vs c
  | _ :: ds,_ :: vs,c => BorAt ds vs c
  | _,_,_ => False
theorem BorAt.lst {M : Addr -> Prop}{b : Option Addr}{H : Hp}{c : Addr} : ∀ (ds : List D) (vs : List V),RepXs W M b H ds vs -> BorAt ds vs c -> b ≠ some c /\ ∃ o,H c = some o /\ ∀ vs,o ≠ .tup vs
  | [],vs,h,q => by cases (show vs = [] from h); exact q.elim
  | d :: ds,vs,h,q => by
    obtain ⟨v,r,rfl,h1,h2⟩ := h
    cases d
    case own xs =>
      rcases q with z | z
      · obtain ⟨a,us,e,m1,m2,m3,m4,hh,r'⟩ := h1
        rw [z] at e; cases e
        exact ⟨m2,_,hh,fun _ y => by cases y⟩
      · exact BorAt.lst ds r h2 z
    case frg f d =>
      rcases q with z | z
      · exact ⟨(h1.1 c z).2.1,f.nt _ _ _ h1.2.1 c z⟩
      · exact BorAt.lst ds r h2 z
    all_goals exact BorAt.lst ds r h2 q
end
end L2
set_option Elab.async false
set_option linter.all false
set_option maxRecDepth 100000
set_option maxHeartbeats 4000000
namespace L2
open PySem PySem.Spec PyProof.Rows
end L2
set_option Elab.async false
set_option linter.all false
set_option maxRecDepth 100000
set_option maxHeartbeats 4000000
namespace L2
open PySem PySem.Spec PyProof.Rows
section
variable {X : Cx}{W : Wd}{e a b st : Expr}{pos : Pos}{d da db de ds : DE}{dA : DA}
end
end L2
set_option Elab.async false
set_option linter.all false
set_option maxRecDepth 100000
set_option maxHeartbeats 4000000
namespace L2
open PySem PySem.Spec PyProof.Rows
section
variable {X : Cx}{W : Wd}{pos : Pos}{de : DE}{di : DA}{dt : DT}
end
end L2
set_option Elab.async false
set_option linter.all false
set_option maxRecDepth 100000
set_option maxHeartbeats 4000000
namespace L2
open PySem PySem.Spec PyProof.Rows
section
variable {X : Cx}{W : Wd}{e a b c tg iter l : Expr}{es : List Expr}{pos p : Pos}{d da db dc dl de : DE}{dA di : DA}{dt : DT}{fz : Bool}{x : Str}{k : Nat}{ps : List Str}{S : DSO}
end
section
variable {X : Cx}{W : Wd}{tg : Expr}{pos npos : Pos}
theorem set_same {σ : St}{i : Nat}{v : V}(e : σ[i]? = some (some v)) : σ.set i (some v) = σ := by
  apply List.ext_getElem?
  intro n
  by_cases z : i = n
  · subst z; rw [List.getElem?_set,e]; simp; exact (List.getElem?_eq_some_iff.mp e).1
  · rw [List.getElem?_set_ne z]
end
end L2
set_option Elab.async false
set_option linter.all false
set_option maxRecDepth 100000
set_option maxHeartbeats 4000000
namespace L2
open PySem PySem.Spec PyProof.Rows
section
variable {prog : Program}{w : World}{A : Around}{E : Value -> Shared -> Prop}{s : Shared}{l : Addr}{xs : Array (Int × Tok)}
end
section
variable {X : Cx}
end
section
variable {W : Wd}
end
end L2
set_option Elab.async false
set_option linter.all false
set_option maxRecDepth 100000
set_option maxHeartbeats 4000000
namespace L2
open PySem PySem.Spec PyProof.Rows
section
variable {X : Cx}{W : Wd}{pos : Pos}{dA : DA}
end
section
variable {X : Cx}{W : Wd}{a b : Expr}{pos : Pos}{da db : DE}
end
end L2
set_option Elab.async false
set_option linter.all false
set_option maxRecDepth 100000
set_option maxHeartbeats 4000000
namespace L2
open PySem PySem.Spec PyProof.Rows
section
variable {κ : Type}[DecidableEq κ]
def valV (kvs : List (κ × V))(k : κ) : Option V := (kvs.find? fun kv => decide (kv.1 = k)).map (·.2)
def putK (kvs : List (κ × V))(k : κ)(v : V) : List (κ × V) :=
  if (kvs.any fun kv => decide (kv.1 = k)) = true then kvs.map (fun kv => if kv.1 = k then (kv.1,v) else kv) else kvs ++ [(k,v)]
def dropK (kvs : List (κ × V))(k : κ) : List (κ × V) := kvs.filter fun kv => decide (kv.1 ≠ k)
theorem KV.drop {kvs : List (κ × V)}{vs : List (κ × Value)}(r : KV kvs vs)(k : κ) : KV (dropK kvs k) (without vs k) := by
  unfold KV at r ⊢
  unfold dropK without
  induction r with
  | nil => exact .nil
  | @cons p q ps qs h t ih =>
    obtain ⟨h1,h2⟩ := h
    rw [List.filter_cons,List.filter_cons]
    by_cases e : p.1 = k
    · have a : ¬ decide (p.1 ≠ k) = true := by simp [e]
      have b : ¬ decide (q.1 ≠ k) = true := by simp [h1.symm.trans e]
      rw [if_neg a,if_neg b]; exact ih
    · have e' : ¬ q.1 = k := fun z => e (h1.trans z)
      have a : decide (p.1 ≠ k) = true := by simp [e]
      have b : decide (q.1 ≠ k) = true := by simp [e']
      rw [if_pos a,if_pos b]; exact .cons ⟨h1,h2⟩ ih
theorem KV.length {kvs : List (κ × V)}{vs : List (κ × Value)}(r : KV kvs vs) : kvs.length = vs.length := Paired.length r
end
abbrev KT (H : Hp) : List (List Key × V) -> List (List Key × Addr × Value) -> Prop := Paired fun p q => p.1 = q.1 /\ H q.2.1 = some (.tup (p.1.map kV)) /\ RelV p.2 q.2.2
section
variable {P : Program}{w : World}{H : Hp}{h : Heap}{a : Addr}
end
def DGet (H : Hp)(a : Addr)(y : V)(r : Option V) : Prop :=
  (∃ kvs k,Rd H a (.dK kvs) /\ y = kV k /\ r = valV kvs k) \/ ∃ kvs k b,Rd H a (.dT kvs) /\ y = .ref b /\ H b = some (.tup (k.map kV)) /\ r = valV kvs k
def DPut (H : Hp)(a : Addr)(y v : V)(H' : Hp) : Prop :=
  (∃ kvs k,H a = some (.dK kvs) /\ y = kV k /\ kvs.length < sizeLine /\ H' = upd H a (.dK (putK kvs k v))) \/
  ∃ kvs k b,H a = some (.dT kvs) /\ y = .ref b /\ H b = some (.tup (k.map kV)) /\ kvs.length < sizeLine /\ H' = upd H a (.dT (putK kvs k v))
theorem DGet.k {H : Hp}{a : Addr}{kvs : List (Key × V)}{k : Key}(e : H a = some (.dK kvs)) : DGet H a (kV k) (valV kvs k) := .inl ⟨kvs,k,.inl e,rfl,rfl⟩
theorem DGet.t {H : Hp}{a b : Addr}{kvs : List (List Key × V)}{k : List Key}(e : H a = some (.dT kvs))(eb : H b = some (.tup (k.map kV))) : DGet H a (.ref b) (valV kvs k) := .inr ⟨kvs,k,b,.inl e,rfl,eb,rfl⟩
theorem DPut.k {H : Hp}{a : Addr}{kvs : List (Key × V)}{k : Key}{v : V}(e : H a = some (.dK kvs))(hl : kvs.length < sizeLine) : DPut H a (kV k) v (upd H a (.dK (putK kvs k v))) := .inl ⟨kvs,k,e,rfl,hl,rfl⟩
theorem DPut.t {H : Hp}{a b : Addr}{kvs : List (List Key × V)}{k : List Key}{v : V}(e : H a = some (.dT kvs))(eb : H b = some (.tup (k.map kV)))(hl : kvs.length < sizeLine) :
    DPut H a (.ref b) v (upd H a (.dT (putK kvs k v))) := .inr ⟨kvs,k,b,e,rfl,eb,hl,rfl⟩
section
variable {X : Cx}{pins : List (Addr × Obj)}{σ : St}{H : Hp}{s : Shared}{a : Addr}{y v : V}{u r : Value}{o : Option V}{A : Around}{E : Value -> Shared -> Prop}
theorem Inv.big (I : Inv X pins σ H s) : sysModules < s.heap.objs.size := by
  have h : mainGlobals < s.heap.objs.size := (I.mod.glob.keeps I.bk).lt
  exact Nat.lt_trans (by decide) h
theorem d_write {h' : Heap}{t' : Nat}{ob : HO}(I : Inv X pins σ H s)(mu : Mut (H a))(hs : Heap.SameBut a s.heap h')(he : ∃ q,h'.get? a = some q)(new : ObjOk X.prog X.w (upd H a ob) h' a ob) :
    Inv X pins σ (upd H a ob) { s with heap := h',toks := t' } :=
  I.write (x := a) (e := a) mu (.inl rfl) (fun b q hb z => (hs.2 b hb).trans z) he new
end
section
variable {X : Cx}{pins : List (Addr × Obj)}{σ : St}{H : Hp}{s : Shared}{a : Addr}{kvs : List (Key × V)}{k : Key}{u : Value}{A : Around}{E : Value -> Shared -> Prop}
end
section
variable {X : Cx}{o i e value : Expr}{pos pos' tpos : Pos}{td ty tv : TE}
end
section
variable {X : Cx}{pos : Pos}
end
def tPairs : List (TE × TE) -> St -> Hp -> (List (V × V) -> Hp -> Prop) -> Prop
  | [],_,H,Q => Q [] H
  | (tk,tv) :: r,σ,H,Q => tk σ H fun x H1 => tv σ H1 fun y H2 => tPairs r σ H2 fun ps H3 => Q ((x,y) :: ps) H3
abbrev VV : List (V × V) -> List (Value × Value) -> Prop := Paired fun p q => RelV p.1 q.1 /\ RelV p.2 q.2
def PPs (X : Cx)(pos : Pos)(keys : List (Option Expr))(values : List Expr)(trs : List (TE × TE)) : Prop :=
  ∀ (pins : List (Addr × Obj)) (s : Shared) (σ : St) (H : Hp) (Q : List (V × V) -> Hp -> Prop),Inv X pins σ H s -> tPairs trs σ H Q ->
    wpAny (model X.prog X.w) X.A (evalPairs (pairTrees keys values X.env pos)) (fun vs s' => ∃ ps H',Inv X pins σ H' s' /\ VV ps vs /\ Q ps H') X.xe s
theorem pps_nil {X : Cx}{pos : Pos} : PPs X pos [] [] [] := fun pins s σ H Q I h => pairTrees_nil_walk ⟨[],H,I,.nil,h⟩
theorem pps_cons {X : Cx}{pos : Pos}{k v : Expr}{ks : List (Option Expr)}{vs : List Expr}{tk tv : TE}{trs : List (TE × TE)}(hk : PE X k tk)(hv : PE X v tv)(hr : PPs X pos ks vs trs) :
    PPs X pos (some k :: ks) (v :: vs) ((tk,tv) :: trs) := fun pins s σ H Q I h =>
  pairTrees_cons_walk (thn (hk pins s σ H _ I h) fun u s1 ⟨x,H1,I1,rx,q1⟩ => thn (hv pins s1 σ H1 _ I1 q1) fun w2 s2 ⟨y,H2,I2,ry,q2⟩ =>
    thn (hr pins s2 σ H2 _ I2 q2) fun ws s3 ⟨ps,H3,I3,rel,q3⟩ => ⟨(x,y) :: ps,H3,I3,.cons ⟨rx,ry⟩ rel,q3⟩)
structure M2 (X : Cx)(o : Expr)(m : Str)(apos : Pos)(e f : Expr)(cpos : Pos) : Prop where
  base : attributeBase o m X.env (eval o X.env) = eval o X.env
  few : ((backTo cpos (starEach [e,f] X.env)).all (fun x => !x.1) && (backToKw cpos (keywordEach [] X.env)).all (fun x => x.1.isSome)
    && decide (([e,f] : List Expr).length + ([] : List Keyword).length + (if ([] : List Keyword).isEmpty then 0 else 1) < 30)) = true
  line : (apos.endLine == cpos.line) = true
  trees : backTo cpos (starEach [e,f] X.env) = [(false,eval e X.env),(false,eval f X.env)]
section
variable {X : Cx}{pins : List (Addr × Obj)}{σ : St}{H : Hp}{s : Shared}{a : Addr}{y d : V}{u r : Value}{o : Option V}{A : Around}{E : Value -> Shared -> Prop}
end
section
variable {X : Cx}{o e f : Expr}{apos cpos : Pos}{td ty tx : TE}
end
section
variable {X : Cx}{pins : List (Addr × Obj)}{σ : St}{H : Hp}{s : Shared}{a : Addr}{kvs : List (Key × V)}{A : Around}{E : Value -> Shared -> Prop}
end
section
variable {X : Cx}{pins : List (Addr × Obj)}{σ : St}{H : Hp}{s : Shared}{a : Addr}{y : V}{u : Value}{A : Around}{E : Value -> Shared -> Prop}
end
end L2
set_option Elab.async false
set_option linter.all false
set_option maxRecDepth 100000
set_option maxHeartbeats 4000000
namespace L2
open PySem PySem.Spec PyProof.Rows
section
variable {X : Cx}{pins : List (Addr × Obj)}{σ : St}{H : Hp}{s : Shared}{a b : Addr}{v : V}{u r : Value}{A : Around}{E : Value -> Shared -> Prop}
end
end L2
set_option Elab.async false
set_option linter.all false
set_option maxRecDepth 100000
set_option maxHeartbeats 4000000
namespace L2
open PySem PySem.Spec PyProof.Rows
abbrev Ens := List (List Int × Addr × Value)
abbrev tiK (P : Program)(w : World) := tupleKind (intKind P w)
theorem int_items {P : Program}{w : World} : ∀ {ns : List Int} {us : List Value},Vals (ns.map V.int) us -> ItemsAre (intKind P w) ns us
  | [],_,h => by cases h; exact .nil
  | n :: ns,_,h => by
    cases h with
    | cons h t =>
      obtain ⟨t',rfl⟩ := h
      exact .cons (by simp [intKind,Value.isInt]) (int_items t)
def KeysT (K : PySem.W.Frag)(H : Hp)(es : Ens) : Prop := ∀ e ∈ es,SqT K H e.2.1 (e.1.map V.int)
section
variable {X : Cx}{pins : List (Addr × Obj)}{σ : St}{H : Hp}{s : Shared}{a b : Addr}{es : Ens}{ep : Nat}{ns : List Int}
theorem Inv.tkey (I : Inv X pins σ H s)(h : SqT X.K H b (ns.map V.int)) : (tiK X.prog X.w).is s.heap ns b := by
  obtain ⟨its,r,⟨o,h1,h2,n,h3⟩,_⟩ := I.tuple h
  exact ⟨o,its.toArray,n,h1,h2,h3,int_items r⟩
theorem Inv.dct (I : Inv X pins σ H s)(h : H a = some (DOb a es ep))(hk : KeysT X.K H es) : ((a == sysModules) = false /\ es.length <= sizeLine) /\ s.heap.DictOfH (tiK X.prog X.w) a es := by
  obtain ⟨⟨⟨h1,h2,h3⟩,o,ds,e1,e2,e3,e4⟩,_⟩ := I.hok a _ h
  exact ⟨⟨h1,h2⟩,o,ds,ep,e1,e2,e3,e4,fun x hx => I.tkey (hk x hx),h3⟩
theorem DOb_ok {P : Program}{w : World}{H : Hp}{h : Heap}(h1 : (a == sysModules) = false)(h2 : es.length <= sizeLine)(h3 : (es.map (·.1)).Nodup){o : Obj}{ds : Array DictEntry}(e1 : h.get? a = some o)(e2 : o.ExactDict)(e3 : o.data = .dict ds ep)(e4 : ds.toList = es.map dEnt) : ObjOk P w H h a (DOb a es ep) :=
  ⟨⟨⟨h1,h2,h3⟩,o,ds,e1,e2,e3,e4⟩,⟨o,e1⟩,fun g1 g2 ⟨q,o,ds,f1,f2⟩ k => ⟨q,o,ds,k o f1,f2⟩⟩
theorem length_storedH (es : Ens)(k : List Int)(b : Addr)(v : Value) : (storedH es k b v).length <= es.length + 1 := by
  unfold storedH
  split
  · rw [List.length_map]; omega
  · simp
def tDGetE (K : PySem.W.Frag)(td ty tx : TE) : TE := fun σ H Q => td σ H fun x H1 => ∃ a es ep,x = .ref a /\ H1 a = some (DOb a es ep) /\ KeysT K H1 es /\ ty σ H1 fun y H2 => tx σ H2 fun z H3 => ∃ b ns,y = .ref b /\ H3 a = some (DOb a es ep) /\ KeysT K H3 es /\ SqT K H3 b (ns.map V.int) /\
  (atKey es ns = none -> Q z H3) /\ ∀ p,atKey es ns = some p -> ∃ v,RelV v p.2 /\ Q v H3
theorem pe_dgetE {o e f : Expr}{apos cpos : Pos}{td ty tx : TE}(hu : X.A.units + 1 < cLine)(ho : PE X o td)(he : PE X e ty)(hf : PE X f tx)(m : M2 X o "get" apos e f cpos) : PE X (.Call (.Attribute o "get" apos) [e,f] [] cpos) (tDGetE X.K td ty tx) := by
  intro pins s σ H Q I h
  refine wpAny_Call_method m.base m.few m.line PySem.F.plainAttrs_dict PySem.F.slot_dict_get PySem.F.type_dict_get (thn (ho pins s σ H _ I h) fun u s1 hx => ?_)
  obtain ⟨x,H1,I1,rx,a,es,ep,rfl,hd,hk,q1⟩ := hx
  cases rx
  obtain ⟨_,dd1⟩ := I1.dct hd hk
  refine ⟨dd1.typeIs,dictOfH_noDict dd1,?_⟩
  rw [m.trees]
  refine Calls.callWith_builtin rfl (Calls.evalArgs_plain (Calls.spliced_cons (thn (he pins s1 σ H1 _ I1 q1) fun iv s2 hy => ?_)))
  obtain ⟨y,H2,I2,ry,q2⟩ := hy
  refine Calls.spliced_cons (thn (hf pins s2 σ H2 _ I2 q2) fun fv s3 hz => Calls.spliced_nil ?_)
  obtain ⟨z,H3,I3,rz,b,ns,rfl,hd3,hk3,hb,qn,qs⟩ := hz
  cases ry
  obtain ⟨⟨h1,h2⟩,dd⟩ := I3.dct hd3 hk3
  refine call_meetsIn PySem.F.slot_dict_get dd.typeIs PySem.F.entry_dict_get (PySem.F.args_dict_get_3 _ _ _) (meetsH_dict_get_default (tiK X.prog X.w) a b h1 fv) ⟨tupleKind_room_in1 hu,ns,es,I3.tkey hb,dd,?_⟩
  cases hat : atKey es ns with
  | none => exact ⟨z,H3,I3.tok _,rz,qn hat⟩
  | some p => obtain ⟨v,rv,qv⟩ := qs p hat; exact ⟨v,H3,I3.tok _,rv,qv⟩
end
theorem SqT.upd_ext {K : PySem.W.Frag}{H : Hp}{a b : Addr}{xs : List V}{φ : Heap -> Prop}{o : HO}(e : H a = some (.ext φ))(h : SqT K H b xs) : SqT K (upd H a o) b xs := by
  rcases h with (h | ⟨u,h⟩) | h
  · exact .inl (.inl (by rw [upd_ne (ne_of h e (fun z => nomatch z))]; exact h))
  · exact .inl (.inr ⟨u,by rw [upd_ne (ne_of h e (fun z => nomatch z))]; exact h⟩)
  · exact .inr h
section
variable {X : Cx}{pins : List (Addr × Obj)}{σ : St}{H : Hp}{s : Shared}{a b : Addr}{es : Ens}{ep : Nat}{ns : List Int}{A : Around}{E : Value -> Shared -> Prop}{r : Value}
theorem d_storeD {Q : Unit -> Shared -> Prop}(hu : A.units < cLine)(I : Inv X pins σ H s)(e : H a = some (DOb a es ep))(hk : KeysT X.K H es)(hb : SqT X.K H b (ns.map V.int))(l : es.length < sizeLine)(h : ∀ s' ep',Inv X pins σ (upd H a (DOb a (storedH es ns b r) ep')) s' -> Q () s') :
    wpAny (model X.prog X.w) A (dictSet a (.ref b) r) Q E s := by
  obtain ⟨⟨h1,h2⟩,dd⟩ := I.dct e hk
  refine wpAny_dictSet_heap (hsz := h2) hu (I.tkey hb) dd fun h' dd' hs => ?_
  obtain ⟨o,ds,ep',e1,e2,e3,e4,_,e5⟩ := dd'
  exact h _ ep' (d_write I (by rw [e]; exact True.intro) hs ⟨o,e1⟩ (DOb_ok h1 (Nat.le_trans (length_storedH es ns b r) l) e5 e1 e2 e3 e4))
def newE (more : List (List Int × Addr × V))(us : List Value) : Ens := List.zipWith (fun x u => (x.1,x.2.1,u)) more us
theorem d_storeAllD {Q : PUnit -> Shared -> Prop}(hu : A.units < cLine) : ∀ (more : List (List Int × Addr × V)) (ws : List (Value × Value)) (es : Ens) (ep : Nat) (H : Hp) (s : Shared),Inv X pins σ H s -> H a = some (DOb a es ep) -> KeysT X.K H es -> (∀ x ∈ more,SqT X.K H x.2.1 (x.1.map V.int)) -> es.length + more.length <= sizeLine -> (more.map (·.1)).Nodup -> (∀ x ∈ more,atKey es x.1 = none) -> VV (more.map fun x => (.ref x.2.1,x.2.2)) ws ->
    (∀ s' us ep',Vals (more.map (·.2.2)) us -> Inv X pins σ (upd H a (DOb a (es ++ newE more us) ep')) s' -> Q PUnit.unit s') -> wpAny (model X.prog X.w) A (storeAll a ws) Q E s
  | [],ws,es,ep,H,s,I,e,hk,hm,hl,nd,hn,rel,h => by
    cases rel
    unfold storeAll
    refine wpAny_pure (h s [] ep .nil ?_)
    have : upd H a (DOb a (es ++ newE [] []) ep) = H := by
      funext c
      by_cases z : c = a
      · subst z; rw [upd_same,show es ++ newE [] [] = es from List.append_nil es]; exact e.symm
      · rw [upd_ne z]
    rw [this]; exact I
  | x :: more,ws,es,ep,H,s,I,e,hk,hm,hl,nd,hn,rel,h => by
    rw [List.map_cons] at rel
    cases rel with
    | @cons p q ps qs h1 t =>
      obtain ⟨q1,q2⟩ := q
      cases (show q1 = Value.ref x.2.1 from h1.1)
      unfold storeAll
      rw [List.forIn_cons]
      refine wpAny_bind (wpAny_bind ?_)
      rw [List.map_cons,List.nodup_cons] at nd
      rw [List.length_cons] at hl
      have est := storedH_new (hn x (List.mem_cons_self ..)) x.2.1 q2
      refine d_storeD (ns := x.1) hu I e hk (hm x (List.mem_cons_self ..)) (by omega) fun s' ep' I' => wpAny_pure ?_
      rw [est] at I'
      refine d_storeAllD hu more qs (es ++ [(x.1,x.2.1,q2)]) ep' _ s' I' upd_same (fun y hy => ?_) (fun y hy => ?_) (by rw [List.length_append,List.length_singleton]; omega) nd.2 (fun y hy => ?_) t fun s2 us ep2 hv I2 => h s2 (q2 :: us) ep2 (.cons h1.2 hv) ?_
      · rcases List.mem_append.mp hy with z | z
        · exact (hk y z).upd_ext e
        · rw [List.mem_singleton.mp z]; exact (hm x (List.mem_cons_self ..)).upd_ext e
      · exact (hm y (List.mem_cons_of_mem _ hy)).upd_ext e
      · have q := hn y (List.mem_cons_of_mem _ hy)
        have ne : ¬ x.1 = y.1 := fun z => nd.1 (List.mem_map.mpr ⟨y,hy,z.symm⟩)
        unfold atKey at q ⊢
        rw [Option.map_eq_none_iff] at q ⊢
        rw [List.find?_append,q]
        simp [ne]
      · rw [upd_upd,List.append_assoc] at I2; exact I2
end
def tDispD (K : PySem.W.Frag)(trs : List (TE × TE)) : TE := fun σ H Q => ∀ p,H p = none -> tPairs trs σ (upd H p (DOb p [] 0)) fun ps H2 => H2 p = some (DOb p [] 0) /\ ∃ more : List (List Int × Addr × V),ps = more.map (fun x => (.ref x.2.1,x.2.2)) /\ (∀ x ∈ more,SqT K H2 x.2.1 (x.1.map V.int)) /\ more.length <= 15 /\
  (more.map (·.1)).Nodup /\ ∀ us ep,Vals (more.map (·.2.2)) us -> Q (.ref p) (upd H2 p (DOb p (newE more us) ep))
theorem pe_dispD {X : Cx}{pos : Pos}{keys : List (Option Expr)}{values : List Expr}{trs : List (TE × TE)}(hu : X.A.units < cLine)(h : PPs X pos keys values trs)(hall : keys.all (·.isSome) = true)(hl : keys.length = values.length)(h0 : keys ≠ [])
    (h15 : keys.length <= 15) : PE X (.Dict keys values pos) (tDispD X.K trs) := by
  intro pins s σ H Q I q
  have hn := I.hok.fresh (Nat.le_refl s.heap.objs.size)
  have I1 := I.laid (a := s.heap.objs.size) (o := DOb s.heap.objs.size [] 0) (h' := s.heap.push { cls := .type "dict",data := .dict #[] }) (t' := s.toks) (fun _ _ q => Heap.get?_push_of_some _ q) (Nat.le_refl _) (DOb_ok (beq_eq_false_iff_ne.mpr (Ne.symm (Nat.ne_of_lt I.big))) (Nat.zero_le _) List.nodup_nil (Heap.get?_push_size _ rfl) ⟨rfl,rfl,rfl⟩ rfl rfl)
  refine wpAny_Dict_any hall hl h0 h15 (thn (h pins _ σ _ _ I1 (q _ hn)) fun ws s2 hx => ?_)
  obtain ⟨ps,H2,I2,rel,e,more,rfl,hk,lk,nd,q2⟩ := hx
  refine d_storeAllD hu more ws [] 0 H2 s2 I2 e (fun _ z => by cases z) hk (by rw [List.length_nil,sizeLine_eq]; omega) nd (fun _ _ => rfl) rel fun s' us ep hv I' => ?_
  exact ⟨.ref s.heap.objs.size,_,I',rfl,q2 us ep hv⟩
end L2
set_option Elab.async false
set_option linter.all false
set_option maxRecDepth 100000
set_option maxHeartbeats 4000000
namespace L2
open PySem PySem.Spec PyProof.Rows
def findD : List (List Int) -> List D -> List Int -> Option D
  | k :: ks,x :: xs,n => if k = n then some x else findD ks xs n
  | _,_,_ => none
theorem atKey_cons {e : List Int × Addr × Value}{es : Ens}{n : List Int} : atKey (e :: es) n = if e.1 = n then some e.2 else atKey es n := by
  unfold atKey
  rw [List.find?_cons]
  by_cases z : e.1 = n
  · simp [z]
  · simp [z]
theorem findD_rep {K : PySem.W.Frag}{M : Addr -> Prop}{H : Hp} : ∀ {es : Ens} {ks : List (List Int)} {vs : List V} {xs : List D} (n : List Int),es.map (·.1) = ks -> Vals vs (es.map (·.2.2)) -> Reps K M H xs vs ->
    match findD ks xs n with | some d => ∃ p v,atKey es n = some p /\ RelV v p.2 /\ Rep K M H d v | none => atKey es n = none
  | [],ks,vs,xs,n,e,hv,r => by
    subst e
    unfold findD; rfl
  | e :: es,ks,vs,[],n,ek,hv,r => by
    rw [show vs = [] from r] at hv
    cases hv
  | e :: es,ks,vs,x :: xs,n,ek,hv,r => by
    subst ek
    obtain ⟨v,vs,rfl,rx,rr⟩ := r
    rw [List.map_cons] at hv
    cases hv with
    | cons h1 h2 =>
    have ih := findD_rep (ks := es.map (·.1)) (xs := xs) n rfl h2 rr
    rw [atKey_cons,List.map_cons]
    unfold findD
    by_cases z : e.1 = n
    · rw [if_pos z,if_pos z]
      exact ⟨e.2,v,rfl,h1,rx⟩
    · rw [if_neg z,if_neg z]
      exact ih
theorem DctE.keys {K : PySem.W.Frag}{M : Addr -> Prop}{H : Hp}{es : Ens}{ks : List (List Int)}{vs : List V}(h : DctE K M H es ks vs) : KeysT K H es := fun e m => (h.2.1 e m).sq
section
variable {X : Cx}{W : Wd}{e f : Expr}{es : List Expr}{pos : Pos}{dA : DA}{df : DE}
def dGet2 (i : Nat)(dA : DA)(df : DE) : DE := fun ρ P => match ρ[i]? with
  | some (some (.dct t ks xs)) => dA ρ fun ys => (match intsOf ys with | some ns => ys.length <= 1000 /\ df ρ fun z => plain z = true /\ P ((findD ks xs ns).getD z) | none => False)
  | _ => False
theorem up_get2 {i : Nat}(hK : X.K = W.K) : ∀ σ H Q,dn W (dGet2 i dA df) σ H Q -> tDGetE X.K (tVar i) (tTup (dnA W dA)) (dn W df) σ H Q := fun σ H Q hh => hh.elim fun pn M b ρ P st h k => by
  rw [hK]
  unfold dGet2 at h
  split at h
  case h_2 => exact h.elim
  case h_1 t ks xs e =>
    obtain ⟨v,ev,a,us,rfl,⟨nm,hd,hE⟩,rr⟩ := st.env i _ e
    refine ⟨.ref a,ev,a,t.1,t.2,rfl,hd,hE.keys,pn,M,b,ρ,_,st,h,fun ys vs H1 hy ry k1 o1 => ?_⟩
    split at hy
    case h_2 => exact hy.elim
    case h_1 ns en =>
      have ey := intsOf.eq en
      subst ey
      have st1 := st.step k1 o1
      have rr1 := ry.reps _ _ (by simp [List.all_map,L2.plain])
      have evs := rr1.ints
      subst evs
      refine ⟨by rw [rr1.length]; exact Nat.le_trans hy.1 le1000,fun p hp => ?_⟩
      have kp : Kp b H1 (upd H1 p (.tup (ns.map V.int))) := Kp.upd hp
      have okp := st1.toHs.okU (o := .tup (ns.map V.int)) hp
      refine ⟨pn,M,b,ρ,_,st1.step kp okp,hy.2,fun z u H3 hz rz k3 o3 => ?_⟩
      have kk : Kp b H H3 := (k1.trans kp).trans k3
      have nb : ∀ c o,¬ M c -> H c = some o -> H3 c = some o := fun c o n q => kk c o (fun z => n (st.bagM c z)) q
      have npb : b ≠ some p := fun z => by
        obtain ⟨o,q⟩ := W.B.dm p H1 (st1.ok p z)
        rw [hp] at q; cases q
      have ht : H3 p = some (.tup (ns.map V.int)) := k3 p _ npb upd_same
      have hE3 := hE.keep nb
      have q := findD_rep (ks := ks) ns hE3.1 hE3.2.2 (Reps.keep nb _ _ rr)
      refine ⟨p,ns,rfl,nb a _ nm hd,hE3.keys,.inl (.inl ht),fun hn => ?_,fun p hs => ?_⟩
      · cases ef : findD ks xs ns with
        | none => rw [ef] at hz; exact k _ _ H3 hz.2 rz kk o3
        | some d => rw [ef] at q; obtain ⟨p,v,e1,_⟩ := q; rw [hn] at e1; cases e1
      · cases ef : findD ks xs ns with
        | none => rw [ef] at q; rw [show atKey t.1 ns = none from q] at hs; cases hs
        | some d =>
          rw [ef] at q hz
          obtain ⟨p',v,e1,rv,r1⟩ := q
          rw [hs] at e1; cases e1
          exact ⟨v,rv,k _ _ H3 hz.2 r1.x kk o3⟩
theorem jde_get2 {i : Nat}{x : Str}{k : Nat}{npos apos cpos tpos : Pos}(hK : X.K = W.K)(hu : X.A.units + 64 < cLine)(ha : JA X W es dA)(hf : JE X W f df)(hN : X.N[i]? = some x)(hv : Vis X.env.scope x)(m : M2 X (.Name x npos) "get" apos (.Tuple es k tpos) f cpos) (hd : (x == ("__debug__" : Str)) = false := by decide)
    (hcd : (x == ("__classdict__" : Str)) = false := by decide) : JE X W (.Call (.Attribute (.Name x npos) "get" apos) [.Tuple es k tpos,f] [] cpos) (dGet2 i dA df) :=
  ⟨(pe_dgetE (by omega) (pe_var hN hv hd hcd) (pe_tup ha.h) hf.h m).mono (up_get2 hK)⟩
def dPairs : List (DA × DE) -> Ev -> (List (List Int × Int) -> Prop) -> Prop
  | [],_,P => P []
  | (dk,dv) :: r,ρ,P => dk ρ fun ys => match intsOf ys with
    | some ns => ys.length <= 1000 /\ dv ρ fun z => (match z with | .int n => dPairs r ρ fun ps => P ((ns,n) :: ps) | _ => False)
    | none => False
def dDict (ps : List (DA × DE)) : DE := fun ρ P => dPairs ps ρ fun kx => ((kx.map (·.1)).Nodup /\ kx.length <= 15) /\ ∀ t,P (.dct t (kx.map (·.1)) (kx.map fun p => .int p.2))
theorem up_pairs {pn : List (D × V)}{M : Addr -> Prop}{b : Option Addr}{σ : St}{ρ : Ev}{Qp : List (V × V) -> Hp -> Prop} : ∀ (ps : List (DA × DE)) (H : Hp) (P : List (List Int × Int) -> Prop),Sta W pn M b H σ ρ -> dPairs ps ρ P ->
    (∀ (more : List (List Int × Addr × V)) (kx : List (List Int × Int)) H',P kx -> more.map (·.1) = kx.map (·.1) -> more.map (·.2.2) = kx.map (fun p => .int p.2) -> (∀ x ∈ more,¬ M x.2.1 /\ H' x.2.1 = some (.tup (x.1.map V.int))) -> Kp b H H' -> okB W.B b H' -> Qp (more.map fun x => (.ref x.2.1,x.2.2)) H') ->
    tPairs (ps.map fun p => (tTup (dnA W p.1),dn W p.2)) σ H Qp
  | [],H,P,st,h,k => k [] [] H h rfl rfl (fun x hx => by cases hx) (Kp.refl _ _) st.ok
  | (dk,dv) :: ps,H,P,st,h,k => by
    rw [List.map_cons]
    refine ⟨pn,M,b,ρ,_,st,h,fun ys vs H1 hy ry k1 o1 => ?_⟩
    split at hy
    case h_2 => exact hy.elim
    case h_1 ns en =>
      have ey := intsOf.eq en
      subst ey
      have st1 := st.step k1 o1
      have rr1 := ry.reps _ _ (by simp [List.all_map,L2.plain])
      have evs := rr1.ints
      subst evs
      refine ⟨by rw [rr1.length]; exact Nat.le_trans hy.1 le1000,fun p hp => ?_⟩
      have kp : Kp b H1 (upd H1 p (.tup (ns.map V.int))) := Kp.upd hp
      have okp := st1.toHs.okU (o := .tup (ns.map V.int)) hp
      have nM := st1.toHs.new hp
      have npb : b ≠ some p := fun z => nM (st.bagM p z)
      refine ⟨pn,M,b,ρ,_,st1.step kp okp,hy.2,fun z u H3 hz rz k3 o3 => ?_⟩
      cases z <;> first | exact hz.elim | skip
      rename_i n
      cases (show _ = _ from rz)
      refine up_pairs ps H3 _ ((st1.step kp okp).step k3 o3) hz fun more kx H' hP e1 e2 hk k4 o4 => ?_
      refine k ((ns,p,.int n) :: more) ((ns,n) :: kx) H' hP (by rw [List.map_cons,List.map_cons,e1]) (by rw [List.map_cons,List.map_cons,e2]) (fun x hx => ?_) (((k1.trans kp).trans k3).trans k4) o4
      rcases List.mem_cons.mp hx with z | z
      · subst z
        exact ⟨nM,k4 p _ npb (k3 p _ npb upd_same)⟩
      · exact hk x z
theorem newE_len {more : List (List Int × Addr × V)}{us : List Value}(h : Vals (more.map (·.2.2)) us) : us.length = more.length := by
  have := h.length; simpa using this.symm
theorem newE_keys : ∀ {more : List (List Int × Addr × V)} {us : List Value},us.length = more.length -> (newE more us).map (·.1) = more.map (·.1) /\ (newE more us).map (·.2.2) = us /\ ∀ e ∈ newE more us,∃ x ∈ more,e.1 = x.1 /\ e.2.1 = x.2.1
  | [],[],_ => ⟨rfl,rfl,fun _ h => by cases h⟩
  | x :: more,[],h => by simp at h
  | [],u :: us,h => by simp at h
  | x :: more,u :: us,h => by
    obtain ⟨i1,i2,i3⟩ := newE_keys (more := more) (us := us) (by simpa using h)
    rw [show newE (x :: more) (u :: us) = (x.1,x.2.1,u) :: newE more us from rfl]
    refine ⟨by rw [List.map_cons,List.map_cons,i1],by rw [List.map_cons,i2],fun e m => ?_⟩
    rcases List.mem_cons.mp m with z | z
    · subst z; exact ⟨x,List.mem_cons_self ..,rfl,rfl⟩
    · obtain ⟨y,hy,q⟩ := i3 e z; exact ⟨y,List.mem_cons_of_mem _ hy,q⟩
theorem Reps.of_ints {K : PySem.W.Frag}{M : Addr -> Prop}{H : Hp} : ∀ (kx : List (List Int × Int)),Reps K M H (kx.map fun p => .int p.2) (kx.map fun p => V.int p.2)
  | [] => rfl
  | y :: kx => ⟨_,_,rfl,rfl,Reps.of_ints kx⟩
theorem jde_dict {keys : List (Option Expr)}{values : List Expr}(ps : List (DA × DE))(hK : X.K = W.K)(hu : X.A.units + 64 < cLine)(h : PPs X pos keys values (ps.map fun p => (tTup (dnA W p.1),dn W p.2)))(hall : keys.all (·.isSome) = true := by rfl)(hl : keys.length = values.length := by rfl)(h0 : keys ≠ [] := by intro z; cases z)
    (h15 : keys.length <= 15 := by decide) : JE X W (.Dict keys values pos) (dDict ps) := ⟨(pe_dispD (by omega) h hall hl h0 h15).mono fun σ H Q hh => hh.elim fun pn M b ρ P st h k => by
  rw [hK]
  intro p hp
  have kp : Kp b H (upd H p (DOb p [] 0)) := Kp.upd hp
  have okp := st.toHs.okU (o := DOb p [] 0) hp
  have nM := st.toHs.new hp
  have npb : b ≠ some p := fun z => nM (st.bagM p z)
  refine up_pairs ps _ _ (st.step kp okp) h fun more kx H' hP e1 e2 hk k4 o4 => ?_
  have hd := k4 p _ npb upd_same
  have hlen : more.length = kx.length := by have := congrArg List.length e1; simpa using this
  refine ⟨hd,more,rfl,fun x hx => .inl (.inl (hk x hx).2),by rw [hlen]; exact hP.1.2,by rw [e1]; exact hP.1.1,fun us ep hv => ?_⟩
  obtain ⟨n1,n2,n3⟩ := newE_keys (newE_len hv)
  refine k _ _ _ (hP.2 (newE more us,ep)) ⟨p,more.map (·.2.2),rfl,⟨nM,upd_same,by rw [n1,e1],fun e m => ?_,by rw [n2]; exact hv⟩,by rw [e2]; exact Reps.of_ints kx⟩ (fun c o n q => ?_) fun q e => ?_
  · obtain ⟨x,hx,q1,q2⟩ := n3 e m
    rw [q1,q2]
    refine .inl ⟨(hk x hx).1,?_⟩
    rw [upd_ne (ne_of (hk x hx).2 hd (fun z => nomatch z))]
    exact (hk x hx).2
  · have ne : c ≠ p := fun z => by rw [z,hp] at q; cases q
    rw [upd_ne ne]
    exact k4 c o n (kp c o n q)
  · refine W.B.st q H' _ (o4 q e) fun o eo => ?_
    rw [upd_ne (show q ≠ p from fun z => npb (by rw [<- z]; exact e))]
    exact eo⟩
end
end L2
set_option Elab.async false
set_option linter.all false
set_option maxRecDepth 100000
set_option maxHeartbeats 4000000
namespace L2
open PySem PySem.Spec PyProof.Rows
section
variable {X : Cx}{W : Wd}{tg e : Expr}{pos : Pos}{dA : DA}
end
section
variable {X : Cx}{W : Wd}{e : Expr}{pos : Pos}{dA : DA}
end
end L2
set_option Elab.async false
set_option linter.all false
set_option maxRecDepth 100000
set_option maxHeartbeats 4000000
namespace L2
open PySem PySem.Spec PyProof.Rows
def idMap : Nat -> List (Option Nat) -> Bool
  | _,[] => true
  | n,none :: m => idMap (n + 1) m
  | n,some i :: m => (i == n) && idMap (n + 1) m
def subMap : List (Option Nat) -> List (Option Nat) -> Bool
  | [],[] => true
  | none :: m,_ :: n => subMap m n
  | some _ :: m,some _ :: n => subMap m n
  | _,_ => false
structure Blk2 (X : Cx)(N' : List Str)(scope : Scope)(map mp2 : List (Option Nat))(tg tg2 iter2 elt : Expr)(ifs : List Expr)(g : TG)(wi2 : TI)(g2 : TG)(tt : TT)(te : TE) : Prop where
  calm : X.calm = true
  kind : scope.kind = .function
  loc : ∀ x ∈ scope.names,x.2 = .local -> scope.names.lookup x.1 = some .local
  free : (scope.names.all fun p => !(p.2 == NameKind.free) || (X.env.kindOf p.1 == some .cell || X.env.kindOf p.1 == some .free)) = true
  cap : CapOk X scope map N'
  keep : GKeep g map
  keep2 : GKeep g2 mp2
  ids : idMap 0 mp2 = true
  sub : subMap map mp2 = true
  fold : ∀ env x,foldedSetIterable iter2 env x = pure x
  run : ∀ cells C fp s H,PG (cxComp X N' scope cells C fp s H).nox tg g /\ PI (cxComp X N' scope cells C fp s H).nox tg2 iter2 wi2 /\ PG (cxComp X N' scope cells C fp s H).nox tg2 g2 /\ PIf (cxComp X N' scope cells C fp s H).nox ifs tt /\ PE (cxComp X N' scope cells C fp s H).nox elt te
section
variable {X : Cx}{elt iter tg tg2 iter2 : Expr}{ifs : List Expr}{scope : Scope}{pos : Pos}{N' : List Str}{map mp2 : List (Option Nat)}{wi wi2 : TI}{g g2 : TG}{tt : TT}{te : TE}
theorem Blk2.one (B : Blk2 X N' scope map mp2 tg tg2 iter2 elt ifs g wi2 g2 tt te) : Blk X N' scope map tg elt ifs (fun _ _ _ _ => False) (fun _ _ _ => False) (fun _ _ _ => False) :=
  ⟨B.calm,B.kind,B.loc,B.free,B.cap,fun _ _ _ _ z => z.elim,fun _ _ _ _ _ _ => ⟨fun _ _ _ _ _ _ _ _ _ z => z.elim,fun _ _ _ _ _ _ z => z.elim,fun _ _ _ _ _ _ z => z.elim⟩⟩
end
end L2
set_option Elab.async false
set_option linter.all false
set_option maxRecDepth 100000
set_option maxHeartbeats 4000000
namespace L2
open PySem PySem.Spec PyProof.Rows
section
variable {X : Cx}{W : Wd}{elt iter tg tg2 iter2 : Expr}{ifs : List Expr}{scope : Scope}{pos : Pos}{N' : List Str}{map mp2 : List (Option Nat)}{g g2 : TG}{gd gd2 : D -> Ev -> (Ev -> Prop) -> Prop}{di di2 : DA}{dt : DT}{de : DE}
end
end L2
set_option Elab.async false
set_option linter.all false
set_option maxRecDepth 100000
set_option maxHeartbeats 4000000
namespace L2
open PySem PySem.Spec PyProof.Rows
section
variable {X : Cx}{W : Wd}{c : Expr}{dc : DT}{db : DS}{body : List Stmt}{pos : Pos}
end
end L2
set_option Elab.async false
set_option linter.all false
set_option maxRecDepth 100000
set_option maxHeartbeats 4000000
namespace L2
open PySem PySem.Spec PyProof.Rows
section
variable {X : Cx}{W : Wd}{c : Expr}{cs es : List Expr}{pos p pos' p' : Pos}{dC dA : DA}{x f : Str}{k k' : Nat}{ps ps' : List Str}{S : DSp}{pre : List D -> Prop}
end
end L2
set_option Elab.async false
set_option linter.all false
set_option maxRecDepth 100000
set_option maxHeartbeats 4000000
namespace L2
open PySem PySem.Spec PyProof.Rows
section
variable {X : Cx}{W : Wd}{a tg : Expr}{pos p : Pos}{dA : DA}{fz : Bool}
end
end L2
set_option Elab.async false
set_option linter.all false
set_option maxRecDepth 100000
set_option maxHeartbeats 4000000
namespace L2
open PySem PySem.Spec PyProof.Rows
section
variable {X : Cx}{W : Wd}{e e1 e2 : Expr}{es : List Expr}{pos p : Pos}{dA : DA}{x : Str}{k : Nat}{ps : List Str}{S : DSO}
end
end L2
set_option Elab.async false
set_option linter.all false
set_option maxRecDepth 100000
set_option maxHeartbeats 4000000
namespace L2
open PySem PySem.Spec PyProof.Rows
def RowsR (K : PySem.W.Frag)(M : Addr -> Prop)(H : Hp) : List Addr -> List (List D) -> Prop
  | [],rows => rows = []
  | r :: rs,rows => ∃ row rest us,rows = row :: rest /\ H r = some (.lst us) /\ Reps K M H row us /\ RowsR K M H rs rest
section
variable {K : PySem.W.Frag}{M M' : Addr -> Prop}{H H' : Hp}
theorem RowsR.keep : ∀ (rs : List Addr) (rows : List (List D)),(∀ c o,(¬ M c \/ c ∈ rs) -> H c = some o -> H' c = some o) -> RowsR K M H rs rows -> RowsR K M H' rs rows
  | [],_,_,h => h
  | r :: rs,rows,k,h => by
    obtain ⟨row,rest,us,e,h1,h2,h3⟩ := h
    exact ⟨row,rest,us,e,k _ _ (.inr (List.mem_cons_self ..)) h1,Reps.keep (fun c o n e => k c o (.inl n) e) _ _ h2,RowsR.keep rs rest (fun c o q e => k c o (q.imp id (List.mem_cons_of_mem _)) e) h3⟩
theorem RowsR.avoid (k : ∀ c,M' c -> M c \/ H c = none) : ∀ (rs : List Addr) (rows : List (List D)),RowsR K M H rs rows -> RowsR K M' H rs rows
  | [],_,h => h
  | r :: rs,rows,h => by
    obtain ⟨row,rest,us,e,h1,h2,h3⟩ := h
    exact ⟨row,rest,us,e,h1,Reps.avoid k _ _ h2,RowsR.avoid k rs rest h3⟩
theorem RowsR.length : ∀ {rs : List Addr} {rows : List (List D)},RowsR K M H rs rows -> rows.length = rs.length
  | [],_,h => by rw [show _ = [] from h]; rfl
  | r :: rs,rows,h => by
    obtain ⟨row,rest,us,rfl,h1,h2,h3⟩ := h
    simp [RowsR.length h3]
theorem RowsR.lst : ∀ {rs : List Addr} {rows : List (List D)},RowsR K M H rs rows -> ∀ r ∈ rs,∃ us,H r = some (.lst us)
  | [],_,_,r,m => by cases m
  | r :: rs,rows,h,r',m => by
    obtain ⟨row,rest,us,rfl,h1,h2,h3⟩ := h
    rcases List.mem_cons.mp m with z | z
    · rw [z]; exact ⟨us,h1⟩
    · exact RowsR.lst h3 r' z
theorem RowsR.at : ∀ {rs : List Addr} {rows : List (List D)} {k : Nat} {r : Addr},RowsR K M H rs rows -> rs[k]? = some r -> ∃ row us,rows[k]? = some row /\ H r = some (.lst us) /\ Reps K M H row us
  | [],_,_,_,_,e => by simp at e
  | _ :: rs,rows,0,r,h,e => by
    obtain ⟨row,rest,us,rfl,h1,h2,h3⟩ := h
    simp at e; subst e
    exact ⟨row,us,rfl,h1,h2⟩
  | _ :: rs,rows,k + 1,r,h,e => by
    obtain ⟨row,rest,us,rfl,h1,h2,h3⟩ := h
    obtain ⟨row',us',e1,e2⟩ := RowsR.at (k := k) h3 (by simpa using e)
    exact ⟨row',us',by simpa using e1,e2⟩
theorem RowsR.set : ∀ {rs : List Addr} {rows : List (List D)} {k : Nat} {r : Addr} {row : List D} {us : List V},rs.Nodup -> (∀ c ∈ rs,M c) -> RowsR K M H rs rows -> rs[k]? = some r -> Reps K M H row us -> RowsR K M (upd H r (.lst us)) rs (rows.set k row)
  | [],_,_,_,_,_,_,_,_,e,_ => by simp at e
  | r0 :: rs,rows,0,r,row,us,nd,hm,h,e,hr => by
    obtain ⟨row0,rest,us0,rfl,h1,h2,h3⟩ := h
    simp at e; subst e
    have kk : ∀ c o,¬ M c -> H c = some o -> upd H r0 (.lst us) c = some o := fun c o n q => by rw [upd_ne (fun z => n (by rw [z]; exact hm r0 (List.mem_cons_self ..)))]; exact q
    refine ⟨row,rest,us,rfl,upd_same,Reps.keep kk _ _ hr,RowsR.keep rs rest (fun c o q e => ?_) h3⟩
    rcases q with q | q
    · exact kk c o q e
    · rw [upd_ne (fun z => (List.nodup_cons.mp nd).1 (by rw [<- z]; exact q))]; exact e
  | r0 :: rs,rows,k + 1,r,row,us,nd,hm,h,e,hr => by
    obtain ⟨row0,rest,us0,rfl,h1,h2,h3⟩ := h
    have er : rs[k]? = some r := by simpa using e
    have ne : r0 ≠ r := fun z => (List.nodup_cons.mp nd).1 (by rw [z]; exact List.mem_of_getElem? er)
    have kk : ∀ c o,¬ M c -> H c = some o -> upd H r (.lst us) c = some o := fun c o n q => by rw [upd_ne (fun z => n (by rw [z]; exact hm r (List.mem_cons_of_mem _ (List.mem_of_getElem? er))))]; exact q
    exact ⟨row0,rest.set k row,us0,rfl,by rw [upd_ne ne]; exact h1,Reps.keep kk _ _ h2,RowsR.set (List.nodup_cons.mp nd).2 (fun c m => hm c (List.mem_cons_of_mem _ m)) h3 er hr⟩
theorem RowsR.reps {A : List Addr} : ∀ (rs : List Addr) (rows : List (List D)),(∀ r ∈ rs,r ∈ A) -> RowsR K M H rs rows -> Reps K (fun c => M c /\ c ∉ A) H (rows.map D.lst) (rs.map V.ref)
  | [],rows,_,h => by rw [show rows = [] from h]; exact rfl
  | r :: rs,rows,hA,h => by
    obtain ⟨row,rest,us,rfl,h1,h2,h3⟩ := h
    exact ⟨.ref r,_,rfl,⟨r,us,rfl,⟨fun m => m.2 (hA r (List.mem_cons_self ..)),h1⟩,Reps.avoid (fun c m => .inl m.1) _ _ h2⟩,RowsR.reps rs rest (fun c m => hA c (List.mem_cons_of_mem _ m)) h3⟩
end
def gridF (K : PySem.W.Frag)(a : Addr)(rs : List Addr)(rows : List (List D)) : Frg where
  ads := a :: rs
  R := fun M H v => v = .ref a /\ (a :: rs).Nodup /\ H a = some (.lst (rs.map V.ref)) /\ RowsR K M H rs rows
  keep := fun M H H' v k h => ⟨h.1,h.2.1,k _ _ (.inr (List.mem_cons_self ..)) h.2.2.1,RowsR.keep rs rows (fun c o q e => k c o (q.imp id (List.mem_cons_of_mem _)) e) h.2.2.2⟩
  avoid := fun M M' H v k h => ⟨h.1,h.2.1,h.2.2.1,RowsR.avoid k rs rows h.2.2.2⟩
  ref := fun M H v h => ⟨a,h.1⟩
  nt := fun M H v h c m => by
    rcases List.mem_cons.mp m with z | z
    · rw [z]; exact ⟨_,h.2.2.1,fun _ y => by cases y⟩
    · obtain ⟨us,e⟩ := h.2.2.2.lst c z
      exact ⟨_,e,fun _ y => by cases y⟩
def rowsL (rows : List (List D)) : D := .lst (rows.map D.lst)
def grd (K : PySem.W.Frag)(a : Addr)(rs : List Addr)(rows : List (List D)) : D := .frg (gridF K a rs rows) (rowsL rows)
theorem grd_rep {W : Wd}{M : Addr -> Prop}{b : Option Addr}{H : Hp}{a : Addr}{rs : List Addr}{rows : List (List D)}(ho : ∀ c ∈ a :: rs,M c /\ b ≠ some c /\ W.H0 c = none /\ ¬ W.M0 c)(nd : (a :: rs).Nodup)(ha : H a = some (.lst (rs.map V.ref)))(hr : RowsR W.K M H rs rows) : RepX W M b H (grd W.K a rs rows) (.ref a) :=
  ⟨ho,⟨rfl,nd,ha,hr⟩,⟨a,_,rfl,⟨fun m => m.2 (List.mem_cons_self ..),ha⟩,RowsR.reps (A := a :: rs) rs rows (fun r m => List.mem_cons_of_mem _ m) hr⟩⟩
theorem grd_of {W : Wd}{M : Addr -> Prop}{b : Option Addr}{H : Hp}{a : Addr}{rs : List Addr}{rows : List (List D)}{v : V}(h : RepX W M b H (grd W.K a rs rows) v) : v = .ref a /\ (∀ c ∈ a :: rs,M c /\ b ≠ some c /\ W.H0 c = none /\ ¬ W.M0 c) /\ (a :: rs).Nodup /\ H a = some (.lst (rs.map V.ref)) /\ RowsR W.K M H rs rows := ⟨h.2.1.1,h.1,h.2.1.2.1,h.2.1.2.2.1,h.2.1.2.2.2⟩
theorem StS.setFrg {W : Wd}{pn : List (D × V)}{M : Addr -> Prop}{b : Option Addr}{H : Hp}{σ : St}{ρ : Ev}{f f' : Frg}{d d' : D}{v : V}{a : Addr}{o : HO}(s : StS W pn M b H σ ρ)(i : Nat)(e : ρ[i]? = some (some (.frg f d)))(ev : σ[i]? = some (some v))(ha : a ∈ f.ads)(hads : ∀ c,c ∈ f'.ads -> c ∈ f.ads)(r : RepX W M b (upd H a o) (.frg f' d') v) :
    StS W pn M b (upd H a o) σ (ρ.set i (some (.frg f' d'))) := by
  obtain ⟨v0,e1,r0⟩ := s.env i _ e
  rw [ev] at e1; cases e1
  obtain ⟨m1,m2,m3,m4⟩ := r0.1 a ha
  have kk : ∀ c u,¬ M c -> H c = some u -> upd H a o c = some u := fun c u n q => by rw [upd_ne (show c ≠ a from fun z => n (by rw [z]; exact m1))]; exact q
  have kb : ∀ c u,c ≠ a -> H c = some u -> upd H a o c = some u := fun c u n q => by rw [upd_ne n]; exact q
  refine s.of2 ⟨⟨fun q z => W.B.st q H _ (s.ok q z) fun u h => kb q u (fun w => m2 (w ▸ z)) h,s.bagM,fun c hc => ?_,s.m0⟩,fun c u n q => kb c u (fun z => by rw [z,m3] at q; cases q) (s.kp c u n q),s.new,fun j d2 e' => ?_,by simp [s.len],fun q hq => (s.pin q hq).to (fun _ _ r => Rep.keep kk _ _ r) (fun _ _ r => Reps.keep kk _ _ r) fun zs a2 us ed ev2 m n hh2 => ⟨m,n,kb _ _ (fun y => s.lj zs a2 (by rw [<- ed,<- ev2]; exact hq) i _ _ e ev (show a2 ∈ f.ads by rw [y]; exact ha)) hh2⟩⟩ (fun _ _ q => q) fun j d2 v2 c e' e2 m => ?_
  · by_cases z : c = a
    · rw [z]; exact ⟨_,upd_same⟩
    · obtain ⟨u,q⟩ := s.dom c hc; exact ⟨u,kb c u z q⟩
  · by_cases z : i = j
    · subst z
      rw [List.getElem?_set] at e'
      simp at e'
      obtain ⟨hl,rfl⟩ := e'
      exact ⟨v,ev,r⟩
    · rw [List.getElem?_set_ne z] at e'
      obtain ⟨w,e1,r1⟩ := s.env j d2 e'
      refine ⟨w,e1,?_⟩
      have na : ¬ mineA d2 w a := fun y => z (s.dj i j _ _ _ _ a e e' ev e1 ha y)
      cases d2
      case own zs =>
        obtain ⟨a2,us2,rfl,n1,n2,n3,n4,hh2,r2⟩ := r1
        exact ⟨a2,us2,rfl,n1,n2,n3,n4,kb _ _ (fun y => na (by rw [y]; rfl)) hh2,Reps.keep kk _ _ r2⟩
      case bag => exact r1
      case frg f2 _ => exact RepX.move r1 (fun c _ m n => ⟨m,n⟩) (fun c u q h => kb c u (fun y => q.elim (fun n => n (by rw [y]; exact m1)) (fun n => na (by show a ∈ f2.ads; rw [<- y]; exact n))) h) fun c m => .inl m
      all_goals exact Rep.keep kk _ _ r1
  · by_cases z : i = j
    · subst z
      rw [List.getElem?_set] at e'
      simp at e'
      obtain ⟨_,rfl⟩ := e'
      exact ⟨_,e,e2,hads c m⟩
    · rw [List.getElem?_set_ne z] at e'
      exact ⟨d2,e',e2,m⟩
theorem RepX.grow {W : Wd}{M M' : Addr -> Prop}{b : Option Addr}{H H' : Hp}{d : D}{v : V}(hM : ∀ c,M' c -> M c \/ H c = none)(sub : ∀ c,M c -> M' c)(hb : ∀ p,b = some p -> M p)(kp : Kp b H H')(r : RepX W M b H d v) : RepX W M' b H' d v := by
  have kk : ∀ c o,¬ M' c -> H c = some o -> H' c = some o := fun c o n e => kp c o (fun z => n (sub c (hb c z))) e
  cases d
  case own ys =>
    obtain ⟨a,us,rfl,m1,m2,m3,m4,hha,r'⟩ := r
    exact ⟨a,us,rfl,sub a m1,m2,m3,m4,kp _ _ m2 hha,Reps.keep kk _ _ (Reps.avoid hM _ _ r')⟩
  case bag => exact r
  case frg f _ => exact RepX.move r (fun c _ m n => ⟨sub c m,n⟩) (fun c o q e => q.elim (fun n => kk c o n e) fun m => kp c o (r.1 c m).2.1 e) hM
  all_goals exact Rep.keep kk _ _ (Rep.avoid hM _ _ r)
theorem Sta.grow {W : Wd}{pn : List (D × V)}{M M' : Addr -> Prop}{b : Option Addr}{H H' : Hp}{σ : St}{ρ : Ev}(s : Sta W pn M b H σ ρ)(hM : ∀ c,M' c -> M c \/ H c = none)(sub : ∀ c,M c -> M' c)(kp : Kp b H H')(ok : okB W.B b H')(dom : ∀ c,M' c -> ∃ o,H' c = some o) : Sta W pn M' b H' σ ρ := by
  have kk : ∀ c o,¬ M' c -> H c = some o -> H' c = some o := fun c o n e => kp c o (fun z => n (sub c (s.bagM c z))) e
  refine ⟨⟨ok,fun q e => sub q (s.bagM q e),dom,fun c m => sub c (s.m0 c m)⟩,(s.step kp ok).kp,s.new,fun j d e => ?_,s.len,fun q hq => (s.pin q hq).to (fun _ _ r => Rep.keep kk _ _ (Rep.avoid hM _ _ r)) (fun _ _ r => Reps.keep kk _ _ (Reps.avoid hM _ _ r)) fun xs a vs _ _ m n hh' => ⟨sub a m,n,kp _ _ n hh'⟩⟩
  obtain ⟨w,e1,r1⟩ := s.env j d e
  exact ⟨w,e1,r1.grow hM sub s.bagM kp⟩
end L2
set_option Elab.async false
set_option linter.all false
set_option maxRecDepth 100000
set_option maxHeartbeats 4000000
namespace L2
open PySem PySem.Spec PyProof.Rows
def dnF (W : Wd)(d : DA) : TE := fun σ H Q => ∃ pn M b ρ P,Sta W pn M b H σ ρ /\ d ρ P /\ ∀ xs vs p H',P xs -> H p = none -> H' p = some (.lst vs) -> Reps W.K (fun c => M c \/ c = p) H' xs vs -> Kp b H H' -> okB W.B b H' -> Q (.ref p) H'
structure JF (X : Cx)(W : Wd)(e : Expr)(d : DA) : Prop where
  h : PE X e (dnF W d)
theorem was_new {B : BagT}{b : Option Addr}{H H' : Hp}{p : Addr}(k : Kp b H H')(o : okB B b H')(h : H' p = none) : H p = none := by
  cases q : H p with
  | none => rfl
  | some u =>
    by_cases z : b = some p
    · obtain ⟨w,e⟩ := B.dm p H' (o p z)
      rw [h] at e; cases e
    · have := k p u z q
      rw [h] at this; cases this
section
variable {X : Cx}{W : Wd}{elt iter tg : Expr}{ifs : List Expr}{scope : Scope}{pos : Pos}{N' : List Str}{map : List (Option Nat)}{g : TG}{gd : D -> Ev -> (Ev -> Prop) -> Prop}{di : DA}{dt : DT}{de : DE}
def dCompF (map : List (Option Nat))(gd : D -> Ev -> (Ev -> Prop) -> Prop)(di : DA)(dt : DT)(de : DE) : DA := fun ρ P => di ρ fun items => items.length <= 1000 /\ compI gd dt de (captD ρ map) items P
theorem jdf_comp (hG : GD W g gd)(B : Blk X N' scope map tg elt ifs g (dnT W dt) (dn W de))(hi : JI X W false tg iter di)(hs : ∀ x,foldedSetIterable iter X.env x = pure x := by intro _; rfl) : JF X W (.ListComp elt [⟨tg,iter,ifs,0⟩] scope pos) (dCompF map gd di dt de) := ⟨(pe_comp B hi.h hs).mono fun σ H Q hh => by
  obtain ⟨pn,M,b,ρ,P,st,h,k⟩ := hh
  refine ⟨pn,M,b,ρ,_,st,h,fun items J need H1 hx hp hI hn k1 o1 => ?_⟩
  have st1 := st.step k1 o1
  refine comp_turns hG (st1.capt map) hp hI (fun q hq => (hn q hq).1) hx.1 hx.2 fun ds acc H' hP r hl k2 o2 D hD => ?_
  exact k ds acc D _ hP (was_new (k1.trans k2) o2 hD) upd_same (Reps.keep (fun c o _ e => Same.upd hD c o e) _ _ (Reps.avoid (fun c z => z.imp id fun y => by rw [y]; exact hD) _ _ r)) ((k1.trans k2).trans (Kp.upd hD)) ((st1.step k2 o2).okU hD)⟩
end
inductive compR (gd : D -> Ev -> (Ev -> Prop) -> Prop)(dt : DT)(de : DA)(ρc : Ev)(items : List D)(P : List (List D) -> Prop) : Prop
  | mk (I : Nat -> List (List D) -> Prop) (h0 : I 0 []) (hs : ∀ (i : Nat) x acc,items[i]? = some x -> I i acc -> gd x ρc fun ρ1 => dt ρ1 fun c => IfP c (de ρ1 fun y => I (i + 1) (acc ++ [y])) (I (i + 1) acc)) (hd : ∀ acc,I items.length acc -> P acc) : compR gd dt de ρc items P
theorem RowsR.append {K : PySem.W.Frag}{M : Addr -> Prop}{H : Hp}{p : Addr}{row : List D}{us : List V}(hp : H p = some (.lst us))(hr : Reps K M H row us) : ∀ {rs : List Addr} {rows : List (List D)},RowsR K M H rs rows -> RowsR K M H (rs ++ [p]) (rows ++ [row])
  | [],rows,h => by rw [show rows = [] from h]; exact ⟨row,[],us,rfl,hp,hr,rfl⟩
  | r :: rs,rows,h => by
    obtain ⟨row0,rest,us0,rfl,h1,h2,h3⟩ := h
    exact ⟨row0,rest ++ [row],us0,rfl,h1,h2,RowsR.append hp hr h3⟩
theorem comp_turnsR {W : Wd}{pn : List (D × V)}{M : Addr -> Prop}{b : Option Addr}{H : Hp}{σ : St}{ρ : Ev}{J : It}{need : List (D × V)}{items : List D}{g : TG}{gd : D -> Ev -> (Ev -> Prop) -> Prop}{dt : DT}{de : DA}{P : List (List D) -> Prop}{Fin : List V -> Hp -> Prop}
    (hG : GD W g gd) (st : Sta W pn M b H σ ρ) (hp : items.all plain = true) (hI : ItOk W J need items) (hn : ∀ q ∈ need,RepX W M b H q.1 q.2) (hl : items.length <= 1000) (h : compR gd dt de ρ items P)
    (fin : ∀ rows rs H',P rows -> RowsR W.K (fun c => M c \/ c ∈ rs) H' rs rows -> rs.Nodup -> (∀ r ∈ rs,H r = none) -> rs.length <= 1000 -> Kp b H H' -> okB W.B b H' -> Fin (rs.map V.ref) H') : ∃ Wf : Nat -> Nat -> List V -> Hp -> Prop,(∃ m,Wf 0 m [] H) /\ Turns J g (dnT W dt) (dnF W de) σ Fin Wf := by
  obtain ⟨I,i0,istep,idone⟩ := h
  refine ⟨fun i m acc H2 => m = items.length - i /\ i <= items.length /\ ∃ rs rows,acc = rs.map V.ref /\ rs.length <= i /\ Kp b H H2 /\ okB W.B b H2 /\ rs.Nodup /\ (∀ r ∈ rs,H r = none) /\ RowsR W.K (fun c => M c \/ c ∈ rs) H2 rs rows /\ I i rows,⟨items.length,by simp,Nat.zero_le _,[],[],rfl,Nat.le_refl _,Kp.refl _ _,st.ok,List.nodup_nil,(fun r m => by cases m),rfl,i0⟩,?_⟩
  rintro i m acc H2 ⟨rfl,hi,rs,rows,rfl,ha,k2,o2,nd,hnew,hr,q⟩
  have hM : ∀ c,(M c \/ c ∈ rs) -> M c \/ H c = none := fun c z => z.imp id (hnew c)
  have st2 : Sta W pn (fun c => M c \/ c ∈ rs) b H2 σ ρ := st.grow hM (fun c z => .inl z) k2 o2 fun c z => z.elim ((st.step k2 o2).dom c) fun y => by
    obtain ⟨us,e⟩ := hr.lst c y
    exact ⟨_,e⟩
  have le := le1000
  obtain ⟨hgo,hstop⟩ := hI (fun c => M c \/ c ∈ rs) b H2 st2.toHs fun q hq => (hn q hq).grow hM (fun c z => .inl z) st.bagM k2
  by_cases hlt : i < items.length
  · have ei : items[i]? = some items[i] := List.getElem?_eq_getElem hlt
    replace q := istep i _ rows ei q
    refine .inr ⟨(hgo i _ ei).1,by rw [List.length_map]; omega,fun acc' H' => ∃ rs rows,acc' = rs.map V.ref /\ rs.length <= i + 1 /\ Kp b H H' /\ okB W.B b H' /\ rs.Nodup /\ (∀ r ∈ rs,H r = none) /\ RowsR W.K (fun c => M c \/ c ∈ rs) H' rs rows /\ I (i + 1) rows,fun acc' H' n => ⟨items.length - (i + 1),by omega,rfl,hlt,n⟩,fun x H3 y => ?_⟩
    obtain ⟨S3,rx⟩ := (hgo i _ ei).2 x H3 y
    have o3 : okB W.B b H3 := fun p e => W.B.st p H2 H3 (o2 p e) fun o e' => S3 p o e'
    have k3 : Kp b H2 H3 := Kp.same S3
    have st3 := st2.step k3 o3
    have nb : ∀ r ∈ rs,b ≠ some r := fun r hr' z => by
      obtain ⟨w,e⟩ := W.B.dm r H (st.ok r z)
      rw [hnew r hr'] at e; cases e
    have kR : ∀ {H'},Kp b H2 H' -> RowsR W.K (fun c => M c \/ c ∈ rs) H' rs rows := fun kk => RowsR.keep rs rows (fun c o z e => kk c o (fun w => z.elim (fun n => n (.inl (st.bagM c w))) fun n => nb c n w) e) hr
    refine hG pn _ b H3 σ ρ items[i] x _ _ st3 rx (List.all_eq_true.mp hp _ (List.getElem_mem hlt)) q fun ρ1 σ1 h1 st4 _ => ?_
    refine ⟨pn,_,b,ρ1,_,st4,h1,fun c H5 h5 k5 o5 => ?_⟩
    cases h5 with
    | t e h5 =>
      rw [if_pos e]
      refine ⟨pn,_,b,ρ1,_,st4.step k5 o5,h5,fun xs vs p H6 h6 p0 p1 r6 k6 o6 => ?_⟩
      have k25 := k3.trans k5
      have p2 : H2 p = none := was_new k25 o5 p0
      have pH : H p = none := was_new k2 o2 p2
      have np : p ∉ rs := fun z => by
        obtain ⟨us,e⟩ := hr.lst p z
        rw [p2] at e; cases e
      have hm' : ∀ c,(M c \/ c ∈ rs ++ [p]) -> (M c \/ c ∈ rs) \/ c = p := fun c z => z.elim (fun y => .inl (.inl y)) fun y => (List.mem_append.mp y).elim (fun w => .inl (.inr w)) fun w => .inr (List.mem_singleton.mp w)
      refine ⟨rs ++ [p],rows ++ [xs],by rw [List.map_append]; rfl,by simp; omega,k2.trans (k25.trans k6),o6,?_,fun r z => ?_,?_,h6⟩
      · rw [List.nodup_append]
        refine ⟨nd,by simp,fun a ha' b' hb' e => ?_⟩
        rw [List.mem_singleton.mp hb'] at e
        rw [e] at ha'; exact np ha'
      · rcases List.mem_append.mp z with w | w
        · exact hnew r w
        · rw [List.mem_singleton.mp w]; exact pH
      · refine RowsR.append p1 (Reps.avoid (fun c z => .inl (hm' c z)) _ _ r6) ?_
        have r1 := RowsR.avoid (M' := fun c => M c \/ c ∈ rs ++ [p]) (fun c z => (hm' c z).imp id fun w => by rw [w]; exact p2) rs rows hr
        exact RowsR.keep rs rows (fun c o z e => (k25.trans k6) c o (fun w => z.elim (fun n => n (.inl (st.bagM c w))) fun n => nb c n w) e) r1
    | f e h5 =>
      rw [if_neg (by rw [e]; exact Bool.false_ne_true)]
      have kk := k3.trans k5
      exact ⟨rs,rows,rfl,by omega,k2.trans kk,o5,nd,hnew,kR kk,h5⟩
  · have e : i = items.length := by omega
    subst e
    exact .inl ⟨hstop _ (Nat.le_refl _),by rw [List.length_map]; omega,fin rows rs H2 (idone _ q) hr nd hnew (by omega) k2 o2⟩
abbrev DSG := List D -> (List (List D) -> Prop) -> (Addr -> Prop) -> Prop
structure GNew (K : PySem.W.Frag)(M : Addr -> Prop)(H H' : Hp)(a : Addr)(rs : List Addr)(rows : List (List D)) : Prop where
  a0 : H a = none
  r0 : ∀ r ∈ rs,H r = none
  nd : (a :: rs).Nodup
  ha : H' a = some (.lst (rs.map V.ref))
  hr : RowsR K (fun c => M c \/ c ∈ a :: rs) H' rs rows
theorem blkF {X : Cx} {W : Wd} {N' : List Str} {scope : Scope} {map : List (Option Nat)} {tg elt : Expr} {ifs : List Expr} {g : TG} {dt : DT} {de : DA} (calm : X.calm = true) (kind : scope.kind = .function) (loc : ∀ x ∈ scope.names,x.2 = .local -> scope.names.lookup x.1 = some .local) (free : (scope.names.all fun p => !(p.2 == NameKind.free) || (X.env.kindOf p.1 == some .cell || X.env.kindOf p.1 == some .free)) = true) (cap : CapOk X scope map N') (keep : GKeep g map)
    (run : ∀ cells C fp s H,PG (cxComp X N' scope cells C fp s H) tg g /\ JIf (cxComp X N' scope cells C fp s H) W ifs dt /\ JF (cxComp X N' scope cells C fp s H) W elt de) : Blk X N' scope map tg elt ifs g (dnT W dt) (dnF W de) :=
  ⟨calm,kind,loc,free,cap,keep,fun cells C fp s H _ => ⟨(run cells C fp s H).1,(run cells C fp s H).2.1.h,(run cells C fp s H).2.2.h⟩⟩
end L2
set_option Elab.async false
set_option linter.all false
set_option maxRecDepth 100000
set_option maxHeartbeats 4000000
namespace L2
open PySem PySem.Spec PyProof.Rows
section
variable {X : Cx}{W : Wd}{e a b c tg iter l : Expr}{es : List Expr}{pos p : Pos}{d da db dc dl de : DE}{dA di : DA}{dt : DT}{fz : Bool}{x : Str}{k : Nat}{ps : List Str}{S : DSG}
theorem StS.gotGrid {pn : List (D × V)}{M : Addr -> Prop}{b : Option Addr}{H H' : Hp}{σ : St}{ρ : Ev}{a : Addr}{rs : List Addr}{rows : List (List D)}(s : StS W pn M b H σ ρ)(i : Nat)(kp : Kp b H H')(ok : okB W.B b H')(gn : GNew W.K M H H' a rs rows) : StS W pn (fun c => M c \/ c ∈ a :: rs) b H' (σ.set i (some (.ref a))) (ρ.set i (some (grd W.K a rs rows))) := by
  have new : ∀ c,c ∈ a :: rs -> H c = none := fun c m => by
    rcases List.mem_cons.mp m with z | z
    · rw [z]; exact gn.a0
    · exact gn.r0 c z
  have t : Sta W pn (fun c => M c \/ c ∈ a :: rs) b H' σ ρ := s.toSta.grow (fun c z => z.imp id (new c)) (fun c z => .inl z) kp ok fun c z => z.elim ((s.toSta.step kp ok).dom c) fun y => by
    rcases List.mem_cons.mp y with w | w
    · rw [w]; exact ⟨_,gn.ha⟩
    · obtain ⟨us,e⟩ := gn.hr.lst c w
      exact ⟨_,e⟩
  refine s.add i (t.set i (grd_rep (fun c m => ?_) gn.nd gn.ha gn.hr)) fun c m => s.toHs.new (new c m)
  refine ⟨.inr m,fun z => ?_,s.toSta.fresh0 (new c m)⟩
  obtain ⟨o,e⟩ := W.B.dm c H (s.ok c z)
  rw [new c m] at e; cases e
end
end L2
set_option Elab.async false
set_option linter.all false
set_option maxRecDepth 100000
set_option maxHeartbeats 4000000
namespace L2
open PySem PySem.Spec PyProof.Rows
end L2
set_option Elab.async false
set_option linter.all false
set_option maxRecDepth 100000
set_option maxHeartbeats 4000000
namespace L2
open PySem PySem.Spec PyProof.Rows
end L2
set_option Elab.async false
set_option linter.all false
set_option maxRecDepth 100000
set_option maxHeartbeats 4000000
namespace L2
open PySem PySem.Spec PyProof.Rows
structure Pc where
  (a : Addr) (f : Frg) (d : D)
abbrev Pc.g (p : Pc) : D := .frg p.f p.d
def Pc.at (p : Pc) : Prop := ∀ M H v,p.f.R M H v -> v = .ref p.a
def adsP (ps : List Pc) : List Addr := ps.flatMap fun p => p.f.ads
def likeP (ps ps' : List Pc) : Prop := ps'.map (fun p => (p.a,p.f.ads)) = ps.map fun p => (p.a,p.f.ads)
theorem likeP.get {ps ps' : List Pc}{i : Nat}{p' : Pc}(h : likeP ps ps')(e : ps'[i]? = some p') : ∃ p,ps[i]? = some p /\ p'.a = p.a /\ p'.f.ads = p.f.ads := by
  have q := congrArg (fun l => l[i]?) h
  simp only [List.getElem?_map,e,Option.map_some] at q
  obtain ⟨p,e1,e2⟩ := Option.map_eq_some_iff.mp q.symm
  simp only [Prod.mk.injEq] at e2
  exact ⟨p,e1,e2.1.symm,e2.2.symm⟩
abbrev DSU := List Pc -> List D -> (List Pc -> D -> Prop) -> Prop
end L2
set_option Elab.async false
set_option linter.all false
set_option maxRecDepth 100000
set_option maxHeartbeats 4000000
namespace L2
open PySem PySem.Spec PyProof.Rows
section
variable {W : Wd}{pn : List (D × V)}{M : Addr -> Prop}{b : Option Addr}{H H' : Hp}{σ : St}{ρ : Ev}{js : List Nat}{ps ps' : List Pc}
def heldP (js : List Nat)(ps : List Pc)(ρ : Ev) : Prop := js.length = ps.length /\ ∀ (k : Nat) p,ps[k]? = some p -> p.at /\ ∃ j,js[k]? = some j /\ ρ[j]? = some (some p.g)
theorem heldP.ads (s : StS W pn M b H σ ρ)(h : heldP js ps ρ){c : Addr}(m : c ∈ adsP ps) : ∃ (k j : Nat) (p : Pc),ps[k]? = some p /\ js[k]? = some j /\ ρ[j]? = some (some p.g) /\ c ∈ p.f.ads /\ σ[j]? = some (some (.ref p.a)) /\ RepX W M b H p.g (.ref p.a) := by
  obtain ⟨p,mp,mc⟩ := List.mem_flatMap.mp m
  obtain ⟨k,ek⟩ := List.getElem?_of_mem mp
  obtain ⟨pa,j,ej,er⟩ := h.2 k p ek
  obtain ⟨v,ev,r⟩ := s.env j _ er
  have hv := pa _ _ _ r.2.1
  subst hv
  exact ⟨k,j,p,ek,ej,er,mc,ev,r⟩
end
section
variable {X : Cx}{W : Wd}{S : DSU}{dA : DA}{pos : Pos}
end
end L2
set_option Elab.async false
set_option linter.all false
set_option maxRecDepth 100000
set_option maxHeartbeats 4000000
namespace L2
open PySem PySem.Spec PyProof.Rows
section
variable {W : Wd}{pn : List (D × V)}{M : Addr -> Prop}{b : Option Addr}{H H' : Hp}{σ : St}{ρ : Ev}{a : Addr}{ks : List (List Int)}{xs : List D}{t : Tg}{vs : List V}
end
section
variable {K : PySem.W.Frag}{M : Addr -> Prop}{H : Hp}{n : List Int}{z : D}{v : V}{u : Value}{b : Addr}
end
section
variable {X : Cx}{W : Wd}{pos : Pos}
end
end L2
set_option Elab.async false
set_option linter.all false
set_option maxRecDepth 100000
set_option maxHeartbeats 4000000
namespace L2
open PySem PySem.Spec PyProof.Rows
section
variable {X : Cx}{W : Wd}{S : DSU}{dA : DA}{pos : Pos}
def dSetG (K : PySem.W.Frag)(i : Nat)(de dk dj : DE) : DS := fun F ρ => ∃ (a : Addr) (rs : List Addr) (rows : List (List D)),ρ[i]? = some (some (grd K a rs rows)) /\ rs.length = rows.length /\ de ρ fun z => plain z = true /\ dk ρ fun y => ∃ (k : Nat) (row : List D),y = .int (k : Int) /\ rows[k]? = some row /\ dj ρ fun x => ∃ j : Nat,x = .int (j : Int) /\ j < row.length /\ F.nx (ρ.set i (some (grd K a rs (rows.set k (row.set j z)))))
theorem ixN_nat {n j : Nat}(h : j < n) : ixN n (j : Int) = some j := by
  unfold ixN
  rw [if_pos (by omega)]
  simp; omega
theorem jds_setG {i : Nat}{tg e : Expr}{de dk dj : DE}(hK : X.K = W.K)(he : JE X W e de)(hg : PG X tg (gSub (tOp (rIxL X.K) (tVar i) (dn W dk)) (dn W dj) rSetL))(hs : swapsWithSole [tg] e pos.line X.env = pure false := by rfl)(hw : swappedStores [tg] e X.env = pure none := by rfl)
    (h1 : (assignEach [tg] X.env).map (·.2) = [assign tg X.env] := by rfl) : JS X W (.Assign [tg] e pos) (dSetG W.K i de dk dj) := ⟨(ps_asg he.h hg hs hw h1).mono fun E σ H hh => hh.elim fun pn M b ρ F s l q => by
  rw [hK]
  obtain ⟨a,rs,rows,e1,hl,q⟩ := q
  have at' : ∀ {H' : Hp},StS W pn M b H' σ ρ -> σ[i]? = some (some (.ref a)) /\ (∀ c ∈ a :: rs,M c /\ b ≠ some c /\ W.H0 c = none /\ ¬ W.M0 c) /\ (a :: rs).Nodup /\ H' a = some (.lst (rs.map V.ref)) /\ RowsR W.K M H' rs rows := fun {H'} s => by
    obtain ⟨v,ev,rg⟩ := s.env i _ e1
    obtain ⟨rfl,ho,nd,ha,hr⟩ := grd_of rg
    exact ⟨ev,ho,nd,ha,hr⟩
  obtain ⟨ev,_,_,_,_⟩ := at' s
  refine ⟨pn,M,b,ρ,_,s.toSta,q,fun z v H1 hz rz k1 o1 => ?_⟩
  have s1 := s.step k1 o1
  refine ⟨.ref a,ev,pn,M,b,ρ,_,s1.toSta,hz.2,fun y u H2 hy ry k2 o2 => ?_⟩
  obtain ⟨k,row,rfl,er,hy⟩ := hy
  cases (show _ = _ from ry)
  have s2 := s1.step k2 o2
  obtain ⟨_,_,_,ha2,_⟩ := at' s2
  obtain ⟨r,ek⟩ : ∃ r,rs[k]? = some r := by
    have := (List.getElem?_eq_some_iff.mp er).1
    exact ⟨rs[k]'(by omega),List.getElem?_eq_getElem _⟩
  refine ⟨a,rs.map V.ref,k,.ref r,rfl,rfl,SqL.of ha2,atI_nat (by rw [List.getElem?_map,ek]; rfl),pn,M,b,ρ,_,s2.toSta,hy,fun x w H3 hx rx k3 o3 => ?_⟩
  obtain ⟨j,rfl,hj,hnx⟩ := hx
  cases (show _ = _ from rx)
  have s3 := s2.step k3 o3
  obtain ⟨ev3,ho,nd,ha,hr⟩ := at' s3
  obtain ⟨row',us,er',hh',rr⟩ := hr.at ek
  rw [er] at er'; cases er'
  have mr : r ∈ rs := List.mem_of_getElem? ek
  have nar : a ≠ r := fun z => (List.nodup_cons.mp nd).1 (by rw [z]; exact mr)
  have rz3 := ((rz.step s.bagM k2).step s.bagM k3).rep hz.1
  exact ⟨r,us,j,j,rfl,rfl,hh',by rw [rr.length]; exact ixN_nat hj,l.nx _ _ _ _ _ (s3.setFrg (f' := gridF W.K a rs (rows.set k (row.set j z))) (d' := rowsL (rows.set k (row.set j z))) i (show ρ[i]? = some (some (.frg (gridF W.K a rs rows) (rowsL rows))) from e1) ev3 (List.mem_cons_of_mem _ mr) (fun c m => m) (grd_rep ho nd (by rw [upd_ne nar]; exact ha) (RowsR.set (List.nodup_cons.mp nd).2 (fun c m => (ho c (List.mem_cons_of_mem _ m)).1) hr ek (Reps.set rz3 j rr)))) hnx⟩⟩
end
end L2
set_option Elab.async false
set_option linter.all false
set_option maxRecDepth 100000
set_option maxHeartbeats 4000000
namespace L2
open PySem PySem.Spec PyProof.Rows
section
variable {X : Cx}{W : Wd}{pos : Pos}
variable {elt iter tg : Expr}{ifs : List Expr}{scope : Scope}{N' : List Str}{map : List (Option Nat)}{g : TG}{gd : D -> Ev -> (Ev -> Prop) -> Prop}{di : DA}{dt : DT}{de : DA}
def dSetGC (K : PySem.W.Frag)(i : Nat)(map : List (Option Nat))(gd : D -> Ev -> (Ev -> Prop) -> Prop)(di : DA)(dt : DT)(de : DA) : DS := fun F ρ => di ρ fun items => items.length <= 1000 /\ compR gd dt de (captD ρ map) items fun rows => ∀ a rs,rs.length = rows.length -> F.nx (ρ.set i (some (grd K a rs rows)))
theorem jds_setGCs {i : Nat}{y : Str}{py spos : Pos}(hN : X.N.Nodup)(hiN : X.N[i]? = some y)(hy : Loc X.env.scope y)(hG : GD W g gd)(B : Blk X N' scope map tg elt ifs g (dnT W dt) (dnF W de))(hi : JI X W false tg iter di)
    (hsw : swapsWith (.ListComp elt [⟨tg,iter,ifs,0⟩] scope pos) (some (.Name y py)) spos.line X.env = pure true := by rfl) (hfn : X.fn y = true \/ X.env.scope.names.lookup y = some .local := by first | exact .inl rfl | exact .inr rfl)
    (hs : ∀ x,foldedSetIterable iter X.env x = pure x := by intro _; rfl) : JS X W (.Assign [.Name y py] (.ListComp elt [⟨tg,iter,ifs,0⟩] scope pos) spos) (dSetGC W.K i map gd di dt de) := ⟨(ps_setComp hN hiN hy B hi.h hsw hfn hs).mono fun E σ H hh => hh.elim fun pn M b ρ F s l h => by
  refine ⟨pn,M,b,ρ,_,s.toSta,h,fun items J need H1 hx hp hI hn k1 o1 => ?_⟩
  have s1 := s.step k1 o1
  refine comp_turnsR hG (s1.toSta.capt map) hp hI (fun q hq => (hn q hq).1) hx.1 hx.2 fun rows rs H' hP hr nd hnew hl k2 o2 q hq => ?_
  have s2 := s1.step k2 o2
  have nq : q ∉ rs := fun z => by
    obtain ⟨us,e⟩ := hr.lst q z
    rw [hq] at e; cases e
  have hq1 : H1 q = none := was_new k2 o2 hq
  have kq : Kp b H1 (upd H' q (.lst (rs.map V.ref))) := k2.trans (Kp.upd hq)
  refine l.nx _ _ _ _ _ (s1.gotGrid (a := q) (rs := rs) (rows := rows) i kq (s2.toHs.okU hq) ⟨hq1,hnew,List.nodup_cons.mpr ⟨nq,nd⟩,upd_same,?_⟩) (hP q rs hr.length.symm)
  refine RowsR.keep rs rows (fun c o z e => Same.upd hq c o e) (RowsR.avoid (fun c z => ?_) rs rows hr)
  rcases z with z | z
  · exact .inl (.inl z)
  · rcases List.mem_cons.mp z with y | y
    · exact .inr (by rw [y]; exact hq)
    · exact .inl (.inr y)⟩
end
end L2
set_option Elab.async false
set_option linter.all false
set_option maxRecDepth 100000
set_option maxHeartbeats 4000000
namespace L2
open PySem PySem.Spec PyProof.Rows
abbrev Om := Nat -> Prop
def cntA (p : Addr)(H : Hp) : Nat := match H p with | some (.lst [_,_,.int st]) => st.toNat | _ => 0
def cnt (b : Option Addr)(H : Hp) : Nat := match b with | none => 0 | some p => cntA p H
abbrev DE3 := Ev -> (D -> Om) -> Om
abbrev DT3 := Ev -> (Bool -> Om) -> Om
abbrev DA3 := Ev -> (List D -> Om) -> Om
def cn (W : Wd)(d : DE3) : TE := fun σ H Q => ∃ pn M b ρ P,Sta W pn M b H σ ρ /\ d ρ P (cnt b H) /\ ∀ x v H',P x (cnt b H') -> RepX W M b H' x v -> Kp b H H' -> okB W.B b H' -> Q v H'
def cnT (W : Wd)(d : DT3) : TT := fun σ H Q => ∃ pn M b ρ P,Sta W pn M b H σ ρ /\ d ρ P (cnt b H) /\ ∀ x H',P x (cnt b H') -> Kp b H H' -> okB W.B b H' -> Q x H'
def cnA (W : Wd)(d : DA3) : TA := fun σ H Q => ∃ pn M b ρ P,Sta W pn M b H σ ρ /\ d ρ P (cnt b H) /\ ∀ xs vs H',P xs (cnt b H') -> RepXs W M b H' xs vs -> Kp b H H' -> okB W.B b H' -> Q vs H'
def cnI (W : Wd)(fz : Bool)(di : DA3) : TI := fun σ H R => ∃ pn M b ρ P,Sta W pn M b H σ ρ /\ di ρ P (cnt b H) /\ ∀ items J need H',P items (cnt b H') -> items.all plain = true -> ItOk W J need items -> (∀ q ∈ need,RepX W M b H' q.1 q.2 /\ (fz = true -> plain q.1 = true)) -> Kp b H H' -> okB W.B b H' -> R J H'
theorem cn.elim {W : Wd}{d : DE3}{σ : St}{H : Hp}{Q : VK}{R : Prop}(h : cn W d σ H Q)(f : ∀ pn M b ρ P,Sta W pn M b H σ ρ -> d ρ P (cnt b H) -> (∀ x v H',P x (cnt b H') -> RepX W M b H' x v -> Kp b H H' -> okB W.B b H' -> Q v H') -> R) : R := by
  obtain ⟨pn,M,b,ρ,P,st,h,k⟩ := h
  exact f pn M b ρ P st h k
theorem cnT.elim {W : Wd}{d : DT3}{σ : St}{H : Hp}{Q : Bool -> Hp -> Prop}{R : Prop}(h : cnT W d σ H Q)(f : ∀ pn M b ρ P,Sta W pn M b H σ ρ -> d ρ P (cnt b H) -> (∀ x H',P x (cnt b H') -> Kp b H H' -> okB W.B b H' -> Q x H') -> R) : R := by
  obtain ⟨pn,M,b,ρ,P,st,h,k⟩ := h
  exact f pn M b ρ P st h k
theorem cnA.elim {W : Wd}{d : DA3}{σ : St}{H : Hp}{Q : List V -> Hp -> Prop}{R : Prop}(h : cnA W d σ H Q)(f : ∀ pn M b ρ P,Sta W pn M b H σ ρ -> d ρ P (cnt b H) -> (∀ xs vs H',P xs (cnt b H') -> RepXs W M b H' xs vs -> Kp b H H' -> okB W.B b H' -> Q vs H') -> R) : R := by
  obtain ⟨pn,M,b,ρ,P,st,h,k⟩ := h
  exact f pn M b ρ P st h k
theorem cnI.elim {W : Wd}{fz : Bool}{d : DA3}{σ : St}{H : Hp}{R : It -> Hp -> Prop}{Z : Prop}(h : cnI W fz d σ H R)(f : ∀ pn M b ρ P,Sta W pn M b H σ ρ -> d ρ P (cnt b H) -> (∀ items J need H',P items (cnt b H') -> items.all plain = true -> ItOk W J need items -> (∀ q ∈ need,RepX W M b H' q.1 q.2 /\ (fz = true -> plain q.1 = true)) -> Kp b H H' -> okB W.B b H' -> R J H') -> Z) : Z := by
  obtain ⟨pn,M,b,ρ,P,st,h,k⟩ := h
  exact f pn M b ρ P st h k
section
variable {X : Cx}{W : Wd}{e a b c l tg : Expr}{es : List Expr}{pos p : Pos}{fz : Bool}
end
end L2
set_option Elab.async false
set_option linter.all false
set_option maxRecDepth 100000
set_option maxHeartbeats 4000000
namespace L2
open PySem PySem.Spec PyProof.Rows
section
variable {X : Cx}{W : Wd}{e a b c l tg : Expr}{es : List Expr}{pos p : Pos}{d da db dc dl : DE3}{dA : DA3}{x : Str}{k : Nat}{ps : List Str}
variable {ta tb : DT3}{rest : List Expr}
variable {r : List V -> Hp -> VK -> Prop}{o : List D -> (D -> Prop) -> Prop}{id T : String}
variable {fz : Bool}
end
end L2
set_option Elab.async false
set_option linter.all false
set_option maxRecDepth 100000
set_option maxHeartbeats 4000000
namespace L2
open PySem PySem.Spec PyProof.Rows
structure DEnds3 where
  nx : Ev -> Om
  rt : D -> Om
  bk : Ev -> Om := fun _ _ => False
  ct : Ev -> Om := fun _ _ => False
  ro : List D -> Om := fun _ _ => False
abbrev DS3 := DEnds3 -> Ev -> Om
structure Link3 (W : Wd)(pn : List (D × V))(E : Ends)(F : DEnds3) : Prop where
  nx : ∀ M b ρ σ H,StS W pn M b H σ ρ -> F.nx ρ (cnt b H) -> E.nx σ H
  rt : ∀ d v H n,F.rt d n -> (∀ p,W.b0 = some p -> n = cnt W.b0 H) -> Rep W.K W.M0 H d v -> Kp W.b0 W.H0 H -> okB W.B W.b0 H -> E.rt v H
  bk : ∀ M b ρ σ H,StS W pn M b H σ ρ -> F.bk ρ (cnt b H) -> E.bk σ H
  ct : ∀ M b ρ σ H,StS W pn M b H σ ρ -> F.ct ρ (cnt b H) -> E.ct σ H
  ro : ∀ xs a vs H n,F.ro xs n -> (∀ p,W.b0 = some p -> n = cnt W.b0 H) -> W.H0 a = none -> ¬ W.M0 a -> H a = some (.lst vs) -> Reps W.K W.M0 H xs vs -> Kp W.b0 W.H0 H -> okB W.B W.b0 H -> E.rt (.ref a) H
def sn3 (W : Wd)(d : DS3) : TS := fun E σ H => ∃ pn M b ρ F,StS W pn M b H σ ρ /\ Link3 W pn E F /\ d F ρ (cnt b H)
theorem sn3.elim {W : Wd}{d : DS3}{E : Ends}{σ : St}{H : Hp}{Z : Prop}(h : sn3 W d E σ H)(f : ∀ pn M b ρ F,StS W pn M b H σ ρ -> Link3 W pn E F -> d F ρ (cnt b H) -> Z) : Z := by
  obtain ⟨pn,M,b,ρ,F,s,l,h⟩ := h
  exact f pn M b ρ F s l h
section
variable {X : Cx}{W : Wd}{e a b c tg iter l : Expr}{es : List Expr}{pos p : Pos}{d da db dc dl de : DE3}{dA di : DA3}{dt : DT3}{st : Stmt}{rest sts : List Stmt}{d1 d2 : DS3}{t : TS}
end
end L2
set_option Elab.async false
set_option linter.all false
set_option maxRecDepth 100000
set_option maxHeartbeats 4000000
namespace L2
open PySem PySem.Spec PyProof.Rows
abbrev DSO3 := List D -> (List D -> Om) -> Om
section
variable {X : Cx}{W : Wd}{e a b c tg iter l : Expr}{es : List Expr}{pos p : Pos}{d da db dc dl de : DE3}{dA di : DA3}{dt : DT3}{fz : Bool}{x : Str}{k : Nat}{ps : List Str}{S : DSO3}
end
end L2
set_option Elab.async false
set_option linter.all false
set_option maxRecDepth 100000
set_option maxHeartbeats 4000000
namespace L2
open PySem PySem.Spec PyProof.Rows
section
variable {X : Cx}{tg : Expr}
end
section
variable {X : Cx}{W : Wd}{tg a b c : Expr}{pos p : Pos}{dA : DA}{fz : Bool}
end
end L2
set_option Elab.async false
set_option linter.all false
set_option maxRecDepth 100000
set_option maxHeartbeats 4000000
namespace L2
open PySem PySem.Spec PyProof.Rows
end L2
set_option Elab.async false
set_option linter.all false
set_option maxRecDepth 100000
set_option maxHeartbeats 4000000
namespace L2
open PySem PySem.Spec PyProof.Rows
section
variable {X : Cx}{W : Wd}{a b c : Expr}{pos p : Pos}{dA : DA}{fz : Bool}
end
section
variable {X : Cx}{W : Wd}{tg a b c : Expr}{pos p : Pos}{dA : DA3}{fz : Bool}
end
end L2
set_option Elab.async false
set_option linter.all false
set_option maxRecDepth 100000
set_option maxHeartbeats 4000000
namespace L2
open PySem PySem.Spec PyProof.Rows
section
variable {X : Cx}{W : Wd}{e a b c tg iter l : Expr}{es : List Expr}{pos p : Pos}{dA : DA}{x : Str}{k : Nat}{ps : List Str}{S : DSG}{So : DSO}
end
end L2
set_option Elab.async false
set_option linter.all false
set_option maxRecDepth 100000
set_option maxHeartbeats 4000000
namespace L2
open PySem PySem.Spec PyProof.Rows
section
variable {X : Cx}{W : Wd}{e a b c tg iter l : Expr}{es : List Expr}{pos p : Pos}{dA : DA}
theorem StS.thaw {pn : List (D × V)}{M : Addr -> Prop}{b : Option Addr}{H : Hp}{σ : St}{ρ : Ev}{i : Nat}{f : Frg}{d : D}(s : StS W pn M b H σ ρ)(e : ρ[i]? = some (some (.frg f d))) : StS W pn (fun c => M c /\ c ∉ f.ads) b H σ (ρ.set i (some d)) := by
  obtain ⟨v,e1,r⟩ := s.env i _ e
  have pd : plain d = true := by
    have := r.2.2
    cases d <;> first | rfl | exact this.elim
  have st : Sta W pn (fun c => M c /\ c ∉ f.ads) b H σ (ρ.set i none) := by
    refine Sta.avoid (M := M) ⟨s.toHs,s.kp,s.new,fun j d' e' => ?_,by simp [s.len],s.pin⟩ (fun c m => m.1) (fun p z => ⟨s.bagM p z,fun y => (r.1 p y).2.1 z⟩) (fun c m => ⟨s.m0 c m,fun y => (r.1 c y).2.2.2 m⟩) (fun j d' v' c' e' e2 mm => ?_) fun ys a' hq => ⟨by
      obtain ⟨a2,us2,ev,n1,_⟩ := (s.pin _ hq)
      cases ev; exact n1,fun y => s.lj ys a' hq i _ _ e e1 y⟩
    · by_cases z : i = j
      · subst z; rw [List.getElem?_set] at e'; simp at e'
      · rw [List.getElem?_set_ne z] at e'; exact s.env j d' e'
    · by_cases z : i = j
      · subst z; rw [List.getElem?_set] at e'; simp at e'
      · rw [List.getElem?_set_ne z] at e'
        obtain ⟨v3,e3,r3⟩ := s.env j _ e'
        rw [e2] at e3; cases e3
        exact ⟨(r3.mine mm).1,fun y => z (s.dj i j _ _ _ _ c' e e' e1 e2 y mm)⟩
  have st2 := st.set (x := d) (v := v) i (Rep.x r.2.2)
  rw [set_same e1,List.set_set] at st2
  refine s.of st2 fun j d' hm e' => ?_
  by_cases z : i = j
  · subst z
    rw [List.getElem?_set] at e'
    simp at e'
    rw [<- e'.2] at hm
    cases d <;> first | (cases hm; done) | (cases pd; done)
  · rw [List.getElem?_set_ne z] at e'; exact ⟨e',rfl⟩
def dThawS (i : Nat)(d : DS) : DS := fun F ρ => match ρ[i]? with | some (some (.frg _ x)) => d F (ρ.set i (some x)) | _ => False
theorem jdss_thaw {sts : List Stmt}{d : DS}(i : Nat)(h : JSs X W sts d) : JSs X W sts (dThawS i d) := ⟨h.h.mono fun E σ H hh => hh.elim fun pn M b ρ F s l q => by
  unfold dThawS at q
  split at q
  case h_2 => exact q.elim
  case h_1 f x e => exact ⟨pn,_,b,_,F,s.thaw e,l,q⟩⟩
end
end L2
set_option Elab.async false
set_option linter.all false
set_option maxRecDepth 100000
set_option maxHeartbeats 4000000
namespace L2
open PySem PySem.Spec PyProof.Rows
section
variable {X : Cx}{W : Wd}{e a b c tg iter l : Expr}{es : List Expr}{pos p : Pos}{dA : DA}
end
end L2
set_option Elab.async false
set_option linter.all false
set_option maxRecDepth 100000
set_option maxHeartbeats 4000000
namespace L2
open PySem PySem.Spec PyProof.Rows
section
variable {X : Cx}{W : Wd}{pos : Pos}{dA : DA}
end
end L2
set_option Elab.async false
set_option linter.all false
set_option maxRecDepth 100000
set_option maxHeartbeats 4000000
namespace L2
open PySem PySem.Spec PyProof.Rows
section
variable {X : Cx}{W : Wd}{a b : Expr}{rest : List Expr}{pos : Pos}{da db : DE3}
end
end L2
set_option Elab.async false
set_option linter.all false
set_option maxRecDepth 100000
set_option maxHeartbeats 4000000
namespace L2
open PySem PySem.Spec PyProof.Rows
section
variable {prog : Program}{w : World}{A : Around}{E : Value -> Shared -> Prop}{s : Shared}{d it : Addr}{ds : Array DictEntry}{ep i : Nat}
end
end L2
set_option Elab.async false
set_option linter.all false
set_option maxRecDepth 100000
set_option maxHeartbeats 4000000
namespace L2
open PySem PySem.Spec PyProof.Rows
section
variable {X : Cx}{pins : List (Addr × Obj)}{σ : St}{H : Hp}{s : Shared}{a : Addr}{es : Ens}{ep : Nat}{tg : Expr}
end
end L2
set_option Elab.async false
set_option linter.all false
set_option maxRecDepth 100000
set_option maxHeartbeats 4000000
namespace L2
open PySem PySem.Spec PyProof.Rows
section
variable {X : Cx}{W : Wd}{e o f tg : Expr}{es : List Expr}{pos : Pos}{dA : DA}{de dk df : DE}
end
end L2
set_option Elab.async false
set_option linter.all false
set_option maxRecDepth 100000
set_option maxHeartbeats 4000000
namespace L2
open PySem PySem.Spec PyProof.Rows
section
variable {gd gd2 : D -> Ev -> (Ev -> Prop) -> Prop}{dt : DT}{de : DE}{ρc : Ev}{items acc0 : List D}{P : List D -> Prop}{mp2 : List (Option Nat)}{di2 : DA}
theorem compR_map {de : DA}{P : List (List D) -> Prop}(f : D -> List D)(hs : ∀ x (Q : List D -> Prop),x ∈ items -> Q (f x) -> gd x ρc fun ρ1 => de ρ1 Q)(hd : P (items.map f)) : compR gd dTrue de ρc items P := by
  refine ⟨fun i acc => acc = (items.take i).map f,rfl,fun i x acc e h => ?_,fun acc h => ?_⟩
  · have m := List.mem_of_getElem? e
    show gd x ρc fun ρ1 => IfP true (de ρ1 fun y => acc ++ [y] = (items.take (i + 1)).map f) _
    simp only [IfP_true]
    refine hs x _ m ?_
    rw [h,List.take_add_one,e,Option.toList_some,List.map_append]
    rfl
  · rw [h,List.take_length]; exact hd
end
section
variable {X : Cx}{W : Wd}{pos : Pos}{a : Expr}{dA : DA}
end
end L2
set_option Elab.async false
set_option linter.all false
set_option maxRecDepth 100000
set_option maxHeartbeats 4000000
namespace L2
open PySem PySem.Spec PyProof.Rows
abbrev Fz (o : Obj) : HO := .frz o (.own 0)
def RecO (q : Str)(oc : Obj) : Prop := ∃ (vs : Array Value) (t : Tok),oc.data = .fields vs /\ vs[1]? = some (.str q t)
def BM (mg : Str -> Option Value)(h : Heap) : Prop := ∃ bm ob,mg "__builtins__" = some (.ref bm) /\ bm ≠ builtinsNs /\ h.get? bm = some ob /\ ob.cls = .type "module" /\ ob.dict = some builtinsNs /\ ob.data = .plain
theorem among_snoc {pos : Pos}{a b : Int}{c cv : Value} : ∀ (l : List Value),TriplesOk l -> codeAmong pos (l ++ [rawInt a,rawInt b,c]) = some cv -> codeAmong pos l = some cv \/ cv = c
  | [],_,e => by
    simp only [List.nil_append,codeAmong,rawInt] at e
    split at e
    · exact .inr (Option.some.inj e).symm
    · cases e
  | .int a' t :: .int b' u :: x :: rest,h,e => by
    simp only [List.cons_append,codeAmong] at e ⊢
    split at e
    · rename_i hc; rw [if_pos hc]; exact .inl e
    · rename_i hc; rw [if_neg hc]; exact among_snoc rest h e
theorem lam_make {X : Cx}{pins : List (Addr × Obj)}{σ : St}{H : Hp}{s : Shared}{c P : Addr}{q : Str}{params : Arguments}{body : Expr}{scope : Scope}{pos : Pos}{clos : List (Str × Addr)}{Q : Value -> Shared -> Prop}(I : Inv X pins σ H s)
    (hq : H P = some (.cod q)) (hcd : X.env.code = .ref c) (hC : PySem.W.CodeHd X.base c P) (hB : BM X.mg X.base) (hcl : closureFor scope X.env = pure clos) (hdef : defaultsOf params X.env = ([],[])) (hqu : X.env.qual ++ "<lambda>" = q)
    (h : ∀ (f c' : Addr) (oc : Obj) (pm ctv : Value) (h' : Heap) (tk : Tok) (H' : Hp),(H' = H \/ (H c' = none /\ H' = upd H c' (Fz oc))) -> Inv X pins σ H' { s with heap := h',toks := tk } ->
      h'.get? f = some (PySem.W.kla_obj "<lambda>" q params body scope clos pm c' ctv) -> s.heap.objs.size <= f -> H' f = none -> H' c' = some (Fz oc) -> RecO q oc -> Q (.ref f) { s with heap := h',toks := tk }) :
    wpAny (model X.prog X.w) X.A (eval (.Lambda params body scope pos) X.env) Q X.xe s := by
  subst hqu
  have hPb : X.base.get? P = none := by
    cases e : X.base.get? P with
    | none => rfl
    | some o => have := (I.bs P o e).2; rw [hq] at this; cases this
  obtain ⟨bm,ob,b1,b2,b3,b4,b5,b6⟩ := hB
  have hgP : mainGlobals ≠ P := fun z => by
    obtain ⟨o,es,ep,e,_⟩ := I.mod.glob
    rw [z,hPb] at e; cases e
  have hbP : bm ≠ P := fun z => by rw [z,hPb] at b3; cases b3
  have hbG : bm ≠ mainGlobals := fun z => by
    obtain ⟨o,es,ep,e,hd,_⟩ := I.mod.glob
    rw [z,e] at b3; cases b3; rw [hd] at b6; cases b6
  have hat : s.heap.BuiltinsAt X.mg P := ⟨bm,ob,b1,b2,hbG,hbP,I.bk _ _ b3,b4,b5,b6⟩
  obtain ⟨ps,hP,ht,hrec⟩ := I.hok P _ hq
  refine PySem.W.kla_eval hdef ?_
  cases hf : codeAmong pos ps.toList with
  | some cv =>
    obtain ⟨c',oc,vs,t,rfl,e1,e2,e3⟩ := hrec pos cv hf
    refine PySem.W.kla_makeFunctionHit hcl I.ok.glob (I.mod.glob.keeps I.bk) hcd (hC.keeps I.bk) hP ht hf hat fun ctv h' tk hk hsz => ?_
    have kk : ∀ b u,s.heap.get? b = some u -> (h'.push { cls := .type "function",data := .func (PySem.W.kla_fn "<lambda>" (X.env.qual ++ "<lambda>") params body scope clos ((X.mg "__name__").getD .none) (.ref c') ctv) }).get? b = some u := fun b u e => Heap.get?_push_of_some _ (hk b u e)
    have J := I.kept (t' := tk) kk
    refine h _ c' oc _ ctv _ tk H (.inl rfl) J (Heap.get?_push_size _ rfl) hsz ?_ e1 ⟨vs,t,e2,e3⟩
    cases z : H h'.objs.size with
    | none => rfl
    | some o => exact absurd (Nat.lt_of_lt_of_le (I.hok.lt z) hsz) (Nat.lt_irrefl _)
  | none =>
    refine PySem.W.kla_makeFunction hcl I.ok.glob (I.mod.glob.keeps I.bk) hcd (hC.keeps I.bk) hP ht hf hgP hat fun c' ctv h' tk hx hge hlt hcr htb => ?_
    obtain ⟨c2,oc,vs,t,e0,e1,e2,e3⟩ := hcr
    cases e0
    have hn : H c' = none := I.hok.fresh hge
    have hPlt : P < s.heap.objs.size := I.hok.lt hq
    have hcP : P ≠ c' := fun z => by rw [z,hn] at hq; cases hq
    generalize hF : h'.push (PySem.W.kla_obj "<lambda>" (X.env.qual ++ "<lambda>") params body scope clos ((X.mg "__name__").getD .none) c' ctv) = hh
    have g1 : ∀ b u,h'.get? b = some u -> hh.get? b = some u := fun b u e => by rw [<- hF]; exact Heap.get?_push_of_some _ e
    have kk : ∀ b u,b ≠ P -> s.heap.get? b = some u -> hh.get? b = some u := fun b u n e => g1 b u (hx b u n e)
    have nP : ∀ b,H b = none -> b ≠ P := fun b n z => by rw [z,hq] at n; cases n
    have ltc : ∀ b u,s.heap.get? b = some u -> b ≠ c' := fun b u e z => by
      have := Heap.lt_size e
      rw [z] at this
      exact absurd (Nat.lt_of_lt_of_le this hge) (Nat.lt_irrefl _)
    have U : Un X.fs [] H (upd H c' (Fz oc)) s.heap hh := ⟨fun b u e n _ _ => kk b u (nP b n) e,fun b u e n _ _ => ⟨u.slots,kk b u (nP b n) e⟩,fun b u e n _ => by rw [upd_ne (ltc b u e)]; exact n,
      fun b u e _ => by
        by_cases z : b = P
        · subst z; exact ⟨_,g1 _ _ htb⟩
        · exact ⟨u,kk b u z e⟩,
      fun b xs e => by rw [upd_ne (ne_of_none e hn)]; exact e,fun b u xs e => by rw [upd_ne (ne_of_none e hn)]; exact e,fun b p e => ⟨#[],by rw [upd_ne (ne_of_none e hn),e]; simp⟩⟩
    have hok : HOk X.prog X.w (upd H c' (Fz oc)) hh := fun b u e => by
      by_cases hb : b = c'
      · subst hb
        rw [upd_same] at e
        cases e
        exact ⟨g1 _ _ e1,_,g1 _ _ e1⟩
      · rw [upd_ne hb] at e
        by_cases hbP' : b = P
        · subst hbP'
          rw [hq] at e
          cases e
          refine ⟨_,g1 _ _ htb,?_,fun pos' cv hc => ?_⟩
          · rw [Array.toList_append]; exact TriplesOk_snoc _ _ _ _ ht
          · rw [Array.toList_append] at hc
            rcases among_snoc _ ht hc with z | z
            · obtain ⟨c3,oc3,vs3,t3,y1,y2,y3⟩ := hrec pos' cv z
              exact ⟨c3,oc3,vs3,t3,y1,by rw [upd_ne (ne_of_none y2 hn)]; exact y2,y3⟩
            · exact ⟨c',oc,vs,t,z,upd_same,e2,e3⟩
        · refine (I.hok b u e).stay (fun v o hv ev => kk v o (fun z => ?_) ev) (fun v z => by rw [upd_ne (ne_of_none z hn)]; exact z) fun v xs z => by rw [upd_ne (ne_of_none z hn)]; exact z
          rcases hv with y | y
          · exact hbP' (y.symm.trans z)
          · rw [z,hq] at y; cases y
    have J := I.un (t' := tk) U hok
    have hfs : s.heap.objs.size <= h'.objs.size := Nat.le_trans hge (Nat.le_of_lt hlt)
    have hge' : h'.objs.size ≠ c' := Nat.ne_of_gt hlt
    refine h _ c' oc ((X.mg "__name__").getD .none) ctv hh tk _ (.inr ⟨hn,rfl⟩) J (by rw [<- hF]; exact Heap.get?_push_size _ rfl) hfs ?_ upd_same ⟨vs,t,e2,e3⟩
    rw [upd_ne hge']
    cases z : H h'.objs.size with
    | none => rfl
    | some o => exact absurd (Nat.lt_of_lt_of_le (I.hok.lt z) hfs) (Nat.lt_irrefl _)
def bigB (X : Cx)(s : Shared)(H : Hp) : Heap := PySem.W.hideAll s.heap (trk s.heap H ++ frs X.stack)
section
variable {X : Cx}{pins : List (Addr × Obj)}{σ : St}{H : Hp}{s : Shared}
theorem bigB_get {b : Addr}{o : Obj}(e : s.heap.get? b = some o)(n : H b = none)(nf : b ∉ frs X.stack) : (bigB X s H).get? b = some o :=
  PySem.W.hideAll_get _ e fun hm => by
    rcases List.mem_append.mp hm with z | z
    · have q : (H b).isSome = true := (List.mem_filter.mp z).2
      rw [n] at q; simp at q
    · exact nf z
theorem of_bigB {b : Addr}{o : Obj}(e : (bigB X s H).get? b = some o) : s.heap.get? b = some o /\ H b = none := by
  have e' : s.heap.get? b = some o := PySem.W.of_hideAll _ e
  refine ⟨e',?_⟩
  cases q : H b with
  | none => rfl
  | some x =>
    have hm : b ∈ trk s.heap H ++ frs X.stack := List.mem_append_left _ (List.mem_filter.mpr ⟨List.mem_range.mpr (Heap.lt_size e'),by simp [q]⟩)
    have z : (bigB X s H).get? b = none := PySem.W.hideAll_none _ hm
    rw [z] at e; cases e
theorem Inv.bigK (I : Inv X pins σ H s) : ∀ b o,X.base.get? b = some o -> (bigB X s H).get? b = some o := fun b o e => by
  refine bigB_get (I.bk b o e) (I.bs b o e).2 fun hb => ?_
  rcases List.mem_cons.mp (I.stkSub b hb) with z | z
  · have h1 := Heap.lt_size e
    rw [z] at h1
    exact absurd (Nat.lt_of_lt_of_le h1 (Nat.le_trans I.ok.bsz I.ok.above)) (Nat.lt_irrefl _)
  · exact I.ok.nofr e z
theorem funFrames_hide {h g : Heap} : ∀ {l : List Env},h.FunFrames g l -> ∀ (B : Heap),(∀ b ∈ frs l,B.get? b = none) -> h.FunFrames B l
  | [],_,_,_ => trivial
  | env :: r,⟨hk,⟨L,o,hf,hn,ho,hd⟩,hr⟩,B,hB => by
    have hL : ∀ b ∈ frs r,b ∈ frs (env :: r) := fun b hb => by unfold frs; rw [List.filterMap_cons,hf]; exact List.mem_cons_of_mem _ hb
    exact ⟨hk,⟨L,o,hf,hB L (by unfold frs; rw [List.filterMap_cons,hf]; exact List.mem_cons_self),ho,hd⟩,funFrames_hide hr B fun b hb => hB b (hL b hb)⟩
theorem Inv.bigM (I : Inv X pins σ H s) : Mod X.K X.mg (bigB X s H) :=
  ⟨I.mod.kin.keeps I.bigK,I.mod.glob.keeps I.bigK,let ⟨mb,h1,h2⟩ := I.mod.blt; ⟨mb,h1.keeps I.bigK,h2⟩,I.mod.nolimit.keeps I.bigK⟩
theorem Inv.env0B (I : Inv X pins σ H s) : Env0 X.prog X.w X.K X.mg (bigB X s H) X.A X.stack s H :=
  ⟨I.ok.frames,I.bigM,fun b o e => of_bigB e,Nat.le_of_eq (PySem.W.hideAll_size _ _),funFrames_hide I.stack _ fun b hb => PySem.W.hideAll_none _ (List.mem_append_right _ hb),I.stkFree,I.hok,I.bare⟩
theorem Inv.bigC (I : Inv X pins σ H s){x : Str}{c : Addr}{u : Option Value}(hfn : X.fn x = true)(hc : X.env.cells.lookup x = some c)(z : s.heap.IsCell c u) : (bigB X s H).IsCell c u := by
  obtain ⟨o,ho,hd⟩ := z
  refine ⟨o,bigB_get ho (I.freeC x c hc) fun hb => ?_,hd⟩
  rcases List.mem_cons.mp (I.stkSub c hb) with y | y
  · exact I.cne x c hc y
  · obtain ⟨_,o',ho',_⟩ := I.ok.funs.mem y
    exact absurd (Nat.lt_of_lt_of_le (Heap.lt_size ho') (I.ok.cab x c hfn hc)) (Nat.lt_irrefl _)
end
end L2
set_option Elab.async false
set_option linter.all false
set_option maxRecDepth 100000
set_option maxHeartbeats 4000000
namespace L2
open PySem PySem.Spec PyProof.Rows
def cxLam (CX : CXT)(P : Program)(w : World)(K : PySem.W.Frag)(mg : Str -> Option Value)(base : Heap)(N : List Str)(qual : Str)(scope : Scope)(f : Addr)(cd : Value)(cl : List (Str × Addr))(A : Around)(outer : List Env)(s : Shared)(H : Hp)(E : XK) : Cx where
  prog := P
  w := w
  K := K
  mg := mg
  base := base
  A := A.deeper (PySem.W.envX qual scope s.heap.objs.size f cd cl)
  N := N
  s₀ := s
  H₀ := H
  env := PySem.W.envX qual scope s.heap.objs.size f cd cl
  outer := outer
  stack := PySem.W.envX qual scope s.heap.objs.size f cd cl :: outer
  ex := []
  calm := true
  fn := fun _ => false
  pn := []
  xe := fun e s' => wpAny (model P w) (A.deeper (PySem.W.envX qual scope s.heap.objs.size f cd cl)) (leaving (PySem.W.envX qual scope s.heap.objs.size f cd cl) e) (fun _ s'' => CX outer H s E e s'') (fun e' s'' => CX outer H s E e' s'') s'
theorem xe_passL {P : Program}{w : World}{K : PySem.W.Frag}{mg : Str -> Option Value}{base : Heap}{N : List Str}{qual : Str}{scope : Scope}{f : Addr}{cd : Value}{cl : List (Str × Addr)}{A : Around}{outer : List Env}{s : Shared}{H : Hp}{E : XK} :
    Passes (CX1 P w base) (cxLam (CX1 P w base) P w K mg base N qual scope f cd cl A outer s H E) E := by
  intro pins σ H1 s1 e s' I h
  obtain ⟨x,C,H2,rfl,os,bare,U2,hok2,⟨hx0,hb0,hg0,ox,vs,T0,oT,ts,x1,xc,xn,xd,v1,v2,tx,hT0,bT0,gT0,t1,t2,t3⟩,q⟩ := h
  have I2 : Inv (cxLam (CX1 P w base) P w K mg base N qual scope f cd cl A outer s H E) pins σ H2 s' := I.raised os bare U2 hok2
  have hst : s'.heap.FunFrames base (PySem.W.envX qual scope s.heap.objs.size f cd cl :: outer) := I2.stack
  have hfree : ∀ b ∈ frs (PySem.W.envX qual scope s.heap.objs.size f cd cl :: outer),H2 b = none := I2.stkFree
  have U1 : Un (frs outer) [] H H1 s.heap s1.heap := I.base
  have U : Un (frs outer) [] H H2 s.heap s'.heap := I2.base
  show wpAny (model P w) (A.deeper (PySem.W.envX qual scope s.heap.objs.size f cd cl)) (leaving (PySem.W.envX qual scope s.heap.objs.size f cd cl) (.ref x)) _ _ s'
  refine leave_next (s := s') (base := base) I2.ok.frames hst rfl x1 xd v1 t1 t2 t3 tx fun h2 T g => ?_
  have ne1 : ∀ b o,s.heap.get? b = some o -> b ≠ x /\ b ≠ T0 := fun b o eb => by
    obtain ⟨o',e4⟩ := U1.there b o eb (by simp)
    refine ⟨fun z => ?_,fun z => ?_⟩
    · rw [z,hg0] at e4
      cases e4
    · rw [z,gT0] at e4
      cases e4
  have nf : ∀ b o,s.heap.get? b = some o -> b ∉ frs outer -> b ∉ frs (PySem.W.envX qual scope s.heap.objs.size f cd cl :: outer) := fun b o eb nb hb => by
    rcases List.mem_cons.mp (show b ∈ s.heap.objs.size :: frs outer from hb) with z | z
    · exact absurd (Heap.lt_size eb) (by rw [z]; exact Nat.lt_irrefl _)
    · exact nb z
  have nTo : ∀ b o,s'.heap.get? b = some o -> b ≠ T := fun b o eb z => by
    have h1 := Heap.lt_size eb
    rw [z] at h1
    exact absurd (Nat.lt_of_lt_of_le h1 g.new) (Nat.lt_irrefl _)
  have tH : H2 T = none := by
    cases z : H2 T with
    | none => rfl
    | some o =>
      obtain ⟨ob,eo⟩ := (hok2 T o z).ex
      exact absurd rfl (nTo T ob eo)
  have dx := Obj.data_mapFields xd (·.setIfInBounds 1 (Value.ref T))
  refine ⟨x,C,H2,rfl,I2.os,bare,⟨fun b o eb n hb hx => g.keep b o (nf b o eb hb) (ne1 b o eb).1 (by simpa using (ne1 b o eb).2) (U.keep b o eb n hb hx),fun b o eb n hb hx => ?_,U.free,fun b o eb hx => ?_,U.tups,U.frzs,U.tbls⟩,fun b o eb => ?_,⟨hx0,hb0,?_,?_⟩,q⟩
  · obtain ⟨z,e4⟩ := U.slot b o eb n hb hx
    obtain ⟨z',e5⟩ := g.slot b _ (List.mem_cons_of_mem _ hb) e4
    exact ⟨z',e5⟩
  · obtain ⟨o',e4⟩ := U.there b o eb hx
    by_cases hb : b ∈ frs (PySem.W.envX qual scope s.heap.objs.size f cd cl :: outer)
    · obtain ⟨z,e5⟩ := g.slot b o' hb e4
      exact ⟨_,e5⟩
    · exact ⟨o',g.keep b o' hb (ne1 b o eb).1 (by simpa using (ne1 b o eb).2) e4⟩
  · have nx : b ≠ x := fun z => by rw [z,hx0] at eb; cases eb
    refine (hok2 b o eb).stay (fun c v hc ev => g.keep c v (fun hb => ?_) (fun z => ?_) (fun z => ?_) ev) (fun _ z => z) fun _ _ z => z
    · have := hfree c hb
      rcases hc with y | y
      · rw [y,eb] at this; cases this
      · rw [y] at this; cases this
    · rcases hc with y | y
      · rw [<- y,z,hx0] at eb; cases eb
      · rw [z,hx0] at y; cases y
    · have z : c = T0 := by simpa using z
      rcases hc with y | y
      · rw [<- y,z,hT0] at eb; cases eb
      · rw [z,hT0] at y; cases y
  · cases z : s.heap.get? x with
    | none => rfl
    | some o => exact absurd rfl (ne1 x o z).1
  · obtain ⟨oT',ts',g1,g2,g3⟩ := g.tr
    refine ⟨_,_,T,oT',ts',g.exc,(Obj.cls_mapFields ..).trans xc,(dict_mapF ..).trans xn,dx,?_,?_,?_,tH,?_,?_,g1,g2,g3⟩
    · have := (Array.getElem?_eq_some_iff.mp v1).1
      simp [this]
    · rw [Array.getElem?_setIfInBounds_ne (by decide)]
      exact v2
    · intro z
      exact nTo x _ x1 z.symm
    · cases z : base.get? T with
      | none => rfl
      | some o => exact absurd rfl (nTo T o (I2.bk T o z))
    · cases z : s.heap.get? T with
      | none => rfl
      | some o =>
        obtain ⟨o',e4⟩ := U.there T o z (by simp)
        exact absurd rfl (nTo T o' e4)
structure LamOk (P : Program)(w : World)(K : PySem.W.Frag)(mg : Str -> Option Value)(base : Heap)(CX : CXT)(k : Nat)(f c' : Addr)(oc : Obj)(sp : Hp -> VK -> XK -> Prop) : Prop where
  at_ : ∃ oc' od fd sl,base.get? f = some ⟨oc',od,.func fd,sl⟩
  run : ∀ (A : Around) (outer : List Env) (s : Shared) (H : Hp) (Q : VK) (E : XK),Room k A -> Env0 P w K mg base A outer s H -> H c' = some (Fz oc) -> sp H Q E -> codeAny (model P w) A (.call (.ref f) ⟨[],[]⟩) (CR CX outer P w H s Q E) s
structure LamScope (scope : Scope)(cl : List (Str × Addr)) : Prop where
  kind : scope.kind = .function
  co : scope.isCoroutine = false
  gen : scope.isGenerator = false
  nocell : ∀ x ∈ scope.names,x.2 ≠ .cell
  has : ∀ x,scope.names.lookup x = some .free -> ∃ c,cl.lookup x = some c
  inj : ∀ x y c,cl.lookup x = some c -> cl.lookup y = some c -> x = y
  nl : ∀ p ∈ cl,scope.names.lookup p.1 ≠ some .local
theorem lookup_mem2 {κ ν : Type}[BEq κ][LawfulBEq κ] : ∀ {l : List (κ × ν)} {x : κ} {v : ν},l.lookup x = some v -> (x,v) ∈ l
  | (y,u) :: r,x,v,e => by
    rw [List.lookup_cons] at e
    cases h : x == y with
    | true => rw [h] at e; cases e; rw [eq_of_beq h]; exact .head _
    | false => rw [h] at e; exact .tail _ (lookup_mem2 e)
def CellsAt (base : Heap) : List (Str × Addr) -> List V -> Prop
  | [],vs => vs = []
  | (_,c) :: r,vs => ∃ v us u,vs = v :: us /\ base.IsCell c (some u) /\ RelV v u /\ CellsAt base r us
theorem CellsAt.get {base : Heap} : ∀ {cl : List (Str × Addr)} {vs : List V} {i : Nat} {v : V},CellsAt base cl vs -> vs[i]? = some v -> ∃ x c u,cl[i]? = some (x,c) /\ base.IsCell c (some u) /\ RelV v u
  | [],_,_,_,h,e => by rw [show _ = [] from h] at e; simp at e
  | (x,c) :: r,_,0,v,h,e => by
    obtain ⟨w,us,u,rfl,h1,h2,h3⟩ := h
    simp at e; subst e
    exact ⟨x,c,u,rfl,h1,h2⟩
  | (x,c) :: r,_,i + 1,v,h,e => by
    obtain ⟨w,us,u,rfl,h1,h2,h3⟩ := h
    obtain ⟨y,d,z,e1,e2⟩ := CellsAt.get (i := i) h3 (by simpa using e)
    exact ⟨y,d,z,by simpa using e1,e2⟩
theorem CellsAt.mem {base : Heap} : ∀ {cl : List (Str × Addr)} {vs : List V} {x : Str} {c : Addr},CellsAt base cl vs -> (x,c) ∈ cl -> ∃ v,base.IsCell c v
  | (y,d) :: r,_,x,c,h,m => by
    obtain ⟨w,us,u,rfl,h1,h2,h3⟩ := h
    rcases List.mem_cons.mp m with z | z
    · cases z; exact ⟨_,h1⟩
    · exact CellsAt.mem h3 z
theorem CellsAt.len {base : Heap} : ∀ {cl : List (Str × Addr)} {vs : List V},CellsAt base cl vs -> vs.length = cl.length
  | [],_,h => by rw [show _ = [] from h]; rfl
  | (y,d) :: r,_,h => by
    obtain ⟨w,us,u,rfl,h1,h2,h3⟩ := h
    simp [CellsAt.len h3]
theorem lookup_at {κ ν : Type}[BEq κ][LawfulBEq κ] : ∀ {l : List (κ × ν)} {i : Nat} {x : κ} {v : ν},(l.map (·.1)).Nodup -> l[i]? = some (x,v) -> l.lookup x = some v
  | (y,u) :: r,0,x,v,_,e => by simp at e; cases e; simp_all
  | (y,u) :: r,i + 1,x,v,nd,e => by
    have e' : r[i]? = some (x,v) := by simpa using e
    rw [List.map_cons,List.nodup_cons] at nd
    rw [List.lookup_cons]
    have hm : (x,v) ∈ r := List.mem_of_getElem? e'
    cases h : x == y with
    | true =>
      have z : x = y := eq_of_beq h
      subst z
      exact absurd (List.mem_map_of_mem (f := (·.1)) hm) nd.1
    | false => exact lookup_at nd.2 e'
theorem lam_ok {P : Program}{w : World}{K : PySem.W.Frag}{mg : Str -> Option Value}{base : Heap}{CX : CXT}{k : Nat}{f c' : Addr}{oc : Obj}{q : Str}{params : Arguments}{body : Expr}{scope : Scope}{cl : List (Str × Addr)}{pm ctv : Value}{vs : List V}{sp : Hp -> VK -> XK -> Prop}
    (S : LamScope scope cl) (nd : (cl.map (·.1)).Nodup) (hf : base.get? f = some (PySem.W.kla_obj "<lambda>" q params body scope cl pm c' ctv)) (hr : RecO q oc) (hc : CellsAt base cl vs)
    (hbind : bindArgs (PySem.W.kla_fn "<lambda>" q params body scope cl pm (.ref c') ctv) ⟨[],[]⟩ = pure [])
    (hbody : ∀ (A : Around) (outer : List Env) (s : Shared) (H : Hp) (Q : VK) (E : XK),Room k (A.deeper (PySem.W.envX q scope s.heap.objs.size f (.ref c') cl)) -> sp H Q E ->
      ∃ t,PE (cxLam CX P w K mg base (cl.map (·.1)) q scope f (.ref c') cl A outer s H E) body t /\ t (vs.map some) H Q) : LamOk P w K mg base CX (k + 1) f c' oc sp := by
  refine ⟨⟨_,_,_,_,hf⟩,fun A outer s H Q E hroom e0 hH hsp => ?_⟩
  have keep : ∀ b o,base.get? b = some o -> s.heap.get? b = some o := fun b o e => (e0.bs b o e).1
  have lim : s.heap.NoLimit := e0.mod.nolimit.keeps keep
  obtain ⟨hoc,_⟩ := e0.hok c' _ hH
  obtain ⟨fs,t,d1,d2⟩ := hr
  refine PySem.W.kla_callFunE hroom.depth (keep _ _ hf) rfl S.co S.gen rfl ⟨c',oc,fs,t,rfl,hoc,d1,d2⟩ ?_
  rw [hbind]
  refine wpAny_pure (wpAny_newFunctionEnv S.nocell (fun x hx => absurd hx (by simp)) (fun h₁ hns hsb => ⟨lim.fresh _ hsb,?_⟩) S.kind)
  show codeAny _ _ (.expr body (PySem.W.envX q scope s.heap.objs.size f (.ref c') cl)) _ _
  have hk₁ : ∀ b o,s.heap.get? b = some o -> h₁.get? b = some o := fun b o e => hsb.extBut b o (Nat.ne_of_lt (Heap.lt_size e)) (Heap.get?_push_of_some _ e)
  have hcb : ∀ x c,cl.lookup x = some c -> ∃ v o,base.get? c = some o /\ o.data = .cell v := fun x c e => by
    obtain ⟨v,o,e1,e2⟩ := hc.mem (lookup_mem2 e)
    exact ⟨v,o,e1,e2⟩
  have noA : ∀ b : Addr,b ∉ (cxLam CX P w K mg base (cl.map (·.1)) q scope f (.ref c') cl A outer s H E).ex := fun b z => absurd (show b ∈ ([] : List Addr) from z) (by simp)
  have I : Inv (cxLam CX P w K mg base (cl.map (·.1)) q scope f (.ref c') cl A outer s H E) [] (vs.map some) H { s with heap := h₁,toks := s.toks + ([] : List (Str × Value)).length } := by
    refine ⟨⟨e0.mod,S.kind,rfl,rfl,Nat.le_refl _,S.inj,fun x hx => ?_,fun x c hx _ => absurd (show false = true from hx) Bool.false_ne_true,fun _ => hroom.hd,Around.frames_deeper e0.frames,.inr ⟨rfl,rfl⟩,fun b z => absurd z (noA b),e0.bs,e0.bsz,fun b _ _ => noA b,fun b z => absurd z (noA b),e0.funs,e0.frf⟩,
      rfl,e0.bare,Un.kept hk₁,⟨_,hns,fun i x v h1 h2 h3 => ?_⟩,fun x c h => ?_,e0.hok.fresh (Nat.le_refl _),fun x c h => ?_,fun p hp => absurd (show p ∈ ([] : List (Addr × Obj)) from hp) (by simp),e0.hok.kept hk₁,?_⟩
    · rcases hx with hx | hx
      · exact absurd rfl (S.nocell _ (lookup_mem2 (show scope.names.lookup x = some .cell from hx)))
      · exact S.has x hx
    · rw [List.getElem?_map] at h2
      cases ev : vs[i]? with
      | none => rw [ev] at h2; cases h2
      | some v' =>
        rw [ev] at h2
        cases h2
        obtain ⟨y,c,u,e1,e2,e3⟩ := hc.get ev
        have h1' : (cl.map (·.1))[i]? = some x := h1
        rw [List.getElem?_map,e1] at h1'
        cases h1'
        obtain ⟨o,ho,hd⟩ := e2
        refine ⟨u,e3,.inr ⟨.inr ?_,c,lookup_at nd e1,o,hk₁ _ _ (keep _ _ ho),hd⟩⟩
        rcases h3 with h3 | h3 | h3
        · exact (S.nl _ (List.mem_of_getElem? e1) h3).elim
        · exact absurd rfl (S.nocell _ (lookup_mem2 h3))
        · exact h3
    · obtain ⟨v,o,e1,e2⟩ := hcb x c h
      exact ⟨v,o,hk₁ _ _ (keep _ _ e1),e2⟩
    · obtain ⟨v,o,e1,e2⟩ := hcb x c h
      exact (e0.bs _ _ e1).2
    · show (vs.map some).length = (cl.map (·.1)).length
      rw [List.length_map,List.length_map]; exact hc.len
  obtain ⟨tt,ht,hq⟩ := hbody A outer s H Q E (hroom.deeper _) hsp
  refine PySem.W.kla_codeExpr (wpAny_mono (ht [] _ (vs.map some) H _ I hq) (fun v s' hs => ?_) fun e s' hs => hs)
  obtain ⟨v',H',J,rv,qq⟩ := hs
  exact ⟨v',H',J.os,J.bare,J.base,J.hok,rv,qq⟩
section
variable {X : Cx}{CX : CXT}{k : Nat}{f c' : Addr}{oc : Obj}{sp : Hp -> VK -> XK -> Prop}{E : XK}{x : Str}{p pos : Pos}
def tThk (i : Nat)(f c' : Addr)(oc : Obj)(sp : Hp -> VK -> XK -> Prop)(E : XK) : TE := fun σ H Q => σ[i]? = some (some (.ref f)) /\ H c' = some (Fz oc) /\ sp H Q E
theorem pe_thunk {i : Nat} (L : LamOk X.prog X.w X.K X.mg X.base CX k f c' oc sp) (hr : Room k X.A) (hx : Passes CX X E) (hN : X.N[i]? = some x) (hv : Vis X.env.scope x := by first | exact Or.inl rfl | exact Or.inr (Or.inl rfl) | exact Or.inr (Or.inr rfl)) (hd : (x == ("__debug__" : Str)) = false := by decide) (hcd : (x == ("__classdict__" : Str)) = false := by decide) :
    PE X (.Call (.Name x p) [] [] pos) (tThk i f c' oc sp E) := by
  intro pins s σ H Q I ⟨e,hH,h⟩
  refine wpAny_Call_Name_kw (thn ((pe_var (X := X) hN hv hd hcd) pins s σ H (fun v H' => v = .ref f /\ H' = H) I ⟨_,e,rfl,rfl⟩) fun u s1 ⟨v,H1,I1,r,ev,eH⟩ => ?_)
  subst ev eH
  have eu : u = .ref f := r
  subst eu
  obtain ⟨oc',od,fd,sl,ef⟩ := L.at_
  refine PySem.W.callWith_F0 ⟨oc',od,fd,sl,I1.bk _ _ ef⟩ ?_
  refine wpAny_call (codeAny_mono (L.run X.A X.stack s1 H1 Q E hr I1.env0 hH h) fun r s' hq => ?_)
  cases r with
  | error e => exact hx pins σ H1 s1 e s' I1 hq
  | ok fl =>
    cases fl with
    | ret u => exact I1.after hq
    | next => exact False.elim hq
    | brk => exact False.elim hq
    | cont => exact False.elim hq
end
end L2
set_option Elab.async false
set_option linter.all false
set_option maxRecDepth 100000
set_option maxHeartbeats 4000000
namespace L2
open PySem PySem.Spec PyProof.Rows
def lamF (K : PySem.W.Frag)(ds : List D)(us : List V)(f : Addr) : Frg where
  ads := []
  R := fun M H v => v = .ref f /\ Reps K M H ds us
  keep := fun M H H' v k h => ⟨h.1,Reps.keep (fun b o n e => k b o (.inl n) e) _ _ h.2⟩
  avoid := fun M M' H v k h => ⟨h.1,Reps.avoid k _ _ h.2⟩
  ref := fun M H v h => ⟨f,h.1⟩
  nt := fun _ _ _ _ c m => nomatch m
abbrev LSp := List D -> Prop -> (Addr -> Prop) -> Prop
def lamSp (K : PySem.W.Frag)(B : BagT)(S : LSp)(us : List V) : Hp -> VK -> XK -> Prop := fun H Q E => ∃ (M : Addr -> Prop) (b : Option Addr) (ds : List D) (R : Prop) (Ed : Addr -> Prop),S ds R Ed /\ Reps K M H ds us /\ okB B b H /\ (∀ p,b = some p -> M p) /\ (∀ c,M c -> ∃ o,H c = some o) /\
  (∀ v H',R -> Kp b H H' -> okB B b H' -> Q v H') /\ ∀ C H',Ed C -> Kp b H H' -> okB B b H' -> E (.ref C) none H'
theorem lam_okD {P : Program}{w : World}{K : PySem.W.Frag}{mg : Str -> Option Value}{base : Heap}{CX : CXT}{k : Nat}{f c' : Addr}{oc : Obj}{q : Str}{params : Arguments}{body : Expr}{scope : Scope}{cl : List (Str × Addr)}{pm ctv : Value}{us : List V}{B : BagT}{St : LSp}
    (S : LamScope scope cl) (nd : (cl.map (·.1)).Nodup) (hf : base.get? f = some (PySem.W.kla_obj "<lambda>" q params body scope cl pm c' ctv)) (hr : RecO q oc) (hc : CellsAt base cl us)
    (hbind : bindArgs (PySem.W.kla_fn "<lambda>" q params body scope cl pm (.ref c') ctv) ⟨[],[]⟩ = pure [])
    (hbody : ∀ (A : Around) (outer : List Env) (s : Shared) (H : Hp) (E : XK) (M : Addr -> Prop) (b : Option Addr) (ds : List D) (R : Prop) (Ed : Addr -> Prop),Room k (A.deeper (PySem.W.envX q scope s.heap.objs.size f (.ref c') cl)) -> ELink ⟨K,B,H,M,b⟩ E Ed -> St ds R Ed ->
      ∃ d,JE (cxLam CX P w K mg base (cl.map (·.1)) q scope f (.ref c') cl A outer s H E) ⟨K,B,H,M,b⟩ body d /\ d (ds.map some) (fun _ => R)) : LamOk P w K mg base CX (k + 1) f c' oc (lamSp K B St us) :=
  lam_ok S nd hf hr hc hbind fun A outer s H Q E hroom ⟨M,b,ds,R,Ed,hS,hR,ho,hb,hd,hq,hx⟩ => by
    obtain ⟨d,J,q⟩ := hbody A outer s H E M b ds R Ed hroom (fun C H' e k o => hx C H' e k o) hS
    refine ⟨_,J.h,[],M,b,ds.map some,_,⟨⟨ho,hb,hd,fun _ m => m⟩,Kp.refl _ _,.inl rfl,fun i d' e => ?_,by simp [hR.length],fun _ hq => nomatch hq⟩,q,fun x v H' hx' _ k o => hq v H' hx' k o⟩
    rw [List.getElem?_map] at e
    cases z : ds[i]? with
    | none => rw [z] at e; cases e
    | some d2 =>
      rw [z] at e
      cases e
      obtain ⟨v,e1,r⟩ := hR.get z
      exact ⟨v,by rw [List.getElem?_map,e1]; rfl,r.x⟩
def dThk (K : PySem.W.Frag)(i : Nat)(f : Addr)(us : List V)(S : LSp)(Ed : Addr -> Prop) : DS := fun F ρ => ∃ ds,ρ[i]? = some (some (.frg (lamF K ds us f) (.adr f))) /\ S ds (F.nx ρ) Ed
section
variable {X : Cx}{W : Wd}{CX : CXT}{k : Nat}{f c' : Addr}{oc : Obj}{S : LSp}{us : List V}{E : XK}{Ed : Addr -> Prop}{x : Str}{p pos epos : Pos}
theorem jds_thunk {i : Nat} (hE : ELink W E Ed) (L : LamOk X.prog X.w X.K X.mg X.base CX k f c' oc (lamSp W.K W.B S us)) (hr : Room k X.A) (hx : Passes CX X E) (hc : W.H0 c' = some (Fz oc)) (hb : W.b0 ≠ some c') (hN : X.N[i]? = some x) (hv : Vis X.env.scope x := by first | exact Or.inl rfl | exact Or.inr (Or.inl rfl) | exact Or.inr (Or.inr rfl)) (hd : (x == ("__debug__" : Str)) = false := by decide) (hcd : (x == ("__classdict__" : Str)) = false := by decide)
    (hs : swapsWith (.Call (.Name x p) [] [] pos) none epos.line X.env = pure false := by rfl) : JS X W (.Expr (.Call (.Name x p) [] [] pos) epos) (dThk W.K i f us S Ed) := ⟨(ps_expr (pe_thunk L hr hx hN hv hd hcd) hs).mono fun En σ H hh => hh.elim fun pn M b ρ F s l q => by
  obtain ⟨ds,e,hS⟩ := q
  obtain ⟨v,e1,r0,⟨rv,rr⟩,r2⟩ := s.env i _ e
  subst rv
  refine ⟨e1,s.kp _ _ hb hc,M,b,ds,_,Ed,hS,rr,s.ok,s.bagM,s.dom,fun v H' hR k o => l.nx _ _ _ _ _ (s.step k o) hR,fun C H' hC k o => ?_⟩
  have st := s.toSta.step k o
  exact hE C H' hC st.kp st.ok0⟩
end
def spT (K : PySem.W.Frag)(B : BagT)(f : Addr)(us : List V)(c' : Addr)(oc : Obj)(St : List D -> (D -> Prop) -> Prop) : Sp := fun vs H Q _ => ∃ (M : Addr -> Prop) (b : Option Addr) (ds : List D) (PP : D -> Prop),vs = [.ref f] /\ St ds PP /\ Reps K M H ds us /\ okB B b H /\ (∀ p,b = some p -> M p) /\ (∀ c,M c -> ∃ o,H c = some o) /\ H c' = some (Fz oc) /\ b ≠ some c' /\
  (∀ d v H',PP d -> Rep K M H' d v -> Kp b H H' -> okB B b H' -> Q v H')
theorem Fun.okT {P : Program}{w : World}{K : PySem.W.Frag}{mg : Str -> Option Value}{base : Heap}{x qual : Str}{st : Stmt}{fr : Addr}{fd : FuncData}{N : List Str}{pn : Str}{k : Nat}{B : BagT}{f : Addr}{us : List V}{c' : Addr}{oc : Obj}{Sd : List D -> (D -> Prop) -> Prop}(F : Fun K x qual st fr fd)(S : FnScope N [pn] (defScope st))
    (hbody : ∀ (cdv : Value) (A : Around) (outer : List Env) (s : Shared) (H : Hp) (E : XK) (M : Addr -> Prop) (bg : Option Addr) (ds : List D) (PP : D -> Prop),Room k (A.deeper (envOfC qual (defScope st) s.heap.objs.size fr cdv)) -> H c' = some (Fz oc) -> bg ≠ some c' -> Sd ds PP ->
      ∃ d,JSs (cxOf CX0 P w K mg base N qual (defScope st) fr cdv A outer s H E).nox ⟨K,B,H,M,bg⟩ (defBody st) d /\ d { nx := fun _ => PP .non,rt := PP } (startD N [.frg (lamF K ds us f) (.adr f)])) : FnOk P w K mg base CX0 (k + 1) fr fd [pn] (spT K B f us c' oc Sd) :=
  F.ok S (fun vs H Q E h => by obtain ⟨_,_,_,_,rfl,_⟩ := h; rfl) fun cdv A outer s H vs Q E hr h => by
    obtain ⟨M,bg,ds,PP,rfl,hS,hR,ho,hb,hd,hH,hbc,hq⟩ := h
    obtain ⟨d,J,q⟩ := hbody cdv A outer s H E M bg ds PP hr hH hbc hS
    refine ⟨_,J.h,[],M,bg,startD N [.frg (lamF K ds us f) (.adr f)],_,⟨⟨⟨ho,hb,hd,fun _ m => m⟩,Kp.refl _ _,.inl rfl,fun i d' e => ?_,by simp [start,startD],fun _ hq => nomatch hq⟩,fun i j d e v u c e0 _ _ _ m _ => ?_,fun _ _ hq => nomatch hq⟩,leave hq,q⟩
    · have e1 := startD_get e
      cases i with
      | zero =>
        simp at e1
        subst e1
        have z : (∀ c ∈ (lamF K ds us f).ads,M c /\ bg ≠ some c /\ H c = none /\ ¬ M c) /\ (lamF K ds us f).R M H (.ref f) /\ Rep K (fun c => M c /\ c ∉ (lamF K ds us f).ads) H (.adr f) (.ref f) := ⟨fun c m => absurd (show c ∈ ([] : List Addr) from m) (by simp),⟨rfl,hR⟩,by unfold Rep; rfl⟩
        exact ⟨.ref f,rfl,z⟩
      | succ n => simp at e1
    · have e1 := startD_get e0
      cases i with
      | zero =>
        simp at e1
        subst e1
        exact absurd (show c ∈ ([] : List Addr) from m) (by simp)
      | succ n => simp at e1
def RefOk (P : Program)(w : World)(K : PySem.W.Frag)(mg : Str -> Option Value)(B : BagT)(k : Nat)(fr : Addr)(fd : FuncData)(pn q : Str)(params : Arguments)(body : Expr)(scope : Scope)(St : List D -> (D -> Prop) -> Prop)(xs : List Str) : Prop :=
  ∀ (base : Heap) (f c' : Addr) (oc : Obj) (pm ctv : Value) (cl : List (Str × Addr)) (us : List V),K.In base -> base.Ns mainGlobals mg -> cl.map (·.1) = xs -> base.get? f = some (PySem.W.kla_obj "<lambda>" q params body scope cl pm c' ctv) -> CellsAt base cl us -> (∀ x y c,cl.lookup x = some c -> cl.lookup y = some c -> x = y) -> RecO q oc ->
    FnOk P w K mg base CX0 k fr fd [pn] (spT K B f us c' oc St)
def slotsD (ρ : Ev) : List Nat -> List D -> Prop
  | [],ds => ds = []
  | j :: js,ds => ∃ d r,ds = d :: r /\ ρ[j]? = some (some d) /\ plain d = true /\ slotsD ρ js r
def dLam (js : List Nat)(St : List D -> (D -> Prop) -> Prop) : DE := fun ρ P => ∃ ds,slotsD ρ js ds /\ St ds fun d => plain d = true /\ P d
def closL (env : Env)(N : List Str) : List Nat -> List (Str × Addr) -> Prop
  | [],cl => cl = []
  | j :: js,cl => ∃ x c r,cl = (x,c) :: r /\ N[j]? = some x /\ env.scope.names.lookup x = some .cell /\ env.cells.lookup x = some c /\ closL env N js r
theorem closL.cells {X : Cx}{W : Wd}{pins : List (Addr × Obj)}{σ : St}{H H' : Hp}{s : Shared}{pn : List (D × V)}{M : Addr -> Prop}{b : Option Addr}{ρ : Ev}(I : Inv X pins σ H s)(hfn : ∀ x,X.fn x = true)(st : Sta W pn M b H' σ ρ) : ∀ {js : List Nat} {cl : List (Str × Addr)} {ds : List D},closL X.env X.N js cl -> slotsD ρ js ds -> ∃ us,CellsAt (bigB X s H) cl us /\ Reps W.K M H' ds us
  | [],_,_,h,h' => by
    rw [show _ = [] from h,show _ = [] from h']
    exact ⟨[],rfl,rfl⟩
  | j :: js,_,_,h,h' => by
    obtain ⟨x,c,r,rfl,e1,e2,e3,h2⟩ := h
    obtain ⟨d,rd,rfl,e4,e5,h3⟩ := h'
    obtain ⟨us,z1,z2⟩ := closL.cells (js := js) I hfn st h2 h3
    obtain ⟨v,y1,y2⟩ := st.env j d e4
    obtain ⟨m,_,hl⟩ := I.loc
    obtain ⟨u,ru,lk⟩ := hl j x v e1 y1 (.inr (.inl e2))
    have kc : X.env.kindOf x = some .cell := e2
    rcases lk with ⟨k1,_⟩ | ⟨_,c',k2,k3⟩
    · rw [kc] at k1; cases k1
    · rw [e3] at k2
      cases k2
      exact ⟨v :: us,⟨v,us,u,rfl,I.bigC (hfn x) e3 k3,ru,z1⟩,v,us,rfl,RepX.rep y2 e5,z2⟩
theorem closL.look {env : Env}{N : List Str} : ∀ {js : List Nat} {cl : List (Str × Addr)},closL env N js cl -> ∀ x c,cl.lookup x = some c -> env.cells.lookup x = some c
  | [],_,h,x,c,e => by rw [show _ = [] from h] at e; cases e
  | j :: js,_,h,x,c,e => by
    obtain ⟨y,c',r,rfl,e1,e2,e3,h2⟩ := h
    rw [List.lookup_cons] at e
    cases z : x == y with
    | true => rw [z] at e; cases e; rw [eq_of_beq z]; exact e3
    | false => rw [z] at e; exact closL.look h2 x c e
def BagLst (B : BagT) : Prop := ∀ p H,B.ok p H -> ∃ vs,H p = some (.lst vs)
theorem jde_lam {X : Cx}{W : Wd}{k : Nat}{fr c P : Addr}{fd : FuncData}{pn q x : Str}{params : Arguments}{body : Expr}{scope : Scope}{St : List D -> (D -> Prop) -> Prop}{js : List Nat}{xs : List Str}{cl : List (Str × Addr)}{p lpos pos : Pos}
    (hK : X.K = W.K) (hB : BagLst W.B) (hT : W.H0 P = some (.cod q)) (hTb : W.b0 ≠ some P) (hcd : X.env.code = .ref c) (hC : PySem.W.CodeHd X.base c P) (hM : BM X.mg X.base) (hcl : closureFor scope X.env = pure cl) (hjs : closL X.env X.N js cl) (hxs : cl.map (·.1) = xs) (hdef : defaultsOf params X.env = ([],[])) (hqu : X.env.qual ++ "<lambda>" = q) (hfn : ∀ x,X.fn x = true)
    (hm : X.mg x = some (.ref fr)) (hk : PySem.W.keepIn X.K (.ref fr) = true) (hg : Gl X x) (hb : Binds X.K fd [pn] []) (hr : Room k X.A) (R : RefOk X.prog X.w X.K X.mg W.B k fr fd pn q params body scope St xs)
    (hd : (x == ("__debug__" : Str)) = false := by decide) (he : starEach [.Lambda params body scope lpos] X.env = (false,eval (.Lambda params body scope lpos) X.env) :: starEach [] X.env := by rfl) (hpl : (backTo pos (starEach [] X.env)).any (·.1) = false := by rfl) :
    JE X W (.Call (.Name x p) [.Lambda params body scope lpos] [] pos) (dLam js St) := ⟨fun pins s σ H Q I h => by
  subst hxs
  refine wpAny_Call_Name_kw (ld_glob I hg hm ?_ hd)
  obtain ⟨pn',M,b,ρ,PP,st,⟨ds,hsl,hS⟩,kq⟩ := h
  have hP : H P = some (.cod q) := st.kp _ _ hTb hT
  refine PySem.W.callWith_K (h₀ := X.base) I.ok.mod.kin hk ?_ he hpl
  rw [he]
  show wpAny _ _ (spliced ((false,eval (.Lambda params body scope lpos) X.env) :: backTo pos (starEach [] X.env))) _ _ s
  refine Calls.spliced_cons (lam_make I hP hcd hC hM hcl hdef hqu fun f c' oc pm ctv h' tk H' hH' J hf hge hfn' hc' hrec => Calls.spliced_nil ⟨J.kIn,?_⟩)
  have hH2 : Kp b H H' /\ okB W.B b H' /\ b ≠ some c' := by
    rcases hH' with rfl | ⟨hn,rfl⟩
    · refine ⟨Kp.refl _ _,st.ok,fun z => ?_⟩
      obtain ⟨vs,e⟩ := hB c' _ (st.ok c' z)
      rw [hc'] at e; cases e
    · refine ⟨Kp.upd hn,st.okU hn,fun z => ?_⟩
      obtain ⟨vs,e⟩ := hB c' _ (st.ok c' z)
      rw [hn] at e; cases e
  have st2 := st.step hH2.1 hH2.2.1
  obtain ⟨us,hc1,hc2⟩ := hjs.cells J hfn st2 hsl
  have nfr : f ∉ frs X.stack := fun z => by
    rcases List.mem_cons.mp (J.stkSub f z) with y | y
    · have := I.lt
      rw [<- y] at this
      exact absurd (Nat.lt_of_lt_of_le this hge) (Nat.lt_irrefl _)
    · exact I.nofs hge y
  have hfB : (bigB X { s with heap := h',toks := tk } H').get? f = some (PySem.W.kla_obj "<lambda>" q params body scope cl pm c' ctv) := bigB_get hf hfn' nfr
  have FR := R _ f c' oc pm ctv cl us J.bigM.kin J.bigM.glob rfl hfB hc1 (fun y z c e1 e2 => I.ok.inj y z c (hjs.look _ _ e1) (hjs.look _ _ e2)) hrec
  have hl : ([.ref f] : List Value).length = [pn].length := rfl
  refine wpAny_call (codeAny_mono (FR.run X.A X.stack _ H' ⟨[.ref f],[]⟩ [.ref f] [.ref f] Q E0 hr J.env0B (by have := hb { s with heap := h',toks := tk } [.ref f] J.kIn (by simp); simpa using this) (.cons rfl .nil) ?_) fun r s' hq => ?_)
  · refine ⟨M,b,ds,_,rfl,hS,hK ▸ hc2,hH2.2.1,st2.bagM,st2.dom,hc',hH2.2.2,fun d v H2 hd' rd k2 o2 => kq d v H2 hd'.2 ?_ (hH2.1.trans k2) o2⟩
    rw [hK] at rd
    exact rd.x
  · cases r with
    | error e => exact False.elim hq
    | ok fl =>
      cases fl with
      | ret u => exact J.after hq
      | next => exact False.elim hq
      | brk => exact False.elim hq
      | cont => exact False.elim hq⟩
end L2
set_option Elab.async false
set_option linter.all false
set_option maxRecDepth 100000
set_option maxHeartbeats 4000000
namespace L2
open PySem PySem.Spec PyProof.Rows
def TbOk (tb : List (Addr × Str))(H : Hp) : Prop := ∀ p ∈ tb,H p.1 = some (.cod p.2)
theorem TbOk.kp {tb : List (Addr × Str)}{H H' : Hp}(h : TbOk tb H)(k : Kp none H H') : TbOk tb H' := fun p hp => k _ _ (by intro z; cases z) (h p hp)
theorem lookup_of_nd {κ ν : Type}[BEq κ][LawfulBEq κ] : ∀ {l : List (κ × ν)} {p : κ × ν},(l.map (·.1)).Nodup -> p ∈ l -> l.lookup p.1 = some p.2 := fun {l p} nd hp => by
  obtain ⟨i,e⟩ := List.getElem?_of_mem hp
  exact lookup_at nd e
structure FunC (K : PySem.W.Frag)(x qual : Str)(st : Stmt)(f : Addr)(fd : FuncData)(c : Addr) : Prop where
  ex : ∃ (oc : Value) (od : Option Addr) (kV doc pm : Value) (an : Option Addr) (ct : Value) (osl : Array (Option Value)),
    fd = PySem.W.fnOf x qual (defArgs st) (defBody st) (defScope st) .none kV doc pm an (.ref c) ct /\ K.lookup f = some ⟨oc,od,.func fd,osl⟩ /\ PySem.W.codeIn K (.ref c) qual = true
  kp : PySem.W.keepIn K (.ref f) = true
theorem FunC.plain {K : PySem.W.Frag}{x qual : Str}{st : Stmt}{f : Addr}{fd : FuncData}{c : Addr}(F : FunC K x qual st f fd c) : Fun K x qual st f fd := by
  obtain ⟨⟨oc,od,kV,doc,pm,an,ct,osl,e,l,h⟩,kp⟩ := F
  exact ⟨⟨oc,od,kV,doc,pm,an,.ref c,ct,osl,e,l,h⟩,kp⟩
section
variable {P : Program}{w : World}{K : PySem.W.Frag}{mg : Str -> Option Value}{base : Heap}
theorem FunC.ok {x qual : Str}{st : Stmt}{f : Addr}{fd : FuncData}{c : Addr}{N ps : List Str}{k : Nat}{sp : Sp}(F : FunC K x qual st f fd c)(S : FnScope N ps (defScope st))(len : ∀ vs H Q E,sp vs H Q E -> vs.length = ps.length)
    (hbody : ∀ (A : Around) (outer : List Env) (s : Shared) (H : Hp) (vs : List V) (Q : VK) (E : XK),Room k (A.deeper (envOfC qual (defScope st) s.heap.objs.size f (.ref c))) -> sp vs H Q E ->
      ∃ t,PSs (cxOf CX0 P w K mg base N qual (defScope st) f (.ref c) A outer s H E).nox (defBody st) t /\ t { nx := fun _ H' => Q .non H',rt := Q } (start N vs) H) : FnOk P w K mg base CX0 (k + 1) f fd ps sp := by
  obtain ⟨oc,od,kV,doc,pm,an,ct,osl,rfl,lk,hcd⟩ := F.ex
  refine fn_of lk hcd S len fun A outer s H vs Q E hr hsp => ?_
  obtain ⟨t,h,q⟩ := hbody A outer s H vs Q E hr hsp
  exact ⟨t,h.nox,q⟩
def liftSpTb (K : PySem.W.Frag)(B : BagT)(tb : List (Addr × Str))(S : DSp) : Sp := fun vs H Q E => liftSp K B S vs H Q E /\ TbOk tb H
theorem FunC.okDT {x qual : Str}{st : Stmt}{f : Addr}{fd : FuncData}{N ps : List Str}{k : Nat}{B : BagT}{Sd : DSp}{tb : List (Addr × Str)}{c : Addr}(F : FunC K x qual st f fd c)(S : FnScope N ps (defScope st))(len : ∀ ds PP Ed,Sd ds PP Ed -> ds.length = ps.length)
    (hbody : ∀ (A : Around) (outer : List Env) (s : Shared) (H : Hp) (E : XK) (M : Addr -> Prop) (bg : Option Addr) (ds : List D) (PP : D -> Prop) (Ed : Addr -> Prop),Room k (A.deeper (envOfC qual (defScope st) s.heap.objs.size f (.ref c))) -> TbOk tb H -> okB B bg H -> Sd ds PP Ed ->
      ∃ d,JSs (cxOf CX0 P w K mg base N qual (defScope st) f (.ref c) A outer s H E).nox ⟨K,B,H,M,bg⟩ (defBody st) d /\ d { nx := fun _ => PP .non,rt := PP } (startD N ds)) : FnOk P w K mg base CX0 (k + 1) f fd ps (liftSpTb K B tb Sd) :=
  F.ok S (fun vs H Q E h => liftSp.len len vs H Q E h.1) fun A outer s H vs Q E hr h => by
    obtain ⟨⟨M,bg,ds,PP,Ed,hS,hR,ho,hb,hd,hq,hx⟩,hT⟩ := h
    obtain ⟨d,J,q⟩ := hbody A outer s H E M bg ds PP Ed hr hT ho hS
    exact ⟨_,J.h,run hR ho hb hd hq q⟩
def lawSpT (K : PySem.W.Frag)(tb : List (Addr × Str)) : Sp := fun vs H Q _ => ∃ (a : Addr) (ns : List Int),vs = [.ref a] /\ SqL K H a (ns.map V.int) /\ ns.length <= 63 /\ TbOk tb H /\ ∀ H',TbOk tb H' -> Q (.bl true) H'
theorem FunC.okLT {x qual : Str}{st : Stmt}{f : Addr}{fd : FuncData}{N : List Str}{p : Str}{k : Nat}{tb : List (Addr × Str)}{c : Addr}(B : BagT)(F : FunC K x qual st f fd c)(S : FnScope N [p] (defScope st))
    (hbody : ∀ (A : Around) (outer : List Env) (s : Shared) (H : Hp) (E : XK) (ns : List Int),Room k (A.deeper (envOfC qual (defScope st) s.heap.objs.size f (.ref c))) -> TbOk tb H -> ns.length <= 63 ->
      ∃ d,JSs (cxOf CX0 P w K mg base N qual (defScope st) f (.ref c) A outer s H E).nox ⟨K,B,H,fun _ => False,none⟩ (defBody st) d /\ d { nx := fun _ => D.non = .bl true,rt := fun d => d = .bl true } (startD N [.scr ns])) :
    FnOk P w K mg base CX0 (k + 1) f fd [p] (lawSpT K tb) :=
  F.ok S (fun vs H Q E h => by obtain ⟨a,ns,rfl,_⟩ := h; rfl) fun A outer s H vs Q E hr h => by
    obtain ⟨a,ns,rfl,hS,hlen,hT,k⟩ := h
    have hR : RepAs K (fun _ => False) none H [.scr ns] [.ref a] := ⟨.ref a,[],rfl,⟨a,rfl,hS.imp (fun q => ⟨id,q⟩) id⟩,rfl⟩
    obtain ⟨d,J,q⟩ := hbody A outer s H E ns hr hT hlen
    exact ⟨_,J.h,run (P := fun d => d = .bl true) hR (fun p e => by cases e) (fun p e => by cases e) (fun c m => m.elim) (fun d v H' hd r kk _ => by cases hd; cases (show _ = _ from r); exact k H' (hT.kp kk)) q⟩
end
theorem jde_ownTb {X : Cx}{W : Wd}{x : Str}{k : Nat}{ps : List Str}{S : DSp}{tb : List (Addr × Str)}{p pos : Pos}{e : Expr}{es : List Expr}{dA : DA}(hb0 : W.b0 = none)(hT : TbOk tb W.H0)(G : Callee X.prog X.w X.K X.mg X.base CX0 x k ps (liftSpTb W.K W.B tb S))(hr : Room k X.A)(hg : Gl X x)(ha : JA X W (e :: es) dA)(hdb : (x == ("__debug__" : Str)) = false := by decide) (he : starEach (e :: es) X.env = (false,eval e X.env) :: starEach es X.env := by rfl) (hpl : (backTo pos (starEach es X.env)).any (·.1) = false := by rfl) :
    JE X W (.Call (.Name x p) (e :: es) [] pos) (dCall S (fun _ => False) dA) := ⟨(pe_own G hr hg ha.h hdb he hpl).mono fun σ H Q hh => hh.elim fun pn M b ρ P st h k => by
  refine ⟨pn,M,b,ρ,_,st,h,fun xs vs H1 hx rx k1 o1 => ?_⟩
  have st1 := st.step k1 o1
  refine ⟨⟨M,b,xs,P,_,hx.2,?_,o1,st.bagM,st1.dom,fun d v H' hd rd k2 o2 => k d v H' hd rd.x (k1.trans k2) o2,fun C H' hC k2 o2 => hC.elim⟩,hT.kp (by have := st1.kp; rw [hb0] at this; exact this)⟩
  rw [List.append_nil]; exact rx.args _ _ hx.1⟩
theorem law_callT {tb : List (Addr × Str)}{P : Program}{w : World}{K : PySem.W.Frag}{mg mb : Str -> Option Value}{CX : CXT}{k : Nat}{fa a : Addr}{fd : FuncData}{x : Str}{sp : Sp}{s₁ : Shared}{vs : List Value}{ns : List Int}
    (KX : K.In s₁.heap) (hns : s₁.heap.Ns mainGlobals mg) (hb : s₁.heap.Ns builtinsNs mb) (hbb : ∀ x : Str,x ≠ "__name__" -> mb x = bootBuiltins x) (hlim : s₁.heap.NoLimit) (hg : s₁.gens = #[])
    (ha : s₁.heap.get? a = some { cls := .type "list",data := .seq vs.toArray }) (hi : IntsAre vs ns) (hl : ns.length <= sizeLine) (hr : Room k callerA)
    (hT : ∀ p ∈ tb,s₁.heap.get? p.1 = some (PySem.W.tabObj #[]) /\ K.lookup p.1 = none /\ ∃ c,PySem.W.CodeHd s₁.heap c p.1) (hnd : (tb.map (·.1)).Nodup) (hBM : BM mg s₁.heap)
    (F : ∀ base : Heap,K.In base -> base.Ns mainGlobals mg -> BM mg base -> FnOk P w K mg base CX k fa fd [x] sp) (hbind : ∀ (s : Shared) (u : Value),BindsTo s fd ⟨[u],[]⟩ [(x,u)])
    (hsp : ∀ H : Hp,TbOk tb H -> SqL K H a (ns.map V.int) -> sp [.ref a] H (fun v H' => v = .bl true /\ TbOk tb H') fun _ _ _ => False)
    (hCX : ∀ H e s',CX [] H s₁ (fun _ _ _ => False) e s' -> False) :
    codeAny (model P w) callerA (.call (.ref fa) ⟨[.ref a],[]⟩) (fun r s' => r = .ok (.ret (.bool true)) /\ OldK s₁.heap s'.heap /\ s'.os = s₁.os /\ AllBare s'.gens) s₁ := by
  have rv := vals_ints hi
  have lenV := hi.length
  have core : ∀ H : Hp,(∀ b,(∃ q,(b,q) ∈ tb /\ H b = some (.cod q)) \/ H b = none \/ ∃ o xs,H b = some (.frz o (.lst xs))) -> TbOk tb H -> SqL K H a (ns.map V.int) -> HOk P w H s₁.heap -> (∀ b,H b ≠ none -> b = a \/ ∃ q,(b,q) ∈ tb) -> (H a ≠ none -> K.lookup a = none) ->
      codeAny (model P w) callerA (.call (.ref fa) ⟨[.ref a],[]⟩) (fun r s' => r = .ok (.ret (.bool true)) /\ OldK s₁.heap s'.heap /\ s'.os = s₁.os /\ AllBare s'.gens) s₁ := by
    intro H hO hTb hS hok hA hK
    have base_of : ∀ {b : Addr} {o : Obj},s₁.heap.get? b = some o -> H b = none -> (hidT s₁.heap H).get? b = some o := fun e n => hidT_get e n
    have noA : ∀ {b : Addr} {o : Obj} {es : Array DictEntry} {ep : Nat},s₁.heap.get? b = some o -> o.data = .dict es ep -> H b = none := fun {b o es ep} e d => by
      cases q : H b with
      | none => rfl
      | some u =>
        rcases hA b (by rw [q]; simp) with e' | ⟨q',hm⟩
        · subst e'
          rw [ha] at e; cases e
          have d' : Data.seq vs.toArray _ = Data.dict es ep := d
          cases d'
        · rw [(hT _ hm).1] at e; cases e; cases d
    have nsK : ∀ {b : Addr} {m : Str -> Option Value},s₁.heap.Ns b m -> (hidT s₁.heap H).Ns b m := fun {b m} ⟨o,es,ep,e,d,r⟩ => ⟨o,es,ep,base_of e (noA e d),d,r⟩
    have hKb : K.In (hidT s₁.heap H) := fun b o e => base_of (KX b o e) (by
      cases q : H b with
      | none => rfl
      | some u =>
        rcases hA b (by rw [q]; simp) with e' | ⟨q',hm⟩
        · subst e'
          rw [hK (by rw [q]; simp)] at e; cases e
        · rw [(hT _ hm).2.1] at e; cases e)
    have hBb : BM mg (hidT s₁.heap H) := by
      obtain ⟨bm,ob,b1,b2,b3,b4,b5,b6⟩ := hBM
      refine ⟨bm,ob,b1,b2,base_of b3 ?_,b4,b5,b6⟩
      cases q : H bm with
      | none => rfl
      | some u =>
        rcases hA bm (by rw [q]; simp) with e' | ⟨q',hm⟩
        · rw [e',ha] at b3; cases b3; exact absurd (Value.type.inj b4) (by decide)
        · rw [(hT _ hm).1] at b3; cases b3; cases b4
    have hM : Mod K mg (hidT s₁.heap H) := ⟨hKb,nsK hns,⟨mb,nsK hb,hbb⟩,let ⟨mc,h1,h2⟩ := hlim; ⟨mc,nsK h1,h2⟩⟩
    have e0 : Env0 P w K mg (hidT s₁.heap H) callerA [] s₁ H := ⟨rfl,hM,fun b o e => of_hidT e,Nat.le_of_eq (hidT_size _ _),trivial,fun b hb => absurd (show b ∈ ([] : List Addr) from hb) (by simp),hok,.of_eq hg⟩
    refine codeAny_mono ((F _ hKb (nsK hns) hBb).run callerA [] s₁ H ⟨[.ref a],[]⟩ [.ref a] [.ref a] _ _ hr e0 (hbind s₁ (.ref a)) (.cons rfl .nil) (hsp H hTb hS)) fun r s' h => ?_
    cases r with
    | error e => exact (hCX H e s' h).elim
    | ok fl =>
      cases fl with
      | next => exact False.elim h
      | brk => exact False.elim h
      | cont => exact False.elim h
      | ret u =>
        obtain ⟨v,H',os,bare,un,hok',r',q⟩ := h
        obtain ⟨q',hTb'⟩ := q
        have q' : v = .bl true := q'
        subst q'
        obtain rfl : u = Value.bool true := r'
        have key : ∀ b o,s₁.heap.get? b = some o -> s'.heap.get? b = some o \/ ((∃ q,(b,q) ∈ tb) /\ ∃ ps,s'.heap.get? b = some (PySem.W.tabObj ps)) := fun b o e => by
          rcases hO b with ⟨q',hm,z⟩ | z | ⟨ob,xs,z⟩
          · obtain ⟨o',eo⟩ := un.there b o e (by simp)
            refine .inr ⟨⟨q',hm⟩,?_⟩
            obtain ⟨ps,e2,_⟩ := hok' b _ (hTb' _ hm)
            exact ⟨ps,e2⟩
          · exact .inl (un.keep b o e z (by intro z; exact absurd (show b ∈ ([] : List Addr) from z) (by simp)) (by simp))
          · have z2 := un.frzs b ob _ z
            obtain ⟨e1,_⟩ := hok b _ z
            obtain ⟨e2,_⟩ := hok' b _ z2
            rw [e] at e1; cases e1
            exact .inl e2
        refine ⟨rfl,⟨fun b o e => ?_,fun b o e => (key b o e).elim (fun z => ⟨o,z⟩) fun z => ⟨_,z.2.choose_spec⟩⟩,os,bare⟩
        rcases key b o e with z | ⟨⟨q',hm⟩,ps,z⟩
        · exact .inl z
        · obtain ⟨e1,_,c,hC⟩ := hT _ hm
          rw [e1] at e
          cases e
          exact .inr (.inl ⟨(hC.tab e1).isCodeTable,rfl,#[],ps,rfl,by simpa using z⟩)
  have t0 : ∀ p ∈ tb,tb.lookup p.1 = some p.2 := fun p hp => lookup_of_nd hnd hp
  have tm : ∀ b q,tb.lookup b = some q -> (b,q) ∈ tb := fun b q e => lookup_mem2 e
  have cok : ∀ (H : Hp) b q,(b,q) ∈ tb -> ObjOk P w H s₁.heap b (.cod q) := fun H b q hm => ⟨#[],(hT _ hm).1,trivial,fun pos cv h => by simp [codeAmong] at h⟩
  cases hk : K.lookup a with
  | some o =>
    have e := KX a o hk
    rw [ha] at e
    cases e
    refine core (fun b => (tb.lookup b).map HO.cod) (fun b => ?_) (fun p hp => by show (tb.lookup p.1).map HO.cod = _; rw [t0 p hp]; rfl) (.inr ⟨_,vs.toArray,_,hk,rfl,rfl,rfl,by rw [List.size_toArray,lenV]; exact hl,by simpa using rv⟩) (fun b u z => ?_) (fun b z => ?_) fun z => ?_
    · cases e : tb.lookup b with
      | none => exact .inr (.inl (by first | rfl | (simp [e]; done)))
      | some q => exact .inl ⟨q,tm b q e,by first | rfl | (simp [e]; done)⟩
    · have z' : (tb.lookup b).map HO.cod = some u := z
      cases e : tb.lookup b with
      | none => rw [e] at z'; cases z'
      | some q => rw [e] at z'; cases z'; exact cok _ b q (tm b q e)
    · cases e : tb.lookup b with
      | none => exact absurd (by first | rfl | (simp [e]; done)) z
      | some q => exact .inr ⟨q,tm b q e⟩
    · cases e : tb.lookup a with
      | none => exact absurd (by first | rfl | (simp [e]; done)) z
      | some q => exact (hT _ (tm a q e)).2.1
  | none =>
    have na : ∀ q,(a,q) ∉ tb := fun q hm => by
      have := (hT _ hm).1
      rw [ha] at this; cases this
    refine core (fun b => if b = a then some (.frz { cls := .type "list",data := .seq vs.toArray } (.lst (ns.map V.int))) else (tb.lookup b).map HO.cod) (fun b => ?_) (fun p hp => ?_) (.inl (.inr ⟨{ cls := .type "list",data := .seq vs.toArray },if_pos rfl⟩)) (fun b u z => ?_) (fun b z => ?_) fun _ => hk
    · by_cases hb : b = a
      · exact .inr (.inr ⟨_,_,if_pos hb⟩)
      · cases e : tb.lookup b with
        | none => exact .inr (.inl ((if_neg hb).trans (by first | rfl | (rw [e]; rfl))))
        | some q => exact .inl ⟨q,tm b q e,(if_neg hb).trans (by first | rfl | (rw [e]; rfl))⟩
    · have nb : p.1 ≠ a := fun z => na p.2 (by rw [<- z]; exact hp)
      exact (if_neg nb).trans (by rw [t0 p hp]; rfl)
    · by_cases hb : b = a
      · have z' := (if_pos hb).symm.trans z
        cases z'
        subst hb
        exact ⟨ha,by rw [List.length_map]; exact hl,vs,_,rv,ha⟩
      · have z' := (if_neg hb).symm.trans z
        cases e : tb.lookup b with
        | none => rw [e] at z'; cases z'
        | some q => rw [e] at z'; cases z'; exact cok _ b q (tm b q e)
    · by_cases hb : b = a
      · exact .inl hb
      · cases e : tb.lookup b with
        | none => exact absurd ((if_neg hb).trans (by first | rfl | (rw [e]; rfl))) z
        | some q => exact .inr ⟨q,tm b q e⟩
theorem walk_ofT {tb : List (Addr × Str)}{l : PySem.W.OpenLaw}{n k : Nat}{q : Program}{loose : List Str}{XP : (Str -> Option Value) -> Heap -> Prop}{YP : World -> Heap -> Prop}{d : DefRec}{K : Params -> PySem.W.Frag}{CX : World -> CXT}{sp : World -> Sp}{x : Str}
    (hn : l.most = some n) (hn2 : n <= sizeLine) (hdf : d.params.defaults = []) (hr : Room k callerA)
    (hY : ∀ (w : World) (h : Heap),YP w h -> (K w.params).In h /\ ∀ p ∈ tb,h.get? p.1 = some (PySem.W.tabObj #[]) /\ (K w.params).lookup p.1 = none /\ ∃ c,PySem.W.CodeHd h c p.1) (hnd : (tb.map (·.1)).Nodup)
    (F : ∀ (w : World) (mg : Str -> Option Value) (fa : Addr) (h : Heap),(K w.params).In h -> h.Ns mainGlobals mg -> mg d.name = some (.ref fa) ->
      ∃ fd : FuncData,(∀ (s : Shared) (u : Value),BindsTo s fd ⟨[u],[]⟩ [(x,u)]) /\
        ∀ base : Heap,(K w.params).In base -> base.Ns mainGlobals mg -> BM mg base -> FnOk l.prog w (K w.params) mg base (CX w) k fa fd [x] (sp w))
    (hsp : ∀ (w : World) (H : Hp) (a : Addr) (ns : List Int),ns.length <= n -> TbOk tb H -> SqL (K w.params) H a (ns.map V.int) -> sp w [.ref a] H (fun v H' => v = .bl true /\ TbOk tb H') fun _ _ _ => False)
    (hCX : ∀ (w : World) (H : Hp) (s : Shared) (e : Value) (s' : Shared),CX w [] H s (fun _ _ _ => False) e s' -> False) :
    PySem.W.WalkO q loose XP YP l.row.toRowW d [] (fun f vs => PySem.call f vs) := by
  refine Att.attach_call hn hdf fun w s₀ s₁ mg mb fa o pm cd doc a vs ns G Y ho hd hcd hmg hobj hints hlen hg => ?_
  obtain ⟨KX,hT⟩ := hY w _ Y
  obtain ⟨fd,hb,hF⟩ := F w mg fa _ KX G.T.g hmg
  exact law_callT KX G.T.g G.T.b G.T.builtins G.T.nolimit hg hobj hints (Nat.le_trans hlen hn2) hr hT hnd G.T.bmain hF hb (fun H hO hS => hsp w H a ns hlen hO hS) fun H e s' => hCX w H s₁ e s'
structure RefC (P : Program)(w : World)(K : PySem.W.Frag)(mg : Str -> Option Value)(B : BagT)(x : Str)(k : Nat)(pn q : Str)(params : Arguments)(body : Expr)(scope : Scope)(St : List D -> (D -> Prop) -> Prop)(xs : List Str) : Prop where
  ex : ∃ (fr : Addr) (fd : FuncData),mg x = some (.ref fr) /\ PySem.W.keepIn K (.ref fr) = true /\ Binds K fd [pn] [] /\ RefOk P w K mg B k fr fd pn q params body scope St xs
theorem jde_lamR {X : Cx}{W : Wd}{k : Nat}{c P : Addr}{pn q x : Str}{params : Arguments}{body : Expr}{scope : Scope}{St : List D -> (D -> Prop) -> Prop}{js : List Nat}{xs : List Str}{cl : List (Str × Addr)}{p lpos pos : Pos}
    (R : RefC X.prog X.w X.K X.mg W.B x k pn q params body scope St xs) (hr : Room k X.A) (hK : X.K = W.K) (hB : BagLst W.B) (hT : W.H0 P = some (.cod q)) (hTb : W.b0 ≠ some P) (hC : PySem.W.CodeHd X.base c P) (hM : BM X.mg X.base) (hcd : X.env.code = .ref c) (hcl : closureFor scope X.env = pure cl) (hjs : closL X.env X.N js cl) (hxs : cl.map (·.1) = xs) (hdef : defaultsOf params X.env = ([],[])) (hqu : X.env.qual ++ "<lambda>" = q) (hfn : ∀ x,X.fn x = true)
    (hg : Gl X x) (hd : (x == ("__debug__" : Str)) = false := by decide) (he : starEach [.Lambda params body scope lpos] X.env = (false,eval (.Lambda params body scope lpos) X.env) :: starEach [] X.env := by rfl) (hpl : (backTo pos (starEach [] X.env)).any (·.1) = false := by rfl) :
    JE X W (.Call (.Name x p) [.Lambda params body scope lpos] [] pos) (dLam js St) := by
  obtain ⟨fr,fd,hm,hk,hb,R⟩ := R.ex
  exact jde_lam hK hB hT hTb hcd hC hM hcl hjs hxs hdef hqu hfn hm hk hg hb hr R hd he hpl
theorem lamScope_mk {scope : Scope}{cl : List (Str × Addr)}{xs : List Str}(hx : cl.map (·.1) = xs)(k : scope.kind = .function)(co : scope.isCoroutine = false)(gen : scope.isGenerator = false)
    (b1 : (scope.names.all fun p => decide (p.2 ≠ .cell)) = true) (b2 : (scope.names.all fun p => decide (p.2 ≠ .free) || xs.contains p.1) = true) (b3 : (xs.all fun x => decide (scope.names.lookup x = some .free)) = true) (hi : ∀ x y c,cl.lookup x = some c -> cl.lookup y = some c -> x = y) : LamScope scope cl := by
  subst hx
  refine ⟨k,co,gen,fun x hx => of_decide_eq_true (List.all_eq_true.mp b1 x hx),fun x e => ?_,hi,fun p hp e => ?_⟩
  · have h := List.all_eq_true.mp b2 (x,.free) (lookup_mem2 e)
    simp only [ne_eq,not_true_eq_false,decide_false,Bool.false_or,List.contains_eq_mem,decide_eq_true_eq] at h
    obtain ⟨q,hq,e2⟩ := List.mem_map.mp h
    clear e h
    induction cl with
    | nil => cases hq
    | cons a r ih =>
      obtain ⟨y,c⟩ := a
      cases z : x == y with
      | true => exact ⟨c,by rw [List.lookup_cons,z]⟩
      | false =>
        have nq : q ≠ (y,c) := fun h => by rw [h] at e2; rw [<- e2] at z; simp at z
        have hq' : q ∈ r := (List.mem_cons.mp hq).resolve_left nq
        have : ∃ c,r.lookup x = some c := by
          clear ih hi b1 b2 b3 nq hq z
          induction r with
          | nil => cases hq'
          | cons a r ih =>
            obtain ⟨y',c'⟩ := a
            cases z : x == y' with
            | true => exact ⟨c',by rw [List.lookup_cons,z]⟩
            | false =>
              have nq : q ≠ (y',c') := fun h => by rw [h] at e2; rw [<- e2] at z; simp at z
              obtain ⟨d,hd⟩ := ih ((List.mem_cons.mp hq').resolve_left nq)
              exact ⟨d,by rw [List.lookup_cons,z]; exact hd⟩
        obtain ⟨d,hd⟩ := this
        exact ⟨d,by rw [List.lookup_cons,z]; exact hd⟩
  · have h := of_decide_eq_true (List.all_eq_true.mp b3 p.1 (List.mem_map_of_mem hp))
    rw [h] at e
    cases e
def atS (l : List Stmt)(i : Nat) : Stmt := l.getD i (.Pass ⟨0,0,0,0⟩)
def inIf : Stmt -> List Stmt
  | .If _ b _ _ => b
  | _ => []
def noX : Expr := .Constant .none 0 ⟨0,0,0,0⟩
def retX : Stmt -> Expr
  | .Return (some e) _ => e
  | _ => noX
def argX : Expr -> Expr
  | .Call _ (a :: _) _ _ => a
  | _ => noX
def lamP : Expr -> Arguments
  | .Lambda p _ _ _ => p
  | _ => defArgs (.Pass ⟨0,0,0,0⟩)
def lamB : Expr -> Expr
  | .Lambda _ b _ _ => b
  | _ => noX
def lamS : Expr -> Scope
  | .Lambda _ _ s _ => s
  | _ => defScope (.Pass ⟨0,0,0,0⟩)
end L2
set_option Elab.async false
set_option linter.all false
set_option maxRecDepth 100000
set_option maxHeartbeats 4000000
namespace K
open PySem PySem.Spec PyProof.Rows L2
local macro_rules | `(tactic| walk_at "o") => `(tactic| first | exact Or.inl rfl | exact Or.inr rfl)
local macro_rules | `(tactic| walk_at "v") => `(tactic| first | exact Or.inl rfl | exact Or.inr (Or.inl rfl) | exact Or.inr (Or.inr rfl))
local macro_rules | `(tactic| walk_at "bg") => `(tactic| first | assumption | exact Bag.same (by walk_at "bg") (Same.upd (by assumption)) | exact Bag.same (by walk_at "bg") (by assumption))
local macro_rules | `(tactic| walk_at "hp") => `(tactic| first | assumption | exact upd_same | (refine Same.get (Same.upd (by assumption)) ?_; walk_at "hp") | (refine Same.get (by assumption) ?_; walk_at "hp") | (refine Keep.tup (by assumption) (by walk_at "bg") ?_; (walk_at "hp")))
local macro_rules | `(tactic| walk_at "sm") => `(tactic| first | exact Same.refl _ | assumption | (refine Same.trans ?_ (Same.upd (by assumption)); walk_at "sm") | (refine Same.trans ?_ (by assumption); walk_at "sm"))
local macro_rules | `(tactic| walk_at "kp") => `(tactic| first | exact Keep.refl _ _ | assumption | (refine Keep.trans ?_ (Same.keep (Same.upd (by assumption))); walk_at "kp") | (refine Keep.trans ?_ (by assumption); walk_at "kp") | (refine Keep.trans ?_ (Same.keep (by assumption)); walk_at "kp"))
local macro_rules | `(tactic| walk_at "bd") => `(tactic| first | assumption | exact Bd.mul (by walk_at "bd") (by walk_at "bd") | exact Bd.add (by walk_at "bd") (by walk_at "bd") | exact Bd.sub (by walk_at "bd") (by walk_at "bd") | exact Bd.neg (by walk_at "bd") | exact Bd.num _ (by decide))
local macro_rules | `(tactic| walk_at "rd1") => `(tactic| first | refine ⟨_,_,rfl,rfl,?_⟩ | refine ⟨_,rfl,?_⟩ | (refine' ⟨_,?xs,_,?vv,rfl,rfl,SqT.of ?ia,?ib,?_⟩; (case ia => walk_at "hp"); (case ib => rfl)) | refine And.intro (CMulB.right (Bd.num _ (by decide))) ?_ | (refine' rd_mul ?m1 ?m2 ?m3 ?_; (case m1 => walk_at "bd"); (case m2 => walk_at "bd"); (case m3 => first | decide | omega)) | refine ⟨rfl,?_⟩)
local macro_rules | `(tactic| walk_at "rd") => `(tactic| repeat (walk_at "rd1"))
local macro_rules | `(tactic| walk_at "al") => `(tactic| (refine ⟨(Nat.le_trans (Nat.le_of_ble_eq_true rfl) le1000),?_⟩; intro p en))
local macro_rules | `(tactic| walk_at "w") => `(tactic| (conv => whnf))
local macro_rules | `(tactic| walk_at "go1") => `(tactic| first | refine And.intro (by exact rfl) ?_ | refine IfP.t (by exact rfl) ?_ | refine IfP.f (by exact rfl) ?_ | refine And.intro (by exact Nat.le_of_ble_eq_true rfl) ?_ | refine And.intro (by decide) ?_ | refine And.intro (by dsimp only; decide) ?_ | refine And.intro (CMulB.right (Bd.num _ (by decide))) ?_ | refine And.intro (Or.inl ⟨_,_,by walk_at "bd",by walk_at "bd",by first | decide | omega⟩) ?_| refine And.intro ⟨by decide,by decide⟩ ?_)
local macro_rules | `(tactic| walk_at "go") => `(tactic| ((conv => whnf); repeat (walk_at "go1"; (conv => whnf))))
local macro_rules | `(tactic| walk_at "nz") => `(tactic| simp only [startD,List.map_cons,List.map_nil,List.length_cons,List.length_nil,List.replicate,List.cons_append,List.nil_append,List.set_cons_succ,List.set_cons_zero,captD,List.getElem?_cons_succ,List.getElem?_cons_zero,Option.bind_some,Option.bind_none,Option.join_some,Option.join_none,setAll,Nat.reduceAdd,Nat.reduceSub,Int.reduceAdd,Nat.zero_add])
local macro_rules | `(tactic| walk_at "gr") => `(tactic| ((try walk_at "nz"); refine for_rec ?_; walk_at "go"))
local macro_rules | `(tactic| walk_at "gc") => `(tactic| ((try walk_at "nz"); refine comp_rec ?_; walk_at "go"))
local macro_rules | `(tactic| walk_at "sp") => `(tactic| (refine IfP.of (fun h => ?_) (fun h => ?_) <;> (try simp only [decide_eq_true_eq,Bool.bne_false,Bool.bne_true,Bool.not_eq_true',decide_eq_false_iff_not,Bool.not_true,Bool.not_false,Bool.not_eq_false',bne_iff_ne,ne_eq,Bool.not_not] at h)))
def top (i : Nat) : Stmt := PySem.Challenge.pw_onceshade_k14_moves_told.main.body.getD i (.Pass ⟨0,0,0,0⟩)
structure Bi (mg : Str -> Option Value) : Prop where
  abs_ : mg "abs" = none
  len_ : mg "len" = none
  max_ : mg "max" = none
  min_ : mg "min" = none
  range_ : mg "range" = none
  isinstance_ : mg "isinstance" = none
  int_ : mg "int" = none
  bool_ : mg "bool" = none
  tuple_ : mg "tuple" = none
  sum_ : mg "sum" = none
  all_ : mg "all" = none
  any_ : mg "any" = none
  list_ : mg "list" = none
  ValueError_ : mg "ValueError" = none
structure Cs where
  ShadeError : Addr
  NoFraction : Addr
  NoSpot : Addr
  NoBody : Addr
  NoMove : Addr
  NoFlat : Addr
  NoFace : Addr
  NoBoard : Addr
  NoLight : Addr
  NoDeed : Addr
  NoText : Addr
  NoName : Addr
  NoRow : Addr
  Behind : Addr
  TooMany : Addr
structure Ex (K : PySem.W.Frag)(mg : Str -> Option Value)(base : Heap)(c : Cs) : Prop where
  g_ShadeError : mg "ShadeError" = some (.ref c.ShadeError)
  g_NoFraction : mg "NoFraction" = some (.ref c.NoFraction)
  g_NoSpot : mg "NoSpot" = some (.ref c.NoSpot)
  g_NoBody : mg "NoBody" = some (.ref c.NoBody)
  g_NoMove : mg "NoMove" = some (.ref c.NoMove)
  g_NoFlat : mg "NoFlat" = some (.ref c.NoFlat)
  g_NoFace : mg "NoFace" = some (.ref c.NoFace)
  g_NoBoard : mg "NoBoard" = some (.ref c.NoBoard)
  g_NoLight : mg "NoLight" = some (.ref c.NoLight)
  g_NoDeed : mg "NoDeed" = some (.ref c.NoDeed)
  g_NoText : mg "NoText" = some (.ref c.NoText)
  g_NoName : mg "NoName" = some (.ref c.NoName)
  g_NoRow : mg "NoRow" = some (.ref c.NoRow)
  g_Behind : mg "Behind" = some (.ref c.Behind)
  g_TooMany : mg "TooMany" = some (.ref c.TooMany)
  o_NoMove : OwnCls "NoMove" c.NoMove bmV "ValueError.__new__" mg base
  x_NoMove : XCls K c.NoMove
  v_NoMove : PySem.W.subIn K (.ref c.NoMove) (.type "ValueError") = some true
  s_NoMove : PySem.W.subIn K (.ref c.NoMove) (.ref c.ShadeError) = some true
  n_NoMove_NoFraction : PySem.W.kin_not K c.NoMove c.NoFraction = true
  n_NoMove_NoSpot : PySem.W.kin_not K c.NoMove c.NoSpot = true
  n_NoMove_NoBody : PySem.W.kin_not K c.NoMove c.NoBody = true
  n_NoMove_NoFlat : PySem.W.kin_not K c.NoMove c.NoFlat = true
  n_NoMove_NoFace : PySem.W.kin_not K c.NoMove c.NoFace = true
  n_NoMove_NoBoard : PySem.W.kin_not K c.NoMove c.NoBoard = true
  n_NoMove_NoLight : PySem.W.kin_not K c.NoMove c.NoLight = true
  n_NoMove_NoDeed : PySem.W.kin_not K c.NoMove c.NoDeed = true
  n_NoMove_NoText : PySem.W.kin_not K c.NoMove c.NoText = true
  n_NoMove_NoName : PySem.W.kin_not K c.NoMove c.NoName = true
  n_NoMove_NoRow : PySem.W.kin_not K c.NoMove c.NoRow = true
  n_NoMove_Behind : PySem.W.kin_not K c.NoMove c.Behind = true
  n_NoMove_TooMany : PySem.W.kin_not K c.NoMove c.TooMany = true
  sh : XBase K c.ShadeError
  d_STILL : ∃ a,mg "STILL" = some (.ref a) /\ ∀ M H,Rep K M H (D.tup [(D.tup [(D.int (1)),(D.int (0)),(D.int (0)),(D.int (0))]),(D.tup [(D.int (0)),(D.int (1)),(D.int (0)),(D.int (0))]),(D.tup [(D.int (0)),(D.int (0)),(D.int (1)),(D.int (0))]),(D.tup [(D.int (0)),(D.int (0)),(D.int (0)),(D.int (1))])]) (.ref a)
  d_OTHERS : ∃ a,mg "OTHERS" = some (.ref a) /\ ∀ M H,Rep K M H (D.tup [(D.tup [(D.int (1)),(D.int (2))]),(D.tup [(D.int (2)),(D.int (0))]),(D.tup [(D.int (0)),(D.int (1))])]) (.ref a)
def BagP (H : Hp)(p : Addr) : Prop := ∃ f m q : Int,H p = some (.lst [.int f,.int m,.int q]) /\ 0 <= f /\ 0 <= m /\ m < 4294967296 /\ 2147483353 <= q /\ q <= 2147483629
theorem BagP.ne {H : Hp}{p a : Addr}{xs : List V}(b : BagP H p)(h : H a = some (.tup xs)) : a ≠ p := by
  obtain ⟨f,m,st,e,_⟩ := b
  exact ne_of h e (by intro z; cases z)
def DigP (p : Addr)(many : Int)(H : Hp)(Q : VK) : Prop := ∀ (r : Int) H',0 <= r -> r < many -> BagP H' p -> Keep p H H' -> Q (.int r) H'
abbrev s__law_bag : Stmt := top 30
theorem sc__law_bag : FnScope ["_law_script","_law_at","_law_cell","_law_prime","_law_great"] ["_law_script","_law_at"] (defScope s__law_bag) := ⟨rfl,rfl,rfl,by decide +kernel,rfl,by decide +kernel,by decide +kernel⟩
def sp_bag (K : PySem.W.Frag) : Sp := fun vs H Q _ => ∃ (a : Addr) (ns : List Int) (i : Nat),vs = [.ref a,.int i] /\ SqL K H a (ns.map V.int) /\ i <= 1000 /\ ∀ p H',H p = none -> Same H H' -> BagP H' p -> Q (.ref p) H'
theorem ok0__law_bag {P : Program}{w : World}{K : PySem.W.Frag}{mg : Str -> Option Value}{base : Heap}{f : Addr}{fd : FuncData}(F : Fun K "_law_bag" "_law_bag" s__law_bag f fd) (Z : Bi mg) {c : Cs} (Y : Ex K mg base c) : FnOk P w K mg base CX0 1 f fd ["_law_script","_law_at"] (sp_bag K) := by
  refine F.ok sc__law_bag (fun vs H Q E h => ?_) (fun cdv A outer s H vs Q E hr h => ?_)
  · obtain ⟨a,ns,i,rfl,hS,hi,k⟩ := h
    rfl
  · obtain ⟨a,ns,i,rfl,hS,hi,k⟩ := h
    obtain ⟨es1,hes1⟩ : ∃ es : List Expr,es = List.map (fun c : Int × Nat × Pos => Expr.Constant (.int c.1) c.2.1 c.2.2) [(2147483629,0,⟨69,18,69,28⟩),(2147483587,0,⟨69,30,69,40⟩),(2147483579,0,⟨69,42,69,52⟩),(2147483563,0,⟨69,54,69,64⟩),(2147483549,0,⟨69,66,69,76⟩),(2147483543,0,⟨69,78,69,88⟩),(2147483497,0,⟨69,90,69,100⟩),(2147483489,0,⟨69,102,69,112⟩),(2147483477,0,⟨69,114,69,124⟩),(2147483423,0,⟨69,126,69,136⟩),(2147483399,0,⟨69,138,69,148⟩),(2147483353,0,⟨69,150,69,160⟩)] := ⟨_,rfl⟩
    have hT1 : PS (cxOf CX0 P w K mg base ["_law_script","_law_at","_law_cell","_law_prime","_law_great"] "_law_bag" (defScope s__law_bag) f cdv A outer s H E).nox (Stmt.Assign [Expr.Name "_law_prime" ⟨69,4,69,14⟩] (Expr.Subscript (Expr.Tuple es1 0 ⟨69,17,69,161⟩) (Expr.BinOp (Expr.Name "_law_at" ⟨69,162,69,169⟩) .Mod (Expr.Constant (Const.int 12) 0 ⟨69,172,69,174⟩) ⟨69,162,69,174⟩) ⟨69,17,69,175⟩) ⟨69,4,69,175⟩) _ := ps_set (i := 3) sc__law_bag.nd rfl (by walk_at "o") (pe_ix (ix_tupK K (by rfl)) (pe_tupInts (x1 := 0) (pos := ⟨69,17,69,161⟩) [(2147483629,0,⟨69,18,69,28⟩),(2147483587,0,⟨69,30,69,40⟩),(2147483579,0,⟨69,42,69,52⟩),(2147483563,0,⟨69,54,69,64⟩),(2147483549,0,⟨69,66,69,76⟩),(2147483543,0,⟨69,78,69,88⟩),(2147483497,0,⟨69,90,69,100⟩),(2147483489,0,⟨69,102,69,112⟩),(2147483477,0,⟨69,114,69,124⟩),(2147483423,0,⟨69,126,69,136⟩),(2147483399,0,⟨69,138,69,148⟩),(2147483353,0,⟨69,150,69,160⟩)] hes1) (pe_op op_mod (pv 1) pe_int) (fun _ _ => rfl)) rfl (.inl rfl)
    generalize hst1 : Stmt.Assign [Expr.Name "_law_prime" ⟨69,4,69,14⟩] (Expr.Subscript (Expr.Tuple es1 0 ⟨69,17,69,161⟩) (Expr.BinOp (Expr.Name "_law_at" ⟨69,162,69,169⟩) .Mod (Expr.Constant (Const.int 12) 0 ⟨69,172,69,174⟩) ⟨69,162,69,174⟩) ⟨69,17,69,175⟩) ⟨69,4,69,175⟩ = st1 at hT1
    have hR1 := ((pss_cons (ps_set (i := 4) sc__law_bag.nd rfl (by walk_at "o") pe_int)
      (pss_cons (ps_if (pt_cmpR op_ge (pv 2) (pe_op op_pow pe_int pe_int) (nomark _)) (pss_one (ps_set (i := 4) sc__law_bag.nd rfl (by walk_at "o") (pv 2))) pss_nil)
      (pss_one (ps_ret (pe_lst (pa_cons (pv 4) (pa_cons (pe_op op_mod (pe_op op_pow (pe_op op_add (pe_op op_mod (pv 2) (pv 3)) pe_int) pe_int) (pv 3)) (pa_cons (pv 3) pa_nil)))))))) : PSs (cxOf CX0 P w K mg base ["_law_script","_law_at","_law_cell","_law_prime","_law_great"] "_law_bag" (defScope s__law_bag) f cdv A outer s H E).nox ((defBody s__law_bag).drop 3) _)
    have hV1 := @pss_says _ _ _ (pss_cons hT1 hR1)
    refine ⟨_,(pss_cons (ps_set (i := 2) sc__law_bag.nd rfl (by walk_at "o") pe_int)
      (pss_cons (ps_if (pt_cmpR op_lt (pv 1) (pe_callB (call_len_seqK K (by rfl)) rfl Z.len_ bt_len (pa_cons (pv 0) pa_nil)) (nomark _)) (pss_one (ps_set (i := 2) sc__law_bag.nd rfl (by walk_at "o") (pe_ix (ix_listK K (by rfl)) (pv 0) (pv 1) (fun _ _ => rfl)))) pss_nil)
      hV1)),?_⟩
    have ixp : ∀ j : Int,∃ q : Int,atI [.int 2147483629,.int 2147483587,.int 2147483579,.int 2147483563,.int 2147483549,.int 2147483543,.int 2147483497,.int 2147483489,.int 2147483477,.int 2147483423,.int 2147483399,.int 2147483353] (j % 12) = some (V.int q) /\ 2147483353 <= q /\ q <= 2147483629 := fun j => by
      obtain ⟨v,ev,mv⟩ := atI_some (xs := [.int 2147483629,.int 2147483587,.int 2147483579,.int 2147483563,.int 2147483549,.int 2147483543,.int 2147483497,.int 2147483489,.int 2147483477,.int 2147483423,.int 2147483399,.int 2147483353]) (i := j % 12) (Int.emod_nonneg _ (by decide)) (Int.emod_lt_of_pos _ (by decide))
      simp only [List.mem_cons,List.not_mem_nil,or_false] at mv
      rcases mv with e | e | e | e | e | e | e | e | e | e | e | e <;> exact ⟨_,e ▸ ev,by decide,by decide⟩
    obtain ⟨q,xq,q0,q1⟩ := ixp (i : Int)
    have fin : ∀ (cv f : Int) (H1 : Hp),Same H H1 -> 0 <= f -> ∀ p,H1 p = none -> Q (.ref p) (upd H1 p (.lst [.int f,.int ((cv % q + 7919) ^ (3 : Int).toNat % q),.int q])) := fun cv f H1 S hf p hp => by
      have h1 := Int.emod_nonneg ((cv % q + 7919) ^ (3 : Int).toNat) (show q ≠ 0 by omega)
      have h2 := Int.emod_lt_of_pos ((cv % q + 7919) ^ (3 : Int).toNat) (show 0 < q by omega)
      exact k p _ (S.free hp) (S.trans (Same.upd hp)) ⟨_,_,_,upd_same,hf,h1,by omega,q0,q1⟩
    have hpw : ∀ cv : Int,(cv % q + 7919).natAbs < 2 ^ 64 := fun cv => by
      have h1 := Int.emod_nonneg cv (show q ≠ 0 by omega)
      have h2 := Int.emod_lt_of_pos cv (show 0 < q by omega)
      omega
    walk_at "rd"
    refine ⟨_,_,rfl,.inl hS,?_⟩
    walk_at "rd"
    refine iteB (fun h => ?_) (fun h => ?_)
    · have h : (i : Int) < ((ns.map V.int).length : Nat) := dec_t h
      have hi' : i < ns.length := by rw [List.length_map] at h; omega
      walk_at "rd"
      refine ⟨_,_,_,_,rfl,rfl,hS,atI_nat (v := V.int ns[i]) (by rw [List.getElem?_map,List.getElem?_eq_getElem hi']; rfl),?_⟩
      walk_at "rd"
      refine ⟨by rw [<- hst1,hes1]; rfl,?_⟩
      walk_at "al"
      rename_i pr npr
      walk_at "rd"
      refine ⟨(by show (0 : Int) < 12; decide),?_⟩
      refine ⟨_,_,_,_,rfl,rfl,SqT.of upd_same,xq,?_⟩
      walk_at "rd"
      refine ⟨⟨by decide,by decide,by decide⟩,?_⟩
      walk_at "rd"
      refine iteB (fun h => ?_) (fun h => ?_)
      all_goals
        walk_at "rd"
        refine ⟨(by show 0 < q; omega),?_⟩
        walk_at "rd"
        refine ⟨⟨by decide,by decide,hpw _⟩,?_⟩
        walk_at "rd"
        refine ⟨(by show 0 < q; omega),?_⟩
        walk_at "rd"
        refine ⟨(Nat.le_trans (Nat.le_of_ble_eq_true rfl) le1000),?_⟩
      · exact fin _ _ _ (Same.upd npr) (by have h : (10 : Int) ^ Int.toNat 18 <= _ := dec_t h; have e : (10 : Int) ^ Int.toNat 18 = 1000000000000000000 := (by decide); omega)
      · exact fin _ _ _ (Same.upd npr) (by decide)
    · walk_at "rd"
      refine ⟨by rw [<- hst1,hes1]; rfl,?_⟩
      walk_at "al"
      rename_i pr npr
      walk_at "rd"
      refine ⟨(by show (0 : Int) < 12; decide),?_⟩
      refine ⟨_,_,_,_,rfl,rfl,SqT.of upd_same,xq,?_⟩
      walk_at "rd"
      refine ⟨⟨by decide,by decide,by decide⟩,?_⟩
      walk_at "rd"
      refine ⟨(by show 0 < q; omega),?_⟩
      walk_at "rd"
      refine ⟨⟨by decide,by decide,hpw _⟩,?_⟩
      walk_at "rd"
      refine ⟨(by show 0 < q; omega),?_⟩
      walk_at "rd"
      refine ⟨(Nat.le_trans (Nat.le_of_ble_eq_true rfl) le1000),?_⟩
      exact fin _ _ _ (Same.upd npr) (by decide)
abbrev s__law_digit : Stmt := top 31
theorem sc__law_digit : FnScope ["_law_bag_here","_law_many","_law_found"] ["_law_bag_here","_law_many"] (defScope s__law_digit) := ⟨rfl,rfl,rfl,by decide +kernel,rfl,by decide +kernel,by decide +kernel⟩
def sp_digit : Sp := fun vs H Q _ => ∃ (p : Addr) (many : Int) (n : Nat),vs = [.ref p,.int many] /\ BagP H p /\ 0 < many /\ Bd n many /\ n <= 9000 /\ DigP p many H Q
theorem ok0__law_digit {P : Program}{w : World}{K : PySem.W.Frag}{mg : Str -> Option Value}{base : Heap}{f : Addr}{fd : FuncData}(F : Fun K "_law_digit" "_law_digit" s__law_digit f fd) (Z : Bi mg) {c : Cs} (Y : Ex K mg base c) : FnOk P w K mg base CX0 1 f fd ["_law_bag_here","_law_many"] sp_digit := by
  refine F.ok sc__law_digit (fun vs H Q E h => ?_) (fun cdv A outer s H vs Q E hr h => ?_)
  · obtain ⟨p,many,n,rfl,⟨fg,m,q,hp,hf,hm,hm2,q0,q1⟩,h0,hb,hn,k⟩ := h
    rfl
  · obtain ⟨p,many,n,rfl,⟨fg,m,q,hp,hf,hm,hm2,q0,q1⟩,h0,hb,hn,k⟩ := h
    refine ⟨_,(pss_cons (ps_if (pt_cmpR op_gt (pe_ix (ix_listK K (by rfl)) (pv 0) pe_int (fun _ _ => rfl)) pe_int (nomark _)) (pss_cons (ps_set (i := 2) sc__law_digit.nd rfl (by walk_at "o") (pe_op op_mod (pe_ix (ix_listK K (by rfl)) (pv 0) pe_int (fun _ _ => rfl)) (pv 1)))
      (pss_cons (ps_asg (pe_op op_fdivB (pe_ix (ix_listK K (by rfl)) (pv 0) pe_int (fun _ _ => rfl)) (pv 1)) (pg_sub (pv 0) pe_int set_list))
      (pss_one (ps_ret (pv 2))))) pss_nil)
      (pss_cons (ps_asg (pe_op op_mod (pe_op op_add (pe_op op_mulB (pe_ix (ix_listK K (by rfl)) (pv 0) pe_int (fun _ _ => rfl)) pe_int) pe_int) (pe_ix (ix_listK K (by rfl)) (pv 0) pe_int (fun _ _ => rfl))) (pg_sub (pv 0) pe_int set_list))
      (pss_one (ps_ret (pe_op op_mod (pe_op op_fdivB (pe_op op_mod (pe_op op_pow (pe_ix (ix_listK K (by rfl)) (pv 0) pe_int (fun _ _ => rfl)) pe_int) pe_int) pe_int) (pv 1)))))),?_⟩
    have md : ∀ x : Int,0 <= x % many /\ x % many < many := fun x => ⟨Int.emod_nonneg _ (by omega),Int.emod_lt_of_pos _ h0⟩
    walk_at "rd"
    refine ⟨_,_,_,_,rfl,rfl,SqL.of hp,rfl,?_⟩
    walk_at "rd"
    refine iteB (fun h => ?_) (fun h => ?_)
    · have h : 0 < fg := dec_t h
      walk_at "rd"
      refine ⟨_,_,_,_,rfl,rfl,SqL.of hp,rfl,?_⟩
      walk_at "rd"
      refine ⟨h0,?_⟩
      walk_at "rd"
      refine ⟨_,_,_,_,rfl,rfl,SqL.of hp,rfl,?_⟩
      walk_at "rd"
      refine ⟨⟨h0,n,hb,hn⟩,?_⟩
      walk_at "rd"
      refine ⟨_,_,_,0,rfl,rfl,hp,rfl,?_⟩
      walk_at "rd"
      exact k _ _ (md fg).1 (md fg).2 ⟨_,_,_,upd_same,Int.ediv_nonneg hf (by omega),hm,hm2,q0,q1⟩ Keep.upd
    · have bm : Bd 32 m := Bd.of (by omega) (by omega)
      walk_at "rd"
      refine ⟨_,_,_,_,rfl,rfl,SqL.of hp,rfl,?_⟩
      walk_at "rd"
      refine ⟨_,_,_,_,rfl,rfl,SqL.of hp,rfl,?_⟩
      walk_at "rd"
      refine ⟨(by show 0 < q; omega),?_⟩
      walk_at "rd"
      refine ⟨_,_,_,1,rfl,rfl,hp,rfl,?_⟩
      have h1 := Int.emod_nonneg (m * 48271 + 7919) (show q ≠ 0 by omega)
      have h2 := Int.emod_lt_of_pos (m * 48271 + 7919) (show 0 < q by omega)
      walk_at "rd"
      refine ⟨_,_,_,_,rfl,rfl,SqL.of upd_same,rfl,?_⟩
      walk_at "rd"
      refine ⟨⟨by decide,by decide,(by show ((m * 48271 + 7919) % q).natAbs < 2 ^ 64; omega)⟩,?_⟩
      walk_at "rd"
      refine ⟨(by show (0 : Int) < 2147483647; decide),?_⟩
      walk_at "rd"
      refine ⟨⟨by decide,64,Bd.num _ (by decide),by decide⟩,?_⟩
      walk_at "rd"
      refine ⟨h0,?_⟩
      exact k _ _ (md _).1 (md _).2 ⟨_,_,_,upd_same,hf,h1,by omega,q0,q1⟩ Keep.upd
def BT : BagT := ⟨fun p H => BagP H p,fun p H H' b k => by
  obtain ⟨f,m,q,e,r⟩ := b
  exact ⟨f,m,q,k _ e,r⟩,fun p H b => by
  obtain ⟨f,m,q,e,r⟩ := b
  exact ⟨_,e⟩⟩
theorem keep_kp {p : Addr}{H H' : Hp}(k : Keep p H H') : Kp (some p) H H' := fun c o n e => k c o (fun z => n (by rw [z])) e
def pre_bag : List D -> Prop := fun ds => ∃ (ns : List Int) (i : Nat),ds = [.scr ns,.int i] /\ i <= 1000
theorem up__law_bag {K : PySem.W.Frag} : ∀ vs H Q E,(bagSp K BT pre_bag) vs H Q E -> (sp_bag K) vs H Q E := by
  rintro vs H Q E ⟨M,b,ds,hr,⟨ns,i,rfl,hi⟩,k⟩
  obtain ⟨v,r,rfl,⟨a,rfl,hS⟩,u,r',rfl,h2,h3⟩ := hr
  cases (show _ = _ from h2)
  cases (show _ = _ from h3)
  exact ⟨a,ns,i,rfl,hS.imp (·.2) id,hi,k⟩
theorem ok__law_bag {P : Program}{w : World}{K : PySem.W.Frag}{mg : Str -> Option Value}{base : Heap}{f : Addr}{fd : FuncData}(F : Fun K "_law_bag" "_law_bag" s__law_bag f fd) (Z : Bi mg) {c : Cs} (Y : Ex K mg base c) : FnOk P w K mg base CX0 1 f fd ["_law_script","_law_at"] (bagSp K BT pre_bag) := FnOk.imp (ok0__law_bag F Z Y) up__law_bag
def S_digit : DSp := fun ds P _ => ∃ (many : Int) (n : Nat),ds = [.bag,.int many] /\ 0 < many /\ Bd n many /\ n <= 9000 /\ ∀ r,0 <= r -> r < many -> P (.int r)
theorem up__law_digit {K : PySem.W.Frag} : ∀ vs H Q E,(liftSp K BT S_digit) vs H Q E -> sp_digit vs H Q E := by
  rintro vs H Q E ⟨M,b,ds,P,Ed,⟨many,n,rfl,h0,hbd,hn,hP⟩,⟨v,r,rfl,⟨p,rfl,rfl⟩,u,r',rfl,h2,h3⟩,ho,hb,hd,hq,hx⟩
  cases (show _ = _ from h2)
  cases (show _ = _ from h3)
  exact ⟨p,many,n,rfl,ho p rfl,h0,hbd,hn,fun r H' r0 r1 b' k => hq _ _ H' (hP r r0 r1) rfl (keep_kp k) fun q e => by cases e; exact b'⟩
theorem ok__law_digit {P : Program}{w : World}{K : PySem.W.Frag}{mg : Str -> Option Value}{base : Heap}{f : Addr}{fd : FuncData}(F : Fun K "_law_digit" "_law_digit" s__law_digit f fd) (Z : Bi mg) {c : Cs} (Y : Ex K mg base c) : FnOk P w K mg base CX0 1 f fd ["_law_bag_here","_law_many"] (liftSp K BT S_digit) := FnOk.imp (ok0__law_digit F Z Y) up__law_digit
theorem okRp_no {d : D}(h : okRp d = true) : notOwn d = true := by cases d <;> first | rfl | (unfold okRp at h; cases h)
theorem okRp_pl {d : D}(h : okRp d = true) : plain d = true := by cases d <;> first | rfl | (unfold okRp at h; cases h)
def whD : D -> Bool
  | .int _ => true
  | _ => false
theorem whD_int {d : D}(h : whD d = true) : ∃ i,d = .int i := by cases d <;> first | exact ⟨_,rfl⟩ | cases h
abbrev s_is_whole : Stmt := top 17
theorem sc_is_whole : FnScope ["thing"] ["thing"] (defScope s_is_whole) := ⟨rfl,rfl,rfl,by decide +kernel,rfl,by decide +kernel,by decide +kernel⟩
def S_whole : DSp := fun ds P _ => ∃ d,ds = [d] /\ okRp d = true /\ P (.bl (whD d))
theorem ok_is_whole {P : Program}{w : World}{K : PySem.W.Frag}{mg : Str -> Option Value}{base : Heap}{f : Addr}{fd : FuncData}(F : Fun K "is_whole" "is_whole" s_is_whole f fd) (Z : Bi mg) {c : Cs} (Y : Ex K mg base c) : FnOk P w K mg base CX0 1 f fd ["thing"] (liftSp K BT S_whole) := by
  refine F.okD sc_is_whole (fun ds PP Ed h => ?_) (fun cdv A outer s H E M bg ds PP Ed hr hS_ => ?_)
  · obtain ⟨d,rfl,hd,hP⟩ := h
    rfl
  · obtain ⟨d,rfl,hd,hP⟩ := hS_
    refine ⟨_,(jdss_one (jds_ret (jde_and (jde_callB (call_isinstA K (by rfl)) cd_isinst rfl Z.isinstance_ bt_isinstance (jda_cons (jdv 0) (jda_cons (jde_bltn rfl Z.int_ bt_int) jda_nil))) (jde_one (jde_not (jde_callB (call_isinstA K (by rfl)) cd_isinst rfl Z.isinstance_ bt_isinstance (jda_cons (jdv 0) (jda_cons (jde_bltn rfl Z.bool_ bt_bool) jda_nil)))))))),?_⟩
    cases d <;> (try (simp [okRp] at hd; done))
    all_goals first
      | (walk_at "go"; refine ⟨false,by rfl,?_⟩; walk_at "go"; exact hP)
      | (walk_at "go"; refine ⟨true,by rfl,?_⟩; walk_at "go"; refine ⟨true,by rfl,?_⟩; walk_at "go"; exact hP)
      | (walk_at "go"; refine ⟨true,by rfl,?_⟩; walk_at "go"; refine ⟨false,by rfl,?_⟩; walk_at "go"; exact hP)
structure R4 where
  x : Int
  y : Int
  z : Int
  w : Int
abbrev R4.d (r : R4) : D := sp4 r.x r.y r.z r.w
structure R4.ok (r : R4)(n : Nat) : Prop where
  x : Bd n r.x
  y : Bd n r.y
  z : Bd n r.z
  w : Bd n r.w
theorem R4.ok.mono {r : R4}{m n : Nat}(h : r.ok m)(k : m <= n) : r.ok n := ⟨h.x.mono k,h.y.mono k,h.z.mono k,h.w.mono k⟩
structure M4 where
  a : R4
  b : R4
  c : R4
  e : R4
abbrev M4.d (m : M4) : D := .tup [m.a.d,m.b.d,m.c.d,m.e.d]
structure M4.ok (m : M4)(n : Nat) : Prop where
  a : m.a.ok n
  b : m.b.ok n
  c : m.c.ok n
  e : m.e.ok n
theorem M4.ok.mono {r : M4}{m n : Nat}(h : r.ok m)(k : m <= n) : r.ok n := ⟨h.a.mono k,h.b.mono k,h.c.mono k,h.e.mono k⟩
def coordD : D -> Bool
  | .int k => decide (0 <= k) && decide (k <= 2)
  | _ => false
theorem coord_int {d : D}(h : coordD d = true) : ∃ k : Int,d = .int k /\ 0 <= k /\ k <= 2 := by
  cases d <;> try (cases h; done)
  rename_i k
  obtain ⟨h1,h2⟩ := (Bool.and_eq_true _ _).mp h
  exact ⟨k,rfl,of_decide_eq_true h1,of_decide_eq_true h2⟩
theorem bd_rp {n : Nat}{i : Int}(h : Bd n i)(hn : n <= 1900) : okRp (.int i) = true := by
  unfold okRp
  refine decide_eq_true ?_
  by_cases z : i.natAbs = 0
  · rw [z]; decide
  · have := (Nat.log2_lt z).mpr (show i.natAbs < 2 ^ n from h)
    omega
abbrev s_is_coordinate : Stmt := top 22
theorem sc_is_coordinate : FnScope ["thing"] ["thing"] (defScope s_is_coordinate) := ⟨rfl,rfl,rfl,by decide +kernel,rfl,by decide +kernel,by decide +kernel⟩
def S_iscoord : DSp := fun ds P _ => ∃ d,ds = [d] /\ okRp d = true /\ P (.bl (coordD d))
structure C_is_coordinate (P : Program)(w : World)(K : PySem.W.Frag)(mg : Str -> Option Value)(base : Heap)(c : Cs) : Prop where
  is_whole_ : Callee P w K mg base CX0 "is_whole" 1 ["thing"] (liftSp K BT S_whole)
theorem ok_is_coordinate {P : Program}{w : World}{K : PySem.W.Frag}{mg : Str -> Option Value}{base : Heap}{f : Addr}{fd : FuncData}(F : Fun K "is_coordinate" "is_coordinate" s_is_coordinate f fd) (Z : Bi mg) {c : Cs} (Y : Ex K mg base c) (G : C_is_coordinate P w K mg base c) : FnOk P w K mg base CX0 2 f fd ["thing"] (liftSp K BT S_iscoord) := by
  refine F.okD sc_is_coordinate (fun ds PP Ed h => ?_) (fun cdv A outer s H E M bg ds PP Ed hr hS_ => ?_)
  · obtain ⟨d,rfl,hd,hP⟩ := h
    rfl
  · obtain ⟨d,rfl,hd,hP⟩ := hS_
    refine ⟨_,(jdss_one (jds_ret (jde_and (jde_own G.is_whole_ (hr.mono (by decide)) rfl (jda_cons (jdv 0) jda_nil)) (jde_one (jde_chain op_le op_le od_B0 od_B0 jde_int (jdv 0) jde_int))))),?_⟩
    have key : ∀ b : Bool,b = coordD d -> PP (.bl b) := fun b h => by rw [h]; exact hP
    cases hw : whD d with
    | true =>
      obtain ⟨k,rfl⟩ := whD_int hw
      walk_at "go"
      refine ⟨_,rfl,hd,?_⟩
      walk_at "go"
      walk_at "sp"
      · walk_at "go"
        rename_i h
        exact key _ (by show decide (k <= 2) = (decide (0 <= k) && decide (k <= 2)); rw [decide_eq_true h]; rfl)
      · walk_at "go"
        rename_i h
        exact key _ (by show false = (decide (0 <= k) && decide (k <= 2)); rw [decide_eq_false h]; rfl)
    | false =>
      have hc : coordD d = false := by cases d <;> first | rfl | cases hw
      walk_at "go"
      refine ⟨by show (notOwn d && true) = true; rw [okRp_no hd]; rfl,d,rfl,hd,?_⟩
      rw [hw]
      walk_at "go"
      exact key _ hc.symm
abbrev s_still_but : Stmt := top 21
theorem sc_still_but : FnScope ["changes"] ["changes"] (defScope s_still_but) := ⟨rfl,rfl,rfl,by decide +kernel,rfl,by decide +kernel,by decide +kernel⟩
def findI : List (List Int) -> List Int -> List Int -> Option Int
  | k :: ks,x :: xs,n => if k = n then some x else findI ks xs n
  | _,_,_ => none
theorem getD_int : ∀ (ks : List (List Int)) (ns : List Int) (k : List Int) (z : Int),(findD ks (ns.map D.int) k).getD (.int z) = .int ((findI ks ns k).getD z)
  | [],ns,k,z => by simp [findD,findI]
  | _ :: _,[],k,z => by simp [findD,findI]
  | k' :: ks,n :: ns,k,z => by
    rw [List.map_cons]
    unfold findD findI
    split
    · rfl
    · exact getD_int ks ns k z
def cellI (ks : List (List Int))(ns : List Int)(r c z : Int) : Int := (findI ks ns [r,c]).getD z
def sbM (ks : List (List Int))(ns : List Int) : M4 := ⟨⟨cellI ks ns 0 0 1,cellI ks ns 0 1 0,cellI ks ns 0 2 0,cellI ks ns 0 3 0⟩,⟨cellI ks ns 1 0 0,cellI ks ns 1 1 1,cellI ks ns 1 2 0,cellI ks ns 1 3 0⟩,⟨cellI ks ns 2 0 0,cellI ks ns 2 1 0,cellI ks ns 2 2 1,cellI ks ns 2 3 0⟩,⟨cellI ks ns 3 0 0,cellI ks ns 3 1 0,cellI ks ns 3 2 0,cellI ks ns 3 3 1⟩⟩
def S_sbut : DSp := fun ds P _ => ∃ (t : Tg) (ks : List (List Int)) (ns : List Int),ds = [.dct t ks (ns.map D.int)] /\ P (sbM ks ns).d
theorem ok_still_but {P : Program}{w : World}{K : PySem.W.Frag}{mg : Str -> Option Value}{base : Heap}{f : Addr}{fd : FuncData}(F : Fun K "still_but" "still_but" s_still_but f fd) (Z : Bi mg) {c : Cs} (Y : Ex K mg base c) : FnOk P w K mg base CX0 1 f fd ["changes"] (liftSp K BT S_sbut) := by
  refine F.okD sc_still_but (fun ds PP Ed h => ?_) (fun cdv A outer s H E M bg ds PP Ed hr hS_ => ?_)
  · obtain ⟨tg,ks,ns,rfl,hP⟩ := h
    rfl
  · obtain ⟨tg,ks,ns,rfl,hP⟩ := hS_
    refine ⟨_,(jdss_one (jds_ret (jde_callTy (call_tuple_ofK K (by rfl)) cd_tuple rfl Z.tuple_ bt_tuple (jda_cons (jde_comp (X := (cxOf CX0 P w K mg base ["changes"] "still_but" (defScope s_still_but) f cdv A outer s H E).nox) (gd_name 0) (blkJ (X := (cxOf CX0 P w K mg base ["changes"] "still_but" (defScope s_still_but) f cdv A outer s H E).nox) (N' := ["row","changes"]) (map := [none,some 0]) (by rfl) (by rfl) (by decide +kernel) (by rfl) ⟨⟨rfl,rfl,rfl,by walk_at "o"⟩,True.intro⟩ (gkeep_name rfl) fun cl0 C0 fp0 s0 H0 => ⟨(pg_name (X := (cxComp (cxOf CX0 P w K mg base ["changes"] "still_but" (defScope s_still_but) f cdv A outer s H E).nox ["row","changes"] _ cl0 C0 fp0 s0 H0)) (i := 0) (nodupS ["row","changes"] (by decide +kernel)) rfl (by walk_at "o")),jdif_nil,(jde_callTy (X := (cxComp (cxOf CX0 P w K mg base ["changes"] "still_but" (defScope s_still_but) f cdv A outer s H E).nox ["row","changes"] _ cl0 C0 fp0 s0 H0)) (call_tuple_ofK K (by rfl)) cd_tuple rfl Z.tuple_ bt_tuple (jda_cons (jde_comp (X := (cxComp (cxOf CX0 P w K mg base ["changes"] "still_but" (defScope s_still_but) f cdv A outer s H E).nox ["row","changes"] _ cl0 C0 fp0 s0 H0)) (gd_name 0) (blkJ (X := (cxComp (cxOf CX0 P w K mg base ["changes"] "still_but" (defScope s_still_but) f cdv A outer s H E).nox ["row","changes"] _ cl0 C0 fp0 s0 H0)) (N' := ["place","changes","row"]) (map := [none,some 1,some 0]) (by rfl) (by rfl) (by decide +kernel) (by rfl) ⟨⟨rfl,rfl,rfl,by walk_at "o"⟩,⟨⟨rfl,rfl,rfl,by walk_at "o"⟩,True.intro⟩⟩ (gkeep_name rfl) fun cl1 C1 fp1 s1 H1 => ⟨(pg_name (X := (cxComp (cxComp (cxOf CX0 P w K mg base ["changes"] "still_but" (defScope s_still_but) f cdv A outer s H E).nox ["row","changes"] _ cl0 C0 fp0 s0 H0) ["place","changes","row"] _ cl1 C1 fp1 s1 H1)) (i := 0) (nodupS ["place","changes","row"] (by decide +kernel)) rfl (by walk_at "o")),jdif_nil,(jde_get2 (X := (cxComp (cxComp (cxOf CX0 P w K mg base ["changes"] "still_but" (defScope s_still_but) f cdv A outer s H E).nox ["row","changes"] _ cl0 C0 fp0 s0 H0) ["place","changes","row"] _ cl1 C1 fp1 s1 H1)) (i := 1) (by rfl) hr.units (jda_cons (jdv 2) (jda_cons (jdv 0) jda_nil)) (jde_ix (ix_any K (by rfl)) od_ix (jde_ix (ix_any K (by rfl)) od_ix (jde_globD rfl Y.d_STILL) (jdv 2) (fun _ _ => rfl)) (jdv 0) (fun _ _ => rfl)) rfl (by walk_at "v") ⟨rfl,rfl,rfl,rfl⟩)⟩) (jdi_range1 rfl Z.range_ (jda_cons jde_int jda_nil))) jda_nil))⟩) (jdi_range1 rfl Z.range_ (jda_cons jde_int jda_nil))) jda_nil)))),?_⟩
    unfold sbM cellI at hP
    walk_at "go"
    repeat (first | (rw [getD_int]; walk_at "go") | walk_at "gc")
    exact hP
abbrev s_shift : Stmt := top 24
theorem sc_shift : FnScope ["a","b","c"] ["a","b","c"] (defScope s_shift) := ⟨rfl,rfl,rfl,by decide +kernel,rfl,by decide +kernel,by decide +kernel⟩
def shiftM (a b c : Int) : M4 := ⟨⟨1,0,0,a⟩,⟨0,1,0,b⟩,⟨0,0,1,c⟩,⟨0,0,0,1⟩⟩
def S_shift : DSp := fun ds P _ => ∃ a b c : Int,ds = [.int a,.int b,.int c] /\ P (shiftM a b c).d
structure C_shift (P : Program)(w : World)(K : PySem.W.Frag)(mg : Str -> Option Value)(base : Heap)(c : Cs) : Prop where
  still_but_ : Callee P w K mg base CX0 "still_but" 1 ["changes"] (liftSp K BT S_sbut)
theorem ok_shift {P : Program}{w : World}{K : PySem.W.Frag}{mg : Str -> Option Value}{base : Heap}{f : Addr}{fd : FuncData}(F : Fun K "shift" "shift" s_shift f fd) (Z : Bi mg) {c : Cs} (Y : Ex K mg base c) (G : C_shift P w K mg base c) : FnOk P w K mg base CX0 2 f fd ["a","b","c"] (liftSp K BT S_shift) := by
  refine F.okD sc_shift (fun ds PP Ed h => ?_) (fun cdv A outer s H E M bg ds PP Ed hr hS_ => ?_)
  · obtain ⟨a,b,c,rfl,hP⟩ := h
    rfl
  · obtain ⟨a,b,c,rfl,hP⟩ := hS_
    refine ⟨_,(jdss_one (jds_ret (jde_own G.still_but_ (hr.mono (by decide)) rfl (jda_cons (jde_dict [(_,_),(_,_),(_,_)] (by rfl) hr.units (pps_cons (pe_tup (JA.h (jda_cons jde_int (jda_cons jde_int jda_nil)))) (JE.h (jdv 0)) (pps_cons (pe_tup (JA.h (jda_cons jde_int (jda_cons jde_int jda_nil)))) (JE.h (jdv 1)) (pps_cons (pe_tup (JA.h (jda_cons jde_int (jda_cons jde_int jda_nil)))) (JE.h (jdv 2)) pps_nil)))) jda_nil)))),?_⟩
    walk_at "go"
    exact ⟨⟨by show ([[0,3],[1,3],[2,3]] : List (List Int)).Nodup; decide,by show 3 <= 15; decide⟩,fun tg => ⟨rfl,tg,[[0,3],[1,3],[2,3]],[a,b,c],rfl,hP⟩⟩
abbrev s_still : Stmt := top 23
theorem sc_still : FnScope [] [] (defScope s_still) := ⟨rfl,rfl,rfl,by decide +kernel,rfl,by decide +kernel,by decide +kernel⟩
def idM : M4 := ⟨⟨1,0,0,0⟩,⟨0,1,0,0⟩,⟨0,0,1,0⟩,⟨0,0,0,1⟩⟩
def S_still : DSp := fun ds P _ => ds = [] /\ P idM.d
theorem ok_still {P : Program}{w : World}{K : PySem.W.Frag}{mg : Str -> Option Value}{base : Heap}{f : Addr}{fd : FuncData}(F : Fun K "still" "still" s_still f fd) (Z : Bi mg) {c : Cs} (Y : Ex K mg base c) : FnOk P w K mg base CX0 1 f fd [] (liftSp K BT S_still) := by
  refine F.okD sc_still (fun ds PP Ed h => ?_) (fun cdv A outer s H E M bg ds PP Ed hr hS_ => ?_)
  · obtain ⟨rfl,hP⟩ := h
    rfl
  · obtain ⟨rfl,hP⟩ := hS_
    refine ⟨_,(jdss_one (jds_ret (jde_globD rfl Y.d_STILL))),?_⟩
    walk_at "go"
    exact hP
abbrev s_quarter : Stmt := top 25
theorem sc_quarter : FnScope ["axis","u","v"] ["axis"] (defScope s_quarter) := ⟨rfl,rfl,rfl,by decide +kernel,rfl,by decide +kernel,by decide +kernel⟩
def quarterM (k : Int) : M4 := if k = 0 then ⟨⟨1,0,0,0⟩,⟨0,0,-1,0⟩,⟨0,1,0,0⟩,⟨0,0,0,1⟩⟩ else if k = 1 then ⟨⟨0,0,1,0⟩,⟨0,1,0,0⟩,⟨-1,0,0,0⟩,⟨0,0,0,1⟩⟩ else ⟨⟨0,-1,0,0⟩,⟨1,0,0,0⟩,⟨0,0,1,0⟩,⟨0,0,0,1⟩⟩
def S_quarter (c : Cs) : DSp := fun ds P Ed => ∃ d,ds = [d] /\ okRp d = true /\ (∀ k : Int,d = .int k -> 0 <= k -> k <= 2 -> P (quarterM k).d) /\ (coordD d = false -> Ed c.NoMove)
structure C_quarter (P : Program)(w : World)(K : PySem.W.Frag)(mg : Str -> Option Value)(base : Heap)(c : Cs) : Prop where
  still_but_ : Callee P w K mg base CX0 "still_but" 1 ["changes"] (liftSp K BT S_sbut)
  is_coordinate_ : Callee P w K mg base CX0 "is_coordinate" 2 ["thing"] (liftSp K BT S_iscoord)
theorem ok_quarter {P : Program}{w : World}{K : PySem.W.Frag}{mg : Str -> Option Value}{base : Heap}{f : Addr}{fd : FuncData}(F : Fun K "quarter" "quarter" s_quarter f fd) (Z : Bi mg) {c : Cs} (Y : Ex K mg base c) (G : C_quarter P w K mg base c) : FnOk P w K mg base (CX1 P w base) 3 f fd ["axis"] (liftSp K BT (S_quarter c)) := by
  refine F.okDX sc_quarter (fun ds PP Ed h => ?_) (fun cdv A outer s H E M bg ds PP Ed hr hE hS_ => ?_)
  · obtain ⟨d,rfl,hd,hP,hW⟩ := h
    rfl
  · obtain ⟨d,rfl,hd,hP,hW⟩ := hS_
    refine ⟨_,(jdss_cons (jds_if (jdt_not (jdt_truth (by rfl) (jde_own G.is_coordinate_ (hr.mono (by decide)) rfl (jda_cons (jdv 0) jda_nil)) (fun _ => rfl))) (jdss_one (jds_raise hE (ps_raise1 Y.o_NoMove rfl))) jdss_nil)
      (jdss_cons (jds_asg (gd_seq [1,2]) (jde_ix (ix_any K (by rfl)) od_ix (jde_globD rfl Y.d_OTHERS) (jdv 0) (fun _ _ => rfl)) (PG.or (pg_tupK (n := 2) K (by rfl) (by rfl) (pgs_cons (pg_name (i := 1) sc_quarter.nd rfl (by walk_at "o")) (pgs_cons (pg_name (i := 2) sc_quarter.nd rfl (by walk_at "o")) pgs_nil))) (pg_lstK (n := 2) K (by rfl) (by rfl) (pgs_cons (pg_name (i := 1) sc_quarter.nd rfl (by walk_at "o")) (pgs_cons (pg_name (i := 2) sc_quarter.nd rfl (by walk_at "o")) pgs_nil)))))
      (jdss_one (jds_ret (jde_own G.still_but_ (hr.mono (by decide)) rfl (jda_cons (jde_dict [(_,_),(_,_),(_,_),(_,_)] (by rfl) hr.units (pps_cons (pe_tup (JA.h (jda_cons (jdv 1) (jda_cons (jdv 1) jda_nil)))) (JE.h jde_int) (pps_cons (pe_tup (JA.h (jda_cons (jdv 1) (jda_cons (jdv 2) jda_nil)))) (JE.h (jde_neg jde_int)) (pps_cons (pe_tup (JA.h (jda_cons (jdv 2) (jda_cons (jdv 1) jda_nil)))) (JE.h jde_int) (pps_cons (pe_tup (JA.h (jda_cons (jdv 2) (jda_cons (jdv 2) jda_nil)))) (JE.h jde_int) pps_nil))))) jda_nil)))))),?_⟩
    cases hc : coordD d with
    | false =>
      walk_at "go"
      refine ⟨by show (notOwn d && true) = true; rw [okRp_no hd]; rfl,d,rfl,hd,?_⟩
      rw [hc]
      walk_at "go"
      exact hW hc
    | true =>
      obtain ⟨k,rfl,h0,h2⟩ := coord_int hc
      replace hP := hP k rfl h0 h2
      obtain rfl | rfl | rfl : k = 0 \/ k = 1 \/ k = 2 := by omega
      · walk_at "go"
        refine ⟨_,rfl,rfl,?_⟩
        walk_at "go"
        intro tg
        exact ⟨rfl,tg,[[1,1],[1,2],[2,1],[2,2]],[0,-1,1,0],rfl,hP⟩
      · walk_at "go"
        refine ⟨_,rfl,rfl,?_⟩
        walk_at "go"
        intro tg
        exact ⟨rfl,tg,[[2,2],[2,0],[0,2],[0,0]],[0,-1,1,0],rfl,hP⟩
      · walk_at "go"
        refine ⟨_,rfl,rfl,?_⟩
        walk_at "go"
        intro tg
        exact ⟨rfl,tg,[[0,0],[0,1],[1,0],[1,1]],[0,-1,1,0],rfl,hP⟩
abbrev s_slant : Stmt := top 26
theorem sc_slant : FnScope ["i","j","m"] ["i","j","m"] (defScope s_slant) := ⟨rfl,rfl,rfl,by decide +kernel,rfl,by decide +kernel,by decide +kernel⟩
def S_slant (c : Cs) : DSp := fun ds P Ed => ∃ (d e : D) (m : Int),ds = [d,e,.int m] /\ okRp d = true /\ okRp e = true /\ (∀ i j : Int,d = .int i -> e = .int j -> 0 <= i -> i <= 2 -> 0 <= j -> j <= 2 -> i ≠ j -> P (sbM [[i,j]] [m]).d) /\ (coordD d = false \/ coordD e = false \/ d = e -> Ed c.NoMove)
structure C_slant (P : Program)(w : World)(K : PySem.W.Frag)(mg : Str -> Option Value)(base : Heap)(c : Cs) : Prop where
  still_but_ : Callee P w K mg base CX0 "still_but" 1 ["changes"] (liftSp K BT S_sbut)
  is_coordinate_ : Callee P w K mg base CX0 "is_coordinate" 2 ["thing"] (liftSp K BT S_iscoord)
theorem ok_slant {P : Program}{w : World}{K : PySem.W.Frag}{mg : Str -> Option Value}{base : Heap}{f : Addr}{fd : FuncData}(F : Fun K "slant" "slant" s_slant f fd) (Z : Bi mg) {c : Cs} (Y : Ex K mg base c) (G : C_slant P w K mg base c) : FnOk P w K mg base (CX1 P w base) 3 f fd ["i","j","m"] (liftSp K BT (S_slant c)) := by
  refine F.okDX sc_slant (fun ds PP Ed h => ?_) (fun cdv A outer s H E M bg ds PP Ed hr hE hS_ => ?_)
  · obtain ⟨d,e,m,rfl,hd,he,hP,hW⟩ := h
    rfl
  · obtain ⟨d,e,m,rfl,hd,he,hP,hW⟩ := hS_
    refine ⟨_,(jdss_cons (jds_if (jdt_or (jdt_not (jdt_truth (by rfl) (jde_own G.is_coordinate_ (hr.mono (by decide)) rfl (jda_cons (jdv 0) jda_nil)) (fun _ => rfl))) (jdw_or (jdt_not (jdt_truth (by rfl) (jde_own G.is_coordinate_ (hr.mono (by decide)) rfl (jda_cons (jdv 1) jda_nil)) (fun _ => rfl))) (jdw_or1 (jdt_cmp op_eq od_eqS (jdv 0) (jdv 1) (nomark _))))) (jdss_one (jds_raise hE (ps_raise1 Y.o_NoMove rfl))) jdss_nil)
      (jdss_one (jds_ret (jde_own G.still_but_ (hr.mono (by decide)) rfl (jda_cons (jde_dict [(_,_)] (by rfl) hr.units (pps_cons (pe_tup (JA.h (jda_cons (jdv 0) (jda_cons (jdv 1) jda_nil)))) (JE.h (jdv 2)) pps_nil)) jda_nil))))),?_⟩
    have o1 : ∀ x : D,okRp x = true -> (notOwn x && true) = true := fun x h => by rw [okRp_no h]; rfl
    walk_at "go"
    refine ⟨o1 d hd,d,rfl,hd,?_⟩
    cases hc : coordD d with
    | false =>
      walk_at "go"
      exact hW (.inl hc)
    | true =>
      walk_at "go"
      refine ⟨o1 e he,e,rfl,he,?_⟩
      cases hc2 : coordD e with
      | false =>
        walk_at "go"
        exact hW (.inr (.inl hc2))
      | true =>
        obtain ⟨i,rfl,i0,i2⟩ := coord_int hc
        obtain ⟨j,rfl,j0,j2⟩ := coord_int hc2
        walk_at "go"
        walk_at "sp"
        · rename_i h
          walk_at "go"
          exact hW (.inr (.inr (by rw [h])))
        · rename_i h
          walk_at "go"
          exact ⟨⟨by show ([[i,j]] : List (List Int)).Nodup; simp,by show 1 <= 15; decide⟩,fun tg => ⟨rfl,tg,[[i,j]],[m],rfl,hP i j rfl rfl i0 i2 j0 j2 h⟩⟩
def goodN : D -> Bool
  | .int i => decide (i ≠ 0)
  | _ => false
theorem good_int {d : D}(h : goodN d = true) : ∃ i : Int,d = .int i /\ i ≠ 0 := by
  cases d <;> try (cases h; done)
  exact ⟨_,rfl,of_decide_eq_true h⟩
abbrev s_stretch : Stmt := top 27
theorem sc_stretch : FnScope ["a","b","c","number"] ["a","b","c"] (defScope s_stretch) := ⟨rfl,rfl,rfl,by decide +kernel,rfl,by decide +kernel,by decide +kernel⟩
def stretchM (a b c : Int) : M4 := ⟨⟨a,0,0,0⟩,⟨0,b,0,0⟩,⟨0,0,c,0⟩,⟨0,0,0,1⟩⟩
def S_stretch (c : Cs) : DSp := fun ds P Ed => ∃ d e u : D,ds = [d,e,u] /\ okRp d = true /\ okRp e = true /\ okRp u = true /\ (∀ i j k : Int,d = .int i -> e = .int j -> u = .int k -> i ≠ 0 -> j ≠ 0 -> k ≠ 0 -> P (stretchM i j k).d) /\ ((goodN d && (goodN e && goodN u)) = false -> Ed c.NoMove)
structure C_stretch (P : Program)(w : World)(K : PySem.W.Frag)(mg : Str -> Option Value)(base : Heap)(c : Cs) : Prop where
  still_but_ : Callee P w K mg base CX0 "still_but" 1 ["changes"] (liftSp K BT S_sbut)
  is_whole_ : Callee P w K mg base CX0 "is_whole" 1 ["thing"] (liftSp K BT S_whole)
theorem ok_stretch {P : Program}{w : World}{K : PySem.W.Frag}{mg : Str -> Option Value}{base : Heap}{f : Addr}{fd : FuncData}(F : Fun K "stretch" "stretch" s_stretch f fd) (Z : Bi mg) {c : Cs} (Y : Ex K mg base c) (G : C_stretch P w K mg base c) : FnOk P w K mg base (CX1 P w base) 2 f fd ["a","b","c"] (liftSp K BT (S_stretch c)) := by
  refine F.okDX sc_stretch (fun ds PP Ed h => ?_) (fun cdv A outer s H E M bg ds PP Ed hr hE hS_ => ?_)
  · obtain ⟨d,e,u,rfl,h1,h2,h3,hP,hW⟩ := h
    rfl
  · obtain ⟨d,e,u,rfl,h1,h2,h3,hP,hW⟩ := hS_
    refine ⟨_,(jdss_cons (jds_for (gd_name 3) PassesOwn.leaving rfl (jdi_seq (by rfl) (jde_tup (jda_cons (jdv 0) (jda_cons (jdv 1) (jda_cons (jdv 2) jda_nil))))) (pg_name (i := 3) sc_stretch.nd rfl (by walk_at "o")) (jdss_one (jds_if (jdt_or (jdt_not (jdt_truth (by rfl) (jde_own G.is_whole_ (hr.mono (by decide)) rfl (jda_cons (jdv 3) jda_nil)) (fun _ => rfl))) (jdw_or1 (jdt_cmp op_eq od_eqS (jdv 3) jde_int (nomark _)))) (jdss_one (jds_raise hE (ps_raise1 Y.o_NoMove rfl))) jdss_nil)) fsi_tuple)
      (jdss_one (jds_ret (jde_own G.still_but_ (hr.mono (by decide)) rfl (jda_cons (jde_dict [(_,_),(_,_),(_,_)] (by rfl) hr.units (pps_cons (pe_tup (JA.h (jda_cons jde_int (jda_cons jde_int jda_nil)))) (JE.h (jdv 0)) (pps_cons (pe_tup (JA.h (jda_cons jde_int (jda_cons jde_int jda_nil)))) (JE.h (jdv 1)) (pps_cons (pe_tup (JA.h (jda_cons jde_int (jda_cons jde_int jda_nil)))) (JE.h (jdv 2)) pps_nil)))) jda_nil))))),?_⟩
    have o1 : ∀ x : D,okRp x = true -> (notOwn x && true) = true := fun x h => by rw [okRp_no h]; rfl
    walk_at "go"
    refine And.intro (by unfold okIt; simp [okRp_pl h1,okRp_pl h2,okRp_pl h3]) ?_
    walk_at "go"
    walk_at "gr"
    refine ⟨o1 d h1,d,rfl,h1,?_⟩
    cases w1 : whD d with
    | false =>
      walk_at "go"
      exact hW (by have : goodN d = false := (by cases d <;> first | rfl | cases w1); rw [this]; simp)
    | true =>
      obtain ⟨i1,rfl⟩ := whD_int w1
      walk_at "go"
      walk_at "sp"
      · rename_i z1
        walk_at "go"
        exact hW (by have : goodN (.int i1) = false := decide_eq_false (fun h => h z1); rw [this]; simp)
      · rename_i z1
        walk_at "go"
        refine ⟨o1 e h2,e,rfl,h2,?_⟩
        cases w2 : whD e with
        | false =>
          walk_at "go"
          exact hW (by have : goodN e = false := (by cases e <;> first | rfl | cases w2); rw [this]; simp)
        | true =>
          obtain ⟨i2,rfl⟩ := whD_int w2
          walk_at "go"
          walk_at "sp"
          · rename_i z2
            walk_at "go"
            exact hW (by have : goodN (.int i2) = false := decide_eq_false (fun h => h z2); rw [this]; simp)
          · rename_i z2
            walk_at "go"
            refine ⟨o1 u h3,u,rfl,h3,?_⟩
            cases w3 : whD u with
            | false =>
              walk_at "go"
              exact hW (by have : goodN u = false := (by cases u <;> first | rfl | cases w3); rw [this]; simp)
            | true =>
              obtain ⟨i3,rfl⟩ := whD_int w3
              walk_at "go"
              walk_at "sp"
              · rename_i z3
                walk_at "go"
                exact hW (by have : goodN (.int i3) = false := decide_eq_false (fun h => h z3); rw [this]; simp)
              · rename_i z3
                walk_at "go"
                exact ⟨⟨by show ([[0,0],[1,1],[2,2]] : List (List Int)).Nodup; decide,by show 3 <= 15; decide⟩,fun tg => ⟨rfl,tg,[[0,0],[1,1],[2,2]],[i1,i2,i3],rfl,hP i1 i2 i3 rfl rfl rfl z1 z2 z3⟩⟩
abbrev s_look_from : Stmt := top 28
theorem sc_look_from : FnScope ["d"] ["d"] (defScope s_look_from) := ⟨rfl,rfl,rfl,by decide +kernel,rfl,by decide +kernel,by decide +kernel⟩
def lookD : D -> Bool
  | .int i => decide (1 <= i)
  | _ => false
def lookM (d : Int) : M4 := ⟨⟨d,0,0,0⟩,⟨0,d,0,0⟩,⟨0,0,1,-1⟩,⟨0,0,1,0⟩⟩
def S_look (c : Cs) : DSp := fun ds P Ed => ∃ d : D,ds = [d] /\ okRp d = true /\ (∀ i : Int,d = .int i -> 1 <= i -> P (lookM i).d) /\ (lookD d = false -> Ed c.NoMove)
structure C_look_from (P : Program)(w : World)(K : PySem.W.Frag)(mg : Str -> Option Value)(base : Heap)(c : Cs) : Prop where
  is_whole_ : Callee P w K mg base CX0 "is_whole" 1 ["thing"] (liftSp K BT S_whole)
theorem ok_look_from {P : Program}{w : World}{K : PySem.W.Frag}{mg : Str -> Option Value}{base : Heap}{f : Addr}{fd : FuncData}(F : Fun K "look_from" "look_from" s_look_from f fd) (Z : Bi mg) {c : Cs} (Y : Ex K mg base c) (G : C_look_from P w K mg base c) : FnOk P w K mg base (CX1 P w base) 2 f fd ["d"] (liftSp K BT (S_look c)) := by
  refine F.okDX sc_look_from (fun ds PP Ed h => ?_) (fun cdv A outer s H E M bg ds PP Ed hr hE hS_ => ?_)
  · obtain ⟨d,rfl,hd,hP,hW⟩ := h
    rfl
  · obtain ⟨d,rfl,hd,hP,hW⟩ := hS_
    refine ⟨_,(jdss_cons (jds_if (jdt_or (jdt_not (jdt_truth (by rfl) (jde_own G.is_whole_ (hr.mono (by decide)) rfl (jda_cons (jdv 0) jda_nil)) (fun _ => rfl))) (jdw_or1 (jdt_cmp op_lt od_B0 (jdv 0) jde_int (nomark _)))) (jdss_one (jds_raise hE (ps_raise1 Y.o_NoMove rfl))) jdss_nil)
      (jdss_one (jds_ret (jde_tup (jda_cons (jde_tup (jda_cons (jdv 0) (jda_cons jde_int (jda_cons jde_int (jda_cons jde_int jda_nil))))) (jda_cons (jde_tup (jda_cons jde_int (jda_cons (jdv 0) (jda_cons jde_int (jda_cons jde_int jda_nil))))) (jda_cons (jde_tup (jda_cons jde_int (jda_cons jde_int (jda_cons jde_int (jda_cons (jde_neg jde_int) jda_nil))))) (jda_cons (jde_tup (jda_cons jde_int (jda_cons jde_int (jda_cons jde_int (jda_cons jde_int jda_nil))))) jda_nil)))))))),?_⟩
    walk_at "go"
    refine ⟨by show (notOwn d && true) = true; rw [okRp_no hd]; rfl,d,rfl,hd,?_⟩
    cases hw : whD d with
    | false =>
      walk_at "go"
      exact hW (by cases d <;> first | rfl | cases hw)
    | true =>
      obtain ⟨i,rfl⟩ := whD_int hw
      walk_at "go"
      walk_at "sp"
      · rename_i z
        walk_at "go"
        exact hW (decide_eq_false (by omega))
      · rename_i z
        walk_at "go"
        exact hP i rfl (by omega)
abbrev s__law_number : Stmt := top 32
theorem sc__law_number : FnScope ["_law_bag_here","_law_most","_law_size","_law_number_here","_law_k"] ["_law_bag_here","_law_most"] (defScope s__law_number) := ⟨rfl,rfl,rfl,by decide +kernel,rfl,by decide +kernel,by decide +kernel⟩
def S_num : DSp := fun ds P _ => ∃ most : Int,ds = [.bag,.int most] /\ 0 <= most /\ most <= 12 /\ ∀ r : Int,Bd 40 r -> P (.int r)
structure C__law_number (P : Program)(w : World)(K : PySem.W.Frag)(mg : Str -> Option Value)(base : Heap)(c : Cs) : Prop where
  _law_digit_ : Callee P w K mg base CX0 "_law_digit" 1 ["_law_bag_here","_law_many"] (liftSp K BT S_digit)
theorem ok__law_number {P : Program}{w : World}{K : PySem.W.Frag}{mg : Str -> Option Value}{base : Heap}{f : Addr}{fd : FuncData}(F : Fun K "_law_number" "_law_number" s__law_number f fd) (Z : Bi mg) {c : Cs} (Y : Ex K mg base c) (G : C__law_number P w K mg base c) : FnOk P w K mg base CX0 2 f fd ["_law_bag_here","_law_most"] (liftSp K BT S_num) := by
  refine F.okD sc__law_number (fun ds PP Ed h => ?_) (fun cdv A outer s H E M bg ds PP Ed hr hS_ => ?_)
  · obtain ⟨most,rfl,m0,m1,hP⟩ := h
    rfl
  · obtain ⟨most,rfl,m0,m1,hP⟩ := hS_
    refine ⟨_,(jdss_cons (jds_set (i := 2) sc__law_number.nd rfl (by walk_at "o") (jde_ix (ix_any K (by rfl)) od_ix (jde_lst (jda_cons jde_int (jda_cons jde_int (jda_cons (jdv 1) (jda_cons (jdv 1) jda_nil))))) (jde_own G._law_digit_ (hr.mono (by decide)) rfl (jda_cons (jdv 0) (jda_cons jde_int jda_nil))) (fun _ _ => rfl)))
      (jdss_cons (jds_set (i := 3) sc__law_number.nd rfl (by walk_at "o") jde_int)
      (jdss_cons (jds_for (gd_name 4) PassesOwn.never rfl (jdi_range1 rfl Z.range_ (jda_cons (jde_callB (call_max2 (by rfl)) cd_2I rfl Z.max_ bt_max (jda_cons jde_int (jda_cons (jde_op op_fdivB od_I (jde_callB (call_min2 (by rfl)) cd_2I rfl Z.min_ bt_min (jda_cons (jdv 2) (jda_cons (jdv 1) jda_nil))) jde_int) jda_nil))) jda_nil)) (pg_name (i := 4) sc__law_number.nd rfl (by walk_at "o")) (jdss_one (jds_set (i := 3) sc__law_number.nd rfl (by walk_at "o") (jde_op op_add od_I0 (jde_op op_mulB od_I (jdv 3) jde_int) (jde_own G._law_digit_ (hr.mono (by decide)) rfl (jda_cons (jdv 0) (jda_cons jde_int jda_nil)))))))
      (jdss_cons (jds_if (jdt_cmp op_eq od_eqS (jdv 2) jde_int (nomark _)) (jdss_one (jds_set (i := 3) sc__law_number.nd rfl (by walk_at "o") (jde_op op_mod od_I (jdv 3) jde_int))) jdss_nil)
      (jdss_one (jds_ret (jde_op op_mulB od_I (jdv 3) (jde_ix (ix_any K (by rfl)) od_ix (jde_lst (jda_cons jde_int (jda_cons (jde_neg jde_int) jda_nil))) (jde_own G._law_digit_ (hr.mono (by decide)) rfl (jda_cons (jdv 0) (jda_cons jde_int jda_nil))) (fun _ _ => rfl))))))))),?_⟩
    walk_at "go"
    refine ⟨_,64,rfl,by decide,Bd.num _ (by decide),by decide,fun way y0 y1 => ?_⟩
    walk_at "go"
    refine ixm y0 (by exact y1) fun dz mz => ?_
    obtain ⟨sz,rfl,z0,z1⟩ : ∃ sz : Int,dz = .int sz /\ 0 <= sz /\ sz <= 12 := by
      simp only [List.mem_cons,List.not_mem_nil,or_false] at mz
      rcases mz with e | e | e | e <;> first | exact ⟨_,e,by decide,by decide⟩ | exact ⟨_,e,m0,m1⟩
    walk_at "go"
    refine And.intro ⟨by decide,64,Bd.num _ (by decide),by decide⟩ ?_
    walk_at "go"
    have n3 : ((fun i j => if j > i then j else i) 1 (((fun i j => if j < i then j else i) sz most) / 3) : Int) <= 4 := by dsimp only; split <;> split <;> omega
    have n0 : 1 <= ((fun i j => if j > i then j else i) 1 (((fun i j => if j < i then j else i) sz most) / 3) : Int) := by dsimp only; split <;> split <;> omega
    refine And.intro ⟨by omega,by omega⟩ ?_
    generalize ((fun i j => if j > i then j else i) 1 (((fun i j => if j < i then j else i) sz most) / 3) : Int) = top at n3 n0 ⊢
    refine ⟨fun i ρ => ∃ (v : Int) (w : Option D),ρ = [some .bag,some (.int most),some (.int sz),some (.int v),w] /\ 0 <= v /\ v < 1000 ^ i,⟨0,none,rfl,by decide,by decide⟩,?_,?_⟩
    · rintro i x ρ e ⟨v,w',rfl,v0,v1⟩
      obtain ⟨rfl,hi⟩ := rangeD_get e
      have hi4 : i < 4 := by omega
      have hp : (1000 : Int) ^ i <= 1000000000 := by
        rcases (show i = 0 \/ i = 1 \/ i = 2 \/ i = 3 by omega) with h | h | h | h <;> subst h <;> decide
      have bv : Bd 32 v := Bd.of (by omega) (by omega)
      walk_at "go"
      refine ⟨_,64,rfl,by decide,Bd.num _ (by decide),by decide,fun r r0 r1 => ?_⟩
      walk_at "go"
      refine ⟨_,_,rfl,by omega,?_⟩
      rw [Int.pow_succ]
      omega
    · rintro ρ ⟨v,w',rfl,v0,v1⟩
      have hp : (1000 : Int) ^ (rangeD 0 top.toNat).length <= 1000000000000 := by
        rw [rangeD_len]
        rcases (show top.toNat = 1 \/ top.toNat = 2 \/ top.toNat = 3 \/ top.toNat = 4 by omega) with h | h | h | h <;> rw [h] <;> decide
      walk_at "go"
      walk_at "sp"
      · walk_at "go"
        refine ⟨_,64,rfl,by decide,Bd.num _ (by decide),by decide,fun k k0 k1 => ?_⟩
        walk_at "go"
        have bu : Bd 40 (v % 5) := by
          have h1 := Int.emod_lt_of_pos v (show (0 : Int) < 5 by decide)
          have h2 := Int.emod_nonneg v (show (5 : Int) ≠ 0 by decide)
          exact Bd.of (by omega) (by omega)
        refine ixm k0 (by exact k1) fun d md => ?_
        simp only [List.mem_cons,List.not_mem_nil,or_false] at md
        rcases md with e | e
        · subst e
          walk_at "go"
          exact hP _ (by show Bd 40 ((v % 5) * 1); rw [Int.mul_one]; exact bu)
        · subst e
          walk_at "go"
          exact hP _ (by show Bd 40 ((v % 5) * (-1)); rw [Int.mul_neg,Int.mul_one]; exact bu.neg)
      · walk_at "go"
        refine ⟨_,64,rfl,by decide,Bd.num _ (by decide),by decide,fun k k0 k1 => ?_⟩
        walk_at "go"
        have bu : Bd 40 v := Bd.of (by omega) (by omega)
        refine ixm k0 (by exact k1) fun d md => ?_
        simp only [List.mem_cons,List.not_mem_nil,or_false] at md
        rcases md with e | e
        · subst e
          walk_at "go"
          exact hP _ (by show Bd 40 (v * 1); rw [Int.mul_one]; exact bu)
        · subst e
          walk_at "go"
          exact hP _ (by show Bd 40 (v * (-1)); rw [Int.mul_neg,Int.mul_one]; exact bu.neg)
abbrev s__law_is : Stmt := top 33
theorem sc__law_is : FnScope ["_law_e","_law_due","_law_found","_law_names"] ["_law_e","_law_due"] (defScope s__law_is) := ⟨rfl,rfl,rfl,by decide +kernel,rfl,by decide +kernel,by decide +kernel⟩
def sp_is (c : Cs) : Addr -> Sp := fun y vs H Q _ => vs = [.ref y,.str "move"] /\ H y = some (ExcO y c.NoMove) /\ ∀ H',Same H H' -> Q (.bl true) H'
theorem ok__law_is {P : Program}{w : World}{K : PySem.W.Frag}{mg : Str -> Option Value}{base : Heap}{f : Addr}{fd : FuncData}(F : Fun K "_law_is" "_law_is" s__law_is f fd) (Z : Bi mg) {c : Cs} (Y : Ex K mg base c) : FnOkM P w K mg base 1 f fd ["_law_e","_law_due"] (sp_is c) := by
  refine F.okM sc__law_is (fun y vs H Q E h => ?_) (fun cdv A outer s H vs Q y hr hh h => ?_)
  · obtain ⟨rfl,hx,k⟩ := h
    rfl
  · obtain ⟨rfl,hx,k⟩ := h
    obtain ⟨es1,hes1⟩ : ∃ es : List Expr,es = List.map (fun c : Str × Nat × Pos => Expr.Constant (.str c.1) c.2.1 c.2.2) [("fraction",0,⟨94,18,94,28⟩),("spot",0,⟨94,30,94,36⟩),("body",0,⟨94,38,94,44⟩),("move",0,⟨94,46,94,52⟩),("flat",0,⟨94,54,94,60⟩),("face",0,⟨94,62,94,68⟩),("board",0,⟨94,70,94,77⟩),("light",0,⟨94,79,94,86⟩),("deed",0,⟨94,88,94,94⟩),("text",0,⟨94,96,94,102⟩),("name",0,⟨94,104,94,110⟩),("row",0,⟨94,112,94,117⟩)] := ⟨_,rfl⟩
    have hT1 := ps_set (X := (cxOfM P w K mg base ["_law_e","_law_due","_law_found","_law_names"] "_law_is" (defScope s__law_is) f cdv A outer s H)) (i := 3) (x := "_law_names") (pos' := ⟨94,4,94,14⟩) (pos := ⟨94,4,94,118⟩) sc__law_is.nd rfl (by walk_at "o") (pe_lstStrs (pos := ⟨94,17,94,118⟩) [("fraction",0,⟨94,18,94,28⟩),("spot",0,⟨94,30,94,36⟩),("body",0,⟨94,38,94,44⟩),("move",0,⟨94,46,94,52⟩),("flat",0,⟨94,54,94,60⟩),("face",0,⟨94,62,94,68⟩),("board",0,⟨94,70,94,77⟩),("light",0,⟨94,79,94,86⟩),("deed",0,⟨94,88,94,94⟩),("text",0,⟨94,96,94,102⟩),("name",0,⟨94,104,94,110⟩),("row",0,⟨94,112,94,117⟩)] hes1) rfl (.inl rfl)
    generalize hst1 : Stmt.Assign [Expr.Name "_law_names" ⟨94,4,94,14⟩] (Expr.List es1 ⟨94,17,94,118⟩) ⟨94,4,94,118⟩ = st1 at hT1
    have hR1 := ((pss_cons (ps_set (i := 3) sc__law_is.nd rfl (by walk_at "o") (pe_op op_cat (pv 3) (pe_lst (pa_cons pe_str (pa_cons pe_str pa_nil)))))
      (pss_one (ps_ret (pe_and (pe_callB (call_isinstXT K (by rfl)) rfl Z.isinstance_ bt_isinstance (pa_cons (pv 0) (pa_cons (pe_bltn (v := .ty "ValueError") rfl Z.ValueError_ bt_ValueError rfl) pa_nil))) (pe_one (pe_cmpR (op_eqL K (by rfl) hr.units0) (pv 2) (pe_compM (X := (cxOfM P w K mg base ["_law_e","_law_due","_law_found","_law_names"] "_law_is" (defScope s__law_is) f cdv A outer s H)) (BlkM.mk (X := (cxOfM P w K mg base ["_law_e","_law_due","_law_found","_law_names"] "_law_is" (defScope s__law_is) f cdv A outer s H)) (N' := ["_law_name","_law_due"]) (map := [none,some 1]) (by rfl) (by decide +kernel) (by rfl) ⟨⟨rfl,rfl,rfl,by walk_at "o"⟩,True.intro⟩ (gkeep_name rfl) fun cl0 C0 fp0 s0 H0 _ => ⟨(pg_name (X := (cxComp (cxOfM P w K mg base ["_law_e","_law_due","_law_found","_law_names"] "_law_is" (defScope s__law_is) f cdv A outer s H) ["_law_name","_law_due"] _ cl0 C0 fp0 s0 H0)) (i := 0) (nodupS ["_law_name","_law_due"] (by decide +kernel)) rfl (by walk_at "o")),pif_nil,(pe_cmpR (X := (cxComp (cxOfM P w K mg base ["_law_e","_law_due","_law_found","_law_names"] "_law_is" (defScope s__law_is) f cdv A outer s H) ["_law_name","_law_due"] _ cl0 C0 fp0 s0 H0)) op_eq (pv 0) (pv 1) (nomark _))⟩) (pi_listM (X := (cxOfM P w K mg base ["_law_e","_law_due","_law_found","_law_names"] "_law_is" (defScope s__law_is) f cdv A outer s H)) (C := c.NoMove) K (by rfl) (by exact hh) (pv 3))) (nomark _))))))) : PSs (cxOfM P w K mg base ["_law_e","_law_due","_law_found","_law_names"] "_law_is" (defScope s__law_is) f cdv A outer s H) ((defBody s__law_is).drop 5) _)
    have hV1 := @pss_says _ _ _ (pss_cons hT1 hR1)
    refine ⟨_,(pss_cons (ps_set (i := 2) sc__law_is.nd rfl (by walk_at "o") (pe_lst (pa_cons (pe_callB (call_isinstX K (by rfl)) rfl Z.isinstance_ bt_isinstance (pa_cons (pv 0) (pa_cons (pe_globC rfl Y.g_NoFraction) pa_nil))) (pa_cons (pe_callB (call_isinstX K (by rfl)) rfl Z.isinstance_ bt_isinstance (pa_cons (pv 0) (pa_cons (pe_globC rfl Y.g_NoSpot) pa_nil))) (pa_cons (pe_callB (call_isinstX K (by rfl)) rfl Z.isinstance_ bt_isinstance (pa_cons (pv 0) (pa_cons (pe_globC rfl Y.g_NoBody) pa_nil))) (pa_cons (pe_callB (call_isinstX K (by rfl)) rfl Z.isinstance_ bt_isinstance (pa_cons (pv 0) (pa_cons (pe_globC rfl Y.g_NoMove) pa_nil))) pa_nil))))))
      (pss_cons (ps_set (i := 2) sc__law_is.nd rfl (by walk_at "o") (pe_op op_cat (pv 2) (pe_lst (pa_cons (pe_callB (call_isinstX K (by rfl)) rfl Z.isinstance_ bt_isinstance (pa_cons (pv 0) (pa_cons (pe_globC rfl Y.g_NoFlat) pa_nil))) (pa_cons (pe_callB (call_isinstX K (by rfl)) rfl Z.isinstance_ bt_isinstance (pa_cons (pv 0) (pa_cons (pe_globC rfl Y.g_NoFace) pa_nil))) (pa_cons (pe_callB (call_isinstX K (by rfl)) rfl Z.isinstance_ bt_isinstance (pa_cons (pv 0) (pa_cons (pe_globC rfl Y.g_NoBoard) pa_nil))) (pa_cons (pe_callB (call_isinstX K (by rfl)) rfl Z.isinstance_ bt_isinstance (pa_cons (pv 0) (pa_cons (pe_globC rfl Y.g_NoLight) pa_nil))) pa_nil)))))))
      (pss_cons (ps_set (i := 2) sc__law_is.nd rfl (by walk_at "o") (pe_op op_cat (pv 2) (pe_lst (pa_cons (pe_callB (call_isinstX K (by rfl)) rfl Z.isinstance_ bt_isinstance (pa_cons (pv 0) (pa_cons (pe_globC rfl Y.g_NoDeed) pa_nil))) (pa_cons (pe_callB (call_isinstX K (by rfl)) rfl Z.isinstance_ bt_isinstance (pa_cons (pv 0) (pa_cons (pe_globC rfl Y.g_NoText) pa_nil))) (pa_cons (pe_callB (call_isinstX K (by rfl)) rfl Z.isinstance_ bt_isinstance (pa_cons (pv 0) (pa_cons (pe_globC rfl Y.g_NoName) pa_nil))) (pa_cons (pe_callB (call_isinstX K (by rfl)) rfl Z.isinstance_ bt_isinstance (pa_cons (pv 0) (pa_cons (pe_globC rfl Y.g_NoRow) pa_nil))) pa_nil)))))))
      (pss_cons (ps_set (i := 2) sc__law_is.nd rfl (by walk_at "o") (pe_op op_cat (pv 2) (pe_lst (pa_cons (pe_callB (call_isinstX K (by rfl)) rfl Z.isinstance_ bt_isinstance (pa_cons (pv 0) (pa_cons (pe_globC rfl Y.g_Behind) pa_nil))) (pa_cons (pe_callB (call_isinstX K (by rfl)) rfl Z.isinstance_ bt_isinstance (pa_cons (pv 0) (pa_cons (pe_globC rfl Y.g_TooMany) pa_nil))) pa_nil)))))
      hV1)))),?_⟩
    walk_at "rd"
    refine ⟨_,_,_,false,rfl,hx,.inr ⟨rfl,Y.x_NoMove,Y.n_NoMove_NoFraction⟩,?_⟩
    walk_at "rd"
    refine ⟨_,_,_,false,rfl,hx,.inr ⟨rfl,Y.x_NoMove,Y.n_NoMove_NoSpot⟩,?_⟩
    walk_at "rd"
    refine ⟨_,_,_,false,rfl,hx,.inr ⟨rfl,Y.x_NoMove,Y.n_NoMove_NoBody⟩,?_⟩
    walk_at "rd"
    refine ⟨_,_,_,true,rfl,hx,.inl ⟨rfl,rfl⟩,?_⟩
    walk_at "rd"
    refine ⟨(Nat.le_trans (Nat.le_of_ble_eq_true rfl) le1000),fun p1 en1 => ?_⟩
    have hN : upd H p1 (.lst [.bl false,.bl false,.bl false,.bl true]) p1 = some (.lst [.bl false,.bl false,.bl false,.bl true]) := upd_same
    have hx : upd H p1 (.lst [.bl false,.bl false,.bl false,.bl true]) y = some (ExcO y c.NoMove) := Same.upd en1 _ _ hx
    have S1 : Same H (upd H p1 (.lst [.bl false,.bl false,.bl false,.bl true])) := Same.upd en1
    generalize upd H p1 (.lst [.bl false,.bl false,.bl false,.bl true]) = G0 at hN hx S1 ⊢
    clear en1
    walk_at "rd"
    refine ⟨_,_,_,false,rfl,hx,.inr ⟨rfl,Y.x_NoMove,Y.n_NoMove_NoFlat⟩,?_⟩
    walk_at "rd"
    refine ⟨_,_,_,false,rfl,hx,.inr ⟨rfl,Y.x_NoMove,Y.n_NoMove_NoFace⟩,?_⟩
    walk_at "rd"
    refine ⟨_,_,_,false,rfl,hx,.inr ⟨rfl,Y.x_NoMove,Y.n_NoMove_NoBoard⟩,?_⟩
    walk_at "rd"
    refine ⟨_,_,_,false,rfl,hx,.inr ⟨rfl,Y.x_NoMove,Y.n_NoMove_NoLight⟩,?_⟩
    walk_at "rd"
    refine ⟨(Nat.le_trans (Nat.le_of_ble_eq_true rfl) le1000),fun q1 eq1 => ?_⟩
    refine ⟨_,_,[.bl false,.bl false,.bl false,.bl true],[.bl false,.bl false,.bl false,.bl false],rfl,rfl,Same.upd eq1 _ _ hN,upd_same,(Nat.le_trans (Nat.le_of_ble_eq_true rfl) le1000),fun p2 en2 => ?_⟩
    have S2 := (Same.upd (o := .lst [.bl false,.bl false,.bl false,.bl false]) eq1).trans (Same.upd (o := .lst ([.bl false,.bl false,.bl false,.bl true] ++ [.bl false,.bl false,.bl false,.bl false])) en2)
    have hN' : upd (upd G0 q1 (.lst [.bl false,.bl false,.bl false,.bl false])) p2 (.lst ([.bl false,.bl false,.bl false,.bl true] ++ [.bl false,.bl false,.bl false,.bl false])) p2 = some (.lst [.bl false,.bl false,.bl false,.bl true,.bl false,.bl false,.bl false,.bl false]) := upd_same
    replace hx := S2 _ _ hx
    replace S1 := S1.trans S2
    clear S2
    generalize upd (upd G0 q1 (.lst [.bl false,.bl false,.bl false,.bl false])) p2 (.lst ([.bl false,.bl false,.bl false,.bl true] ++ [.bl false,.bl false,.bl false,.bl false])) = G1 at hN' hx S1 ⊢
    clear hN en2 eq1
    have hN := hN'
    clear hN'
    walk_at "rd"
    refine ⟨_,_,_,false,rfl,hx,.inr ⟨rfl,Y.x_NoMove,Y.n_NoMove_NoDeed⟩,?_⟩
    walk_at "rd"
    refine ⟨_,_,_,false,rfl,hx,.inr ⟨rfl,Y.x_NoMove,Y.n_NoMove_NoText⟩,?_⟩
    walk_at "rd"
    refine ⟨_,_,_,false,rfl,hx,.inr ⟨rfl,Y.x_NoMove,Y.n_NoMove_NoName⟩,?_⟩
    walk_at "rd"
    refine ⟨_,_,_,false,rfl,hx,.inr ⟨rfl,Y.x_NoMove,Y.n_NoMove_NoRow⟩,?_⟩
    walk_at "rd"
    refine ⟨(Nat.le_trans (Nat.le_of_ble_eq_true rfl) le1000),fun q2 eq2 => ?_⟩
    refine ⟨_,_,[.bl false,.bl false,.bl false,.bl true,.bl false,.bl false,.bl false,.bl false],[.bl false,.bl false,.bl false,.bl false],rfl,rfl,Same.upd eq2 _ _ hN,upd_same,(Nat.le_trans (Nat.le_of_ble_eq_true rfl) le1000),fun p3 en3 => ?_⟩
    have S2 := (Same.upd (o := .lst [.bl false,.bl false,.bl false,.bl false]) eq2).trans (Same.upd (o := .lst ([.bl false,.bl false,.bl false,.bl true,.bl false,.bl false,.bl false,.bl false] ++ [.bl false,.bl false,.bl false,.bl false])) en3)
    have hN' : upd (upd G1 q2 (.lst [.bl false,.bl false,.bl false,.bl false])) p3 (.lst ([.bl false,.bl false,.bl false,.bl true,.bl false,.bl false,.bl false,.bl false] ++ [.bl false,.bl false,.bl false,.bl false])) p3 = some (.lst [.bl false,.bl false,.bl false,.bl true,.bl false,.bl false,.bl false,.bl false,.bl false,.bl false,.bl false,.bl false]) := upd_same
    replace hx := S2 _ _ hx
    replace S1 := S1.trans S2
    clear S2
    generalize upd (upd G1 q2 (.lst [.bl false,.bl false,.bl false,.bl false])) p3 (.lst ([.bl false,.bl false,.bl false,.bl true,.bl false,.bl false,.bl false,.bl false] ++ [.bl false,.bl false,.bl false,.bl false])) = G2 at hN' hx S1 ⊢
    clear hN en3 eq2
    have hN := hN'
    clear hN'
    walk_at "rd"
    refine ⟨_,_,_,false,rfl,hx,.inr ⟨rfl,Y.x_NoMove,Y.n_NoMove_Behind⟩,?_⟩
    walk_at "rd"
    refine ⟨_,_,_,false,rfl,hx,.inr ⟨rfl,Y.x_NoMove,Y.n_NoMove_TooMany⟩,?_⟩
    walk_at "rd"
    refine ⟨(Nat.le_trans (Nat.le_of_ble_eq_true rfl) le1000),fun q3 eq3 => ?_⟩
    refine ⟨_,_,[.bl false,.bl false,.bl false,.bl true,.bl false,.bl false,.bl false,.bl false,.bl false,.bl false,.bl false,.bl false],[.bl false,.bl false],rfl,rfl,Same.upd eq3 _ _ hN,upd_same,(Nat.le_trans (Nat.le_of_ble_eq_true rfl) le1000),fun p4 en4 => ?_⟩
    have S2 := (Same.upd (o := .lst [.bl false,.bl false]) eq3).trans (Same.upd (o := .lst ([.bl false,.bl false,.bl false,.bl true,.bl false,.bl false,.bl false,.bl false,.bl false,.bl false,.bl false,.bl false] ++ [.bl false,.bl false])) en4)
    have hN' : upd (upd G2 q3 (.lst [.bl false,.bl false])) p4 (.lst ([.bl false,.bl false,.bl false,.bl true,.bl false,.bl false,.bl false,.bl false,.bl false,.bl false,.bl false,.bl false] ++ [.bl false,.bl false])) p4 = some (.lst [.bl false,.bl false,.bl false,.bl true,.bl false,.bl false,.bl false,.bl false,.bl false,.bl false,.bl false,.bl false,.bl false,.bl false]) := upd_same
    replace hx := S2 _ _ hx
    replace S1 := S1.trans S2
    clear S2
    generalize upd (upd G2 q3 (.lst [.bl false,.bl false])) p4 (.lst ([.bl false,.bl false,.bl false,.bl true,.bl false,.bl false,.bl false,.bl false,.bl false,.bl false,.bl false,.bl false] ++ [.bl false,.bl false])) = G3 at hN' hx S1 ⊢
    clear hN en4 eq3
    have hN := hN'
    clear hN'
    walk_at "rd"
    refine ⟨by rw [<- hst1,hes1]; rfl,?_⟩
    walk_at "rd"
    refine ⟨(Nat.le_trans (Nat.le_of_ble_eq_true rfl) le1000),fun w1 ew1 => ?_⟩
    have hW : upd G3 w1 (.lst [V.str "fraction",V.str "spot",V.str "body",V.str "move",V.str "flat",V.str "face",V.str "board",V.str "light",V.str "deed",V.str "text",V.str "name",V.str "row"]) w1 = some (.lst [V.str "fraction",V.str "spot",V.str "body",V.str "move",V.str "flat",V.str "face",V.str "board",V.str "light",V.str "deed",V.str "text",V.str "name",V.str "row"]) := upd_same
    have S2 : Same G3 (upd G3 w1 (.lst [V.str "fraction",V.str "spot",V.str "body",V.str "move",V.str "flat",V.str "face",V.str "board",V.str "light",V.str "deed",V.str "text",V.str "name",V.str "row"])) := Same.upd ew1
    replace hx := S2 _ _ hx
    replace hN := S2 _ _ hN
    replace S1 := S1.trans S2
    clear S2
    show tSeq _ _ _ _ (upd G3 w1 (.lst [V.str "fraction",V.str "spot",V.str "body",V.str "move",V.str "flat",V.str "face",V.str "board",V.str "light",V.str "deed",V.str "text",V.str "name",V.str "row"]))
    generalize upd G3 w1 (.lst [V.str "fraction",V.str "spot",V.str "body",V.str "move",V.str "flat",V.str "face",V.str "board",V.str "light",V.str "deed",V.str "text",V.str "name",V.str "row"]) = G8 at hW hx hN S1 ⊢
    clear ew1
    walk_at "rd"
    refine ⟨(Nat.le_trans (Nat.le_of_ble_eq_true rfl) le1000),fun w2 ew2 => ?_⟩
    refine ⟨_,_,[V.str "fraction",V.str "spot",V.str "body",V.str "move",V.str "flat",V.str "face",V.str "board",V.str "light",V.str "deed",V.str "text",V.str "name",V.str "row"],[V.str "behind",V.str "many"],rfl,rfl,Same.upd ew2 _ _ hW,upd_same,(Nat.le_trans (Nat.le_of_ble_eq_true rfl) le1000),fun w3 ew3 => ?_⟩
    have S2 := (Same.upd (o := .lst [V.str "behind",V.str "many"]) ew2).trans (Same.upd (o := .lst ([V.str "fraction",V.str "spot",V.str "body",V.str "move",V.str "flat",V.str "face",V.str "board",V.str "light",V.str "deed",V.str "text",V.str "name",V.str "row"] ++ [V.str "behind",V.str "many"])) ew3)
    have hW' : upd (upd G8 w2 (.lst [V.str "behind",V.str "many"])) w3 (.lst ([V.str "fraction",V.str "spot",V.str "body",V.str "move",V.str "flat",V.str "face",V.str "board",V.str "light",V.str "deed",V.str "text",V.str "name",V.str "row"] ++ [V.str "behind",V.str "many"])) w3 = some (.lst [V.str "fraction",V.str "spot",V.str "body",V.str "move",V.str "flat",V.str "face",V.str "board",V.str "light",V.str "deed",V.str "text",V.str "name",V.str "row",V.str "behind",V.str "many"]) := upd_same
    replace hx := S2 _ _ hx
    replace hN := S2 _ _ hN
    replace S1 := S1.trans S2
    clear S2
    generalize upd (upd G8 w2 (.lst [V.str "behind",V.str "many"])) w3 (.lst ([V.str "fraction",V.str "spot",V.str "body",V.str "move",V.str "flat",V.str "face",V.str "board",V.str "light",V.str "deed",V.str "text",V.str "name",V.str "row"] ++ [V.str "behind",V.str "many"])) = G9 at hW' hx hN S1 ⊢
    clear hW ew2 ew3
    have hW := hW'
    clear hW'
    walk_at "rd"
    refine ⟨_,_,_,rfl,hx,Y.v_NoMove,ty_ValueError,?_⟩
    walk_at "rd"
    refine ⟨⟨_,SqL.of hW⟩,comp_listM (xs := [V.str "fraction",V.str "spot",V.str "body",V.str "move",V.str "flat",V.str "face",V.str "board",V.str "light",V.str "deed",V.str "text",V.str "name",V.str "row",V.str "behind",V.str "many"]) (fun i acc H' => H' = G9 /\ i <= 14 /\ acc = ([.bl false,.bl false,.bl false,.bl true,.bl false,.bl false,.bl false,.bl false,.bl false,.bl false,.bl false,.bl false,.bl false,.bl false] : List V).take i) (Nat.le_trans (Nat.le_of_ble_eq_true rfl) le1000) ⟨rfl,by decide,rfl⟩ (fun i acc H' ⟨z1,z2,z3⟩ => ⟨?_,by rw [z1]; exact SqL.of hW,by rw [z1]; exact hx⟩) (fun i v acc H' hv ⟨z1,z2,z3⟩ => ?_) (fun acc H' ⟨z1,z2,z3⟩ => ?_)⟩
    · rw [z3,List.length_take]; omega
    · subst z1
      have hi : i < 14 := (List.getElem?_eq_some_iff.mp hv).1
      have hi' : i = 0 \/ i = 1 \/ i = 2 \/ i = 3 \/ i = 4 \/ i = 5 \/ i = 6 \/ i = 7 \/ i = 8 \/ i = 9 \/ i = 10 \/ i = 11 \/ i = 12 \/ i = 13 := by omega
      rcases hi' with rfl | rfl | rfl | rfl | rfl | rfl | rfl | rfl | rfl | rfl | rfl | rfl | rfl | rfl <;> (cases hv; walk_at "rd"; first | (refine ⟨by decide,?_⟩; rw [z3]; first | rfl | decide) | (refine ⟨rfl,by decide,?_⟩; rw [z3]; first | rfl | decide))
    · subst z1
      intro D hD
      rw [z3]
      refine ⟨_,D,[.bl false,.bl false,.bl false,.bl true,.bl false,.bl false,.bl false,.bl false,.bl false,.bl false,.bl false,.bl false,.bl false,.bl false],rfl,rfl,SqL.of (Same.upd hD _ _ hN),SqL.of upd_same,by simp [flatV],?_⟩
      exact k _ (S1.trans (Same.upd hD))
abbrev s__law_odd : Stmt := top 34
theorem sc__law_odd : FnScope ["_law_bag_here"] ["_law_bag_here"] (defScope s__law_odd) := ⟨rfl,rfl,rfl,by decide +kernel,rfl,by decide +kernel,by decide +kernel⟩
def S_odd : DSp := fun ds P _ => ds = [.bag] /\ ∀ d : D,okRp d = true -> whD d = false -> P d
structure C__law_odd (P : Program)(w : World)(K : PySem.W.Frag)(mg : Str -> Option Value)(base : Heap)(c : Cs) : Prop where
  _law_digit_ : Callee P w K mg base CX0 "_law_digit" 1 ["_law_bag_here","_law_many"] (liftSp K BT S_digit)
theorem ok__law_odd {P : Program}{w : World}{K : PySem.W.Frag}{mg : Str -> Option Value}{base : Heap}{f : Addr}{fd : FuncData}(F : Fun K "_law_odd" "_law_odd" s__law_odd f fd) (Z : Bi mg) {c : Cs} (Y : Ex K mg base c) (G : C__law_odd P w K mg base c) : FnOk P w K mg base CX0 2 f fd ["_law_bag_here"] (liftSp K BT S_odd) := by
  refine F.okD sc__law_odd (fun ds PP Ed h => ?_) (fun cdv A outer s H E M bg ds PP Ed hr hS_ => ?_)
  · obtain ⟨rfl,hP⟩ := h
    rfl
  · obtain ⟨rfl,hP⟩ := hS_
    refine ⟨_,(jdss_one (jds_ret (jde_ix (ix_any K (by rfl)) od_ix (jde_lst (jda_cons jde_non (jda_cons jde_bl (jda_cons jde_bl (jda_cons jde_str (jda_cons (jde_tup jda_nil) (jda_cons (jde_lst jda_nil) (jda_cons (jde_tup (jda_cons jde_int (jda_cons jde_int jda_nil))) (jda_cons (jde_lst (jda_cons jde_int jda_nil)) (jda_cons jde_str (jda_cons (jde_tup (jda_cons (jde_tup (jda_cons jde_int jda_nil)) jda_nil)) jda_nil))))))))))) (jde_own G._law_digit_ (hr.mono (by decide)) rfl (jda_cons (jdv 0) (jda_cons jde_int jda_nil))) (fun _ _ => rfl)))),?_⟩
    walk_at "go"
    refine ⟨_,64,rfl,by decide,Bd.num _ (by decide),by decide,fun q q0 q1 => ?_⟩
    walk_at "go"
    refine ixm q0 (by exact q1) fun d md => ?_
    simp only [List.mem_cons,List.not_mem_nil,or_false] at md
    rcases md with rfl | rfl | rfl | rfl | rfl | rfl | rfl | rfl | rfl | rfl
    all_goals exact hP _ (by decide +kernel) rfl
abbrev s__law_whole : Stmt := top 35
theorem sc__law_whole : FnScope ["_law_thing"] ["_law_thing"] (defScope s__law_whole) := ⟨rfl,rfl,rfl,by decide +kernel,rfl,by decide +kernel,by decide +kernel⟩
def S_lwhole : DSp := fun ds P _ => ∃ d,ds = [d] /\ okRp d = true /\ P (.bl (whD d))
theorem ok__law_whole {P : Program}{w : World}{K : PySem.W.Frag}{mg : Str -> Option Value}{base : Heap}{f : Addr}{fd : FuncData}(F : Fun K "_law_whole" "_law_whole" s__law_whole f fd) (Z : Bi mg) {c : Cs} (Y : Ex K mg base c) : FnOk P w K mg base CX0 1 f fd ["_law_thing"] (liftSp K BT S_lwhole) := by
  refine F.okD sc__law_whole (fun ds PP Ed h => ?_) (fun cdv A outer s H E M bg ds PP Ed hr hS_ => ?_)
  · obtain ⟨d,rfl,hd,hP⟩ := h
    rfl
  · obtain ⟨d,rfl,hd,hP⟩ := hS_
    refine ⟨_,(jdss_one (jds_ret (jde_and (jde_callB (call_isinstA K (by rfl)) cd_isinst rfl Z.isinstance_ bt_isinstance (jda_cons (jdv 0) (jda_cons (jde_bltn rfl Z.int_ bt_int) jda_nil))) (jde_one (jde_not (jde_callB (call_isinstA K (by rfl)) cd_isinst rfl Z.isinstance_ bt_isinstance (jda_cons (jdv 0) (jda_cons (jde_bltn rfl Z.bool_ bt_bool) jda_nil)))))))),?_⟩
    cases d <;> (try (simp [okRp] at hd; done))
    all_goals first
      | (walk_at "go"; refine ⟨false,by rfl,?_⟩; walk_at "go"; exact hP)
      | (walk_at "go"; refine ⟨true,by rfl,?_⟩; walk_at "go"; refine ⟨true,by rfl,?_⟩; walk_at "go"; exact hP)
      | (walk_at "go"; refine ⟨true,by rfl,?_⟩; walk_at "go"; refine ⟨false,by rfl,?_⟩; walk_at "go"; exact hP)
abbrev s__law_good_axis : Stmt := top 41
theorem sc__law_good_axis : FnScope ["_law_thing"] ["_law_thing"] (defScope s__law_good_axis) := ⟨rfl,rfl,rfl,by decide +kernel,rfl,by decide +kernel,by decide +kernel⟩
def S_goodax : DSp := fun ds P _ => ∃ d,ds = [d] /\ okRp d = true /\ P (.bl (coordD d))
structure C__law_good_axis (P : Program)(w : World)(K : PySem.W.Frag)(mg : Str -> Option Value)(base : Heap)(c : Cs) : Prop where
  _law_whole_ : Callee P w K mg base CX0 "_law_whole" 1 ["_law_thing"] (liftSp K BT S_lwhole)
theorem ok__law_good_axis {P : Program}{w : World}{K : PySem.W.Frag}{mg : Str -> Option Value}{base : Heap}{f : Addr}{fd : FuncData}(F : Fun K "_law_good_axis" "_law_good_axis" s__law_good_axis f fd) (Z : Bi mg) {c : Cs} (Y : Ex K mg base c) (G : C__law_good_axis P w K mg base c) : FnOk P w K mg base CX0 2 f fd ["_law_thing"] (liftSp K BT S_goodax) := by
  refine F.okD sc__law_good_axis (fun ds PP Ed h => ?_) (fun cdv A outer s H E M bg ds PP Ed hr hS_ => ?_)
  · obtain ⟨d,rfl,hd,hP⟩ := h
    rfl
  · obtain ⟨d,rfl,hd,hP⟩ := hS_
    refine ⟨_,(jdss_one (jds_ret (jde_and (jde_own G._law_whole_ (hr.mono (by decide)) rfl (jda_cons (jdv 0) jda_nil)) (jde_one (jde_chain op_le op_le od_B0 od_B0 jde_int (jdv 0) jde_int))))),?_⟩
    have key : ∀ b : Bool,b = coordD d -> PP (.bl b) := fun b h => by rw [h]; exact hP
    cases hw : whD d with
    | true =>
      obtain ⟨k,rfl⟩ := whD_int hw
      walk_at "go"
      refine ⟨_,rfl,hd,?_⟩
      walk_at "go"
      walk_at "sp"
      · walk_at "go"
        rename_i h
        exact key _ (by show decide (k <= 2) = (decide (0 <= k) && decide (k <= 2)); rw [decide_eq_true h]; rfl)
      · walk_at "go"
        rename_i h
        exact key _ (by show false = (decide (0 <= k) && decide (k <= 2)); rw [decide_eq_false h]; rfl)
    | false =>
      have hc : coordD d = false := by cases d <;> first | rfl | cases hw
      walk_at "go"
      refine ⟨by show (notOwn d && true) = true; rw [okRp_no hd]; rfl,d,rfl,hd,?_⟩
      rw [hw]
      walk_at "go"
      exact key _ hc.symm
abbrev s__law_axis : Stmt := top 40
theorem sc__law_axis : FnScope ["_law_bag_here"] ["_law_bag_here"] (defScope s__law_axis) := ⟨rfl,rfl,rfl,by decide +kernel,rfl,by decide +kernel,by decide +kernel⟩
def S_axis : DSp := fun ds P _ => ds = [.bag] /\ ∀ d : D,okRp d = true -> P d
structure C__law_axis (P : Program)(w : World)(K : PySem.W.Frag)(mg : Str -> Option Value)(base : Heap)(c : Cs) : Prop where
  _law_digit_ : Callee P w K mg base CX0 "_law_digit" 1 ["_law_bag_here","_law_many"] (liftSp K BT S_digit)
  _law_odd_ : Callee P w K mg base CX0 "_law_odd" 2 ["_law_bag_here"] (liftSp K BT S_odd)
theorem ok__law_axis {P : Program}{w : World}{K : PySem.W.Frag}{mg : Str -> Option Value}{base : Heap}{f : Addr}{fd : FuncData}(F : Fun K "_law_axis" "_law_axis" s__law_axis f fd) (Z : Bi mg) {c : Cs} (Y : Ex K mg base c) (G : C__law_axis P w K mg base c) : FnOk P w K mg base CX0 3 f fd ["_law_bag_here"] (liftSp K BT S_axis) := by
  refine F.okD sc__law_axis (fun ds PP Ed h => ?_) (fun cdv A outer s H E M bg ds PP Ed hr hS_ => ?_)
  · obtain ⟨rfl,hP⟩ := h
    rfl
  · obtain ⟨rfl,hP⟩ := hS_
    refine ⟨_,(jdss_cons (jds_if (jdt_cmp op_gt od_B0 (jde_own G._law_digit_ (hr.mono (by decide)) rfl (jda_cons (jdv 0) (jda_cons jde_int jda_nil))) jde_int (nomark _)) (jdss_one (jds_ret (jde_own G._law_digit_ (hr.mono (by decide)) rfl (jda_cons (jdv 0) (jda_cons jde_int jda_nil))))) jdss_nil)
      (jdss_one (jds_ret (jde_ix (ix_any K (by rfl)) od_ix (jde_lst (jda_cons jde_int (jda_cons (jde_neg jde_int) (jda_cons jde_int (jda_cons (jde_op op_pow od_I jde_int jde_int) (jda_cons (jde_own G._law_odd_ (hr.mono (by decide)) rfl (jda_cons (jdv 0) jda_nil)) (jda_cons (jde_own G._law_odd_ (hr.mono (by decide)) rfl (jda_cons (jdv 0) jda_nil)) jda_nil))))))) (jde_own G._law_digit_ (hr.mono (by decide)) rfl (jda_cons (jdv 0) (jda_cons jde_int jda_nil))) (fun _ _ => rfl))))),?_⟩
    have oi : ∀ i : Int,0 <= i -> i < 3 -> okRp (.int i) = true := fun i h0 h1 => by
      obtain rfl | rfl | rfl : i = 0 \/ i = 1 \/ i = 2 := by omega
      all_goals decide +kernel
    walk_at "go"
    refine ⟨_,64,rfl,by decide,Bd.num _ (by decide),by decide,fun q q0 q1 => ?_⟩
    walk_at "go"
    walk_at "sp"
    · walk_at "go"
      refine ⟨_,64,rfl,by decide,Bd.num _ (by decide),by decide,fun r r0 r1 => ?_⟩
      walk_at "go"
      exact hP _ (oi r r0 r1)
    · walk_at "go"
      intro d1 k1 k2
      walk_at "go"
      intro d2 k3 k4
      walk_at "go"
      refine And.intro (by unfold okIt; simp [okRp_pl k1,okRp_pl k3]; exact ⟨rfl,rfl,rfl,rfl⟩) ?_
      walk_at "go"
      refine ⟨_,64,rfl,by decide,Bd.num _ (by decide),by decide,fun r r0 r1 => ?_⟩
      walk_at "go"
      refine ixm r0 (by exact r1) fun d md => ?_
      simp only [List.mem_cons,List.not_mem_nil,or_false] at md
      have hr : ∀ d : D,okRp d = true -> (match d with | .own xs => PP (.lst xs) | .bag => False | .frg f d => False | x => PP x) := fun d h => by
        have := hP d h
        cases d <;> first | exact this | (unfold okRp at h; cases h)
      rcases md with rfl | rfl | rfl | rfl | rfl | rfl
      · exact hP _ (by decide +kernel)
      · exact hP _ (by decide +kernel)
      · exact hP _ (by decide +kernel)
      · exact hP _ (by decide +kernel)
      · exact hr _ (by assumption)
      · exact hr _ (by assumption)
abbrev s__law_with : Stmt := top 38
theorem sc__law_with : FnScope ["_law_numbers","_law_rows","_law_i","_law_j","_law_number_here"] ["_law_numbers"] (defScope s__law_with) := ⟨rfl,rfl,rfl,by decide +kernel,rfl,by decide +kernel,by decide +kernel⟩
def idR : List (List Int) := [[1,0,0,0],[0,1,0,0],[0,0,1,0],[0,0,0,1]]
abbrev Nu := Nat × Nat × Int
def setR (rs : List (List Int))(p : Nu) : List (List Int) := rs.set p.1 ((rs.getD p.1 []).set p.2.1 p.2.2)
def rwD (rs : List (List Int)) : List (List D) := rs.map fun r => r.map D.int
def mR (rs : List (List Int)) : D := .tup (rs.map fun r => .tup (r.map D.int))
def Sq (rs : List (List Int)) : Prop := rs.length = 4 /\ ∀ r ∈ rs,r.length = 4
theorem Sq.id : Sq idR := ⟨rfl,by intro r h; simp [idR] at h; rcases h with rfl | rfl | rfl | rfl <;> rfl⟩
theorem Sq.set {rs : List (List Int)}(h : Sq rs){p : Nu}(h1 : p.1 < 4) : Sq (setR rs p) := by
  refine ⟨by rw [setR,List.length_set]; exact h.1,fun r hr => ?_⟩
  unfold setR at hr
  rcases List.mem_or_eq_of_mem_set hr with z | z
  · exact h.2 r z
  · rw [z,List.length_set]
    have e : rs.getD p.1 [] = rs[p.1]'(by rw [h.1]; exact h1) := by rw [List.getD_eq_getElem?_getD,List.getElem?_eq_getElem (by rw [h.1]; exact h1)]; rfl
    rw [e]
    exact h.2 _ (List.getElem_mem _)
theorem rwD_at {rs : List (List Int)}(h : Sq rs){k : Nat}(hk : k < 4) : (rwD rs)[k]? = some ((rs.getD k []).map D.int) /\ (rs.getD k []).length = 4 := by
  have hk' : k < rs.length := by rw [h.1]; exact hk
  have e : rs.getD k [] = rs[k] := by rw [List.getD_eq_getElem?_getD,List.getElem?_eq_getElem hk']; rfl
  refine ⟨?_,by rw [e]; exact h.2 _ (List.getElem_mem _)⟩
  unfold rwD
  rw [List.getElem?_map,List.getElem?_eq_getElem hk',e]
  rfl
theorem rwD_set (rs : List (List Int))(p : Nu) : (rwD rs).set p.1 (((rs.getD p.1 []).map D.int).set p.2.1 (.int p.2.2)) = rwD (setR rs p) := by
  unfold rwD setR
  rw [List.map_set,List.map_set]
theorem foldl_take {α β : Type}(g : β -> α -> β)(b : β) : ∀ (l : List α) (i : Nat) (x : α),l[i]? = some x -> (l.take (i + 1)).foldl g b = g ((l.take i).foldl g b) x := fun l i x e => by
  rw [List.take_add_one,e,List.foldl_append]
  rfl
theorem sq_fold {l : List Nu}(hb : ∀ p ∈ l,p.1 < 4 /\ p.2.1 < 4) : ∀ (rs : List (List Int)),Sq rs -> Sq (l.foldl setR rs) := by
  induction l with
  | nil => exact fun _ h => h
  | cons p r ih => exact fun rs h => ih (fun q hq => hb q (List.mem_cons_of_mem _ hq)) _ (h.set (hb p (List.mem_cons_self ..)).1)
def nuD (p : Nu) : D := .tup [.int (p.1 : Int),.int (p.2.1 : Int),.int p.2.2]
def rowI (i : Int) : List D := [.int (if i = 0 then 1 else 0),.int (if i = 1 then 1 else 0),.int (if i = 2 then 1 else 0),.int (if i = 3 then 1 else 0)]
def rowOf : D -> List D
  | .int i => rowI i
  | _ => []
def tupOf : D -> D
  | .lst xs => .tup xs
  | d => d
theorem tup_rows (rs : List (List Int)) : ((rwD rs).map D.lst).map tupOf = rs.map fun r => D.tup (r.map D.int) := by
  unfold rwD
  rw [List.map_map,List.map_map]
  rfl
def S_with : DSp := fun ds P _ => ∃ l : List Nu,ds = [.lst (l.map nuD)] /\ l.length <= 4 /\ (∀ p ∈ l,p.1 < 4 /\ p.2.1 < 4) /\ P (mR (l.foldl setR idR))
theorem ok__law_with {P : Program}{w : World}{K : PySem.W.Frag}{mg : Str -> Option Value}{base : Heap}{f : Addr}{fd : FuncData}(F : Fun K "_law_with" "_law_with" s__law_with f fd) (Z : Bi mg) {c : Cs} (Y : Ex K mg base c) : FnOk P w K mg base CX0 1 f fd ["_law_numbers"] (liftSp K BT S_with) := by
  refine F.okD sc__law_with (fun ds PP Ed h => ?_) (fun cdv A outer s H E M bg ds PP Ed hr hS_ => ?_)
  · obtain ⟨l,rfl,hl,hb,hP⟩ := h
    rfl
  · obtain ⟨l,rfl,hl,hb,hP⟩ := hS_
    refine ⟨_,(jdss_cons (jds_setGCs (X := (cxOf CX0 P w K mg base ["_law_numbers","_law_rows","_law_i","_law_j","_law_number_here"] "_law_with" (defScope s__law_with) f cdv A outer s H E).nox) (i := 1) sc__law_with.nd rfl (by walk_at "o") (gd_name 0) (blkF (X := (cxOf CX0 P w K mg base ["_law_numbers","_law_rows","_law_i","_law_j","_law_number_here"] "_law_with" (defScope s__law_with) f cdv A outer s H E).nox) (N' := ["_law_i"]) (map := [none]) (by rfl) (by rfl) (by decide +kernel) (by rfl) True.intro (gkeep_name rfl) fun cl0 C0 fp0 s0 H0 => ⟨(pg_name (X := (cxComp (cxOf CX0 P w K mg base ["_law_numbers","_law_rows","_law_i","_law_j","_law_number_here"] "_law_with" (defScope s__law_with) f cdv A outer s H E).nox ["_law_i"] _ cl0 C0 fp0 s0 H0)) (i := 0) (nodupS ["_law_i"] (by decide +kernel)) rfl (by walk_at "o")),jdif_nil,(jdf_comp (X := (cxComp (cxOf CX0 P w K mg base ["_law_numbers","_law_rows","_law_i","_law_j","_law_number_here"] "_law_with" (defScope s__law_with) f cdv A outer s H E).nox ["_law_i"] _ cl0 C0 fp0 s0 H0)) (gd_name 0) (blkJ (X := (cxComp (cxOf CX0 P w K mg base ["_law_numbers","_law_rows","_law_i","_law_j","_law_number_here"] "_law_with" (defScope s__law_with) f cdv A outer s H E).nox ["_law_i"] _ cl0 C0 fp0 s0 H0)) (N' := ["_law_j","_law_i"]) (map := [none,some 0]) (by rfl) (by rfl) (by decide +kernel) (by rfl) ⟨⟨rfl,rfl,rfl,by walk_at "o"⟩,True.intro⟩ (gkeep_name rfl) fun cl1 C1 fp1 s1 H1 => ⟨(pg_name (X := (cxComp (cxComp (cxOf CX0 P w K mg base ["_law_numbers","_law_rows","_law_i","_law_j","_law_number_here"] "_law_with" (defScope s__law_with) f cdv A outer s H E).nox ["_law_i"] _ cl0 C0 fp0 s0 H0) ["_law_j","_law_i"] _ cl1 C1 fp1 s1 H1)) (i := 0) (nodupS ["_law_j","_law_i"] (by decide +kernel)) rfl (by walk_at "o")),jdif_nil,(jde_callTy (X := (cxComp (cxComp (cxOf CX0 P w K mg base ["_law_numbers","_law_rows","_law_i","_law_j","_law_number_here"] "_law_with" (defScope s__law_with) f cdv A outer s H E).nox ["_law_i"] _ cl0 C0 fp0 s0 H0) ["_law_j","_law_i"] _ cl1 C1 fp1 s1 H1)) call_int1 cd_int1 rfl Z.int_ bt_int (jda_cons (jde_cmp op_eq od_eqS (jdv 1) (jdv 0) (nomark _)) jda_nil))⟩) (jdi_range1 rfl Z.range_ (jda_cons jde_int jda_nil)))⟩) (jdi_range1 rfl Z.range_ (jda_cons jde_int jda_nil)))
      (jdss_cons (jds_for (gd_seq [2,3,4]) PassesOwn.never rfl (jdi_seq (by rfl) (jdv 0)) (PG.or (pg_tupK (n := 3) K (by rfl) (by rfl) (pgs_cons (pg_name (i := 2) sc__law_with.nd rfl (by walk_at "o")) (pgs_cons (pg_name (i := 3) sc__law_with.nd rfl (by walk_at "o")) (pgs_cons (pg_name (i := 4) sc__law_with.nd rfl (by walk_at "o")) pgs_nil)))) (pg_lstK (n := 3) K (by rfl) (by rfl) (pgs_cons (pg_name (i := 2) sc__law_with.nd rfl (by walk_at "o")) (pgs_cons (pg_name (i := 3) sc__law_with.nd rfl (by walk_at "o")) (pgs_cons (pg_name (i := 4) sc__law_with.nd rfl (by walk_at "o")) pgs_nil))))) (jdss_one (jds_setG (i := 1) (by rfl) (jdv 4) (pg_sub (pe_ix ix_list (pv 1) (JE.h (jdv 2)) (fun _ _ => rfl)) (JE.h (jdv 3)) set_list))))
      (jdss_thaw 1 (jdss_one (jds_ret (jde_callTy (call_tuple_ofK K (by rfl)) cd_tuple rfl Z.tuple_ bt_tuple (jda_cons (jde_comp (X := (cxOf CX0 P w K mg base ["_law_numbers","_law_rows","_law_i","_law_j","_law_number_here"] "_law_with" (defScope s__law_with) f cdv A outer s H E).nox) (gd_name 0) (blkJ (X := (cxOf CX0 P w K mg base ["_law_numbers","_law_rows","_law_i","_law_j","_law_number_here"] "_law_with" (defScope s__law_with) f cdv A outer s H E).nox) (N' := ["_law_row"]) (map := [none]) (by rfl) (by rfl) (by decide +kernel) (by rfl) True.intro (gkeep_name rfl) fun cl0 C0 fp0 s0 H0 => ⟨(pg_name (X := (cxComp (cxOf CX0 P w K mg base ["_law_numbers","_law_rows","_law_i","_law_j","_law_number_here"] "_law_with" (defScope s__law_with) f cdv A outer s H E).nox ["_law_row"] _ cl0 C0 fp0 s0 H0)) (i := 0) (nodupS ["_law_row"] (by decide +kernel)) rfl (by walk_at "o")),jdif_nil,(jde_callTy (X := (cxComp (cxOf CX0 P w K mg base ["_law_numbers","_law_rows","_law_i","_law_j","_law_number_here"] "_law_with" (defScope s__law_with) f cdv A outer s H E).nox ["_law_row"] _ cl0 C0 fp0 s0 H0)) (call_tuple_ofK K (by rfl)) cd_tuple rfl Z.tuple_ bt_tuple (jda_cons (jdv 0) jda_nil))⟩) (jdi_seq (by rfl) (jdv 1))) jda_nil))))))),?_⟩
    walk_at "go"
    refine compR_map rowOf (fun x Q hx hQ => ?_) ?_
    · obtain ⟨k,ek⟩ := List.getElem?_of_mem hx
      obtain ⟨rfl,hk⟩ := rangeD_get ek
      have hk : k < 4 := hk
      obtain rfl | rfl | rfl | rfl : k = 0 \/ k = 1 \/ k = 2 \/ k = 3 := by omega
      all_goals
        walk_at "go"
        walk_at "gc"
        exact hQ
    show ∀ a rs,_
    intro a rs hrs
    have e0 : (rangeD 0 (Int.toNat 4)).map rowOf = rwD idR := rfl
    rw [e0] at hrs ⊢
    have hrs : rs.length = 4 := hrs
    walk_at "go"
    refine ⟨fun i ρ => ∃ v2 v3 v4 : Option D,ρ = [some (.lst (l.map nuD)),some (grd K a rs (rwD ((l.take i).foldl setR idR))),v2,v3,v4],⟨none,none,none,rfl⟩,?_,?_⟩
    · rintro i x ρ e ⟨v2,v3,v4,rfl⟩
      rw [List.getElem?_map] at e
      cases ep : l[i]? with
      | none => rw [ep] at e; cases e
      | some p =>
        rw [ep] at e
        cases e
        have sq := sq_fold (fun q hq => hb q (List.mem_of_mem_take hq)) idR Sq.id (l := l.take i)
        obtain ⟨p1,p2⟩ := hb p (List.mem_of_getElem? ep)
        obtain ⟨q1,q2⟩ := rwD_at sq p1
        have eft := foldl_take setR idR l i p ep
        generalize (l.take i).foldl setR idR = R0 at *
        generalize (l.take (i + 1)).foldl setR idR = R1 at *
        subst eft
        walk_at "go"
        refine ⟨a,rs,rwD R0,rfl,by rw [hrs]; unfold rwD; rw [List.length_map]; exact sq.1.symm,?_⟩
        walk_at "go"
        refine ⟨p.1,(R0.getD p.1 []).map D.int,rfl,q1,?_⟩
        walk_at "go"
        refine ⟨p.2.1,rfl,by rw [List.length_map,q2]; exact p2,?_⟩
        rw [rwD_set]
        exact ⟨_,_,_,rfl⟩
    · rintro ρ ⟨v2,v3,v4,rfl⟩
      rw [List.length_map,List.take_length]
      have sq := sq_fold hb idR Sq.id
      generalize l.foldl setR idR = R0 at *
      walk_at "go"
      refine And.intro (by rw [List.length_map]; unfold rwD; rw [List.length_map,sq.1]; decide) ?_
      refine comp_map tupOf (fun x Q hx q => ?_) (fun x hx => ?_) ?_
      · obtain ⟨y,hy,rfl⟩ := List.mem_map.mp hx
        obtain ⟨r,hr',rfl⟩ := List.mem_map.mp hy
        have h4 := sq.2 r hr'
        walk_at "go"
        exact q
      · obtain ⟨y,hy,rfl⟩ := List.mem_map.mp hx
        rfl
      rw [tup_rows]
      walk_at "go"
      exact hP
abbrev s__law_quarter_due : Stmt := top 39
theorem sc__law_quarter_due : FnScope ["_law_axis_here","_law_u","_law_v"] ["_law_axis_here"] (defScope s__law_quarter_due) := ⟨rfl,rfl,rfl,by decide +kernel,rfl,by decide +kernel,by decide +kernel⟩
def S_qdue : DSp := fun ds P _ => ∃ k : Int,ds = [.int k] /\ 0 <= k /\ k <= 2 /\ P (quarterM k).d
structure C__law_quarter_due (P : Program)(w : World)(K : PySem.W.Frag)(mg : Str -> Option Value)(base : Heap)(c : Cs) : Prop where
  _law_with_ : Callee P w K mg base CX0 "_law_with" 1 ["_law_numbers"] (liftSp K BT S_with)
theorem ok__law_quarter_due {P : Program}{w : World}{K : PySem.W.Frag}{mg : Str -> Option Value}{base : Heap}{f : Addr}{fd : FuncData}(F : Fun K "_law_quarter_due" "_law_quarter_due" s__law_quarter_due f fd) (Z : Bi mg) {c : Cs} (Y : Ex K mg base c) (G : C__law_quarter_due P w K mg base c) : FnOk P w K mg base CX0 2 f fd ["_law_axis_here"] (liftSp K BT S_qdue) := by
  refine F.okD sc__law_quarter_due (fun ds PP Ed h => ?_) (fun cdv A outer s H E M bg ds PP Ed hr hS_ => ?_)
  · obtain ⟨k,rfl,h0,h2,hP⟩ := h
    rfl
  · obtain ⟨k,rfl,h0,h2,hP⟩ := hS_
    refine ⟨_,(jdss_cons (jds_asg (gd_seq [1,2]) (jde_ix (ix_any K (by rfl)) od_ix (jde_lst (jda_cons (jde_tup (jda_cons jde_int (jda_cons jde_int jda_nil))) (jda_cons (jde_tup (jda_cons jde_int (jda_cons jde_int jda_nil))) (jda_cons (jde_tup (jda_cons jde_int (jda_cons jde_int jda_nil))) jda_nil)))) (jdv 0) (fun _ _ => rfl)) (PG.or (pg_tupK (n := 2) K (by rfl) (by rfl) (pgs_cons (pg_name (i := 1) sc__law_quarter_due.nd rfl (by walk_at "o")) (pgs_cons (pg_name (i := 2) sc__law_quarter_due.nd rfl (by walk_at "o")) pgs_nil))) (pg_lstK (n := 2) K (by rfl) (by rfl) (pgs_cons (pg_name (i := 1) sc__law_quarter_due.nd rfl (by walk_at "o")) (pgs_cons (pg_name (i := 2) sc__law_quarter_due.nd rfl (by walk_at "o")) pgs_nil)))))
      (jdss_one (jds_ret (jde_own G._law_with_ (hr.mono (by decide)) rfl (jda_cons (jde_lst (jda_cons (jde_tup (jda_cons (jdv 1) (jda_cons (jdv 1) (jda_cons jde_int jda_nil)))) (jda_cons (jde_tup (jda_cons (jdv 2) (jda_cons (jdv 2) (jda_cons jde_int jda_nil)))) (jda_cons (jde_tup (jda_cons (jdv 1) (jda_cons (jdv 2) (jda_cons (jde_neg jde_int) jda_nil)))) (jda_cons (jde_tup (jda_cons (jdv 2) (jda_cons (jdv 1) (jda_cons jde_int jda_nil)))) jda_nil))))) jda_nil))))),?_⟩
    obtain rfl | rfl | rfl : k = 0 \/ k = 1 \/ k = 2 := by omega
    · walk_at "go"
      exact ⟨[(1,1,0),(2,2,0),(1,2,-1),(2,1,1)],rfl,by decide,by decide,hP⟩
    · walk_at "go"
      exact ⟨[(2,2,0),(0,0,0),(2,0,-1),(0,2,1)],rfl,by decide,by decide,hP⟩
    · walk_at "go"
      exact ⟨[(0,0,0),(1,1,0),(0,1,-1),(1,0,1)],rfl,by decide,by decide,hP⟩
abbrev s__law_is_move : Stmt := top 36
theorem sc__law_is_move : FnScope ["_law_found","_law_due","_law_row"] ["_law_found","_law_due"] (defScope s__law_is_move) := ⟨rfl,rfl,rfl,by decide +kernel,rfl,by decide +kernel,by decide +kernel⟩
theorem R4.rp {r : R4}{n : Nat}(h : r.ok n)(hn : n <= 1900) : okRp (.int r.x) = true /\ okRp (.int r.y) = true /\ okRp (.int r.z) = true /\ okRp (.int r.w) = true := ⟨bd_rp h.x hn,bd_rp h.y hn,bd_rp h.z hn,bd_rp h.w hn⟩
def S_ismv : DSp := fun ds P _ => ∃ m : M4,ds = [m.d,m.d] /\ m.ok 64 /\ P (.bl true)
structure C__law_is_move (P : Program)(w : World)(K : PySem.W.Frag)(mg : Str -> Option Value)(base : Heap)(c : Cs) : Prop where
  _law_whole_ : Callee P w K mg base CX0 "_law_whole" 1 ["_law_thing"] (liftSp K BT S_lwhole)
theorem ok__law_is_move {P : Program}{w : World}{K : PySem.W.Frag}{mg : Str -> Option Value}{base : Heap}{f : Addr}{fd : FuncData}(F : Fun K "_law_is_move" "_law_is_move" s__law_is_move f fd) (Z : Bi mg) {c : Cs} (Y : Ex K mg base c) (G : C__law_is_move P w K mg base c) : FnOk P w K mg base CX0 2 f fd ["_law_found","_law_due"] (liftSp K BT S_ismv) := by
  refine F.okD sc__law_is_move (fun ds PP Ed h => ?_) (fun cdv A outer s H E M bg ds PP Ed hr hS_ => ?_)
  · obtain ⟨m,rfl,mo,hP⟩ := h
    rfl
  · obtain ⟨m,rfl,mo,hP⟩ := hS_
    refine ⟨_,(jdss_cons (jds_if (jdt_or (jdt_not (jdt_truth (by rfl) (jde_callB (call_isinstA K (by rfl)) cd_isinst rfl Z.isinstance_ bt_isinstance (jda_cons (jdv 0) (jda_cons (jde_bltn rfl Z.tuple_ bt_tuple) jda_nil))) (fun _ => rfl))) (jdw_or1 (jdt_cmp (op_neG K (by rfl) hr.units) od_eqG (jdv 0) (jdv 1) (nomark _)))) (jdss_one (jds_ret jde_bl)) jdss_nil)
      (jdss_cons (jds_for (gd_name 2) PassesOwn.never rfl (jdi_seq (by rfl) (jdv 0)) (pg_name (i := 2) sc__law_is_move.nd rfl (by walk_at "o")) (jdss_one (jds_if (jdt_or (jdt_not (jdt_truth (by rfl) (jde_callB (call_isinstA K (by rfl)) cd_isinst rfl Z.isinstance_ bt_isinstance (jda_cons (jdv 2) (jda_cons (jde_bltn rfl Z.tuple_ bt_tuple) jda_nil))) (fun _ => rfl))) (jdw_or1 (jdt_not (jdt_truth (by rfl) (jde_callB (call_allL K (by rfl) (by rfl)) cd_bls rfl Z.all_ bt_all (jda_cons (jde_comp (X := (cxOf CX0 P w K mg base ["_law_found","_law_due","_law_row"] "_law_is_move" (defScope s__law_is_move) f cdv A outer s H E).nox) (gd_name 0) (blkJ (X := (cxOf CX0 P w K mg base ["_law_found","_law_due","_law_row"] "_law_is_move" (defScope s__law_is_move) f cdv A outer s H E).nox) (N' := ["_law_one"]) (map := [none]) (by rfl) (by rfl) (by decide +kernel) (by rfl) True.intro (gkeep_name rfl) fun cl0 C0 fp0 s0 H0 => ⟨(pg_name (X := (cxComp (cxOf CX0 P w K mg base ["_law_found","_law_due","_law_row"] "_law_is_move" (defScope s__law_is_move) f cdv A outer s H E).nox ["_law_one"] _ cl0 C0 fp0 s0 H0)) (i := 0) (nodupS ["_law_one"] (by decide +kernel)) rfl (by walk_at "o")),jdif_nil,(jde_own (X := (cxComp (cxOf CX0 P w K mg base ["_law_found","_law_due","_law_row"] "_law_is_move" (defScope s__law_is_move) f cdv A outer s H E).nox ["_law_one"] _ cl0 C0 fp0 s0 H0)) G._law_whole_ (hr.mono (by decide)) rfl (jda_cons (jdv 0) jda_nil))⟩) (jdi_seq (by rfl) (jdv 2))) jda_nil)) (fun _ => rfl))))) (jdss_one (jds_ret jde_bl)) jdss_nil)))
      (jdss_one (jds_ret jde_bl)))),?_⟩
    walk_at "go"
    refine ⟨true,by rfl,?_⟩
    walk_at "go"
    refine eqG_same 2 rfl rfl (by decide) ?_
    walk_at "go"
    refine ⟨fun i ρ => ∃ v : Option D,ρ = [some m.d,some m.d,v],⟨_,rfl⟩,?_,?_⟩
    · rintro i x ρ e ⟨v,rfl⟩
      obtain ⟨r,rfl,ro⟩ : ∃ r : R4,x = r.d /\ r.ok 64 := by
        have := List.mem_of_getElem? e
        simp only [List.mem_cons,List.not_mem_nil,or_false] at this
        rcases this with e | e | e | e
        · exact ⟨_,e,mo.a⟩
        · exact ⟨_,e,mo.b⟩
        · exact ⟨_,e,mo.c⟩
        · exact ⟨_,e,mo.e⟩
      obtain ⟨r1,r2,r3,r4⟩ := R4.rp ro (by decide)
      clear e
      walk_at "go"
      refine ⟨true,by rfl,?_⟩
      walk_at "go"
      walk_at "gc"
      refine ⟨_,rfl,r1,?_⟩
      walk_at "go"
      refine ⟨_,rfl,r2,?_⟩
      walk_at "go"
      refine ⟨_,rfl,r3,?_⟩
      walk_at "go"
      refine ⟨_,rfl,r4,?_⟩
      walk_at "go"
      exact ⟨_,rfl⟩
    · rintro ρ ⟨v,rfl⟩
      walk_at "go"
      exact hP
theorem BT_lst : BagLst BT := fun p H ⟨f,m,q,e,_⟩ => ⟨_,e⟩
theorem bt_ne {bg : Option Addr}{H : Hp}{P : Addr}{q : Str}(ho : okB BT bg H)(h : H P = some (.cod q)) : bg ≠ some P := fun z => by
  obtain ⟨vs,e⟩ := BT_lst P H (ho P z)
  rw [h] at e; cases e
theorem quarterM_ok {k : Int} : (quarterM k).ok 3 := by
  have i0 : Bd 3 0 := Bd.of (by decide) (by decide)
  have i1 : Bd 3 1 := Bd.of (by decide) (by decide)
  have im : Bd 3 (-1) := Bd.of (by decide) (by decide)
  unfold quarterM
  split
  · exact ⟨⟨i1,i0,i0,i0⟩,⟨i0,i0,im,i0⟩,⟨i0,i1,i0,i0⟩,⟨i0,i0,i0,i1⟩⟩
  · split
    · exact ⟨⟨i0,i0,i1,i0⟩,⟨i0,i1,i0,i0⟩,⟨im,i0,i0,i0⟩,⟨i0,i0,i0,i1⟩⟩
    · exact ⟨⟨i0,im,i0,i0⟩,⟨i1,i0,i0,i0⟩,⟨i0,i0,i1,i0⟩,⟨i0,i0,i0,i1⟩⟩
abbrev s__law_refused : Stmt := top 37
theorem sc__law_refused : FnScope ["_law_deed","_law_e"] ["_law_deed"] (defScope s__law_refused) := ⟨rfl,rfl,rfl,by decide +kernel,rfl,by decide +kernel,by decide +kernel⟩
structure C__law_refused (P : Program)(w : World)(K : PySem.W.Frag)(mg : Str -> Option Value)(base : Heap)(c : Cs) : Prop where
  _law_is_ : CalleeM P w K mg base "_law_is" 1 ["_law_e","_law_due"] (sp_is c)
theorem ref_ok {St0 : List D -> Prop}{P : Program}{w : World}{K : PySem.W.Frag}{mg : Str -> Option Value}{base : Heap}{f fa c' : Addr}{oc : Obj}{us : List V}{fd : FuncData}(F : Fun K "_law_refused" "_law_refused" s__law_refused f fd) (Z : Bi mg) {c : Cs} (Y : Ex K mg base c) (G : C__law_refused P w K mg base c) (L : LamOk P w K mg base (CX1 P w base) 4 fa c' oc (lamSp K BT (fun ds R Ed => St0 ds /\ Ed c.NoMove) us)) :
    FnOk P w K mg base CX0 6 f fd ["_law_deed"] (spT K BT fa us c' oc fun ds PP => St0 ds /\ PP (.bl true)) := by
  refine F.okT sc__law_refused (fun cdv A outer s H E M bg ds PP hr hH hbc hS_ => ?_)
  obtain ⟨h0,hP⟩ := hS_
  refine ⟨_,(jdss_cons (jds_try (fun C => C = c.NoMove) (hd := fun C F => C = c.NoMove /\ F.rt (.bl true)) (by
      intro C x H' E F pn l hd k o hx
      obtain ⟨rfl,hd⟩ := hd
      refine ⟨Y.s_NoMove,?_⟩
      walk_at "rd"
      refine ⟨upd_same,fun H2 S2 => ?_⟩
      exact l.rt (.bl true) (.bl true) H2 hd rfl (Kp.trans k (Kp.same ((Same.upd hx).trans S2))) (okB.same o ((Same.upd hx).trans S2))) (ps_try (i := 1) K (by rfl) (by rfl) (by rfl) rfl Y.g_ShadeError Y.sh sc__law_refused.nd rfl rfl (fun xe pn E1 hp => PSs.withE fun hE1 => JSs.h (jdss_one (jds_thunk (i := 0) hE1 L (hr.mono (by decide)) hp hH hbc rfl))) (fun y => (pss_one (ps_ret (pe_ownM (by exact rfl) G._law_is_ ((hr.mono (by decide)).mark _) rfl (pa_cons (pv 1) (pa_cons pe_str pa_nil))))))))
      (jdss_one (jds_ret jde_bl))),?_⟩
  refine ⟨⟨ds,rfl,h0,rfl⟩,fun C e => ⟨e,hP⟩⟩
abbrev s__law_turns_right : Stmt := top 42
theorem sc__law_turns_right : FnScope ["_law_bag_here","_law_axis_here"] ["_law_bag_here"] (defScope s__law_turns_right) := ⟨rfl,rfl,rfl,by decide +kernel,rfl,by decide +kernel,by decide +kernel⟩
def L0 : Expr := argX (retX (atS (inIf (atS (defBody s__law_turns_right) 1)) 0))
def St_turn : List D -> Prop := fun ds => ∃ d,ds = [d] /\ okRp d = true /\ coordD d = false
theorem lamok0 {P : Program}{w : World}{K : PySem.W.Frag}{mg : Str -> Option Value}{base : Heap}{c : Cs}(Y : Ex K mg base c)(Z : Bi mg)(G : Callee P w K mg base (CX1 P w base) "quarter" 3 ["axis"] (liftSp K BT (S_quarter c))) {f c' : Addr} {oc : Obj} {pm ctv : Value} {cl : List (Str × Addr)} {us : List V} (hx : cl.map (·.1) = (["_law_axis_here"] : List Str)) (hf : base.get? f = some (PySem.W.kla_obj "<lambda>" "_law_turns_right.<locals>.<lambda>" (lamP L0) (lamB L0) (lamS L0) cl pm c' ctv)) (hc : CellsAt base cl us) (hi : ∀ x y c,cl.lookup x = some c -> cl.lookup y = some c -> x = y) (hrec : RecO "_law_turns_right.<locals>.<lambda>" oc) :
    LamOk P w K mg base (CX1 P w base) 4 f c' oc (lamSp K BT (fun ds R Ed => St_turn ds /\ Ed c.NoMove) us) := by
  refine lam_okD (lamScope_mk hx rfl rfl rfl (by decide +kernel) (by decide +kernel) (by decide +kernel) hi) (by rw [hx]; decide +kernel) hf hrec hc rfl fun A outer s H E M b ds R Ed hr hE hS => ?_
  rw [hx]
  obtain ⟨⟨d,rfl,hd,hcd⟩,hEd⟩ := hS
  refine ⟨_,(jde_ownX hE xe_passL G (hr.mono (by decide)) rfl (jda_cons (jdv 0) jda_nil)),?_⟩
  walk_at "go"
  exact ⟨by show (notOwn d && true) = true; rw [okRp_no hd]; rfl,d,rfl,hd,fun k e h0 h2 => by subst e; exact absurd hcd (by show ¬ (decide (0 <= k) && decide (k <= 2)) = false; rw [decide_eq_true h0,decide_eq_true h2]; decide),fun _ => hEd⟩
theorem refc0 {P : Program}{w : World}{K : PySem.W.Frag}{mg : Str -> Option Value}{c : Cs}{fr : Addr}{fd : FuncData}(F : Fun K "_law_refused" "_law_refused" s__law_refused fr fd) (Z : Bi mg) (hm : mg "_law_refused" = some (.ref fr)) (hb : Binds K fd ["_law_deed"] []) (Y : ∀ base : Heap,K.In base -> base.Ns mainGlobals mg -> Ex K mg base c) (G : ∀ base : Heap,K.In base -> base.Ns mainGlobals mg -> C__law_refused P w K mg base c) (GL : ∀ base : Heap,K.In base -> base.Ns mainGlobals mg -> Callee P w K mg base (CX1 P w base) "quarter" 3 ["axis"] (liftSp K BT (S_quarter c))) :
    RefC P w K mg BT "_law_refused" 6 "_law_deed" "_law_turns_right.<locals>.<lambda>" (lamP L0) (lamB L0) (lamS L0) (fun ds PP => St_turn ds /\ PP (.bl true)) ["_law_axis_here"] :=
  ⟨fr,fd,hm,F.kp,hb,fun base f c' oc pm ctv cl us kb gb hx hf hc hi hrec => ref_ok F Z (Y base kb gb) (G base kb gb) (lamok0 (Y base kb gb) Z (GL base kb gb) hx hf hc hi hrec)⟩
def S_turns : DSp := fun ds P _ => ds = [.bag] /\ P (.bl true)
structure C__law_turns_right (P : Program)(w : World)(K : PySem.W.Frag)(mg : Str -> Option Value)(base : Heap)(c : Cs) : Prop where
  _law_axis_ : Callee P w K mg base CX0 "_law_axis" 3 ["_law_bag_here"] (liftSp K BT S_axis)
  _law_is_move_ : Callee P w K mg base CX0 "_law_is_move" 2 ["_law_found","_law_due"] (liftSp K BT S_ismv)
  _law_good_axis_ : Callee P w K mg base CX0 "_law_good_axis" 2 ["_law_thing"] (liftSp K BT S_goodax)
  quarter_ : Callee P w K mg base (CX1 P w base) "quarter" 3 ["axis"] (liftSp K BT (S_quarter c))
  _law_quarter_due_ : Callee P w K mg base CX0 "_law_quarter_due" 2 ["_law_axis_here"] (liftSp K BT S_qdue)
theorem ok__law_turns_right {P : Program}{w : World}{K : PySem.W.Frag}{mg : Str -> Option Value}{base : Heap}{f cc PT : Addr}{fd : FuncData}{tb : List (Addr × Str)}(F : FunC K "_law_turns_right" "_law_turns_right" s__law_turns_right f fd cc) (Z : Bi mg) {c : Cs} (Y : Ex K mg base c) (G : C__law_turns_right P w K mg base c) (hC : PySem.W.CodeHd base cc PT) (hM : BM mg base) (hmem : (PT,("_law_turns_right.<locals>.<lambda>" : Str)) ∈ tb) (R0 : RefC P w K mg BT "_law_refused" 6 "_law_deed" "_law_turns_right.<locals>.<lambda>" (lamP L0) (lamB L0) (lamS L0) (fun ds PP => St_turn ds /\ PP (.bl true)) ["_law_axis_here"]) : FnOk P w K mg base CX0 7 f fd ["_law_bag_here"] (liftSpTb K BT tb S_turns) := by
  refine F.okDT sc__law_turns_right (fun ds PP Ed h => ?_) (fun A outer s H E M bg ds PP Ed hr hTb ho hS_ => ?_)
  · obtain ⟨rfl,hP⟩ := h
    rfl
  · obtain ⟨rfl,hP⟩ := hS_
    have hnb : bg ≠ some PT := bt_ne ho (hTb _ hmem)
    refine ⟨_,(jdss_cons (jds_set (i := 1) sc__law_turns_right.nd rfl (by walk_at "o") (jde_own G._law_axis_ (hr.mono (by decide)) rfl (jda_cons (jdv 0) jda_nil)))
      (jdss_cons (jds_if (jdt_not (jdt_truth (by rfl) (jde_own G._law_good_axis_ (hr.mono (by decide)) rfl (jda_cons (jdv 1) jda_nil)) (fun _ => rfl))) (jdss_one (jds_ret (jde_lamR (js := [1]) (R0) (hr.mono (by decide)) rfl BT_lst (hTb _ hmem) hnb hC hM rfl rfl ⟨_,_,_,rfl,rfl,rfl,rfl,rfl⟩ rfl rfl rfl (fun _ => rfl) rfl))) jdss_nil)
      (jdss_one (jds_ret (jde_own G._law_is_move_ (hr.mono (by decide)) rfl (jda_cons (jde_ownX elink0 pass10 G.quarter_ (hr.mono (by decide)) rfl (jda_cons (jdv 1) jda_nil)) (jda_cons (jde_own G._law_quarter_due_ (hr.mono (by decide)) rfl (jda_cons (jdv 1) jda_nil)) jda_nil))))))),?_⟩
    walk_at "go"
    intro d hd
    refine ⟨okRp_pl hd,?_⟩
    walk_at "go"
    refine ⟨by show (notOwn d && true) = true; rw [okRp_no hd]; rfl,d,rfl,hd,?_⟩
    cases hc : coordD d with
    | false =>
      walk_at "go"
      exact ⟨[d],⟨d,[],rfl,rfl,okRp_pl hd,rfl⟩,⟨d,rfl,hd,hc⟩,rfl,hP⟩
    | true =>
      obtain ⟨k,rfl,h0,h2⟩ := coord_int hc
      walk_at "go"
      refine ⟨_,rfl,hd,fun k' e1 _ _ => ?_,fun z => by rw [hc] at z; cases z⟩
      cases e1
      walk_at "go"
      refine ⟨k,rfl,h0,h2,?_⟩
      walk_at "go"
      exact ⟨quarterM k,rfl,quarterM_ok.mono (by decide),hP⟩
abbrev s__law_slants_right : Stmt := top 43
theorem sc__law_slants_right : FnScope ["_law_bag_here","_law_i","_law_j","_law_m"] ["_law_bag_here"] (defScope s__law_slants_right) := ⟨rfl,rfl,rfl,by decide +kernel,rfl,by decide +kernel,by decide +kernel⟩
def L1 : Expr := argX (retX (atS (inIf (atS (defBody s__law_slants_right) 3)) 0))
def St_slant : List D -> Prop := fun ds => ∃ (d u : D) (m : Int),ds = [.int m,u,d] /\ okRp d = true /\ okRp u = true /\ (coordD d = false \/ coordD u = false \/ d = u)
theorem lamok1 {P : Program}{w : World}{K : PySem.W.Frag}{mg : Str -> Option Value}{base : Heap}{c : Cs}(Y : Ex K mg base c)(Z : Bi mg)(G : Callee P w K mg base (CX1 P w base) "slant" 3 ["i","j","m"] (liftSp K BT (S_slant c))) {f c' : Addr} {oc : Obj} {pm ctv : Value} {cl : List (Str × Addr)} {us : List V} (hx : cl.map (·.1) = (["_law_m","_law_j","_law_i"] : List Str)) (hf : base.get? f = some (PySem.W.kla_obj "<lambda>" "_law_slants_right.<locals>.<lambda>" (lamP L1) (lamB L1) (lamS L1) cl pm c' ctv)) (hc : CellsAt base cl us) (hi : ∀ x y c,cl.lookup x = some c -> cl.lookup y = some c -> x = y) (hrec : RecO "_law_slants_right.<locals>.<lambda>" oc) :
    LamOk P w K mg base (CX1 P w base) 4 f c' oc (lamSp K BT (fun ds R Ed => St_slant ds /\ Ed c.NoMove) us) := by
  refine lam_okD (lamScope_mk hx rfl rfl rfl (by decide +kernel) (by decide +kernel) (by decide +kernel) hi) (by rw [hx]; decide +kernel) hf hrec hc rfl fun A outer s H E M b ds R Ed hr hE hS => ?_
  rw [hx]
  obtain ⟨⟨d,u,m,rfl,hd,hu,hb⟩,hEd⟩ := hS
  refine ⟨_,(jde_ownX hE xe_passL G (hr.mono (by decide)) rfl (jda_cons (jdv 2) (jda_cons (jdv 1) (jda_cons (jdv 0) jda_nil)))),?_⟩
  walk_at "go"
  refine ⟨by show (notOwn d && (notOwn u && true)) = true; rw [okRp_no hd,okRp_no hu]; rfl,d,u,m,rfl,hd,hu,fun i j e1 e2 i0 i2 j0 j2 hij => ?_,fun _ => hEd⟩
  subst e1 e2
  have c1 : coordD (.int i) = true := by show (decide (0 <= i) && decide (i <= 2)) = true; rw [decide_eq_true i0,decide_eq_true i2]; rfl
  have c2 : coordD (.int j) = true := by show (decide (0 <= j) && decide (j <= 2)) = true; rw [decide_eq_true j0,decide_eq_true j2]; rfl
  rcases hb with z | z | z
  · rw [c1] at z; cases z
  · rw [c2] at z; cases z
  · exact absurd (D.int.inj z) hij
theorem refc1 {P : Program}{w : World}{K : PySem.W.Frag}{mg : Str -> Option Value}{c : Cs}{fr : Addr}{fd : FuncData}(F : Fun K "_law_refused" "_law_refused" s__law_refused fr fd) (Z : Bi mg) (hm : mg "_law_refused" = some (.ref fr)) (hb : Binds K fd ["_law_deed"] []) (Y : ∀ base : Heap,K.In base -> base.Ns mainGlobals mg -> Ex K mg base c) (G : ∀ base : Heap,K.In base -> base.Ns mainGlobals mg -> C__law_refused P w K mg base c) (GL : ∀ base : Heap,K.In base -> base.Ns mainGlobals mg -> Callee P w K mg base (CX1 P w base) "slant" 3 ["i","j","m"] (liftSp K BT (S_slant c))) :
    RefC P w K mg BT "_law_refused" 6 "_law_deed" "_law_slants_right.<locals>.<lambda>" (lamP L1) (lamB L1) (lamS L1) (fun ds PP => St_slant ds /\ PP (.bl true)) ["_law_m","_law_j","_law_i"] :=
  ⟨fr,fd,hm,F.kp,hb,fun base f c' oc pm ctv cl us kb gb hx hf hc hi hrec => ref_ok F Z (Y base kb gb) (G base kb gb) (lamok1 (Y base kb gb) Z (GL base kb gb) hx hf hc hi hrec)⟩
theorem cell_bd {k : List Int}{m r c z : Int}(h : Bd 64 m)(hz : Bd 64 z) : Bd 64 (cellI [k] [m] r c z) := by
  unfold cellI findI
  split
  · exact h
  · exact hz
theorem sb_ok {k : List Int}{m : Int}(h : Bd 64 m) : (sbM [k] [m]).ok 64 := by
  have z0 : Bd 64 (0 : Int) := Bd.of (by decide) (by decide)
  have z1 : Bd 64 (1 : Int) := Bd.of (by decide) (by decide)
  exact ⟨⟨cell_bd h z1,cell_bd h z0,cell_bd h z0,cell_bd h z0⟩,⟨cell_bd h z0,cell_bd h z1,cell_bd h z0,cell_bd h z0⟩,⟨cell_bd h z0,cell_bd h z0,cell_bd h z1,cell_bd h z0⟩,⟨cell_bd h z0,cell_bd h z0,cell_bd h z0,cell_bd h z1⟩⟩
theorem sb_with {i j m : Int}(i0 : 0 <= i)(i2 : i <= 2)(j0 : 0 <= j)(j2 : j <= 2)(hij : i ≠ j) : ∃ p : Nu,nuD p = .tup [.int i,.int j,.int m] /\ p.1 < 4 /\ p.2.1 < 4 /\ mR ([p].foldl setR idR) = (sbM [[i,j]] [m]).d := by
  refine ⟨(i.toNat,j.toNat,m),?_,by show i.toNat < 4; omega,by show j.toNat < 4; omega,?_⟩
  · unfold nuD
    have e1 : ((i.toNat : Nat) : Int) = i := Int.toNat_of_nonneg i0
    have e2 : ((j.toNat : Nat) : Int) = j := Int.toNat_of_nonneg j0
    rw [e1,e2]
  · obtain rfl | rfl | rfl : i = 0 \/ i = 1 \/ i = 2 := by omega
    all_goals
      obtain rfl | rfl | rfl : j = 0 \/ j = 1 \/ j = 2 := by omega
      all_goals first
        | exact absurd rfl hij
        | rfl
def S_slants : DSp := fun ds P _ => ds = [.bag] /\ P (.bl true)
structure C__law_slants_right (P : Program)(w : World)(K : PySem.W.Frag)(mg : Str -> Option Value)(base : Heap)(c : Cs) : Prop where
  _law_axis_ : Callee P w K mg base CX0 "_law_axis" 3 ["_law_bag_here"] (liftSp K BT S_axis)
  _law_number_ : Callee P w K mg base CX0 "_law_number" 2 ["_law_bag_here","_law_most"] (liftSp K BT S_num)
  _law_is_move_ : Callee P w K mg base CX0 "_law_is_move" 2 ["_law_found","_law_due"] (liftSp K BT S_ismv)
  slant_ : Callee P w K mg base (CX1 P w base) "slant" 3 ["i","j","m"] (liftSp K BT (S_slant c))
  _law_with_ : Callee P w K mg base CX0 "_law_with" 1 ["_law_numbers"] (liftSp K BT S_with)
  _law_good_axis_ : Callee P w K mg base CX0 "_law_good_axis" 2 ["_law_thing"] (liftSp K BT S_goodax)
theorem ok__law_slants_right {P : Program}{w : World}{K : PySem.W.Frag}{mg : Str -> Option Value}{base : Heap}{f cc PT : Addr}{fd : FuncData}{tb : List (Addr × Str)}(F : FunC K "_law_slants_right" "_law_slants_right" s__law_slants_right f fd cc) (Z : Bi mg) {c : Cs} (Y : Ex K mg base c) (G : C__law_slants_right P w K mg base c) (hC : PySem.W.CodeHd base cc PT) (hM : BM mg base) (hmem : (PT,("_law_slants_right.<locals>.<lambda>" : Str)) ∈ tb) (R1 : RefC P w K mg BT "_law_refused" 6 "_law_deed" "_law_slants_right.<locals>.<lambda>" (lamP L1) (lamB L1) (lamS L1) (fun ds PP => St_slant ds /\ PP (.bl true)) ["_law_m","_law_j","_law_i"]) : FnOk P w K mg base CX0 7 f fd ["_law_bag_here"] (liftSpTb K BT tb S_slants) := by
  refine F.okDT sc__law_slants_right (fun ds PP Ed h => ?_) (fun A outer s H E M bg ds PP Ed hr hTb ho hS_ => ?_)
  · obtain ⟨rfl,hP⟩ := h
    rfl
  · obtain ⟨rfl,hP⟩ := hS_
    have hnb : bg ≠ some PT := bt_ne ho (hTb _ hmem)
    refine ⟨_,(jdss_cons (jds_set (i := 1) sc__law_slants_right.nd rfl (by walk_at "o") (jde_own G._law_axis_ (hr.mono (by decide)) rfl (jda_cons (jdv 0) jda_nil)))
      (jdss_cons (jds_set (i := 2) sc__law_slants_right.nd rfl (by walk_at "o") (jde_own G._law_axis_ (hr.mono (by decide)) rfl (jda_cons (jdv 0) jda_nil)))
      (jdss_cons (jds_set (i := 3) sc__law_slants_right.nd rfl (by walk_at "o") (jde_own G._law_number_ (hr.mono (by decide)) rfl (jda_cons (jdv 0) (jda_cons jde_int jda_nil))))
      (jdss_cons (jds_if (jdt_or (jdt_not (jdt_truth (by rfl) (jde_own G._law_good_axis_ (hr.mono (by decide)) rfl (jda_cons (jdv 1) jda_nil)) (fun _ => rfl))) (jdw_or (jdt_not (jdt_truth (by rfl) (jde_own G._law_good_axis_ (hr.mono (by decide)) rfl (jda_cons (jdv 2) jda_nil)) (fun _ => rfl))) (jdw_or1 (jdt_cmp op_eq od_eqS (jdv 1) (jdv 2) (nomark _))))) (jdss_one (jds_ret (jde_lamR (js := [3,2,1]) (R1) (hr.mono (by decide)) rfl BT_lst (hTb _ hmem) hnb hC hM rfl rfl ⟨_,_,_,rfl,rfl,rfl,rfl,⟨_,_,_,rfl,rfl,rfl,rfl,⟨_,_,_,rfl,rfl,rfl,rfl,rfl⟩⟩⟩ rfl rfl rfl (fun _ => rfl) rfl))) jdss_nil)
      (jdss_one (jds_ret (jde_own G._law_is_move_ (hr.mono (by decide)) rfl (jda_cons (jde_ownX elink0 pass10 G.slant_ (hr.mono (by decide)) rfl (jda_cons (jdv 1) (jda_cons (jdv 2) (jda_cons (jdv 3) jda_nil)))) (jda_cons (jde_own G._law_with_ (hr.mono (by decide)) rfl (jda_cons (jde_lst (jda_cons (jde_tup (jda_cons (jdv 1) (jda_cons (jdv 2) (jda_cons (jdv 3) jda_nil)))) jda_nil)) jda_nil)) jda_nil))))))))),?_⟩
    walk_at "go"
    intro d hd
    refine ⟨okRp_pl hd,?_⟩
    walk_at "go"
    intro u hu
    refine ⟨okRp_pl hu,?_⟩
    walk_at "go"
    refine ⟨12,rfl,by decide,by decide,fun m hm => ?_⟩
    have o1 : ∀ x : D,okRp x = true -> (notOwn x && true) = true := fun x h => by rw [okRp_no h]; rfl
    walk_at "go"
    refine ⟨o1 d hd,d,rfl,hd,?_⟩
    cases hc : coordD d with
    | false =>
      walk_at "go"
      exact ⟨[.int m,u,d],⟨_,_,rfl,rfl,rfl,_,_,rfl,rfl,okRp_pl hu,_,_,rfl,rfl,okRp_pl hd,rfl⟩,⟨d,u,m,rfl,hd,hu,.inl hc⟩,rfl,hP⟩
    | true =>
      walk_at "go"
      refine ⟨o1 u hu,u,rfl,hu,?_⟩
      cases hc2 : coordD u with
      | false =>
        walk_at "go"
        exact ⟨[.int m,u,d],⟨_,_,rfl,rfl,rfl,_,_,rfl,rfl,okRp_pl hu,_,_,rfl,rfl,okRp_pl hd,rfl⟩,⟨d,u,m,rfl,hd,hu,.inr (.inl hc2)⟩,rfl,hP⟩
      | true =>
        obtain ⟨i,rfl,i0,i2⟩ := coord_int hc
        obtain ⟨j,rfl,j0,j2⟩ := coord_int hc2
        walk_at "go"
        walk_at "sp"
        · rename_i h
          subst h
          walk_at "go"
          exact ⟨[.int m,.int i,.int i],⟨_,_,rfl,rfl,rfl,_,_,rfl,rfl,rfl,_,_,rfl,rfl,rfl,rfl⟩,⟨.int i,.int i,m,rfl,hd,hd,.inr (.inr rfl)⟩,rfl,hP⟩
        · rename_i h
          obtain ⟨p,e1,e2,e3,e4⟩ := sb_with (m := m) i0 i2 j0 j2 h
          walk_at "go"
          refine ⟨.int i,.int j,m,rfl,hd,hu,fun i' j' q1 q2 _ _ _ _ _ => ?_,fun z => ?_⟩
          · cases q1
            cases q2
            walk_at "go"
            refine ⟨[p],by rw [<- e1]; rfl,by show 1 <= 4; decide,fun q hq => ?_,?_⟩
            · obtain rfl := List.mem_singleton.mp hq
              exact ⟨e2,e3⟩
            rw [e4]
            walk_at "go"
            exact ⟨sbM [[i,j]] [m],rfl,sb_ok (hm.mono (by decide)),hP⟩
          · rcases z with z | z | z
            · rw [hc] at z; cases z
            · rw [hc2] at z; cases z
            · exact absurd (D.int.inj z) h
abbrev s__law_stretches_right : Stmt := top 44
theorem sc__law_stretches_right : FnScope ["_law_bag_here","_law_numbers","_law_at","_law_a","_law_b","_law_c"] ["_law_bag_here"] (defScope s__law_stretches_right) := ⟨rfl,rfl,rfl,by decide +kernel,rfl,by decide +kernel,by decide +kernel⟩
def L2 : Expr := argX (retX (atS (inIf (atS (defBody s__law_stretches_right) 4)) 0))
def St_stretch : List D -> Prop := fun ds => ∃ d u v : D,ds = [v,u,d] /\ okRp d = true /\ okRp u = true /\ okRp v = true /\ (goodN d && (goodN u && goodN v)) = false
theorem lamok2 {P : Program}{w : World}{K : PySem.W.Frag}{mg : Str -> Option Value}{base : Heap}{c : Cs}(Y : Ex K mg base c)(Z : Bi mg)(G : Callee P w K mg base (CX1 P w base) "stretch" 2 ["a","b","c"] (liftSp K BT (S_stretch c))) {f c' : Addr} {oc : Obj} {pm ctv : Value} {cl : List (Str × Addr)} {us : List V} (hx : cl.map (·.1) = (["_law_c","_law_b","_law_a"] : List Str)) (hf : base.get? f = some (PySem.W.kla_obj "<lambda>" "_law_stretches_right.<locals>.<lambda>" (lamP L2) (lamB L2) (lamS L2) cl pm c' ctv)) (hc : CellsAt base cl us) (hi : ∀ x y c,cl.lookup x = some c -> cl.lookup y = some c -> x = y) (hrec : RecO "_law_stretches_right.<locals>.<lambda>" oc) :
    LamOk P w K mg base (CX1 P w base) 4 f c' oc (lamSp K BT (fun ds R Ed => St_stretch ds /\ Ed c.NoMove) us) := by
  refine lam_okD (lamScope_mk hx rfl rfl rfl (by decide +kernel) (by decide +kernel) (by decide +kernel) hi) (by rw [hx]; decide +kernel) hf hrec hc rfl fun A outer s H E M b ds R Ed hr hE hS => ?_
  rw [hx]
  obtain ⟨⟨d,u,v,rfl,hd,hu,hv,hb⟩,hEd⟩ := hS
  refine ⟨_,(jde_ownX hE xe_passL G (hr.mono (by decide)) rfl (jda_cons (jdv 2) (jda_cons (jdv 1) (jda_cons (jdv 0) jda_nil)))),?_⟩
  have ng : ∀ i : Int,i ≠ 0 -> goodN (.int i) = true := fun i h => decide_eq_true h
  walk_at "go"
  refine ⟨by show (notOwn d && (notOwn u && (notOwn v && true))) = true; rw [okRp_no hd,okRp_no hu,okRp_no hv]; rfl,d,u,v,rfl,hd,hu,hv,fun i j k e1 e2 e3 n1 n2 n3 => ?_,fun _ => hEd⟩
  subst e1 e2 e3
  rw [ng i n1,ng j n2,ng k n3] at hb
  cases hb
theorem refc2 {P : Program}{w : World}{K : PySem.W.Frag}{mg : Str -> Option Value}{c : Cs}{fr : Addr}{fd : FuncData}(F : Fun K "_law_refused" "_law_refused" s__law_refused fr fd) (Z : Bi mg) (hm : mg "_law_refused" = some (.ref fr)) (hb : Binds K fd ["_law_deed"] []) (Y : ∀ base : Heap,K.In base -> base.Ns mainGlobals mg -> Ex K mg base c) (G : ∀ base : Heap,K.In base -> base.Ns mainGlobals mg -> C__law_refused P w K mg base c) (GL : ∀ base : Heap,K.In base -> base.Ns mainGlobals mg -> Callee P w K mg base (CX1 P w base) "stretch" 2 ["a","b","c"] (liftSp K BT (S_stretch c))) :
    RefC P w K mg BT "_law_refused" 6 "_law_deed" "_law_stretches_right.<locals>.<lambda>" (lamP L2) (lamB L2) (lamS L2) (fun ds PP => St_stretch ds /\ PP (.bl true)) ["_law_c","_law_b","_law_a"] :=
  ⟨fr,fd,hm,F.kp,hb,fun base f c' oc pm ctv cl us kb gb hx hf hc hi hrec => ref_ok F Z (Y base kb gb) (G base kb gb) (lamok2 (Y base kb gb) Z (GL base kb gb) hx hf hc hi hrec)⟩
theorem stretch_ok {a b c : Int}(ha : Bd 64 a)(hb : Bd 64 b)(hc : Bd 64 c) : (stretchM a b c).ok 64 := by
  have z0 : Bd 64 (0 : Int) := Bd.of (by decide) (by decide)
  have z1 : Bd 64 (1 : Int) := Bd.of (by decide) (by decide)
  exact ⟨⟨ha,z0,z0,z0⟩,⟨z0,hb,z0,z0⟩,⟨z0,z0,hc,z0⟩,⟨z0,z0,z0,z1⟩⟩
structure Tri (d u v : D) : Prop where
  h1 : okRp d = true /\ ∀ i,d = .int i -> Bd 64 i
  h2 : okRp u = true /\ ∀ i,u = .int i -> Bd 64 i
  h3 : okRp v = true /\ ∀ i,v = .int i -> Bd 64 i
def S_stretches : DSp := fun ds P _ => ds = [.bag] /\ P (.bl true)
structure C__law_stretches_right (P : Program)(w : World)(K : PySem.W.Frag)(mg : Str -> Option Value)(base : Heap)(c : Cs) : Prop where
  _law_digit_ : Callee P w K mg base CX0 "_law_digit" 1 ["_law_bag_here","_law_many"] (liftSp K BT S_digit)
  _law_is_move_ : Callee P w K mg base CX0 "_law_is_move" 2 ["_law_found","_law_due"] (liftSp K BT S_ismv)
  _law_number_ : Callee P w K mg base CX0 "_law_number" 2 ["_law_bag_here","_law_most"] (liftSp K BT S_num)
  stretch_ : Callee P w K mg base (CX1 P w base) "stretch" 2 ["a","b","c"] (liftSp K BT (S_stretch c))
  _law_with_ : Callee P w K mg base CX0 "_law_with" 1 ["_law_numbers"] (liftSp K BT S_with)
  _law_odd_ : Callee P w K mg base CX0 "_law_odd" 2 ["_law_bag_here"] (liftSp K BT S_odd)
  _law_whole_ : Callee P w K mg base CX0 "_law_whole" 1 ["_law_thing"] (liftSp K BT S_lwhole)
theorem ok__law_stretches_right {P : Program}{w : World}{K : PySem.W.Frag}{mg : Str -> Option Value}{base : Heap}{f cc PT : Addr}{fd : FuncData}{tb : List (Addr × Str)}(F : FunC K "_law_stretches_right" "_law_stretches_right" s__law_stretches_right f fd cc) (Z : Bi mg) {c : Cs} (Y : Ex K mg base c) (G : C__law_stretches_right P w K mg base c) (hC : PySem.W.CodeHd base cc PT) (hM : BM mg base) (hmem : (PT,("_law_stretches_right.<locals>.<lambda>" : Str)) ∈ tb) (R2 : RefC P w K mg BT "_law_refused" 6 "_law_deed" "_law_stretches_right.<locals>.<lambda>" (lamP L2) (lamB L2) (lamS L2) (fun ds PP => St_stretch ds /\ PP (.bl true)) ["_law_c","_law_b","_law_a"]) : FnOk P w K mg base CX0 7 f fd ["_law_bag_here"] (liftSpTb K BT tb S_stretches) := by
  refine F.okDT sc__law_stretches_right (fun ds PP Ed h => ?_) (fun A outer s H E M bg ds PP Ed hr hTb ho hS_ => ?_)
  · obtain ⟨rfl,hP⟩ := h
    rfl
  · obtain ⟨rfl,hP⟩ := hS_
    have hnb : bg ≠ some PT := bt_ne ho (hTb _ hmem)
    refine ⟨_,(jdss_cons (jds_setC (X := (cxOf CX0 P w K mg base ["_law_bag_here","_law_numbers","_law_at","_law_a","_law_b","_law_c"] "_law_stretches_right" (defScope s__law_stretches_right) f (.ref cc) A outer s H E).nox) true (i := 1) sc__law_stretches_right.nd rfl (by walk_at "o") (gd_name 0) (blkJ (X := (cxOf CX0 P w K mg base ["_law_bag_here","_law_numbers","_law_at","_law_a","_law_b","_law_c"] "_law_stretches_right" (defScope s__law_stretches_right) f (.ref cc) A outer s H E).nox) (N' := ["_law_k","_law_bag_here"]) (map := [none,some 0]) (by rfl) (by rfl) (by decide +kernel) (by rfl) ⟨⟨rfl,rfl,rfl,by walk_at "o"⟩,True.intro⟩ (gkeep_name rfl) fun cl0 C0 fp0 s0 H0 => ⟨(pg_name (X := (cxComp (cxOf CX0 P w K mg base ["_law_bag_here","_law_numbers","_law_at","_law_a","_law_b","_law_c"] "_law_stretches_right" (defScope s__law_stretches_right) f (.ref cc) A outer s H E).nox ["_law_k","_law_bag_here"] _ cl0 C0 fp0 s0 H0)) (i := 0) (nodupS ["_law_k","_law_bag_here"] (by decide +kernel)) rfl (by walk_at "o")),jdif_nil,(jde_own (X := (cxComp (cxOf CX0 P w K mg base ["_law_bag_here","_law_numbers","_law_at","_law_a","_law_b","_law_c"] "_law_stretches_right" (defScope s__law_stretches_right) f (.ref cc) A outer s H E).nox ["_law_k","_law_bag_here"] _ cl0 C0 fp0 s0 H0)) G._law_number_ (hr.mono (by decide)) rfl (jda_cons (jdv 1) (jda_cons jde_int jda_nil)))⟩) (jdi_range1 rfl Z.range_ (jda_cons jde_int jda_nil)))
      (jdss_cons (jds_set (i := 2) sc__law_stretches_right.nd rfl (by walk_at "o") (jde_own G._law_digit_ (hr.mono (by decide)) rfl (jda_cons (jdv 0) (jda_cons jde_int jda_nil))))
      (jdss_cons (jds_if (jdt_cmp op_lt od_B0 (jdv 2) jde_int (nomark _)) (jdss_one (jds_setI (i := 1) rfl (by walk_at "v") (jde_ix (ix_any K (by rfl)) od_ix (jde_lst (jda_cons jde_int (jda_cons jde_int (jda_cons (jde_neg jde_int) (jda_cons (jde_own G._law_odd_ (hr.mono (by decide)) rfl (jda_cons (jdv 0) jda_nil)) jda_nil))))) (jde_own G._law_digit_ (hr.mono (by decide)) rfl (jda_cons (jdv 0) (jda_cons jde_int jda_nil))) (fun _ _ => rfl)) (jdv 2) (pg_sub (pv 1) (JE.h (jdv 2)) set_list))) jdss_nil)
      (jdss_frz 1 (jdss_cons (jds_asg (gd_seq [3,4,5]) (jdv 1) (PG.or (pg_tupK (n := 3) K (by rfl) (by rfl) (pgs_cons (pg_name (i := 3) sc__law_stretches_right.nd rfl (by walk_at "o")) (pgs_cons (pg_name (i := 4) sc__law_stretches_right.nd rfl (by walk_at "o")) (pgs_cons (pg_name (i := 5) sc__law_stretches_right.nd rfl (by walk_at "o")) pgs_nil)))) (pg_lstK (n := 3) K (by rfl) (by rfl) (pgs_cons (pg_name (i := 3) sc__law_stretches_right.nd rfl (by walk_at "o")) (pgs_cons (pg_name (i := 4) sc__law_stretches_right.nd rfl (by walk_at "o")) (pgs_cons (pg_name (i := 5) sc__law_stretches_right.nd rfl (by walk_at "o")) pgs_nil))))))
      (jdss_cons (jds_if (jdt_truth (by rfl) (jde_callB (call_anyL K (by rfl) (by rfl)) cd_bls rfl Z.any_ bt_any (jda_cons (jde_comp (X := (cxOf CX0 P w K mg base ["_law_bag_here","_law_numbers","_law_at","_law_a","_law_b","_law_c"] "_law_stretches_right" (defScope s__law_stretches_right) f (.ref cc) A outer s H E).nox) (gd_name 0) (blkJ (X := (cxOf CX0 P w K mg base ["_law_bag_here","_law_numbers","_law_at","_law_a","_law_b","_law_c"] "_law_stretches_right" (defScope s__law_stretches_right) f (.ref cc) A outer s H E).nox) (N' := ["_law_one"]) (map := [none]) (by rfl) (by rfl) (by decide +kernel) (by rfl) True.intro (gkeep_name rfl) fun cl0 C0 fp0 s0 H0 => ⟨(pg_name (X := (cxComp (cxOf CX0 P w K mg base ["_law_bag_here","_law_numbers","_law_at","_law_a","_law_b","_law_c"] "_law_stretches_right" (defScope s__law_stretches_right) f (.ref cc) A outer s H E).nox ["_law_one"] _ cl0 C0 fp0 s0 H0)) (i := 0) (nodupS ["_law_one"] (by decide +kernel)) rfl (by walk_at "o")),jdif_nil,(jde_or (X := (cxComp (cxOf CX0 P w K mg base ["_law_bag_here","_law_numbers","_law_at","_law_a","_law_b","_law_c"] "_law_stretches_right" (defScope s__law_stretches_right) f (.ref cc) A outer s H E).nox ["_law_one"] _ cl0 C0 fp0 s0 H0)) (jde_not (jde_own G._law_whole_ (hr.mono (by decide)) rfl (jda_cons (jdv 0) jda_nil))) (jde_one (jde_cmp op_eq od_eqS (jdv 0) jde_int (nomark _))))⟩) (jdi_seq (by rfl) (jdv 1))) jda_nil)) (fun _ => rfl)) (jdss_one (jds_ret (jde_lamR (js := [5,4,3]) (R2) (hr.mono (by decide)) rfl BT_lst (hTb _ hmem) hnb hC hM rfl rfl ⟨_,_,_,rfl,rfl,rfl,rfl,⟨_,_,_,rfl,rfl,rfl,rfl,⟨_,_,_,rfl,rfl,rfl,rfl,rfl⟩⟩⟩ rfl rfl rfl (fun _ => rfl) rfl))) jdss_nil)
      (jdss_one (jds_ret (jde_own G._law_is_move_ (hr.mono (by decide)) rfl (jda_cons (jde_ownX elink0 pass10 G.stretch_ (hr.mono (by decide)) rfl (jda_cons (jdv 3) (jda_cons (jdv 4) (jda_cons (jdv 5) jda_nil)))) (jda_cons (jde_own G._law_with_ (hr.mono (by decide)) rfl (jda_cons (jde_lst (jda_cons (jde_tup (jda_cons jde_int (jda_cons jde_int (jda_cons (jdv 3) jda_nil)))) (jda_cons (jde_tup (jda_cons jde_int (jda_cons jde_int (jda_cons (jdv 4) jda_nil)))) (jda_cons (jde_tup (jda_cons jde_int (jda_cons jde_int (jda_cons (jdv 5) jda_nil)))) jda_nil)))) jda_nil)) jda_nil))))))))))),?_⟩
    have n40 : ∀ r : Int,Bd 40 r -> okRp (.int r) = true /\ ∀ i,D.int r = .int i -> Bd 64 i := fun r h => ⟨bd_rp h (by decide),fun i e => by cases e; exact h.mono (by decide)⟩
    walk_at "go"
    walk_at "gc"
    refine ⟨12,rfl,by decide,by decide,fun a ha => ?_⟩
    walk_at "go"
    refine ⟨12,rfl,by decide,by decide,fun b hb => ?_⟩
    walk_at "go"
    refine ⟨12,rfl,by decide,by decide,fun e he => ?_⟩
    obtain ⟨k1,b1⟩ := n40 a ha
    obtain ⟨k2,b2⟩ := n40 b hb
    obtain ⟨k3,b3⟩ := n40 e he
    walk_at "go"
    refine ⟨_,64,rfl,by decide,Bd.num _ (by decide),by decide,fun q q0 q1 => ?_⟩
    walk_at "go"
    walk_at "sp"
    · walk_at "go"
      intro x hx wx
      refine And.intro (by unfold okIt; simp [okRp_pl hx]; exact ⟨rfl,rfl,rfl⟩) ?_
      walk_at "go"
      refine ⟨_,64,rfl,by decide,Bd.num _ (by decide),by decide,fun r r0 r1 => ?_⟩
      walk_at "go"
      refine ixm r0 (by exact r1) fun y my => ?_
      have hy : okRp y = true /\ ∀ i,y = .int i -> Bd 64 i := by
        simp only [List.mem_cons,List.not_mem_nil,or_false] at my
        rcases my with rfl | rfl | rfl | rfl
        · exact ⟨by decide +kernel,fun i e => by cases e; exact Bd.of (by decide) (by decide)⟩
        · exact ⟨by decide +kernel,fun i e => by cases e; exact Bd.of (by decide) (by decide)⟩
        · exact ⟨by decide +kernel,fun i e => by cases e; exact Bd.of (by decide) (by decide)⟩
        · exact ⟨by assumption,fun i e => by subst e; cases wx⟩
      obtain ⟨ky,by_⟩ := hy
      clear my
      obtain rfl | rfl | rfl : q = 0 \/ q = 1 \/ q = 2 := by omega
      · have T : Tri y (.int b) (.int e) := ⟨⟨ky,by_⟩,⟨k2,b2⟩,⟨k3,b3⟩⟩
        walk_at "go"
        refine And.intro (okRp_pl ky) ?_
        walk_at "go"
        generalize y = d at T ⊢
        generalize (D.int b : D) = u at T ⊢
        generalize (D.int e : D) = v at T ⊢
        walk_at "go"
        refine comp_map (fun x => .bl (!goodN x)) (fun x Q hx q => ?_) (fun _ _ => rfl) ?_
        · have hx : x ∈ [d,u,v] := hx
          have kx : okRp x = true := by
            simp only [List.mem_cons,List.not_mem_nil,or_false] at hx
            rcases hx with e | e | e <;> subst e
            · exact T.h1.1
            · exact T.h2.1
            · exact T.h3.1
          walk_at "go"
          refine ⟨by show (notOwn x && true) = true; rw [okRp_no kx]; rfl,x,rfl,kx,?_⟩
          cases hw : whD x with
          | false =>
            have g0 : goodN x = false := by cases x <;> first | rfl | cases hw
            rw [g0] at q
            walk_at "go"
            exact q
          | true =>
            obtain ⟨i,rfl⟩ := whD_int hw
            have e : (decide (i = 0) != false) = !goodN (.int i) := by
              show (decide (i = 0) != false) = !decide (i ≠ 0)
              by_cases z : i = 0 <;> simp [z]
            walk_at "go"
            rw [e]
            exact q
        walk_at "go"
        have T1 := T.h1.1
        have T2 := T.h2.1
        have T3 := T.h3.1
        cases hg : (goodN d && (goodN u && goodN v)) with
        | false =>
          refine IfP.t (by show ((!goodN d) || ((!goodN u) || ((!goodN v) || false))) = true; revert hg; cases goodN d <;> cases goodN u <;> cases goodN v <;> decide) ?_
          walk_at "go"
          exact ⟨[v,u,d],⟨_,_,rfl,rfl,okRp_pl T3,_,_,rfl,rfl,okRp_pl T2,_,_,rfl,rfl,okRp_pl T1,rfl⟩,⟨d,u,v,rfl,T1,T2,T3,hg⟩,rfl,hP⟩
        | true =>
          obtain ⟨g1,g2⟩ := (Bool.and_eq_true _ _).mp hg
          obtain ⟨g3,g4⟩ := (Bool.and_eq_true _ _).mp g2
          refine IfP.f (by show ((!goodN d) || ((!goodN u) || ((!goodN v) || false))) = false; rw [g1,g3,g4]; rfl) ?_
          obtain ⟨i1,rfl,z1⟩ := good_int g1
          obtain ⟨i2,rfl,z2⟩ := good_int g3
          obtain ⟨i3,rfl,z3⟩ := good_int g4
          have c1 := T.h1.2 _ rfl
          have c2 := T.h2.2 _ rfl
          have c3 := T.h3.2 _ rfl
          walk_at "go"
          refine ⟨.int i1,.int i2,.int i3,rfl,T1,T2,T3,fun x1 x2 x3 e1 e2 e3 _ _ _ => ?_,fun z => by rw [hg] at z; cases z⟩
          cases e1
          cases e2
          cases e3
          walk_at "go"
          refine ⟨[(0,0,i1),(1,1,i2),(2,2,i3)],rfl,by show 3 <= 4; decide,fun q hq => ?_,?_⟩
          · simp only [List.mem_cons,List.not_mem_nil,or_false] at hq
            rcases hq with e | e | e <;> (rw [e]; exact ⟨by dsimp only; omega,by dsimp only; omega⟩)
          walk_at "go"
          exact ⟨stretchM i1 i2 i3,rfl,stretch_ok c1 c2 c3,hP⟩
      · have T : Tri (.int a) y (.int e) := ⟨⟨k1,b1⟩,⟨ky,by_⟩,⟨k3,b3⟩⟩
        walk_at "go"
        refine And.intro (okRp_pl ky) ?_
        walk_at "go"
        generalize (D.int a : D) = d at T ⊢
        generalize y = u at T ⊢
        generalize (D.int e : D) = v at T ⊢
        walk_at "go"
        refine comp_map (fun x => .bl (!goodN x)) (fun x Q hx q => ?_) (fun _ _ => rfl) ?_
        · have hx : x ∈ [d,u,v] := hx
          have kx : okRp x = true := by
            simp only [List.mem_cons,List.not_mem_nil,or_false] at hx
            rcases hx with e | e | e <;> subst e
            · exact T.h1.1
            · exact T.h2.1
            · exact T.h3.1
          walk_at "go"
          refine ⟨by show (notOwn x && true) = true; rw [okRp_no kx]; rfl,x,rfl,kx,?_⟩
          cases hw : whD x with
          | false =>
            have g0 : goodN x = false := by cases x <;> first | rfl | cases hw
            rw [g0] at q
            walk_at "go"
            exact q
          | true =>
            obtain ⟨i,rfl⟩ := whD_int hw
            have e : (decide (i = 0) != false) = !goodN (.int i) := by
              show (decide (i = 0) != false) = !decide (i ≠ 0)
              by_cases z : i = 0 <;> simp [z]
            walk_at "go"
            rw [e]
            exact q
        walk_at "go"
        have T1 := T.h1.1
        have T2 := T.h2.1
        have T3 := T.h3.1
        cases hg : (goodN d && (goodN u && goodN v)) with
        | false =>
          refine IfP.t (by show ((!goodN d) || ((!goodN u) || ((!goodN v) || false))) = true; revert hg; cases goodN d <;> cases goodN u <;> cases goodN v <;> decide) ?_
          walk_at "go"
          exact ⟨[v,u,d],⟨_,_,rfl,rfl,okRp_pl T3,_,_,rfl,rfl,okRp_pl T2,_,_,rfl,rfl,okRp_pl T1,rfl⟩,⟨d,u,v,rfl,T1,T2,T3,hg⟩,rfl,hP⟩
        | true =>
          obtain ⟨g1,g2⟩ := (Bool.and_eq_true _ _).mp hg
          obtain ⟨g3,g4⟩ := (Bool.and_eq_true _ _).mp g2
          refine IfP.f (by show ((!goodN d) || ((!goodN u) || ((!goodN v) || false))) = false; rw [g1,g3,g4]; rfl) ?_
          obtain ⟨i1,rfl,z1⟩ := good_int g1
          obtain ⟨i2,rfl,z2⟩ := good_int g3
          obtain ⟨i3,rfl,z3⟩ := good_int g4
          have c1 := T.h1.2 _ rfl
          have c2 := T.h2.2 _ rfl
          have c3 := T.h3.2 _ rfl
          walk_at "go"
          refine ⟨.int i1,.int i2,.int i3,rfl,T1,T2,T3,fun x1 x2 x3 e1 e2 e3 _ _ _ => ?_,fun z => by rw [hg] at z; cases z⟩
          cases e1
          cases e2
          cases e3
          walk_at "go"
          refine ⟨[(0,0,i1),(1,1,i2),(2,2,i3)],rfl,by show 3 <= 4; decide,fun q hq => ?_,?_⟩
          · simp only [List.mem_cons,List.not_mem_nil,or_false] at hq
            rcases hq with e | e | e <;> (rw [e]; exact ⟨by dsimp only; omega,by dsimp only; omega⟩)
          walk_at "go"
          exact ⟨stretchM i1 i2 i3,rfl,stretch_ok c1 c2 c3,hP⟩
      · have T : Tri (.int a) (.int b) y := ⟨⟨k1,b1⟩,⟨k2,b2⟩,⟨ky,by_⟩⟩
        walk_at "go"
        refine And.intro (okRp_pl ky) ?_
        walk_at "go"
        generalize (D.int a : D) = d at T ⊢
        generalize (D.int b : D) = u at T ⊢
        generalize y = v at T ⊢
        walk_at "go"
        refine comp_map (fun x => .bl (!goodN x)) (fun x Q hx q => ?_) (fun _ _ => rfl) ?_
        · have hx : x ∈ [d,u,v] := hx
          have kx : okRp x = true := by
            simp only [List.mem_cons,List.not_mem_nil,or_false] at hx
            rcases hx with e | e | e <;> subst e
            · exact T.h1.1
            · exact T.h2.1
            · exact T.h3.1
          walk_at "go"
          refine ⟨by show (notOwn x && true) = true; rw [okRp_no kx]; rfl,x,rfl,kx,?_⟩
          cases hw : whD x with
          | false =>
            have g0 : goodN x = false := by cases x <;> first | rfl | cases hw
            rw [g0] at q
            walk_at "go"
            exact q
          | true =>
            obtain ⟨i,rfl⟩ := whD_int hw
            have e : (decide (i = 0) != false) = !goodN (.int i) := by
              show (decide (i = 0) != false) = !decide (i ≠ 0)
              by_cases z : i = 0 <;> simp [z]
            walk_at "go"
            rw [e]
            exact q
        walk_at "go"
        have T1 := T.h1.1
        have T2 := T.h2.1
        have T3 := T.h3.1
        cases hg : (goodN d && (goodN u && goodN v)) with
        | false =>
          refine IfP.t (by show ((!goodN d) || ((!goodN u) || ((!goodN v) || false))) = true; revert hg; cases goodN d <;> cases goodN u <;> cases goodN v <;> decide) ?_
          walk_at "go"
          exact ⟨[v,u,d],⟨_,_,rfl,rfl,okRp_pl T3,_,_,rfl,rfl,okRp_pl T2,_,_,rfl,rfl,okRp_pl T1,rfl⟩,⟨d,u,v,rfl,T1,T2,T3,hg⟩,rfl,hP⟩
        | true =>
          obtain ⟨g1,g2⟩ := (Bool.and_eq_true _ _).mp hg
          obtain ⟨g3,g4⟩ := (Bool.and_eq_true _ _).mp g2
          refine IfP.f (by show ((!goodN d) || ((!goodN u) || ((!goodN v) || false))) = false; rw [g1,g3,g4]; rfl) ?_
          obtain ⟨i1,rfl,z1⟩ := good_int g1
          obtain ⟨i2,rfl,z2⟩ := good_int g3
          obtain ⟨i3,rfl,z3⟩ := good_int g4
          have c1 := T.h1.2 _ rfl
          have c2 := T.h2.2 _ rfl
          have c3 := T.h3.2 _ rfl
          walk_at "go"
          refine ⟨.int i1,.int i2,.int i3,rfl,T1,T2,T3,fun x1 x2 x3 e1 e2 e3 _ _ _ => ?_,fun z => by rw [hg] at z; cases z⟩
          cases e1
          cases e2
          cases e3
          walk_at "go"
          refine ⟨[(0,0,i1),(1,1,i2),(2,2,i3)],rfl,by show 3 <= 4; decide,fun q hq => ?_,?_⟩
          · simp only [List.mem_cons,List.not_mem_nil,or_false] at hq
            rcases hq with e | e | e <;> (rw [e]; exact ⟨by dsimp only; omega,by dsimp only; omega⟩)
          walk_at "go"
          exact ⟨stretchM i1 i2 i3,rfl,stretch_ok c1 c2 c3,hP⟩
    · have T : Tri (.int a) (.int b) (.int e) := ⟨⟨k1,b1⟩,⟨k2,b2⟩,⟨k3,b3⟩⟩
      walk_at "go"
      generalize (D.int a : D) = d at T ⊢
      generalize (D.int b : D) = u at T ⊢
      generalize (D.int e : D) = v at T ⊢
      walk_at "go"
      refine comp_map (fun x => .bl (!goodN x)) (fun x Q hx q => ?_) (fun _ _ => rfl) ?_
      · have hx : x ∈ [d,u,v] := hx
        have kx : okRp x = true := by
          simp only [List.mem_cons,List.not_mem_nil,or_false] at hx
          rcases hx with e | e | e <;> subst e
          · exact T.h1.1
          · exact T.h2.1
          · exact T.h3.1
        walk_at "go"
        refine ⟨by show (notOwn x && true) = true; rw [okRp_no kx]; rfl,x,rfl,kx,?_⟩
        cases hw : whD x with
        | false =>
          have g0 : goodN x = false := by cases x <;> first | rfl | cases hw
          rw [g0] at q
          walk_at "go"
          exact q
        | true =>
          obtain ⟨i,rfl⟩ := whD_int hw
          have e : (decide (i = 0) != false) = !goodN (.int i) := by
            show (decide (i = 0) != false) = !decide (i ≠ 0)
            by_cases z : i = 0 <;> simp [z]
          walk_at "go"
          rw [e]
          exact q
      walk_at "go"
      have T1 := T.h1.1
      have T2 := T.h2.1
      have T3 := T.h3.1
      cases hg : (goodN d && (goodN u && goodN v)) with
      | false =>
        refine IfP.t (by show ((!goodN d) || ((!goodN u) || ((!goodN v) || false))) = true; revert hg; cases goodN d <;> cases goodN u <;> cases goodN v <;> decide) ?_
        walk_at "go"
        exact ⟨[v,u,d],⟨_,_,rfl,rfl,okRp_pl T3,_,_,rfl,rfl,okRp_pl T2,_,_,rfl,rfl,okRp_pl T1,rfl⟩,⟨d,u,v,rfl,T1,T2,T3,hg⟩,rfl,hP⟩
      | true =>
        obtain ⟨g1,g2⟩ := (Bool.and_eq_true _ _).mp hg
        obtain ⟨g3,g4⟩ := (Bool.and_eq_true _ _).mp g2
        refine IfP.f (by show ((!goodN d) || ((!goodN u) || ((!goodN v) || false))) = false; rw [g1,g3,g4]; rfl) ?_
        obtain ⟨i1,rfl,z1⟩ := good_int g1
        obtain ⟨i2,rfl,z2⟩ := good_int g3
        obtain ⟨i3,rfl,z3⟩ := good_int g4
        have c1 := T.h1.2 _ rfl
        have c2 := T.h2.2 _ rfl
        have c3 := T.h3.2 _ rfl
        walk_at "go"
        refine ⟨.int i1,.int i2,.int i3,rfl,T1,T2,T3,fun x1 x2 x3 e1 e2 e3 _ _ _ => ?_,fun z => by rw [hg] at z; cases z⟩
        cases e1
        cases e2
        cases e3
        walk_at "go"
        refine ⟨[(0,0,i1),(1,1,i2),(2,2,i3)],rfl,by show 3 <= 4; decide,fun q hq => ?_,?_⟩
        · simp only [List.mem_cons,List.not_mem_nil,or_false] at hq
          rcases hq with e | e | e <;> (rw [e]; exact ⟨by dsimp only; omega,by dsimp only; omega⟩)
        walk_at "go"
        exact ⟨stretchM i1 i2 i3,rfl,stretch_ok c1 c2 c3,hP⟩
abbrev s__law_looks_right : Stmt := top 45
theorem sc__law_looks_right : FnScope ["_law_bag_here","_law_d"] ["_law_bag_here"] (defScope s__law_looks_right) := ⟨rfl,rfl,rfl,by decide +kernel,rfl,by decide +kernel,by decide +kernel⟩
def L3 : Expr := argX (retX (atS (inIf (atS (defBody s__law_looks_right) 1)) 0))
def St_look : List D -> Prop := fun ds => ∃ d : D,ds = [d] /\ okRp d = true /\ lookD d = false
theorem lamok3 {P : Program}{w : World}{K : PySem.W.Frag}{mg : Str -> Option Value}{base : Heap}{c : Cs}(Y : Ex K mg base c)(Z : Bi mg)(G : Callee P w K mg base (CX1 P w base) "look_from" 2 ["d"] (liftSp K BT (S_look c))) {f c' : Addr} {oc : Obj} {pm ctv : Value} {cl : List (Str × Addr)} {us : List V} (hx : cl.map (·.1) = (["_law_d"] : List Str)) (hf : base.get? f = some (PySem.W.kla_obj "<lambda>" "_law_looks_right.<locals>.<lambda>" (lamP L3) (lamB L3) (lamS L3) cl pm c' ctv)) (hc : CellsAt base cl us) (hi : ∀ x y c,cl.lookup x = some c -> cl.lookup y = some c -> x = y) (hrec : RecO "_law_looks_right.<locals>.<lambda>" oc) :
    LamOk P w K mg base (CX1 P w base) 4 f c' oc (lamSp K BT (fun ds R Ed => St_look ds /\ Ed c.NoMove) us) := by
  refine lam_okD (lamScope_mk hx rfl rfl rfl (by decide +kernel) (by decide +kernel) (by decide +kernel) hi) (by rw [hx]; decide +kernel) hf hrec hc rfl fun A outer s H E M b ds R Ed hr hE hS => ?_
  rw [hx]
  obtain ⟨⟨d,rfl,hd,hb⟩,hEd⟩ := hS
  refine ⟨_,(jde_ownX hE xe_passL G (hr.mono (by decide)) rfl (jda_cons (jdv 0) jda_nil)),?_⟩
  walk_at "go"
  exact ⟨by show (notOwn d && true) = true; rw [okRp_no hd]; rfl,d,rfl,hd,fun i e h1 => by subst e; exact absurd hb (by show ¬ decide (1 <= i) = false; rw [decide_eq_true h1]; decide),fun _ => hEd⟩
theorem refc3 {P : Program}{w : World}{K : PySem.W.Frag}{mg : Str -> Option Value}{c : Cs}{fr : Addr}{fd : FuncData}(F : Fun K "_law_refused" "_law_refused" s__law_refused fr fd) (Z : Bi mg) (hm : mg "_law_refused" = some (.ref fr)) (hb : Binds K fd ["_law_deed"] []) (Y : ∀ base : Heap,K.In base -> base.Ns mainGlobals mg -> Ex K mg base c) (G : ∀ base : Heap,K.In base -> base.Ns mainGlobals mg -> C__law_refused P w K mg base c) (GL : ∀ base : Heap,K.In base -> base.Ns mainGlobals mg -> Callee P w K mg base (CX1 P w base) "look_from" 2 ["d"] (liftSp K BT (S_look c))) :
    RefC P w K mg BT "_law_refused" 6 "_law_deed" "_law_looks_right.<locals>.<lambda>" (lamP L3) (lamB L3) (lamS L3) (fun ds PP => St_look ds /\ PP (.bl true)) ["_law_d"] :=
  ⟨fr,fd,hm,F.kp,hb,fun base f c' oc pm ctv cl us kb gb hx hf hc hi hrec => ref_ok F Z (Y base kb gb) (G base kb gb) (lamok3 (Y base kb gb) Z (GL base kb gb) hx hf hc hi hrec)⟩
theorem look_ok {d : Int}(h : Bd 64 d) : (lookM d).ok 64 := by
  have z0 : Bd 64 (0 : Int) := Bd.of (by decide) (by decide)
  have z1 : Bd 64 (1 : Int) := Bd.of (by decide) (by decide)
  have zm : Bd 64 (-1 : Int) := Bd.of (by decide) (by decide)
  exact ⟨⟨h,z0,z0,z0⟩,⟨z0,h,z0,z0⟩,⟨z0,z0,z1,zm⟩,⟨z0,z0,z1,z0⟩⟩
def S_looks : DSp := fun ds P _ => ds = [.bag] /\ P (.bl true)
structure C__law_looks_right (P : Program)(w : World)(K : PySem.W.Frag)(mg : Str -> Option Value)(base : Heap)(c : Cs) : Prop where
  _law_is_move_ : Callee P w K mg base CX0 "_law_is_move" 2 ["_law_found","_law_due"] (liftSp K BT S_ismv)
  _law_digit_ : Callee P w K mg base CX0 "_law_digit" 1 ["_law_bag_here","_law_many"] (liftSp K BT S_digit)
  look_from_ : Callee P w K mg base (CX1 P w base) "look_from" 2 ["d"] (liftSp K BT (S_look c))
  _law_number_ : Callee P w K mg base CX0 "_law_number" 2 ["_law_bag_here","_law_most"] (liftSp K BT S_num)
  _law_odd_ : Callee P w K mg base CX0 "_law_odd" 2 ["_law_bag_here"] (liftSp K BT S_odd)
  _law_whole_ : Callee P w K mg base CX0 "_law_whole" 1 ["_law_thing"] (liftSp K BT S_lwhole)
theorem ok__law_looks_right {P : Program}{w : World}{K : PySem.W.Frag}{mg : Str -> Option Value}{base : Heap}{f cc PT : Addr}{fd : FuncData}{tb : List (Addr × Str)}(F : FunC K "_law_looks_right" "_law_looks_right" s__law_looks_right f fd cc) (Z : Bi mg) {c : Cs} (Y : Ex K mg base c) (G : C__law_looks_right P w K mg base c) (hC : PySem.W.CodeHd base cc PT) (hM : BM mg base) (hmem : (PT,("_law_looks_right.<locals>.<lambda>" : Str)) ∈ tb) (R3 : RefC P w K mg BT "_law_refused" 6 "_law_deed" "_law_looks_right.<locals>.<lambda>" (lamP L3) (lamB L3) (lamS L3) (fun ds PP => St_look ds /\ PP (.bl true)) ["_law_d"]) : FnOk P w K mg base CX0 7 f fd ["_law_bag_here"] (liftSpTb K BT tb S_looks) := by
  refine F.okDT sc__law_looks_right (fun ds PP Ed h => ?_) (fun A outer s H E M bg ds PP Ed hr hTb ho hS_ => ?_)
  · obtain ⟨rfl,hP⟩ := h
    rfl
  · obtain ⟨rfl,hP⟩ := hS_
    have hnb : bg ≠ some PT := bt_ne ho (hTb _ hmem)
    refine ⟨_,(jdss_cons (jds_set (i := 1) sc__law_looks_right.nd rfl (by walk_at "o") (jde_ix (ix_any K (by rfl)) od_ix (jde_lst (jda_cons (jde_own G._law_number_ (hr.mono (by decide)) rfl (jda_cons (jdv 0) (jda_cons jde_int jda_nil))) (jda_cons jde_int (jda_cons jde_int (jda_cons (jde_own G._law_odd_ (hr.mono (by decide)) rfl (jda_cons (jdv 0) jda_nil)) jda_nil))))) (jde_own G._law_digit_ (hr.mono (by decide)) rfl (jda_cons (jdv 0) (jda_cons jde_int jda_nil))) (fun _ _ => rfl)))
      (jdss_cons (jds_if (jdt_or (jdt_not (jdt_truth (by rfl) (jde_own G._law_whole_ (hr.mono (by decide)) rfl (jda_cons (jdv 1) jda_nil)) (fun _ => rfl))) (jdw_or1 (jdt_cmp op_lt od_B0 (jdv 1) jde_int (nomark _)))) (jdss_one (jds_ret (jde_lamR (js := [1]) (R3) (hr.mono (by decide)) rfl BT_lst (hTb _ hmem) hnb hC hM rfl rfl ⟨_,_,_,rfl,rfl,rfl,rfl,rfl⟩ rfl rfl rfl (fun _ => rfl) rfl))) jdss_nil)
      (jdss_one (jds_ret (jde_own G._law_is_move_ (hr.mono (by decide)) rfl (jda_cons (jde_ownX elink0 pass10 G.look_from_ (hr.mono (by decide)) rfl (jda_cons (jdv 1) jda_nil)) (jda_cons (jde_tup (jda_cons (jde_tup (jda_cons (jdv 1) (jda_cons jde_int (jda_cons jde_int (jda_cons jde_int jda_nil))))) (jda_cons (jde_tup (jda_cons jde_int (jda_cons (jdv 1) (jda_cons jde_int (jda_cons jde_int jda_nil))))) (jda_cons (jde_tup (jda_cons jde_int (jda_cons jde_int (jda_cons jde_int (jda_cons (jde_neg jde_int) jda_nil))))) (jda_cons (jde_tup (jda_cons jde_int (jda_cons jde_int (jda_cons jde_int (jda_cons jde_int jda_nil))))) jda_nil))))) jda_nil))))))),?_⟩
    walk_at "go"
    refine ⟨12,rfl,by decide,by decide,fun a ha => ?_⟩
    walk_at "go"
    intro x hx wx
    walk_at "go"
    refine And.intro (by unfold okIt; simp [okRp_pl hx]; exact ⟨rfl,rfl,rfl⟩) ?_
    walk_at "go"
    refine ⟨_,64,rfl,by decide,Bd.num _ (by decide),by decide,fun r r0 r1 => ?_⟩
    walk_at "go"
    refine ixm r0 (by exact r1) fun y my => ?_
    have hy : okRp y = true /\ ∀ i,y = .int i -> Bd 64 i := by
      simp only [List.mem_cons,List.not_mem_nil,or_false] at my
      rcases my with rfl | rfl | rfl | rfl
      · exact ⟨bd_rp ha (by decide),fun i e => by cases e; exact ha.mono (by decide)⟩
      · exact ⟨by decide +kernel,fun i e => by cases e; exact Bd.of (by decide) (by decide)⟩
      · exact ⟨by decide +kernel,fun i e => by cases e; exact Bd.of (by decide) (by decide)⟩
      · exact ⟨by assumption,fun i e => by subst e; cases wx⟩
    obtain ⟨ky,by_⟩ := hy
    clear my
    refine ⟨okRp_pl ky,?_⟩
    walk_at "go"
    refine ⟨by show (notOwn y && true) = true; rw [okRp_no ky]; rfl,y,rfl,ky,?_⟩
    cases hw : whD y with
    | false =>
      walk_at "go"
      exact ⟨[y],⟨_,_,rfl,rfl,okRp_pl ky,rfl⟩,⟨y,rfl,ky,by cases y <;> first | rfl | cases hw⟩,rfl,hP⟩
    | true =>
      obtain ⟨i,rfl⟩ := whD_int hw
      have bi := by_ i rfl
      walk_at "go"
      walk_at "sp"
      · rename_i z
        walk_at "go"
        exact ⟨[.int i],⟨_,_,rfl,rfl,rfl,rfl⟩,⟨.int i,rfl,ky,decide_eq_false (by omega)⟩,rfl,hP⟩
      · rename_i z
        walk_at "go"
        refine ⟨_,rfl,ky,fun j ej _ => ?_,fun q => absurd q (by show ¬ decide (1 <= i) = false; rw [decide_eq_true (by omega)]; decide)⟩
        cases ej
        walk_at "go"
        exact ⟨lookM i,rfl,look_ok bi,hP⟩
abbrev s_law : Stmt := top 46
theorem sc_law : FnScope ["_law_script","_law_k","_law_bag_here","_law_a","_law_b","_law_c","_law_step"] ["_law_script"] (defScope s_law) := ⟨rfl,rfl,rfl,by decide +kernel,rfl,by decide +kernel,by decide +kernel⟩
structure C_law (P : Program)(w : World)(K : PySem.W.Frag)(mg : Str -> Option Value)(base : Heap)(tb : List (Addr × Str))(c : Cs) : Prop where
  _law_bag_ : Callee P w K mg base CX0 "_law_bag" 1 ["_law_script","_law_at"] (bagSp K BT pre_bag)
  _law_number_ : Callee P w K mg base CX0 "_law_number" 2 ["_law_bag_here","_law_most"] (liftSp K BT S_num)
  _law_is_move_ : Callee P w K mg base CX0 "_law_is_move" 2 ["_law_found","_law_due"] (liftSp K BT S_ismv)
  still_ : Callee P w K mg base CX0 "still" 1 [] (liftSp K BT S_still)
  _law_with_ : Callee P w K mg base CX0 "_law_with" 1 ["_law_numbers"] (liftSp K BT S_with)
  shift_ : Callee P w K mg base CX0 "shift" 2 ["a","b","c"] (liftSp K BT S_shift)
  _law_turns_right_ : Callee P w K mg base CX0 "_law_turns_right" 7 ["_law_bag_here"] (liftSpTb K BT tb S_turns)
  _law_slants_right_ : Callee P w K mg base CX0 "_law_slants_right" 7 ["_law_bag_here"] (liftSpTb K BT tb S_slants)
  _law_stretches_right_ : Callee P w K mg base CX0 "_law_stretches_right" 7 ["_law_bag_here"] (liftSpTb K BT tb S_stretches)
  _law_looks_right_ : Callee P w K mg base CX0 "_law_looks_right" 7 ["_law_bag_here"] (liftSpTb K BT tb S_looks)
theorem ok_law {P : Program}{w : World}{K : PySem.W.Frag}{mg : Str -> Option Value}{base : Heap}{f cc : Addr}{fd : FuncData}{tb : List (Addr × Str)}(F : FunC K "law" "law" s_law f fd cc) (Z : Bi mg) {c : Cs} (Y : Ex K mg base c) (G : C_law P w K mg base tb c) : FnOk P w K mg base CX0 8 f fd ["_law_script"] (lawSpT K tb) := by
  refine F.okLT BT sc_law (fun A outer s H E ns hr hTb hlen => ?_)
  · skip
    refine ⟨_,(jdss_cons (jds_for (gd_name 1) PassesOwn.never rfl (jdi_range1 rfl Z.range_ (jda_cons (jde_callB (call_max2 (by rfl)) cd_2I rfl Z.max_ bt_max (jda_cons jde_int (jda_cons (jde_callB (call_min2 (by rfl)) cd_2I rfl Z.min_ bt_min (jda_cons (jde_callB (call_len_seqK K (by rfl)) cd_len rfl Z.len_ bt_len (jda_cons (jdv 0) jda_nil)) (jda_cons jde_int jda_nil))) jda_nil))) jda_nil)) (pg_name (i := 1) sc_law.nd rfl (by walk_at "o")) (jdss_cons (jds_bag (i := 2) rfl sc_law.nd rfl (by walk_at "o") G._law_bag_ (hr.mono (by decide)) rfl (jda_cons (jdv 0) (jda_cons (jdv 1) jda_nil)))
      (jdss_cons (jds_asg (gd_seq [3,4,5]) (jde_comp (X := (cxOf CX0 P w K mg base ["_law_script","_law_k","_law_bag_here","_law_a","_law_b","_law_c","_law_step"] "law" (defScope s_law) f (.ref cc) A outer s H E).nox) (gd_name 0) (blkJ (X := (cxOf CX0 P w K mg base ["_law_script","_law_k","_law_bag_here","_law_a","_law_b","_law_c","_law_step"] "law" (defScope s_law) f (.ref cc) A outer s H E).nox) (N' := ["_law_j","_law_bag_here"]) (map := [none,some 2]) (by rfl) (by rfl) (by decide +kernel) (by rfl) ⟨⟨rfl,rfl,rfl,by walk_at "o"⟩,True.intro⟩ (gkeep_name rfl) fun cl0 C0 fp0 s0 H0 => ⟨(pg_name (X := (cxComp (cxOf CX0 P w K mg base ["_law_script","_law_k","_law_bag_here","_law_a","_law_b","_law_c","_law_step"] "law" (defScope s_law) f (.ref cc) A outer s H E).nox ["_law_j","_law_bag_here"] _ cl0 C0 fp0 s0 H0)) (i := 0) (nodupS ["_law_j","_law_bag_here"] (by decide +kernel)) rfl (by walk_at "o")),jdif_nil,(jde_own (X := (cxComp (cxOf CX0 P w K mg base ["_law_script","_law_k","_law_bag_here","_law_a","_law_b","_law_c","_law_step"] "law" (defScope s_law) f (.ref cc) A outer s H E).nox ["_law_j","_law_bag_here"] _ cl0 C0 fp0 s0 H0)) G._law_number_ (hr.mono (by decide)) rfl (jda_cons (jdv 1) (jda_cons jde_int jda_nil)))⟩) (jdi_range1 rfl Z.range_ (jda_cons jde_int jda_nil))) (PG.or (pg_tupK (n := 3) K (by rfl) (by rfl) (pgs_cons (pg_name (i := 3) sc_law.nd rfl (by walk_at "o")) (pgs_cons (pg_name (i := 4) sc_law.nd rfl (by walk_at "o")) (pgs_cons (pg_name (i := 5) sc_law.nd rfl (by walk_at "o")) pgs_nil)))) (pg_lstK (n := 3) K (by rfl) (by rfl) (pgs_cons (pg_name (i := 3) sc_law.nd rfl (by walk_at "o")) (pgs_cons (pg_name (i := 4) sc_law.nd rfl (by walk_at "o")) (pgs_cons (pg_name (i := 5) sc_law.nd rfl (by walk_at "o")) pgs_nil))))))
      (jdss_cons (jds_if (jdt_not (jdt_truth (by rfl) (jde_own G._law_is_move_ (hr.mono (by decide)) rfl (jda_cons (jde_own0 G.still_ (hr.mono (by decide)) rfl) (jda_cons (jde_own G._law_with_ (hr.mono (by decide)) rfl (jda_cons (jde_lst jda_nil) jda_nil)) jda_nil))) (fun _ => rfl))) (jdss_one (jds_ret jde_bl)) jdss_nil)
      (jdss_cons (jds_if (jdt_not (jdt_truth (by rfl) (jde_own G._law_is_move_ (hr.mono (by decide)) rfl (jda_cons (jde_own G.shift_ (hr.mono (by decide)) rfl (jda_cons (jdv 3) (jda_cons (jdv 4) (jda_cons (jdv 5) jda_nil)))) (jda_cons (jde_own G._law_with_ (hr.mono (by decide)) rfl (jda_cons (jde_lst (jda_cons (jde_tup (jda_cons jde_int (jda_cons jde_int (jda_cons (jdv 3) jda_nil)))) (jda_cons (jde_tup (jda_cons jde_int (jda_cons jde_int (jda_cons (jdv 4) jda_nil)))) (jda_cons (jde_tup (jda_cons jde_int (jda_cons jde_int (jda_cons (jdv 5) jda_nil)))) jda_nil)))) jda_nil)) jda_nil))) (fun _ => rfl))) (jdss_one (jds_ret jde_bl)) jdss_nil)
      (jdss_one (jds_for (gd_name 6) PassesOwn.never rfl (jdi_range1 rfl Z.range_ (jda_cons jde_int jda_nil)) (pg_name (i := 6) sc_law.nd rfl (by walk_at "o")) (jdss_cons (jds_if (jdt_or (jdt_not (jdt_truth (by rfl) (jde_ownTb rfl hTb G._law_turns_right_ (hr.mono (by decide)) rfl (jda_cons (jdv 2) jda_nil)) (fun _ => rfl))) (jdw_or1 (jdt_not (jdt_truth (by rfl) (jde_ownTb rfl hTb G._law_slants_right_ (hr.mono (by decide)) rfl (jda_cons (jdv 2) jda_nil)) (fun _ => rfl))))) (jdss_one (jds_ret jde_bl)) jdss_nil)
      (jdss_one (jds_if (jdt_or (jdt_not (jdt_truth (by rfl) (jde_ownTb rfl hTb G._law_stretches_right_ (hr.mono (by decide)) rfl (jda_cons (jdv 2) jda_nil)) (fun _ => rfl))) (jdw_or1 (jdt_not (jdt_truth (by rfl) (jde_ownTb rfl hTb G._law_looks_right_ (hr.mono (by decide)) rfl (jda_cons (jdv 2) jda_nil)) (fun _ => rfl))))) (jdss_one (jds_ret jde_bl)) jdss_nil))))))))))
      (jdss_one (jds_ret jde_bl))),?_⟩
    walk_at "go"
    have n3 : ∀ m : Int,((fun i j => if j > i then j else i) 2 ((fun i j => if j < i then j else i) m 12) : Int) <= 12 := by intro m; dsimp only; split <;> split <;> omega
    have n0 : ∀ m : Int,2 <= ((fun i j => if j > i then j else i) 2 ((fun i j => if j < i then j else i) m 12) : Int) := by intro m; dsimp only; split <;> split <;> omega
    replace n3 := n3 ns.length
    replace n0 := n0 ns.length
    refine And.intro ⟨by omega,by omega⟩ ?_
    refine ⟨fun i ρ => ∃ v1 v2 v3 v4 v5 v6,ρ = [some (.scr ns),v1,v2,v3,v4,v5,v6],⟨_,_,_,_,_,_,rfl⟩,?_,?_⟩
    · rintro i x ρ e ⟨v1,v2,v3,v4,v5,v6,rfl⟩
      obtain ⟨rfl,hi⟩ := rangeD_get e
      have hi6 : i < 12 := by omega
      clear e n3 n0
      have z0 : Bd 64 (0 : Int) := Bd.of (by decide) (by decide)
      have z1 : Bd 64 (1 : Int) := Bd.of (by decide) (by decide)
      walk_at "go"
      refine ⟨⟨ns,i,(by rw [Int.zero_add] <;> rfl),by omega⟩,?_⟩
      walk_at "go"
      walk_at "gc"
      refine ⟨12,rfl,by decide,by decide,fun a ha => ?_⟩
      walk_at "go"
      refine ⟨12,rfl,by decide,by decide,fun b hb => ?_⟩
      walk_at "go"
      refine ⟨12,rfl,by decide,by decide,fun c' hc => ?_⟩
      walk_at "nz"
      walk_at "go"
      refine ⟨[],rfl,by decide,(fun p hp => absurd hp (by simp)),?_⟩
      walk_at "go"
      refine ⟨idM,rfl,⟨⟨z1,z0,z0,z0⟩,⟨z0,z1,z0,z0⟩,⟨z0,z0,z1,z0⟩,⟨z0,z0,z0,z1⟩⟩,?_⟩
      walk_at "go"
      refine ⟨a,b,c',rfl,?_⟩
      walk_at "go"
      refine ⟨[(0,3,a),(1,3,b),(2,3,c')],rfl,by show 3 <= 4; decide,fun q hq => ?_,?_⟩
      · simp only [List.mem_cons,List.not_mem_nil,or_false] at hq
        rcases hq with e | e | e <;> (rw [e]; exact ⟨by dsimp only; omega,by dsimp only; omega⟩)
      walk_at "go"
      refine ⟨shiftM a b c',rfl,⟨⟨z1,z0,z0,ha.mono (by decide)⟩,⟨z0,z1,z0,hb.mono (by decide)⟩,⟨z0,z0,z1,hc.mono (by decide)⟩,⟨z0,z0,z0,z1⟩⟩,?_⟩
      walk_at "go"
      refine ⟨fun j ρ => ∃ v,ρ = [some (.scr ns),some (.int (0 + (i : Int))),some .bag,some (.int a),some (.int b),some (.int c'),v],⟨_,rfl⟩,?_,?_⟩
      · rintro j x ρ e ⟨v,rfl⟩
        obtain ⟨rfl,hj⟩ := rangeD_get e
        clear e
        walk_at "go"
        exact ⟨_,rfl⟩
      · rintro ρ ⟨v,rfl⟩
        walk_at "go"
        exact ⟨_,_,_,_,_,_,rfl⟩
    · rintro ρ ⟨v1,v2,v3,v4,v5,v6,rfl⟩
      walk_at "go"
end K
set_option Elab.async false
set_option linter.all false
set_option maxRecDepth 100000
set_option maxHeartbeats 4000000
namespace K
open PySem L2
structure FnIn (K : PySem.W.Frag)(x : Str)(st : Stmt) : Prop where
  ex : ∃ (f : Addr) (fd : FuncData),PySem.W.nsIn K mainGlobals x = some (some (.ref f)) /\ Fun K x x st f fd
theorem fn_in {K : PySem.W.Frag}{x : Str}{st : Stmt}{f : Addr}{oc : Value}{od an : Option Addr}{osl : Array (Option Value)}{kV doc pm cdv ct : Value}(a : PySem.W.nsIn K mainGlobals x = some (some (.ref f)))(l : K.lookup f = some ⟨oc,od,.func (PySem.W.fnOf x x (defArgs st) (defBody st) (defScope st) .none kV doc pm an cdv ct),osl⟩)(c : PySem.W.codeIn K cdv x = true)(k : PySem.W.keepIn K (.ref f) = true) : FnIn K x st := ⟨⟨_,_,a,fun_mk l c k⟩⟩
structure FnInC (K : PySem.W.Frag)(x : Str)(st : Stmt)(cc : Addr) : Prop where
  ex : ∃ (f : Addr) (fd : FuncData),PySem.W.nsIn K mainGlobals x = some (some (.ref f)) /\ FunC K x x st f fd cc
theorem fnc_in {K : PySem.W.Frag}{x : Str}{st : Stmt}{f cc : Addr}{oc : Value}{od an : Option Addr}{osl : Array (Option Value)}{kV doc pm ct : Value}(a : PySem.W.nsIn K mainGlobals x = some (some (.ref f)))(l : K.lookup f = some ⟨oc,od,.func (PySem.W.fnOf x x (defArgs st) (defBody st) (defScope st) .none kV doc pm an (.ref cc) ct),osl⟩)(c : PySem.W.codeIn K (.ref cc) x = true)(k : PySem.W.keepIn K (.ref f) = true) : FnInC K x st cc := ⟨⟨_,_,a,⟨⟨oc,od,kV,doc,pm,an,ct,osl,rfl,l,c⟩,k⟩⟩⟩
local macro_rules | `(tactic| walk_at "b0") => `(tactic| exact fun _ _ _ _ _ _ us hl => match us,hl with | [],_ => rfl)
local macro_rules | `(tactic| walk_at "b1") => `(tactic| exact fun _ _ _ _ _ _ us hl => match us,hl with | [_],_ => rfl)
local macro_rules | `(tactic| walk_at "b2") => `(tactic| exact fun _ _ _ _ _ _ us hl => match us,hl with | [_,_],_ => rfl)
local macro_rules | `(tactic| walk_at "b3") => `(tactic| exact fun _ _ _ _ _ _ us hl => match us,hl with | [_,_,_],_ => rfl)
theorem all_mk {l : PySem.W.OpenLaw}{w : World}{K : PySem.W.Frag}{h : Heap}{mg : Str -> Option Value}{fa : Addr}(X : K.In h)(G : h.Ns mainGlobals mg)(hfa : mg "law" = some (.ref fa))
    (h0 : FnIn K "_law_bag" s__law_bag)
    (h1 : FnIn K "_law_digit" s__law_digit)
    (h2 : FnIn K "_law_number" s__law_number)
    (h3 : FnIn K "_law_whole" s__law_whole)
    (h4 : FnIn K "_law_is_move" s__law_is_move)
    (h5 : FnIn K "still" s_still)
    (h6 : FnIn K "_law_with" s__law_with)
    (h7 : FnIn K "still_but" s_still_but)
    (h8 : FnIn K "shift" s_shift)
    (h9 : FnIn K "_law_odd" s__law_odd)
    (h10 : FnIn K "_law_axis" s__law_axis)
    (h11 : FnIn K "_law_good_axis" s__law_good_axis)
    (h12 : FnIn K "is_whole" s_is_whole)
    (h13 : FnIn K "is_coordinate" s_is_coordinate)
    (h14 : FnIn K "quarter" s_quarter)
    (h15 : FnIn K "_law_quarter_due" s__law_quarter_due)
    (h16 : FnIn K "_law_is" s__law_is)
    (h17 : FnIn K "_law_refused" s__law_refused)
    (h18 : FnInC K "_law_turns_right" s__law_turns_right 349)
    (h19 : FnIn K "slant" s_slant)
    (h20 : FnInC K "_law_slants_right" s__law_slants_right 356)
    (h21 : FnIn K "stretch" s_stretch)
    (h22 : FnInC K "_law_stretches_right" s__law_stretches_right 361)
    (h23 : FnIn K "look_from" s_look_from)
    (h24 : FnInC K "_law_looks_right" s__law_looks_right 368)
    {cc25 : Addr}(h25 : FnInC K "law" s_law cc25)
    (ht18 : PySem.W.codeHdIn K 349 345 = true)
    (ht20 : PySem.W.codeHdIn K 356 352 = true)
    (ht22 : PySem.W.codeHdIn K 361 359 = true)
    (ht24 : PySem.W.codeHdIn K 368 364 = true)
    (z_abs : PySem.W.nsIn K mainGlobals "abs" = some none)
    (z_len : PySem.W.nsIn K mainGlobals "len" = some none)
    (z_max : PySem.W.nsIn K mainGlobals "max" = some none)
    (z_min : PySem.W.nsIn K mainGlobals "min" = some none)
    (z_range : PySem.W.nsIn K mainGlobals "range" = some none)
    (z_isinstance : PySem.W.nsIn K mainGlobals "isinstance" = some none)
    (z_int : PySem.W.nsIn K mainGlobals "int" = some none)
    (z_bool : PySem.W.nsIn K mainGlobals "bool" = some none)
    (z_tuple : PySem.W.nsIn K mainGlobals "tuple" = some none)
    (z_sum : PySem.W.nsIn K mainGlobals "sum" = some none)
    (z_all : PySem.W.nsIn K mainGlobals "all" = some none)
    (z_any : PySem.W.nsIn K mainGlobals "any" = some none)
    (z_list : PySem.W.nsIn K mainGlobals "list" = some none)
    (z_ValueError : PySem.W.nsIn K mainGlobals "ValueError" = some none)
    {c_ShadeError : Addr} (e_ShadeError : PySem.W.nsIn K mainGlobals "ShadeError" = some (some (.ref c_ShadeError)))
    {c_NoFraction : Addr} (e_NoFraction : PySem.W.nsIn K mainGlobals "NoFraction" = some (some (.ref c_NoFraction)))
    {c_NoSpot : Addr} (e_NoSpot : PySem.W.nsIn K mainGlobals "NoSpot" = some (some (.ref c_NoSpot)))
    {c_NoBody : Addr} (e_NoBody : PySem.W.nsIn K mainGlobals "NoBody" = some (some (.ref c_NoBody)))
    {c_NoMove : Addr} (e_NoMove : PySem.W.nsIn K mainGlobals "NoMove" = some (some (.ref c_NoMove)))
    {c_NoFlat : Addr} (e_NoFlat : PySem.W.nsIn K mainGlobals "NoFlat" = some (some (.ref c_NoFlat)))
    {c_NoFace : Addr} (e_NoFace : PySem.W.nsIn K mainGlobals "NoFace" = some (some (.ref c_NoFace)))
    {c_NoBoard : Addr} (e_NoBoard : PySem.W.nsIn K mainGlobals "NoBoard" = some (some (.ref c_NoBoard)))
    {c_NoLight : Addr} (e_NoLight : PySem.W.nsIn K mainGlobals "NoLight" = some (some (.ref c_NoLight)))
    {c_NoDeed : Addr} (e_NoDeed : PySem.W.nsIn K mainGlobals "NoDeed" = some (some (.ref c_NoDeed)))
    {c_NoText : Addr} (e_NoText : PySem.W.nsIn K mainGlobals "NoText" = some (some (.ref c_NoText)))
    {c_NoName : Addr} (e_NoName : PySem.W.nsIn K mainGlobals "NoName" = some (some (.ref c_NoName)))
    {c_NoRow : Addr} (e_NoRow : PySem.W.nsIn K mainGlobals "NoRow" = some (some (.ref c_NoRow)))
    {c_Behind : Addr} (e_Behind : PySem.W.nsIn K mainGlobals "Behind" = some (some (.ref c_Behind)))
    {c_TooMany : Addr} (e_TooMany : PySem.W.nsIn K mainGlobals "TooMany" = some (some (.ref c_TooMany)))
    (q_NoMove : PySem.W.excIn K c_NoMove bmV "ValueError.__new__" = true) (x1_NoMove : PySem.W.findIn K (.ref c_NoMove) "__getattribute__" = some (some (.builtin "BaseException.__getattribute__"))) (x5_NoMove : PySem.W.findIn K (.ref c_NoMove) "__getattr__" = some none) (x6_NoMove : PySem.W.subIn K (.ref c_NoMove) (.type "BaseException") = some true) (x2_NoMove : PySem.W.findObj K c_NoMove none "__class__" = some (.bind (.builtin "getset_descriptor.__get__") (.builtin "object.__class__"))) (x3_NoMove : PySem.W.mroIn K c_NoMove (.type "object") = some true) (x4_NoMove : (PySem.W.clsIn K c_NoMove).isSome = true) (v_NoMove : PySem.W.subIn K (.ref c_NoMove) (.type "ValueError") = some true) (s_NoMove : PySem.W.subIn K (.ref c_NoMove) (.ref c_ShadeError) = some true)
    (n_NoMove_NoFraction : PySem.W.kin_not K c_NoMove c_NoFraction = true)
    (n_NoMove_NoSpot : PySem.W.kin_not K c_NoMove c_NoSpot = true)
    (n_NoMove_NoBody : PySem.W.kin_not K c_NoMove c_NoBody = true)
    (n_NoMove_NoFlat : PySem.W.kin_not K c_NoMove c_NoFlat = true)
    (n_NoMove_NoFace : PySem.W.kin_not K c_NoMove c_NoFace = true)
    (n_NoMove_NoBoard : PySem.W.kin_not K c_NoMove c_NoBoard = true)
    (n_NoMove_NoLight : PySem.W.kin_not K c_NoMove c_NoLight = true)
    (n_NoMove_NoDeed : PySem.W.kin_not K c_NoMove c_NoDeed = true)
    (n_NoMove_NoText : PySem.W.kin_not K c_NoMove c_NoText = true)
    (n_NoMove_NoName : PySem.W.kin_not K c_NoMove c_NoName = true)
    (n_NoMove_NoRow : PySem.W.kin_not K c_NoMove c_NoRow = true)
    (n_NoMove_Behind : PySem.W.kin_not K c_NoMove c_Behind = true)
    (n_NoMove_TooMany : PySem.W.kin_not K c_NoMove c_TooMany = true)
    (xb1 : (PySem.W.clsIn K c_ShadeError).isSome = true) (xb2 : PySem.W.typeIn K (.ref c_ShadeError) = some (.type "type")) (xb3 : PySem.W.subIn K (.ref c_ShadeError) (.type "BaseException") = some true)
    {ad_STILL : Addr} {od_STILL : Option Addr} {nd_STILL : Nat} {sd_STILL : Array (Option Value)}
    {td_STILL_0_0 td_STILL_0_1 td_STILL_0_2 td_STILL_0_3 : Tok}    {ad_STILL_0 : Addr} {od_STILL_0 : Option Addr} {nd_STILL_0 : Nat} {sd_STILL_0 : Array (Option Value)}
    {td_STILL_1_0 td_STILL_1_1 td_STILL_1_2 td_STILL_1_3 : Tok}    {ad_STILL_1 : Addr} {od_STILL_1 : Option Addr} {nd_STILL_1 : Nat} {sd_STILL_1 : Array (Option Value)}
    {td_STILL_2_0 td_STILL_2_1 td_STILL_2_2 td_STILL_2_3 : Tok}    {ad_STILL_2 : Addr} {od_STILL_2 : Option Addr} {nd_STILL_2 : Nat} {sd_STILL_2 : Array (Option Value)}
    {td_STILL_3_0 td_STILL_3_1 td_STILL_3_2 td_STILL_3_3 : Tok}    {ad_STILL_3 : Addr} {od_STILL_3 : Option Addr} {nd_STILL_3 : Nat} {sd_STILL_3 : Array (Option Value)}
    (zd_STILL : PySem.W.nsIn K mainGlobals "STILL" = some (some (.ref ad_STILL)))
    (ld_STILL : K.lookup ad_STILL = some ⟨.type "tuple",od_STILL,.seq #[.ref ad_STILL_0,.ref ad_STILL_1,.ref ad_STILL_2,.ref ad_STILL_3] nd_STILL,sd_STILL⟩)
    (ld_STILL_0 : K.lookup ad_STILL_0 = some ⟨.type "tuple",od_STILL_0,.seq #[.int (1) td_STILL_0_0,.int (0) td_STILL_0_1,.int (0) td_STILL_0_2,.int (0) td_STILL_0_3] nd_STILL_0,sd_STILL_0⟩)
    (ld_STILL_1 : K.lookup ad_STILL_1 = some ⟨.type "tuple",od_STILL_1,.seq #[.int (0) td_STILL_1_0,.int (1) td_STILL_1_1,.int (0) td_STILL_1_2,.int (0) td_STILL_1_3] nd_STILL_1,sd_STILL_1⟩)
    (ld_STILL_2 : K.lookup ad_STILL_2 = some ⟨.type "tuple",od_STILL_2,.seq #[.int (0) td_STILL_2_0,.int (0) td_STILL_2_1,.int (1) td_STILL_2_2,.int (0) td_STILL_2_3] nd_STILL_2,sd_STILL_2⟩)
    (ld_STILL_3 : K.lookup ad_STILL_3 = some ⟨.type "tuple",od_STILL_3,.seq #[.int (0) td_STILL_3_0,.int (0) td_STILL_3_1,.int (0) td_STILL_3_2,.int (1) td_STILL_3_3] nd_STILL_3,sd_STILL_3⟩)
    {ad_OTHERS : Addr} {od_OTHERS : Option Addr} {nd_OTHERS : Nat} {sd_OTHERS : Array (Option Value)}
    {td_OTHERS_0_0 td_OTHERS_0_1 : Tok}    {ad_OTHERS_0 : Addr} {od_OTHERS_0 : Option Addr} {nd_OTHERS_0 : Nat} {sd_OTHERS_0 : Array (Option Value)}
    {td_OTHERS_1_0 td_OTHERS_1_1 : Tok}    {ad_OTHERS_1 : Addr} {od_OTHERS_1 : Option Addr} {nd_OTHERS_1 : Nat} {sd_OTHERS_1 : Array (Option Value)}
    {td_OTHERS_2_0 td_OTHERS_2_1 : Tok}    {ad_OTHERS_2 : Addr} {od_OTHERS_2 : Option Addr} {nd_OTHERS_2 : Nat} {sd_OTHERS_2 : Array (Option Value)}
    (zd_OTHERS : PySem.W.nsIn K mainGlobals "OTHERS" = some (some (.ref ad_OTHERS)))
    (ld_OTHERS : K.lookup ad_OTHERS = some ⟨.type "tuple",od_OTHERS,.seq #[.ref ad_OTHERS_0,.ref ad_OTHERS_1,.ref ad_OTHERS_2] nd_OTHERS,sd_OTHERS⟩)
    (ld_OTHERS_0 : K.lookup ad_OTHERS_0 = some ⟨.type "tuple",od_OTHERS_0,.seq #[.int (1) td_OTHERS_0_0,.int (2) td_OTHERS_0_1] nd_OTHERS_0,sd_OTHERS_0⟩)
    (ld_OTHERS_1 : K.lookup ad_OTHERS_1 = some ⟨.type "tuple",od_OTHERS_1,.seq #[.int (2) td_OTHERS_1_0,.int (0) td_OTHERS_1_1] nd_OTHERS_1,sd_OTHERS_1⟩)
    (ld_OTHERS_2 : K.lookup ad_OTHERS_2 = some ⟨.type "tuple",od_OTHERS_2,.seq #[.int (0) td_OTHERS_2_0,.int (1) td_OTHERS_2_1] nd_OTHERS_2,sd_OTHERS_2⟩)
    : ∃ fd : FuncData,(∀ (s : Shared) (v : Value),BindsTo s fd ⟨[v],[]⟩ [("_law_script",v)]) /\ ∀ base : Heap,K.In base -> base.Ns mainGlobals mg -> BM mg base -> FnOk l.prog w K mg base CX0 8 fa fd ["_law_script"] (lawSpT K [(345,("_law_turns_right.<locals>.<lambda>" : Str)),(352,("_law_slants_right.<locals>.<lambda>" : Str)),(359,("_law_stretches_right.<locals>.<lambda>" : Str)),(364,("_law_looks_right.<locals>.<lambda>" : Str))]) := by
  obtain ⟨f0,d0,a0,F0⟩ := h0.ex
  obtain ⟨f1,d1,a1,F1⟩ := h1.ex
  obtain ⟨f2,d2,a2,F2⟩ := h2.ex
  obtain ⟨f3,d3,a3,F3⟩ := h3.ex
  obtain ⟨f4,d4,a4,F4⟩ := h4.ex
  obtain ⟨f5,d5,a5,F5⟩ := h5.ex
  obtain ⟨f6,d6,a6,F6⟩ := h6.ex
  obtain ⟨f7,d7,a7,F7⟩ := h7.ex
  obtain ⟨f8,d8,a8,F8⟩ := h8.ex
  obtain ⟨f9,d9,a9,F9⟩ := h9.ex
  obtain ⟨f10,d10,a10,F10⟩ := h10.ex
  obtain ⟨f11,d11,a11,F11⟩ := h11.ex
  obtain ⟨f12,d12,a12,F12⟩ := h12.ex
  obtain ⟨f13,d13,a13,F13⟩ := h13.ex
  obtain ⟨f14,d14,a14,F14⟩ := h14.ex
  obtain ⟨f15,d15,a15,F15⟩ := h15.ex
  obtain ⟨f16,d16,a16,F16⟩ := h16.ex
  obtain ⟨f17,d17,a17,F17⟩ := h17.ex
  obtain ⟨f18,d18,a18,F18⟩ := h18.ex
  obtain ⟨f19,d19,a19,F19⟩ := h19.ex
  obtain ⟨f20,d20,a20,F20⟩ := h20.ex
  obtain ⟨f21,d21,a21,F21⟩ := h21.ex
  obtain ⟨f22,d22,a22,F22⟩ := h22.ex
  obtain ⟨f23,d23,a23,F23⟩ := h23.ex
  obtain ⟨f24,d24,a24,F24⟩ := h24.ex
  obtain ⟨f25,d25,a25,F25⟩ := h25.ex
  have e := hfa.symm.trans (PySem.W.mg_of X G a25)
  cases e
  have Z : Bi mg := ⟨PySem.W.mg_none_of X G z_abs,PySem.W.mg_none_of X G z_len,PySem.W.mg_none_of X G z_max,PySem.W.mg_none_of X G z_min,PySem.W.mg_none_of X G z_range,PySem.W.mg_none_of X G z_isinstance,PySem.W.mg_none_of X G z_int,PySem.W.mg_none_of X G z_bool,PySem.W.mg_none_of X G z_tuple,PySem.W.mg_none_of X G z_sum,PySem.W.mg_none_of X G z_all,PySem.W.mg_none_of X G z_any,PySem.W.mg_none_of X G z_list,PySem.W.mg_none_of X G z_ValueError⟩
  have bl := F25.plain.binds (ps := ["_law_script"]) fun _ _ _ _ _ _ us hl => match us,hl with | [_],_ => rfl
  obtain ⟨oc,od,kV,doc,pm,an,ct,osl,el,lk,hcd⟩ := F25.ex
  refine ⟨d25,fun s v => by rw [el]; exact .of_eq rfl,?_⟩
  have Y := fun (base : Heap) (kb : K.In base) (gb : base.Ns mainGlobals mg) => (⟨PySem.W.mg_of X G e_ShadeError,PySem.W.mg_of X G e_NoFraction,PySem.W.mg_of X G e_NoSpot,PySem.W.mg_of X G e_NoBody,PySem.W.mg_of X G e_NoMove,PySem.W.mg_of X G e_NoFlat,PySem.W.mg_of X G e_NoFace,PySem.W.mg_of X G e_NoBoard,PySem.W.mg_of X G e_NoLight,PySem.W.mg_of X G e_NoDeed,PySem.W.mg_of X G e_NoText,PySem.W.mg_of X G e_NoName,PySem.W.mg_of X G e_NoRow,PySem.W.mg_of X G e_Behind,PySem.W.mg_of X G e_TooMany,own_K kb gb e_NoMove q_NoMove,⟨x1_NoMove,x5_NoMove,x2_NoMove,x3_NoMove,x4_NoMove,x6_NoMove⟩,v_NoMove,s_NoMove,n_NoMove_NoFraction,n_NoMove_NoSpot,n_NoMove_NoBody,n_NoMove_NoFlat,n_NoMove_NoFace,n_NoMove_NoBoard,n_NoMove_NoLight,n_NoMove_NoDeed,n_NoMove_NoText,n_NoMove_NoName,n_NoMove_NoRow,n_NoMove_Behind,n_NoMove_TooMany,⟨xb1,xb2,xb3⟩,⟨ad_STILL,PySem.W.mg_of X G zd_STILL,fun M H => ⟨ad_STILL,[V.ref ad_STILL_0,V.ref ad_STILL_1,V.ref ad_STILL_2,V.ref ad_STILL_3],rfl,.inr ⟨_,_,_,ld_STILL,rfl,rfl,(Nat.le_trans (Nat.le_of_ble_eq_true rfl) le1000),(Paired.cons rfl (Paired.cons rfl (Paired.cons rfl (Paired.cons rfl Paired.nil))))⟩,⟨_,_,rfl,⟨ad_STILL_0,[V.int (1),V.int (0),V.int (0),V.int (0)],rfl,.inr ⟨_,_,_,ld_STILL_0,rfl,rfl,(Nat.le_trans (Nat.le_of_ble_eq_true rfl) le1000),(Paired.cons ⟨_,rfl⟩ (Paired.cons ⟨_,rfl⟩ (Paired.cons ⟨_,rfl⟩ (Paired.cons ⟨_,rfl⟩ Paired.nil))))⟩,⟨_,_,rfl,rfl,⟨_,_,rfl,rfl,⟨_,_,rfl,rfl,⟨_,_,rfl,rfl,rfl⟩⟩⟩⟩⟩,⟨_,_,rfl,⟨ad_STILL_1,[V.int (0),V.int (1),V.int (0),V.int (0)],rfl,.inr ⟨_,_,_,ld_STILL_1,rfl,rfl,(Nat.le_trans (Nat.le_of_ble_eq_true rfl) le1000),(Paired.cons ⟨_,rfl⟩ (Paired.cons ⟨_,rfl⟩ (Paired.cons ⟨_,rfl⟩ (Paired.cons ⟨_,rfl⟩ Paired.nil))))⟩,⟨_,_,rfl,rfl,⟨_,_,rfl,rfl,⟨_,_,rfl,rfl,⟨_,_,rfl,rfl,rfl⟩⟩⟩⟩⟩,⟨_,_,rfl,⟨ad_STILL_2,[V.int (0),V.int (0),V.int (1),V.int (0)],rfl,.inr ⟨_,_,_,ld_STILL_2,rfl,rfl,(Nat.le_trans (Nat.le_of_ble_eq_true rfl) le1000),(Paired.cons ⟨_,rfl⟩ (Paired.cons ⟨_,rfl⟩ (Paired.cons ⟨_,rfl⟩ (Paired.cons ⟨_,rfl⟩ Paired.nil))))⟩,⟨_,_,rfl,rfl,⟨_,_,rfl,rfl,⟨_,_,rfl,rfl,⟨_,_,rfl,rfl,rfl⟩⟩⟩⟩⟩,⟨_,_,rfl,⟨ad_STILL_3,[V.int (0),V.int (0),V.int (0),V.int (1)],rfl,.inr ⟨_,_,_,ld_STILL_3,rfl,rfl,(Nat.le_trans (Nat.le_of_ble_eq_true rfl) le1000),(Paired.cons ⟨_,rfl⟩ (Paired.cons ⟨_,rfl⟩ (Paired.cons ⟨_,rfl⟩ (Paired.cons ⟨_,rfl⟩ Paired.nil))))⟩,⟨_,_,rfl,rfl,⟨_,_,rfl,rfl,⟨_,_,rfl,rfl,⟨_,_,rfl,rfl,rfl⟩⟩⟩⟩⟩,rfl⟩⟩⟩⟩⟩⟩,⟨ad_OTHERS,PySem.W.mg_of X G zd_OTHERS,fun M H => ⟨ad_OTHERS,[V.ref ad_OTHERS_0,V.ref ad_OTHERS_1,V.ref ad_OTHERS_2],rfl,.inr ⟨_,_,_,ld_OTHERS,rfl,rfl,(Nat.le_trans (Nat.le_of_ble_eq_true rfl) le1000),(Paired.cons rfl (Paired.cons rfl (Paired.cons rfl Paired.nil)))⟩,⟨_,_,rfl,⟨ad_OTHERS_0,[V.int (1),V.int (2)],rfl,.inr ⟨_,_,_,ld_OTHERS_0,rfl,rfl,(Nat.le_trans (Nat.le_of_ble_eq_true rfl) le1000),(Paired.cons ⟨_,rfl⟩ (Paired.cons ⟨_,rfl⟩ Paired.nil))⟩,⟨_,_,rfl,rfl,⟨_,_,rfl,rfl,rfl⟩⟩⟩,⟨_,_,rfl,⟨ad_OTHERS_1,[V.int (2),V.int (0)],rfl,.inr ⟨_,_,_,ld_OTHERS_1,rfl,rfl,(Nat.le_trans (Nat.le_of_ble_eq_true rfl) le1000),(Paired.cons ⟨_,rfl⟩ (Paired.cons ⟨_,rfl⟩ Paired.nil))⟩,⟨_,_,rfl,rfl,⟨_,_,rfl,rfl,rfl⟩⟩⟩,⟨_,_,rfl,⟨ad_OTHERS_2,[V.int (0),V.int (1)],rfl,.inr ⟨_,_,_,ld_OTHERS_2,rfl,rfl,(Nat.le_trans (Nat.le_of_ble_eq_true rfl) le1000),(Paired.cons ⟨_,rfl⟩ (Paired.cons ⟨_,rfl⟩ Paired.nil))⟩,⟨_,_,rfl,rfl,⟨_,_,rfl,rfl,rfl⟩⟩⟩,rfl⟩⟩⟩⟩⟩⟩ : Ex K mg base ⟨c_ShadeError,c_NoFraction,c_NoSpot,c_NoBody,c_NoMove,c_NoFlat,c_NoFace,c_NoBoard,c_NoLight,c_NoDeed,c_NoText,c_NoName,c_NoRow,c_Behind,c_TooMany⟩)
  have G0 := fun (base : Heap) (kb : K.In base) (gb : base.Ns mainGlobals mg) => Callee.mk' F0 (ok__law_bag (P := l.prog) (w := w) (base := base) F0 Z (Y base kb gb)) (PySem.W.mg_of X G a0) (F0.binds (by walk_at "b2"))
  have G1 := fun (base : Heap) (kb : K.In base) (gb : base.Ns mainGlobals mg) => Callee.mk' F1 (ok__law_digit (P := l.prog) (w := w) (base := base) F1 Z (Y base kb gb)) (PySem.W.mg_of X G a1) (F1.binds (by walk_at "b2"))
  have G2 := fun (base : Heap) (kb : K.In base) (gb : base.Ns mainGlobals mg) => Callee.mk' F2 (ok__law_number (P := l.prog) (w := w) (base := base) F2 Z (Y base kb gb) ⟨(G1 base kb gb)⟩) (PySem.W.mg_of X G a2) (F2.binds (by walk_at "b2"))
  have G3 := fun (base : Heap) (kb : K.In base) (gb : base.Ns mainGlobals mg) => Callee.mk' F3 (ok__law_whole (P := l.prog) (w := w) (base := base) F3 Z (Y base kb gb)) (PySem.W.mg_of X G a3) (F3.binds (by walk_at "b1"))
  have G4 := fun (base : Heap) (kb : K.In base) (gb : base.Ns mainGlobals mg) => Callee.mk' F4 (ok__law_is_move (P := l.prog) (w := w) (base := base) F4 Z (Y base kb gb) ⟨(G3 base kb gb)⟩) (PySem.W.mg_of X G a4) (F4.binds (by walk_at "b2"))
  have G5 := fun (base : Heap) (kb : K.In base) (gb : base.Ns mainGlobals mg) => Callee.mk' F5 (ok_still (P := l.prog) (w := w) (base := base) F5 Z (Y base kb gb)) (PySem.W.mg_of X G a5) (F5.binds (by walk_at "b0"))
  have G6 := fun (base : Heap) (kb : K.In base) (gb : base.Ns mainGlobals mg) => Callee.mk' F6 (ok__law_with (P := l.prog) (w := w) (base := base) F6 Z (Y base kb gb)) (PySem.W.mg_of X G a6) (F6.binds (by walk_at "b1"))
  have G7 := fun (base : Heap) (kb : K.In base) (gb : base.Ns mainGlobals mg) => Callee.mk' F7 (ok_still_but (P := l.prog) (w := w) (base := base) F7 Z (Y base kb gb)) (PySem.W.mg_of X G a7) (F7.binds (by walk_at "b1"))
  have G8 := fun (base : Heap) (kb : K.In base) (gb : base.Ns mainGlobals mg) => Callee.mk' F8 (ok_shift (P := l.prog) (w := w) (base := base) F8 Z (Y base kb gb) ⟨(G7 base kb gb)⟩) (PySem.W.mg_of X G a8) (F8.binds (by walk_at "b3"))
  have G9 := fun (base : Heap) (kb : K.In base) (gb : base.Ns mainGlobals mg) => Callee.mk' F9 (ok__law_odd (P := l.prog) (w := w) (base := base) F9 Z (Y base kb gb) ⟨(G1 base kb gb)⟩) (PySem.W.mg_of X G a9) (F9.binds (by walk_at "b1"))
  have G10 := fun (base : Heap) (kb : K.In base) (gb : base.Ns mainGlobals mg) => Callee.mk' F10 (ok__law_axis (P := l.prog) (w := w) (base := base) F10 Z (Y base kb gb) ⟨(G1 base kb gb),(G9 base kb gb)⟩) (PySem.W.mg_of X G a10) (F10.binds (by walk_at "b1"))
  have G11 := fun (base : Heap) (kb : K.In base) (gb : base.Ns mainGlobals mg) => Callee.mk' F11 (ok__law_good_axis (P := l.prog) (w := w) (base := base) F11 Z (Y base kb gb) ⟨(G3 base kb gb)⟩) (PySem.W.mg_of X G a11) (F11.binds (by walk_at "b1"))
  have G12 := fun (base : Heap) (kb : K.In base) (gb : base.Ns mainGlobals mg) => Callee.mk' F12 (ok_is_whole (P := l.prog) (w := w) (base := base) F12 Z (Y base kb gb)) (PySem.W.mg_of X G a12) (F12.binds (by walk_at "b1"))
  have G13 := fun (base : Heap) (kb : K.In base) (gb : base.Ns mainGlobals mg) => Callee.mk' F13 (ok_is_coordinate (P := l.prog) (w := w) (base := base) F13 Z (Y base kb gb) ⟨(G12 base kb gb)⟩) (PySem.W.mg_of X G a13) (F13.binds (by walk_at "b1"))
  have G14 := fun (base : Heap) (kb : K.In base) (gb : base.Ns mainGlobals mg) => Callee.mk' F14 (ok_quarter (P := l.prog) (w := w) (base := base) F14 Z (Y base kb gb) ⟨(G7 base kb gb),(G13 base kb gb)⟩) (PySem.W.mg_of X G a14) (F14.binds (by walk_at "b1"))
  have G15 := fun (base : Heap) (kb : K.In base) (gb : base.Ns mainGlobals mg) => Callee.mk' F15 (ok__law_quarter_due (P := l.prog) (w := w) (base := base) F15 Z (Y base kb gb) ⟨(G6 base kb gb)⟩) (PySem.W.mg_of X G a15) (F15.binds (by walk_at "b1"))
  have G16 := fun (base : Heap) (kb : K.In base) (gb : base.Ns mainGlobals mg) => CalleeM.mk' F16 (ok__law_is (P := l.prog) (w := w) (base := base) F16 Z (Y base kb gb)) (PySem.W.mg_of X G a16) (F16.binds (by walk_at "b2"))
  have G18 := fun (base : Heap) (kb : K.In base) (gb : base.Ns mainGlobals mg) (bm : BM mg base) => Callee.mk' F18.plain (ok__law_turns_right (P := l.prog) (w := w) (base := base) (tb := [(345,("_law_turns_right.<locals>.<lambda>" : Str)),(352,("_law_slants_right.<locals>.<lambda>" : Str)),(359,("_law_stretches_right.<locals>.<lambda>" : Str)),(364,("_law_looks_right.<locals>.<lambda>" : Str))]) F18 Z (Y base kb gb) ⟨(G10 base kb gb),(G4 base kb gb),(G11 base kb gb),(G14 base kb gb),(G15 base kb gb)⟩ (PySem.W.codeHd_of_K kb ht18) bm (.head _) (refc0 F17 Z (PySem.W.mg_of X G a17) (F17.binds (by walk_at "b1")) Y (fun base kb gb => ⟨(G16 base kb gb)⟩) (fun base kb gb => G14 base kb gb))) (PySem.W.mg_of X G a18) (F18.plain.binds (by walk_at "b1"))
  have G19 := fun (base : Heap) (kb : K.In base) (gb : base.Ns mainGlobals mg) => Callee.mk' F19 (ok_slant (P := l.prog) (w := w) (base := base) F19 Z (Y base kb gb) ⟨(G7 base kb gb),(G13 base kb gb)⟩) (PySem.W.mg_of X G a19) (F19.binds (by walk_at "b3"))
  have G20 := fun (base : Heap) (kb : K.In base) (gb : base.Ns mainGlobals mg) (bm : BM mg base) => Callee.mk' F20.plain (ok__law_slants_right (P := l.prog) (w := w) (base := base) (tb := [(345,("_law_turns_right.<locals>.<lambda>" : Str)),(352,("_law_slants_right.<locals>.<lambda>" : Str)),(359,("_law_stretches_right.<locals>.<lambda>" : Str)),(364,("_law_looks_right.<locals>.<lambda>" : Str))]) F20 Z (Y base kb gb) ⟨(G10 base kb gb),(G2 base kb gb),(G4 base kb gb),(G19 base kb gb),(G6 base kb gb),(G11 base kb gb)⟩ (PySem.W.codeHd_of_K kb ht20) bm (.tail _ (.head _)) (refc1 F17 Z (PySem.W.mg_of X G a17) (F17.binds (by walk_at "b1")) Y (fun base kb gb => ⟨(G16 base kb gb)⟩) (fun base kb gb => G19 base kb gb))) (PySem.W.mg_of X G a20) (F20.plain.binds (by walk_at "b1"))
  have G21 := fun (base : Heap) (kb : K.In base) (gb : base.Ns mainGlobals mg) => Callee.mk' F21 (ok_stretch (P := l.prog) (w := w) (base := base) F21 Z (Y base kb gb) ⟨(G7 base kb gb),(G12 base kb gb)⟩) (PySem.W.mg_of X G a21) (F21.binds (by walk_at "b3"))
  have G22 := fun (base : Heap) (kb : K.In base) (gb : base.Ns mainGlobals mg) (bm : BM mg base) => Callee.mk' F22.plain (ok__law_stretches_right (P := l.prog) (w := w) (base := base) (tb := [(345,("_law_turns_right.<locals>.<lambda>" : Str)),(352,("_law_slants_right.<locals>.<lambda>" : Str)),(359,("_law_stretches_right.<locals>.<lambda>" : Str)),(364,("_law_looks_right.<locals>.<lambda>" : Str))]) F22 Z (Y base kb gb) ⟨(G1 base kb gb),(G4 base kb gb),(G2 base kb gb),(G21 base kb gb),(G6 base kb gb),(G9 base kb gb),(G3 base kb gb)⟩ (PySem.W.codeHd_of_K kb ht22) bm (.tail _ (.tail _ (.head _))) (refc2 F17 Z (PySem.W.mg_of X G a17) (F17.binds (by walk_at "b1")) Y (fun base kb gb => ⟨(G16 base kb gb)⟩) (fun base kb gb => G21 base kb gb))) (PySem.W.mg_of X G a22) (F22.plain.binds (by walk_at "b1"))
  have G23 := fun (base : Heap) (kb : K.In base) (gb : base.Ns mainGlobals mg) => Callee.mk' F23 (ok_look_from (P := l.prog) (w := w) (base := base) F23 Z (Y base kb gb) ⟨(G12 base kb gb)⟩) (PySem.W.mg_of X G a23) (F23.binds (by walk_at "b1"))
  have G24 := fun (base : Heap) (kb : K.In base) (gb : base.Ns mainGlobals mg) (bm : BM mg base) => Callee.mk' F24.plain (ok__law_looks_right (P := l.prog) (w := w) (base := base) (tb := [(345,("_law_turns_right.<locals>.<lambda>" : Str)),(352,("_law_slants_right.<locals>.<lambda>" : Str)),(359,("_law_stretches_right.<locals>.<lambda>" : Str)),(364,("_law_looks_right.<locals>.<lambda>" : Str))]) F24 Z (Y base kb gb) ⟨(G4 base kb gb),(G1 base kb gb),(G23 base kb gb),(G2 base kb gb),(G9 base kb gb),(G3 base kb gb)⟩ (PySem.W.codeHd_of_K kb ht24) bm (.tail _ (.tail _ (.tail _ (.head _)))) (refc3 F17 Z (PySem.W.mg_of X G a17) (F17.binds (by walk_at "b1")) Y (fun base kb gb => ⟨(G16 base kb gb)⟩) (fun base kb gb => G23 base kb gb))) (PySem.W.mg_of X G a24) (F24.plain.binds (by walk_at "b1"))
  exact fun base kb gb bm => ok_law (P := l.prog) (w := w) (base := base) (tb := [(345,("_law_turns_right.<locals>.<lambda>" : Str)),(352,("_law_slants_right.<locals>.<lambda>" : Str)),(359,("_law_stretches_right.<locals>.<lambda>" : Str)),(364,("_law_looks_right.<locals>.<lambda>" : Str))]) F25 Z (Y base kb gb) ⟨(G0 base kb gb),(G2 base kb gb),(G4 base kb gb),(G5 base kb gb),(G6 base kb gb),(G8 base kb gb),(G18 base kb gb bm),(G20 base kb gb bm),(G22 base kb gb bm),(G24 base kb gb bm)⟩
theorem walk {tb : List (Addr × Str)}{l : PySem.W.OpenLaw}{q : Program}{loose : List Str}{XP : (Str -> Option Value) -> Heap -> Prop}{YP : World -> Heap -> Prop}{d : DefRec}{K : Params -> PySem.W.Frag}(hn : l.most = some 63)(hdf : d.params.defaults = [])
    (hI : ∀ (w : World) (h : Heap),YP w h -> (K w.params).In h) (hY : ∀ (w : World) (h : Heap),YP w h -> ∀ p ∈ tb,h.get? p.1 = some (PySem.W.tabObj #[]) /\ (K w.params).lookup p.1 = none /\ ∃ c,PySem.W.CodeHd h c p.1) (hnd : (tb.map (·.1)).Nodup)
    (F : ∀ (w : World) (mg : Str -> Option Value) (fa : Addr) (h : Heap),(K w.params).In h -> h.Ns mainGlobals mg -> mg d.name = some (.ref fa) ->
      ∃ fd : FuncData,(∀ (s : Shared) (u : Value),BindsTo s fd ⟨[u],[]⟩ [("_law_script",u)]) /\ ∀ base : Heap,(K w.params).In base -> base.Ns mainGlobals mg -> BM mg base -> FnOk l.prog w (K w.params) mg base CX0 8 fa fd ["_law_script"] (lawSpT (K w.params) tb)) :
    PySem.W.WalkO q loose XP YP l.row.toRowW d [] (fun f vs => PySem.call f vs) :=
  L2.walk_ofT (tb := tb) (n := 63) (k := 8) (x := "_law_script") (CX := fun _ => CX0) (sp := fun w => lawSpT (K w.params) tb) hn (by decide) hdf ⟨rfl,by decide,by decide,rfl⟩ (fun w h y => ⟨hI w h y,hY w h y⟩) hnd F (fun _ _ a ns hl hT hS => ⟨a,ns,rfl,hS,hl,hT,fun _ h => ⟨rfl,h⟩⟩) fun _ _ _ _ _ z => z
theorem tab_mk {h : Heap}{K : PySem.W.Frag}{c P : Addr}(X : K.In h)(ht : h.get? P = some (PySem.W.tabObj #[]))(hk : K.lookup P = none)(hc : PySem.W.codeHdIn K c P = true) : h.get? P = some (PySem.W.tabObj #[]) /\ K.lookup P = none /\ ∃ c,PySem.W.CodeHd h c P := ⟨ht,hk,c,PySem.W.codeHd_of_K X hc⟩
end K
open PySem PySem.W PyProof.Rows
theorem PySem.W.Fast.tw17277861350922814879 : True := trivial
theorem PySem.W.Fast.tw14672982398835087453 : True := trivial
theorem PySem.W.Fast.tw7321162338881086012 : True := trivial
theorem PySem.W.Fast.tw17184165231236616700 : True := trivial
theorem PySem.W.Fast.tw17676101808817904441 : True := trivial
theorem PySem.W.Fast.tw3719277243832785174 : True := trivial
theorem PySem.W.Fast.tw16531147947571422069 : True := trivial
theorem PySem.W.Fast.tw10636517187246975476 : True := trivial
theorem PySem.W.Fast.tw2534326976147839795 : True := trivial
theorem PySem.W.Fast.tw997510770015786003 : True := trivial
theorem PySem.W.Fast.tw16684277325903757073 : True := trivial
theorem PySem.W.Fast.tw3584998075912746449 : True := trivial
theorem PySem.W.Fast.tw7357628904127988368 : True := trivial
theorem PySem.W.Fast.tw18155807698270030928 : True := trivial
theorem PySem.W.Fast.tw15647941491060401647 : True := trivial
theorem PySem.W.Fast.tw10987062538482008559 : True := trivial
theorem PySem.W.Fast.tw15761471291767458095 : True := trivial
theorem PySem.W.Fast.tw4121202352306347822 : True := trivial
theorem PySem.W.Fast.tw10435456609816110862 : True := trivial
theorem PySem.W.Fast.tw14570776540453958798 : True := trivial
theorem PySem.W.Fast.tw9573766887309843244 : True := trivial
theorem PySem.W.Fast.tw16019087261479754699 : True := trivial
theorem PySem.W.Fast.tw12034203362473758282 : True := trivial
theorem PySem.W.Fast.tw2414144535706221098 : True := trivial
theorem PySem.W.Fast.tw7775987842288537770 : True := trivial
theorem PySem.W.Fast.tw9214525104740133898 : True := trivial
theorem PySem.W.Fast.tw2370551499188110665 : True := trivial
theorem PySem.W.Fast.tw9881221101412527273 : True := trivial
theorem PySem.W.Fast.tw16441341643807239528 : True := trivial
theorem PySem.W.Fast.tw14945473461560511559 : True := trivial
theorem PySem.W.Fast.tw13405009486139409189 : True := trivial
theorem PySem.W.Fast.tw10356509352139211973 : True := trivial
theorem PySem.W.Fast.tw16750217381794450403 : True := trivial
theorem PySem.W.Fast.tw17168832927572393827 : True := trivial
theorem PySem.W.Fast.tw2666560749233668579 : True := trivial
theorem PySem.W.Fast.tw10973196813140202691 : True := trivial
theorem PySem.W.Fast.tw10843920194357242594 : True := trivial
theorem PySem.W.Fast.tw12796387147964673346 : True := trivial
theorem PySem.W.Fast.tw17666343559881563362 : True := trivial
theorem PySem.W.Fast.tw12229179195092922647 : True := trivial
local macro_rules | `(tactic| walk_at "fc") => `(tactic| (refine' _root_.K.fnc_in ?a ?l ?c ?k; (case a => k_is); (case l => k_is); (case c => k_is); (case k => k_is)))
local macro_rules | `(tactic| walk_at "fn") => `(tactic| (refine' _root_.K.fn_in ?a ?l ?c ?k; (case a => k_is); (case l => k_is); (case c => k_is); (case k => k_is)))
set_option maxRecDepth 100000 in
set_option maxHeartbeats 0 in
theorem PySem.Challenge.cw_onceshade_k14_moves_told_holds : PySem.Challenge.rw_onceshade_k14_moves_told.Holds := by
  w_on; o_law; k_head; (case hw => w_witness2)
  k_fill
  refine K.walk (tb := [(345,("_law_turns_right.<locals>.<lambda>" : Str)),(352,("_law_slants_right.<locals>.<lambda>" : Str)),(359,("_law_stretches_right.<locals>.<lambda>" : Str)),(364,("_law_looks_right.<locals>.<lambda>" : Str))]) (l := PySem.Challenge.rw_onceshade_k14_moves_told) rfl rfl (fun w h Y => PySem.W.km_in_of Y) ?Y (by decide) ?F
  case Y =>
    intro w h Y
    have KX := PySem.W.km_in_of Y
    have KT := PySem.W.km_tabs_of Y
    intro p hp
    simp only [List.mem_cons,List.not_mem_nil,or_false] at hp
    rcases hp with e | e | e | e
    · subst e; exact K.tab_mk (c := 349) KX (KT 345 (by simp)) (by kernel_rfl) (by kernel_rfl)
    · subst e; exact K.tab_mk (c := 356) KX (KT 352 (by simp)) (by kernel_rfl) (by kernel_rfl)
    · subst e; exact K.tab_mk (c := 361) KX (KT 359 (by simp)) (by kernel_rfl) (by kernel_rfl)
    · subst e; exact K.tab_mk (c := 368) KX (KT 364 (by simp)) (by kernel_rfl) (by kernel_rfl)
  case F =>
    intro w mg fa h KX G hmg
    refine' K.all_mk KX G hmg ?h0 ?h1 ?h2 ?h3 ?h4 ?h5 ?h6 ?h7 ?h8 ?h9 ?h10 ?h11 ?h12 ?h13 ?h14 ?h15 ?h16 ?h17 ?h18 ?h19 ?h20 ?h21 ?h22 ?h23 ?h24 ?h25 ?ht18 ?ht20 ?ht22 ?ht24 ?z_abs ?z_len ?z_max ?z_min ?z_range ?z_isinstance ?z_int ?z_bool ?z_tuple ?z_sum ?z_all ?z_any ?z_list ?z_ValueError ?e_ShadeError ?e_NoFraction ?e_NoSpot ?e_NoBody ?e_NoMove ?e_NoFlat ?e_NoFace ?e_NoBoard ?e_NoLight ?e_NoDeed ?e_NoText ?e_NoName ?e_NoRow ?e_Behind ?e_TooMany ?q_NoMove ?x1_NoMove ?x5_NoMove ?x6_NoMove ?x2_NoMove ?x3_NoMove ?x4_NoMove ?v_NoMove ?s_NoMove ?n_NoMove_NoFraction ?n_NoMove_NoSpot ?n_NoMove_NoBody ?n_NoMove_NoFlat ?n_NoMove_NoFace ?n_NoMove_NoBoard ?n_NoMove_NoLight ?n_NoMove_NoDeed ?n_NoMove_NoText ?n_NoMove_NoName ?n_NoMove_NoRow ?n_NoMove_Behind ?n_NoMove_TooMany ?xb1 ?xb2 ?xb3 ?zd_STILL ?ld_STILL ?ld_STILL_0 ?ld_STILL_1 ?ld_STILL_2 ?ld_STILL_3 ?zd_OTHERS ?ld_OTHERS ?ld_OTHERS_0 ?ld_OTHERS_1 ?ld_OTHERS_2
    (case h0 => walk_at "fn")
    (case h1 => walk_at "fn")
    (case h2 => walk_at "fn")
    (case h3 => walk_at "fn")
    (case h4 => walk_at "fn")
    (case h5 => walk_at "fn")
    (case h6 => walk_at "fn")
    (case h7 => walk_at "fn")
    (case h8 => walk_at "fn")
    (case h9 => walk_at "fn")
    (case h10 => walk_at "fn")
    (case h11 => walk_at "fn")
    (case h12 => walk_at "fn")
    (case h13 => walk_at "fn")
    (case h14 => walk_at "fn")
    (case h15 => walk_at "fn")
    (case h16 => walk_at "fn")
    (case h17 => walk_at "fn")
    (case h18 => walk_at "fc")
    (case h19 => walk_at "fn")
    (case h20 => walk_at "fc")
    (case h21 => walk_at "fn")
    (case h22 => walk_at "fc")
    (case h23 => walk_at "fn")
    (case h24 => walk_at "fc")
    (case h25 => walk_at "fc")
    (case ht18 => kernel_rfl)
    (case ht20 => kernel_rfl)
    (case ht22 => kernel_rfl)
    (case ht24 => kernel_rfl)
    (case z_abs => k_is)
    (case z_len => k_is)
    (case z_max => k_is)
    (case z_min => k_is)
    (case z_range => k_is)
    (case z_isinstance => k_is)
    (case z_int => k_is)
    (case z_bool => k_is)
    (case z_tuple => k_is)
    (case z_sum => k_is)
    (case z_all => k_is)
    (case z_any => k_is)
    (case z_list => k_is)
    (case z_ValueError => k_is)
    (case e_ShadeError => k_is)
    (case e_NoFraction => k_is)
    (case e_NoSpot => k_is)
    (case e_NoBody => k_is)
    (case e_NoMove => k_is)
    (case e_NoFlat => k_is)
    (case e_NoFace => k_is)
    (case e_NoBoard => k_is)
    (case e_NoLight => k_is)
    (case e_NoDeed => k_is)
    (case e_NoText => k_is)
    (case e_NoName => k_is)
    (case e_NoRow => k_is)
    (case e_Behind => k_is)
    (case e_TooMany => k_is)
    (case q_NoMove => k_exc)
    (case x1_NoMove => kernel_rfl)
    (case x5_NoMove => kernel_rfl)
    (case x6_NoMove => kernel_rfl)
    (case x2_NoMove => kernel_rfl)
    (case x3_NoMove => kernel_rfl)
    (case x4_NoMove => kernel_rfl)
    (case v_NoMove => kernel_rfl)
    (case s_NoMove => kernel_rfl)
    (case n_NoMove_NoFraction => kernel_rfl)
    (case n_NoMove_NoSpot => kernel_rfl)
    (case n_NoMove_NoBody => kernel_rfl)
    (case n_NoMove_NoFlat => kernel_rfl)
    (case n_NoMove_NoFace => kernel_rfl)
    (case n_NoMove_NoBoard => kernel_rfl)
    (case n_NoMove_NoLight => kernel_rfl)
    (case n_NoMove_NoDeed => kernel_rfl)
    (case n_NoMove_NoText => kernel_rfl)
    (case n_NoMove_NoName => kernel_rfl)
    (case n_NoMove_NoRow => kernel_rfl)
    (case n_NoMove_Behind => kernel_rfl)
    (case n_NoMove_TooMany => kernel_rfl)
    (case xb1 => kernel_rfl)
    (case xb2 => kernel_rfl)
    (case xb3 => kernel_rfl)
    (case zd_STILL => k_is)
    (case ld_STILL => k_is)
    (case ld_STILL_0 => k_is)
    (case ld_STILL_1 => k_is)
    (case ld_STILL_2 => k_is)
    (case ld_STILL_3 => k_is)
    (case zd_OTHERS => k_is)
    (case ld_OTHERS => k_is)
    (case ld_OTHERS_0 => k_is)
    (case ld_OTHERS_1 => k_is)
    (case ld_OTHERS_2 => k_is)
