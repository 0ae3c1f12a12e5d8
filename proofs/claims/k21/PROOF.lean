import PyProof.Rows.All
import Wide.All
import OpenK.AllK
import Wide.FinOn
import Lean
import PyProof.EqAt
import PyProof.EqKinds
import PyProof.TupleCall
import PySem.Challenge.RW_onceshade_k21_worths
set_option Elab.async false
set_option linter.all false
set_option maxRecDepth 100000
namespace L2
open PySem PySem.Spec PyProof.Rows
abbrev Key := Sum Int Str
def keyIs : Key -> Value -> Bool
  | .inl k,v => Value.isInt k v
  | .inr x,v => Value.isStrOf x v
def keyH (w : World) : Key -> Int
  | .inl k => hashInt k
  | .inr x => hashStr w x
theorem keyIs_shape : ∀ {k : Key} {v : Value},keyIs k v = true -> (∃ i t,k = Sum.inl i /\ v = Value.int i t) \/ (∃ x t,k = Sum.inr x /\ v = Value.str x t)
  | .inl i,v,h => by
    obtain ⟨t,e⟩ := Value.isInt_shape (k := i) (v := v) h
    exact .inl ⟨i,t,rfl,e⟩
  | .inr x,v,h => by
    obtain ⟨t,e⟩ := Value.isStrOf_shape (x := x) (v := v) h
    exact .inr ⟨x,t,rfl,e⟩
theorem key_ll (a b : Int) : decide ((Sum.inl a : Key) = Sum.inl b) = (a == b) := by
  by_cases e : a = b
  · subst e; simp
  · have h : ¬ (Sum.inl a : Key) = Sum.inl b := fun q => e (Sum.inl.inj q)
    rw [decide_eq_false h]
    exact (beq_eq_false_iff_ne.mpr e).symm
theorem key_rr (a b : Str) : decide ((Sum.inr a : Key) = Sum.inr b) = decide (a = b) := by
  by_cases e : a = b
  · subst e; simp
  · have h : ¬ (Sum.inr a : Key) = Sum.inr b := fun q => e (Sum.inr.inj q)
    rw [decide_eq_false h,decide_eq_false e]
theorem key_lr (a : Int)(b : Str) : decide ((Sum.inl a : Key) = Sum.inr b) = false := decide_eq_false (fun q => nomatch q)
theorem key_rl (a : Str)(b : Int) : decide ((Sum.inr a : Key) = Sum.inl b) = false := decide_eq_false (fun q => nomatch q)
def mixKind (prog : Program)(w : World) : PySem.KeyKind prog w Key where
  is := keyIs
  hash := keyH w
  inj := fun v a b ha hb => by
    rcases keyIs_shape ha with ⟨i,t,rfl,rfl⟩ | ⟨x,t,rfl,rfl⟩
    · rcases keyIs_shape hb with ⟨j,u,rfl,e⟩ | ⟨y,u,rfl,e⟩
      · injection e with e1 _; rw [e1]
      · exact nomatch e
    · rcases keyIs_shape hb with ⟨j,u,rfl,e⟩ | ⟨y,u,rfl,e⟩
      · exact nomatch e
      · injection e with e1 _; rw [e1]
  byValue := fun k v h => by
    rcases keyIs_shape h with ⟨i,t,rfl,rfl⟩ | ⟨x,t,rfl,rfl⟩ <;> rfl
  pyHash := fun hv h => by
    rcases keyIs_shape hv with ⟨i,t,rfl,rfl⟩ | ⟨x,t,rfl,rfl⟩
    · exact wpAny_pyHash_int h
    · exact wpAny_pyHash_str h
  eqBool := fun hu hv h => by
    rcases keyIs_shape hu with ⟨i,t,rfl,rfl⟩ | ⟨x,t,rfl,rfl⟩
    · rcases keyIs_shape hv with ⟨j,u,rfl,rfl⟩ | ⟨y,u,rfl,rfl⟩
      · rw [key_ll] at h; exact wpAny_eqBool_int h
      · rw [key_lr] at h; exact SeqAt.EqAt.int_str i t y u _ _ _ _ h
    · rcases keyIs_shape hv with ⟨j,u,rfl,rfl⟩ | ⟨y,u,rfl,rfl⟩
      · rw [key_rl] at h; exact SeqAt.EqAt.str_int x t j u _ _ _ _ h
      · rw [key_rr] at h; exact wpAny_eqBool_str h
  «strs» := fun k x t v h => by
    rcases keyIs_shape h with ⟨i,u,rfl,e⟩ | ⟨y,u,rfl,e⟩
    · exact nomatch e
    · injection e with e1 _
      subst e1
      cases v <;> rfl
end L2
namespace L2
open PySem PySem.Spec PyProof.Rows
inductive V where
  | non | bl (b : Bool) | int (i : Int) | str (x : Str) | byt (b : Array UInt8) | flt (b : UInt64) | ref (a : Addr) | ty (n : String)
  deriving DecidableEq
def RelV : V -> Value -> Prop
  | .non,u => u = Value.none
  | .bl b,u => u = Value.bool b
  | .int i,u => ∃ t,u = Value.int i t
  | .str x,u => ∃ t,u = Value.str x t
  | .byt b,u => ∃ t,u = Value.bytes b t
  | .flt b,u => ∃ t,u = Value.float b t
  | .ref a,u => u = Value.ref a
  | .ty n,u => u = Value.type n
abbrev Vals : List V -> List Value -> Prop := Paired RelV
theorem Vals.length {xs : List V}{us : List Value}(r : Vals xs us) : xs.length = us.length := Paired.length r
theorem Vals.get : ∀ {xs : List V} {us : List Value} {i : Nat} {x : V},Vals xs us -> xs[i]? = some x -> ∃ u,us[i]? = some u /\ RelV x u
  | _,_,_,_,.nil,e => by simp at e
  | _,_,0,_,.cons r _,e => by simp at e; subst e; exact ⟨_,rfl,r⟩
  | _,_,i + 1,x,.cons _ t,e => by
    obtain ⟨u,h1,h2⟩ := Vals.get (i := i) (x := x) t (by simpa using e)
    exact ⟨u,by simpa using h1,h2⟩
theorem Vals.set {x : V}{u : Value}(r : RelV x u) : ∀ {xs : List V} {us : List Value} (i : Nat),Vals xs us -> Vals (xs.set i x) (us.set i u)
  | _,_,_,.nil => .nil
  | _,_,0,.cons _ t => .cons r t
  | _,_,i + 1,.cons q t => .cons q (Vals.set r i t)
theorem Vals.append : ∀ {xs ys : List V} {us ws : List Value},Vals xs us -> Vals ys ws -> Vals (xs ++ ys) (us ++ ws)
  | _,_,_,_,.nil,s => s
  | _,_,_,_,.cons r t,s => .cons r (Vals.append t s)
theorem Vals.take : ∀ {xs : List V} {us : List Value} (n : Nat),Vals xs us -> Vals (xs.take n) (us.take n)
  | _,_,0,_ => .nil
  | _,_,_ + 1,.nil => .nil
  | _,_,n + 1,.cons r t => .cons r (Vals.take n t)
theorem Vals.drop : ∀ {xs : List V} {us : List Value} (n : Nat),Vals xs us -> Vals (xs.drop n) (us.drop n)
  | _,_,0,r => r
  | _,_,_ + 1,.nil => .nil
  | _,_,n + 1,.cons _ t => Vals.drop n t
def RelO : Option V -> Option Value -> Prop
  | some v,some u => RelV v u
  | none,none => True
  | _,_ => False
def KV {κ : Type} : List (κ × V) -> List (κ × Value) -> Prop := Paired fun (p : κ × V) (q : κ × Value) => p.1 = q.1 /\ RelV p.2 q.2
def kV : Key -> V
  | .inl i => .int i
  | .inr x => .str x
inductive HO where
  | lst (xs : List V)
  | tup (xs : List V)
  | dK (kvs : List (Key × V)) | dT (kvs : List (List Key × V))
  | set (S : Int -> Bool) (n : Nat)
  | ins (C dx : Addr) (fs : List (Str × V))
  | own (x : Addr)
  | xd (fs : List (Str × V))
  | met (f x : Addr)
  | rng (lo hi : Int)
  | frz (o : Obj) (u : HO)
  | tbl (ps : Array Value)
  | cod (q : Str)
  | ext (φ : Heap -> Prop)
abbrev Hp := Addr -> Option HO
def upd (H : Hp)(a : Addr)(o : HO) : Hp := fun b => if b = a then some o else H b
theorem upd_same {H : Hp}{a : Addr}{o : HO} : upd H a o a = some o := by unfold upd; rw [if_pos rfl]
theorem upd_ne {H : Hp}{a b : Addr}{o : HO}(h : b ≠ a) : upd H a o b = H b := by unfold upd; rw [if_neg h]
theorem ne_of {H : Hp}{a b : Addr}{o u : HO}(h : H a = some o)(h' : H b = some u)(d : o ≠ u) : a ≠ b := by
  intro e; subst e; rw [h] at h'; exact d (Option.some.inj h')
theorem ne_of_none {H : Hp}{a b : Addr}{o : HO}(h : H a = some o)(h' : H b = none) : a ≠ b := by
  intro e; subst e; rw [h] at h'; cases h'
section
variable (P : Program)(w : World)
def ObjOk (H : Hp)(h : Heap)(a : Addr) : HO -> Prop
  | .lst xs => xs.length <= sizeLine /\ ∃ (its : List Value) (n : Nat),Vals xs its /\ h.get? a = some { cls := .type "list",data := .seq its.toArray n }
  | .tup xs => xs.length <= sizeLine /\ ∃ its : List Value,Vals xs its /\ IsTup h a its.toArray
  | .dK kvs => kvs.length <= sizeLine /\ (a == sysModules) = false /\ ∃ vs,KV kvs vs /\ h.DictOf (mixKind P w) a vs
  | .dT kvs => kvs.length <= sizeLine /\ (a == sysModules) = false /\ ∃ xs : List (List Key × Addr × Value),
      Paired (fun (p : List Key × V) (q : List Key × Addr × Value) => p.1 = q.1 /\ H q.2.1 = some (.tup (p.1.map kV)) /\ RelV p.2 q.2.2) kvs xs /\
      ∃ o es ep,h.get? a = some o /\ o.ExactDict /\ o.data = .dict es ep /\ es.toList = xs.map (entryOfKey (tupleKind (mixKind P w))) /\ (xs.map (·.1)).Nodup
  | .set S n => h.SetOf (intKind P w) a S n
  | .ins C dx fs => H dx = some (.own a) /\ fs.length <= 1000 /\ dx ≠ a /\ h.get? a = some (PySem.W.instObj C dx) /\
      ∃ mA,h.Ns1 dx mA /\ (∀ f,RelO (fs.lookup f) (mA f)) /\ PySem.Within mA (fs.map (·.1))
  | .own _ => ∃ o,h.get? a = some o
  | .xd fs => ∃ mA,h.Ns1 a mA /\ ∀ f,RelO (fs.lookup f) (mA f)
  | .rng lo hi => ∃ t u v,h.get? a = some { cls := .type "range",data := .fields #[.int lo t,.int hi u,.int 1 v] }
  | .frz o u => h.get? a = some o /\ ObjOk H h a u
  | .tbl ps => h.get? a = some { cls := .none,data := .fields ps }
  | .met f x => h.get? a = some (PySem.W.methodObj (.ref f) (.ref x))
  | .cod q => ∃ ps : Array Value,h.get? a = some { cls := .none,data := .fields ps } /\ TriplesOk ps.toList /\ ∀ pos cv,codeAmong pos ps.toList = some cv -> ∃ (c' : Addr) (oc : Obj) (vs : Array Value) (t : Tok),cv = .ref c' /\ H c' = some (.frz oc (.own 0)) /\ oc.data = .fields vs /\ vs[1]? = some (.str q t)
  | .ext φ => φ h /\ (∃ o,h.get? a = some o) /\ ∀ h1 h2 : Heap,φ h1 -> (∀ o,h1.get? a = some o -> h2.get? a = some o) -> φ h2
def HOk (H : Hp)(h : Heap) : Prop := ∀ a o,H a = some o -> ObjOk P w H h a o
end
section
variable {P : Program}{w : World}{H H' : Hp}{h h' : Heap}{a : Addr}{o : HO}
theorem ObjOk.lt (x : ObjOk P w H h a o) : a < h.objs.size := by
  cases o with
  | lst xs => obtain ⟨_,_,_,_,e⟩ := x; exact Heap.lt_size e
  | tup xs => obtain ⟨_,_,_,p⟩ := x; exact p.lt
  | dK kvs => obtain ⟨_,_,_,_,o,_,_,e,_⟩ := x; exact Heap.lt_size e
  | dT kvs => obtain ⟨_,_,_,_,o,_,_,e,_⟩ := x; exact Heap.lt_size e
  | set S n => obtain ⟨o,_,_,_,e,_⟩ := x; exact Heap.lt_size e
  | ins C dx fs => obtain ⟨_,_,_,e,_⟩ := x; exact Heap.lt_size e
  | own y => obtain ⟨_,e⟩ := x; exact Heap.lt_size e
  | xd fs => obtain ⟨_,⟨_,_,_,e,_⟩,_⟩ := x; exact Heap.lt_size e
  | rng lo hi => obtain ⟨_,_,_,e⟩ := x; exact Heap.lt_size e
  | frz ob u => obtain ⟨e,_⟩ := x; exact Heap.lt_size e
  | tbl ps => exact Heap.lt_size (show h.get? a = some _ from x)
  | met f y => exact Heap.lt_size (show h.get? a = some _ from x)
  | cod q => obtain ⟨_,e,_⟩ := x; exact Heap.lt_size e
  | ext φ => obtain ⟨_,⟨_,e⟩,_⟩ := x; exact Heap.lt_size e
theorem Paired.mapP {α β : Type}{F G : α -> β -> Prop} : ∀ {l₁ : List α} {l₂ : List β},Paired F l₁ l₂ -> (∀ a b,F a b -> G a b) -> Paired G l₁ l₂
  | _,_,.nil,_ => .nil
  | _,_,.cons r t,f => .cons (f _ _ r) (Paired.mapP t f)
theorem ObjOk.stay (x : ObjOk P w H h a o)(k : ∀ b u,(b = a \/ H b = some (.own a)) -> h.get? b = some u -> h'.get? b = some u)
    (ho : ∀ b,H b = some (.own a) -> H' b = some (.own a)) (ht : ∀ b xs,H b = some (.tup xs) -> H' b = some (.tup xs)) (hz : ∀ b ob u,H b = some (.frz ob u) -> H' b = some (.frz ob u) := by first | exact fun _ _ _ q => q | (intro c ob uz q; rw [L2.upd_ne (L2.ne_of_none q (by assumption))]; exact q)) : ObjOk P w H' h' a o := by
  induction o with
  | lst xs => obtain ⟨z,its,n,r,e⟩ := x; exact ⟨z,its,n,r,k _ _ (.inl rfl) e⟩
  | tup xs => obtain ⟨z,its,r,ob,e,c⟩ := x; exact ⟨z,its,r,ob,k _ _ (.inl rfl) e,c⟩
  | dK kvs => obtain ⟨z,y,vs,r,ob,es,ep,e,c⟩ := x; exact ⟨z,y,vs,r,ob,es,ep,k _ _ (.inl rfl) e,c⟩
  | dT kvs =>
    obtain ⟨z,y,xs,r,ob,es,ep,e,c⟩ := x
    exact ⟨z,y,xs,Paired.mapP r fun p q z => ⟨z.1,ht _ _ z.2.1,z.2.2⟩,ob,es,ep,k _ _ (.inl rfl) e,c⟩
  | set S n => obtain ⟨ob,es,ep,t,e,c⟩ := x; exact ⟨ob,es,ep,t,k _ _ (.inl rfl) e,c⟩
  | ins C dx fs =>
    obtain ⟨d,z,ne,e,mA,⟨od,es,ep,e2,c⟩,r⟩ := x
    exact ⟨ho _ d,z,ne,k _ _ (.inl rfl) e,mA,⟨od,es,ep,k _ _ (.inr d) e2,c⟩,r⟩
  | own y => obtain ⟨ob,e⟩ := x; exact ⟨ob,k _ _ (.inl rfl) e⟩
  | xd fs => obtain ⟨mA,⟨od,es,ep,e,c⟩,r⟩ := x; exact ⟨mA,⟨od,es,ep,k _ _ (.inl rfl) e,c⟩,r⟩
  | rng lo hi => obtain ⟨t,u,v,e⟩ := x; exact ⟨t,u,v,k _ _ (.inl rfl) e⟩
  | frz ob u ih => obtain ⟨e,q⟩ := x; exact ⟨k _ _ (.inl rfl) e,ih q⟩
  | tbl ps =>
    have e : h.get? a = some { cls := .none,data := .fields ps } := x
    show h'.get? a = some { cls := .none,data := .fields ps }
    exact k a _ (.inl rfl) e
  | met f y =>
    have e : h.get? a = some (PySem.W.methodObj (.ref f) (.ref y)) := x
    show h'.get? a = some (PySem.W.methodObj (.ref f) (.ref y))
    exact k a _ (.inl rfl) e
  | cod q => obtain ⟨ps,e,t,r⟩ := x; exact ⟨ps,k _ _ (.inl rfl) e,t,fun pos cv hc => let ⟨c',oc,vs,tt,z1,z2,z3⟩ := r pos cv hc; ⟨c',oc,vs,tt,z1,hz _ _ _ z2,z3⟩⟩
  | ext φ => obtain ⟨p,⟨o,e⟩,st⟩ := x; exact ⟨st _ _ p fun o q => k _ _ (.inl rfl) q,⟨o,k _ _ (.inl rfl) e⟩,st⟩
theorem HOk.lt (x : HOk P w H h)(e : H a = some o) : a < h.objs.size := (x a o e).lt
theorem HOk.fresh (x : HOk P w H h)(e : h.objs.size <= a) : H a = none := by
  cases q : H a with
  | none => rfl
  | some u => exact absurd (Nat.lt_of_lt_of_le (x.lt q) e) (Nat.lt_irrefl _)
theorem HOk.kept (x : HOk P w H h)(k : ∀ b u,h.get? b = some u -> h'.get? b = some u) : HOk P w H h' := fun a o e =>
  (x a o e).stay (fun b u _ q => k b u q) (fun _ q => q) fun _ _ q => q
theorem HOk.laid (x : HOk P w H h)(k : ∀ b u,h.get? b = some u -> h'.get? b = some u)(hp : h.objs.size <= a)(new : ObjOk P w (upd H a o) h' a o) : HOk P w (upd H a o) h' := fun b u e => by
  have hn := x.fresh hp
  by_cases hb : b = a
  · subst hb; rw [upd_same] at e; cases e; exact new
  · rw [upd_ne hb] at e
    exact (x b u e).stay (fun c v _ q => k c v q) (fun c q => by rw [upd_ne (ne_of_none q hn)]; exact q) fun c xs q => by rw [upd_ne (ne_of_none q hn)]; exact q
end
def Rd (H : Hp)(a : Addr)(u : HO) : Prop := H a = some u \/ ∃ o,H a = some (.frz o u)
theorem Rd.of {H : Hp}{a : Addr}{u : HO}(h : H a = some u) : Rd H a u := .inl h
theorem Rd.ok {P : Program}{w : World}{H : Hp}{h : Heap}{a : Addr}{u : HO}(r : Rd H a u)(x : HOk P w H h) : ObjOk P w H h a u := by
  rcases r with r | ⟨o,r⟩
  · exact x a u r
  · obtain ⟨_,q⟩ := x a _ r
    exact q
def Mut : Option HO -> Prop
  | some (.lst _) => True
  | some (.dK _) => True
  | some (.dT _) => True
  | some (.set _ _) => True
  | some (.ins _ _ _) => True
  | some (.ext _) => True
  | _ => False
section
variable {P : Program}{w : World}{H : Hp}{h h' : Heap}{x e : Addr}{o' : HO}
theorem HOk.write (ok : HOk P w H h)(mu : Mut (H x))(he : e = x \/ H e = some (.own x))(k : ∀ b u,b ≠ e -> h.get? b = some u -> h'.get? b = some u)(heo : ∃ u,h'.get? e = some u)
    (new : ObjOk P w (upd H x o') h' x o') : HOk P w (upd H x o') h' := fun b u q => by
  have nown : ∀ c y,H c = some (.own y) -> c ≠ x := fun c y r z => by subst z; rw [r] at mu; exact mu
  have ntup : ∀ c xs,H c = some (.tup xs) -> c ≠ x := fun c xs r z => by subst z; rw [r] at mu; exact mu
  have nfrz : ∀ c ob uz,H c = some (.frz ob uz) -> c ≠ x := fun c ob uz r z => by subst z; rw [r] at mu; exact mu
  by_cases hb : b = x
  · subst hb; rw [upd_same] at q; cases q; exact new
  · rw [upd_ne hb] at q
    by_cases hbe : b = e
    · have q' : H b = some (.own x) := by
        rcases he with z | z
        · exact absurd (hbe.trans z) hb
        · rw [hbe]; exact z
      rw [q] at q'; cases q'
      obtain ⟨v,hv⟩ := heo
      exact ⟨v,by rw [hbe]; exact hv⟩
    · refine (ok b u q).stay (fun c v hc r => k c v ?_ r) (fun c r => by rw [upd_ne (nown c b r)]; exact r) (fun c xs r => by rw [upd_ne (ntup c xs r)]; exact r) fun c ob uz r => by rw [upd_ne (nfrz c ob uz r)]; exact r
      rcases hc with rfl | hc
      · exact hbe
      · rintro rfl
        rcases he with z | z
        · exact nown c b hc z
        · rw [hc] at z; cases z; exact hb rfl
end
structure Un (fs ex : List Addr)(H H' : Hp)(h h' : Heap) : Prop where
  keep : ∀ b o,h.get? b = some o -> H b = none -> b ∉ fs -> b ∉ ex -> h'.get? b = some o
  slot : ∀ b o,h.get? b = some o -> H b = none -> b ∈ fs -> b ∉ ex -> ∃ sl,h'.get? b = some { o with slots := sl }
  free : ∀ b o,h.get? b = some o -> H b = none -> b ∉ ex -> H' b = none
  there : ∀ b o,h.get? b = some o -> b ∉ ex -> ∃ o',h'.get? b = some o'
  tups : ∀ b xs,H b = some (.tup xs) -> H' b = some (.tup xs)
  frzs : ∀ b o u,H b = some (.frz o u) -> H' b = some (.frz o u)
  tbls : ∀ b ps,H b = some (.tbl ps) -> ∃ more,H' b = some (.tbl (ps ++ more))
section
variable {fs fs' ex ex' : List Addr}{H H1 H2 : Hp}{h h1 h2 h' : Heap}{a x e : Addr}{o : HO}
theorem Un.any (u : Un fs ex H H1 h h1){b : Addr}{ob : Obj}(q : h.get? b = some ob)(n : H b = none)(hx : b ∉ ex) : ∃ sl,h1.get? b = some { ob with slots := sl } := by
  by_cases hb : b ∈ fs
  · exact u.slot b ob q n hb hx
  · exact ⟨ob.slots,u.keep b ob q n hb hx⟩
theorem Un.trans (a : Un fs ex H H1 h h1)(b : Un fs ex H1 H2 h1 h2) : Un fs ex H H2 h h2 where
  keep := fun c ob q n hc hx => b.keep c ob (a.keep c ob q n hc hx) (a.free c ob q n hx) hc hx
  slot := fun c ob q n hc hx => by
    obtain ⟨sl,e1⟩ := a.slot c ob q n hc hx
    obtain ⟨sl',e2⟩ := b.slot c _ e1 (a.free c ob q n hx) hc hx
    exact ⟨sl',e2⟩
  free := fun c ob q n hx => by
    obtain ⟨o',e1⟩ := a.there c ob q hx
    exact b.free c o' e1 (a.free c ob q n hx) hx
  there := fun c ob q hx => by
    obtain ⟨o',e1⟩ := a.there c ob q hx
    exact b.there c o' e1 hx
  tups := fun c xs q => b.tups c xs (a.tups c xs q)
  frzs := fun c ob xs q => b.frzs c ob xs (a.frzs c ob xs q)
  tbls := fun c ps q => by
    obtain ⟨m1,e1⟩ := a.tbls c ps q
    obtain ⟨m2,e2⟩ := b.tbls c _ e1
    exact ⟨m1 ++ m2,by rw [e2,Array.append_assoc]⟩
theorem Un.kept (k : ∀ b u,h.get? b = some u -> h'.get? b = some u) : Un fs ex H H h h' :=
  ⟨fun b ob q _ _ _ => k b ob q,fun b ob q _ _ _ => ⟨ob.slots,k b ob q⟩,fun _ _ _ n _ => n,fun b ob q _ => ⟨ob,k b ob q⟩,fun _ _ q => q,fun _ _ _ q => q,fun _ ps q => ⟨#[],by rw [q]; simp⟩⟩
theorem Un.refl : Un fs ex H H h h := Un.kept fun _ _ q => q
theorem Un.laid (k : ∀ b u,h.get? b = some u -> h'.get? b = some u)(hp : h.objs.size <= a)(hn : H a = none) : Un fs ex H (upd H a o) h h' where
  keep := fun b u q _ _ _ => k b u q
  slot := fun b u q _ _ _ => ⟨u.slots,k b u q⟩
  free := fun b u q n _ => by rw [upd_ne (Nat.ne_of_lt (Nat.lt_of_lt_of_le (Heap.lt_size q) hp))]; exact n
  there := fun b u q _ => ⟨u,k b u q⟩
  tups := fun b xs q => by rw [upd_ne (ne_of_none q hn)]; exact q
  frzs := fun b u xs q => by rw [upd_ne (ne_of_none q hn)]; exact q
  tbls := fun b ps q => ⟨#[],by rw [upd_ne (ne_of_none q hn),q]; simp⟩
theorem Un.write (mu : Mut (H x))(he : e = x \/ H e = some (.own x))(k : ∀ b u,b ≠ e -> h.get? b = some u -> h'.get? b = some u)(heo : ∃ u,h'.get? e = some u) : Un fs ex H (upd H x o) h h' := by
  have hx : ∀ b,H b = none -> b ≠ x := fun b n z => by subst z; rw [n] at mu; exact mu
  have hb : ∀ b,H b = none -> b ≠ e := fun b n z => by
    subst z
    rcases he with r | r
    · exact hx b n r
    · rw [n] at r; cases r
  have hm : ∀ b u,H b = some u -> ¬ Mut (some u) -> b ≠ x := fun b u q nm z => by subst z; rw [q] at mu; exact nm mu
  refine ⟨fun b u q n _ _ => k b u (hb b n) q,fun b u q n _ _ => ⟨u.slots,k b u (hb b n) q⟩,fun b u q n _ => by rw [upd_ne (hx b n)]; exact n,fun b u q _ => ?_,
    fun b xs q => by rw [upd_ne (hm b _ q fun z => z)]; exact q,fun b u xs q => by rw [upd_ne (hm b _ q fun z => z)]; exact q,fun b ps q => ⟨#[],by rw [upd_ne (hm b _ q fun z => z),q]; simp⟩⟩
  by_cases hbe : b = e
  · subst hbe; exact heo
  · exact ⟨u,k b u hbe q⟩
theorem Un.mono (u : Un fs ex H H1 h h1)(hs : ∀ b ∈ fs,b ∈ fs')(hx : ∀ b ∈ ex,b ∈ ex') : Un fs' ex' H H1 h h1 :=
  ⟨fun b ob q n hb he => u.keep b ob q n (fun z => hb (hs b z)) fun z => he (hx b z),fun _ _ q n _ he => u.any q n fun z => he (hx _ z),fun b ob q n he => u.free b ob q n fun z => he (hx b z),fun b ob q he => u.there b ob q fun z => he (hx b z),u.tups,u.frzs,u.tbls⟩
end
def trk (h : Heap)(H : Hp) : List Addr := (List.range h.objs.size).filter fun a => (H a).isSome
def hidT (h : Heap)(H : Hp) : Heap := PySem.W.hideAll h (trk h H)
theorem hidT_size (h : Heap)(H : Hp) : (hidT h H).objs.size = h.objs.size := PySem.W.hideAll_size _ _
theorem hidT_get {h : Heap}{H : Hp}{b : Addr}{o : Obj}(e : h.get? b = some o)(n : H b = none) : (hidT h H).get? b = some o :=
  PySem.W.hideAll_get _ e fun hm => by
    have q : (H b).isSome = true := (List.mem_filter.mp hm).2
    rw [n] at q; simp at q
theorem of_hidT {h : Heap}{H : Hp}{b : Addr}{o : Obj}(e : (hidT h H).get? b = some o) : h.get? b = some o /\ H b = none := by
  have e' : h.get? b = some o := PySem.W.of_hideAll (trk h H) e
  refine ⟨e',?_⟩
  cases q : H b with
  | none => rfl
  | some x =>
    have hm : b ∈ trk h H := List.mem_filter.mpr ⟨List.mem_range.mpr (Heap.lt_size e'),by simp [q]⟩
    have z : (hidT h H).get? b = none := PySem.W.hideAll_none (trk h H) hm
    rw [z] at e; cases e
def allNews (g h : Heap)(L : Addr) : List (Addr × Obj) := (List.range h.objs.size).filterMap fun a => if a = L \/ (g.get? a).isSome = true then none else (h.get? a).map fun o => (a,o)
def rest (g h : Heap)(L d : Addr) : List (Addr × Obj) := (allNews g h L).filter fun p => decide (p.1 ≠ d)
end L2
namespace L2
open PySem PySem.Spec PyProof.Rows
structure Mod (K : PySem.W.Frag)(mg : Str -> Option Value)(base : Heap) : Prop where
  kin : K.In base
  glob : base.Ns mainGlobals mg
  blt : ∃ mb,base.Ns builtinsNs mb /\ ∀ x : Str,x ≠ "__name__" -> mb x = bootBuiltins x
  nolimit : base.NoLimit
structure Cx where
  prog : Program
  w : World
  K : PySem.W.Frag
  mg : Str -> Option Value
  base : Heap
  A : Around
  N : List Str
  s₀ : Shared
  H₀ : Hp
  env : Env
  outer : List Env
  stack : List Env
  ex : List Addr
  fn : Str -> Bool
  calm : Bool
  pn : List (Addr × Obj)
  xe : Value -> Shared -> Prop
def frs (l : List Env) : List Addr := l.filterMap (·.frame)
abbrev Cx.fs (X : Cx) : List Addr := frs X.outer
def Vis (sc : Scope)(x : Str) : Prop := sc.names.lookup x = some .local \/ sc.names.lookup x = some .cell \/ sc.names.lookup x = some .free
def Loc (sc : Scope)(x : Str) : Prop := sc.names.lookup x = some .local \/ sc.names.lookup x = some .cell
def Look (env : Env)(h : Heap)(m : Str -> Option Value)(x : Str)(u : Value) : Prop :=
  (env.kindOf x = some .local /\ m x = some u) \/ ((env.kindOf x = some .cell \/ env.kindOf x = some .free) /\ ∃ c,env.cells.lookup x = some c /\ h.IsCell c (some u))
structure Cx.Ok (X : Cx) : Prop where
  mod : Mod X.K X.mg X.base
  kind : X.env.scope.kind = .function
  glob : X.env.globals = mainGlobals
  blt : X.env.builtins = builtinsNs
  above : X.s₀.heap.objs.size <= X.env.locals
  inj : ∀ x y c,X.env.cells.lookup x = some c -> X.env.cells.lookup y = some c -> x = y
  has : ∀ x,(X.env.kindOf x = some .cell \/ X.env.kindOf x = some .free) -> ∃ c,X.env.cells.lookup x = some c
  cab : ∀ x c,X.fn x = true -> X.env.cells.lookup x = some c -> X.s₀.heap.objs.size <= c
  hd : X.calm = true -> X.A.handled = none
  frames : X.A.frames = some X.stack
  stk : X.stack = X.outer \/ (X.stack = X.env :: X.outer /\ X.env.frame = some X.env.locals)
  exf : ∀ b ∈ X.ex,b ≠ X.env.locals /\ ∀ x c,X.env.cells.lookup x = some c -> c ≠ b
  bs : ∀ b o,X.base.get? b = some o -> X.s₀.heap.get? b = some o /\ X.H₀ b = none
  bsz : X.base.objs.size <= X.s₀.heap.objs.size
  noex : ∀ b o,X.base.get? b = some o -> b ∉ X.ex
  exfs : ∀ b ∈ X.ex,b ∉ X.fs
  funs : X.s₀.heap.FunFrames X.base X.outer
  frf : ∀ b ∈ X.fs,X.H₀ b = none
structure Inv (X : Cx)(pins : List (Addr × Obj))(σ : List (Option V))(H : Hp)(s : Shared) : Prop where
  ok : X.Ok
  os : s.os = X.s₀.os
  bare : AllBare s.gens
  base : Un X.fs X.ex X.H₀ H X.s₀.heap s.heap
  loc : ∃ m,s.heap.Ns X.env.locals m /\ ∀ (i : Nat) (x : Str) (v : V),X.N[i]? = some x -> σ[i]? = some (some v) -> Vis X.env.scope x -> ∃ u,RelV v u /\ Look X.env s.heap m x u
  cell : ∀ x c,X.env.cells.lookup x = some c -> ∃ v,s.heap.IsCell c v
  free : H X.env.locals = none
  freeC : ∀ x c,X.env.cells.lookup x = some c -> H c = none
  pin : ∀ p ∈ X.pn ++ pins,s.heap.get? p.1 = some p.2 /\ H p.1 = none /\ p.1 ≠ X.env.locals /\ p.1 ∉ X.fs /\ ∀ v,p.2.data ≠ .cell v
  hok : HOk X.prog X.w H s.heap
  len : σ.length = X.N.length
section
variable {X : Cx}{pins : List (Addr × Obj)}{σ : List (Option V)}{H H' : Hp}{s : Shared}{h' : Heap}
theorem Cx.Ok.nofr (ok : X.Ok){b : Addr}{o : Obj}(e : X.base.get? b = some o) : b ∉ X.fs := fun hb => by
  have := (ok.funs.mem hb).1
  rw [e] at this; cases this
theorem Inv.bs (I : Inv X pins σ H s) : ∀ b o,X.base.get? b = some o -> s.heap.get? b = some o /\ H b = none := fun b o e =>
  ⟨I.base.keep b o (I.ok.bs b o e).1 (I.ok.bs b o e).2 (I.ok.nofr e) (I.ok.noex b o e),I.base.free b o (I.ok.bs b o e).1 (I.ok.bs b o e).2 (I.ok.noex b o e)⟩
theorem Inv.bk (I : Inv X pins σ H s) : ∀ b o,X.base.get? b = some o -> s.heap.get? b = some o := fun b o e => (I.bs b o e).1
theorem Inv.mod (I : Inv X pins σ H s) : Mod X.K X.mg X.base := I.ok.mod
theorem Inv.kIn (I : Inv X pins σ H s) : X.K.In s.heap := I.ok.mod.kin.keeps I.bk
theorem Inv.fr (I : Inv X pins σ H s) : ∃ m,Fr X.base X.env.locals s.heap m :=
  let ⟨m,hn,_⟩ := I.loc
  ⟨m,hn,I.bk,Nat.le_trans I.ok.bsz I.ok.above⟩
theorem Inv.lt (I : Inv X pins σ H s) : X.env.locals < s.heap.objs.size := let ⟨_,hn,_⟩ := I.loc; hn.lt
theorem Inv.sz (I : Inv X pins σ H s) : X.s₀.heap.objs.size <= s.heap.objs.size := Nat.le_trans I.ok.above (Nat.le_of_lt I.lt)
theorem Inv.nofs (I : Inv X pins σ H s){a : Addr}(h : s.heap.objs.size <= a) : a ∉ X.fs := fun hb => by
  obtain ⟨_,o,ho,_⟩ := I.ok.funs.mem hb
  exact absurd (Nat.lt_of_lt_of_le (Heap.lt_size ho) (Nat.le_trans I.sz h)) (Nat.lt_irrefl _)
theorem Inv.cne (I : Inv X pins σ H s) : ∀ x c,X.env.cells.lookup x = some c -> c ≠ X.env.locals := fun x c e z => by
  obtain ⟨v,o,ho,hd⟩ := I.cell x c e
  obtain ⟨m,⟨o',es,ep,ho',hd',_⟩,_⟩ := I.loc
  rw [z,ho'] at ho; cases ho; rw [hd'] at hd; cases hd
theorem Inv.funs (I : Inv X pins σ H s) : s.heap.FunFrames X.base X.outer := by
  have all : ∀ (l : List Env),(∀ b ∈ frs l,b ∈ X.fs) -> X.s₀.heap.FunFrames X.base l -> s.heap.FunFrames X.base l := by
    intro l
    induction l with
    | nil => intro _ _; trivial
    | cons env r ih =>
      intro hs hl
      obtain ⟨hk,⟨L,o,hf,hn,ho,hd⟩,hr⟩ := hl
      have hL : L ∈ X.fs := hs L (by unfold frs; rw [List.filterMap_cons,hf]; exact List.mem_cons_self)
      obtain ⟨sl,e⟩ := I.base.slot L o ho (I.ok.frf L hL) hL fun z => I.ok.exfs L z hL
      exact ⟨hk,⟨L,_,hf,hn,e,hd⟩,ih (fun b hb => hs b (by unfold frs; rw [List.filterMap_cons,hf]; exact List.mem_cons_of_mem _ hb)) hr⟩
  exact all X.outer (fun _ hb => hb) I.ok.funs
theorem Inv.stack (I : Inv X pins σ H s) : s.heap.FunFrames X.base X.stack := by
  rcases I.ok.stk with e | ⟨e,hf⟩
  · rw [e]; exact I.funs
  · rw [e]
    obtain ⟨m,hn,_⟩ := I.loc
    refine .cons (by rw [I.ok.kind]; decide) hf hn ?_ I.funs
    exact Heap.get?_none_of_le (Nat.le_trans I.ok.bsz I.ok.above)
theorem Inv.stkSub (I : Inv X pins σ H s) : ∀ b ∈ frs X.stack,b ∈ X.env.locals :: X.fs := fun b hb => by
  rcases I.ok.stk with e | ⟨e,hf⟩
  · rw [e] at hb; exact List.mem_cons_of_mem _ hb
  · rw [e] at hb
    unfold frs at hb
    rw [List.filterMap_cons,hf] at hb
    exact hb
theorem Inv.stkFree (I : Inv X pins σ H s) : ∀ b ∈ frs X.stack,H b = none := fun b hb => by
  rcases List.mem_cons.mp (I.stkSub b hb) with e | hb
  · rw [e]; exact I.free
  · obtain ⟨_,o,ho,_⟩ := I.ok.funs.mem hb
    exact I.base.free b o ho (I.ok.frf b hb) fun z => I.ok.exfs b z hb
theorem Inv.step {g' : Array GenState}{t' : Nat}{d' : Drawn}{ch : List Addr}(I : Inv X pins σ H s)
    (hch : ∀ b ∈ ch,(b ∈ X.ex \/ X.s₀.heap.objs.size <= b) /\ b ≠ X.env.locals /\ (∀ x c,X.env.cells.lookup x = some c -> c ≠ b) /\ ∀ p ∈ X.pn ++ pins,p.1 ≠ b)
    (keep : ∀ b o,b ≠ X.env.locals -> b ∉ X.fs -> b ∉ ch -> s.heap.get? b = some o -> H b = none -> h'.get? b = some o)
    (slot : ∀ b o,b ≠ X.env.locals -> b ∈ X.fs -> b ∉ ch -> s.heap.get? b = some o -> H b = none -> ∃ sl,h'.get? b = some { o with slots := sl }) (free : ∀ b o,b ∉ ch -> s.heap.get? b = some o -> H b = none -> H' b = none)
    (there : ∀ b o,b ∉ ch -> s.heap.get? b = some o -> ∃ o',h'.get? b = some o')
    (tups : ∀ b xs,H b = some (.tup xs) -> H' b = some (.tup xs)) (frzs : ∀ b o u,H b = some (.frz o u) -> H' b = some (.frz o u)) (tbls : ∀ b ps,H b = some (.tbl ps) -> ∃ more,H' b = some (.tbl (ps ++ more)))
    (ns : ∀ m,s.heap.Ns X.env.locals m -> h'.Ns X.env.locals m) (hok : HOk X.prog X.w H' h') (hg : AllBare g') :
    Inv X pins σ H' { s with heap := h',gens := g',drawn := d',toks := t' } := by
  have neL : ∀ b o,X.s₀.heap.get? b = some o -> b ≠ X.env.locals := fun b o e => Nat.ne_of_lt (Nat.lt_of_lt_of_le (Heap.lt_size e) I.ok.above)
  have neC : ∀ b o,X.s₀.heap.get? b = some o -> b ∉ X.ex -> b ∉ ch := fun b o e hx hb => by
    rcases (hch b hb).1 with z | z
    · exact hx z
    · exact absurd (Nat.lt_of_lt_of_le (Heap.lt_size e) z) (Nat.lt_irrefl _)
  have cellK : ∀ x c,X.env.cells.lookup x = some c -> ∀ v,s.heap.IsCell c v -> h'.IsCell c v := fun x c e v ⟨o,ho,hd⟩ => by
    have nch : c ∉ ch := fun z => (hch c z).2.2.1 x c e rfl
    by_cases hc : c ∈ X.fs
    · obtain ⟨sl,q⟩ := slot c o (I.cne x c e) hc nch ho (I.freeC x c e)
      exact ⟨_,q,hd⟩
    · exact ⟨o,keep c o (I.cne x c e) hc nch ho (I.freeC x c e),hd⟩
  refine ⟨I.ok,I.os,hg,⟨fun b o e n hb hx => ?_,fun b o e n hb hx => ?_,fun b o e n hx => ?_,fun b o e hx => ?_,fun b xs e => tups b xs (I.base.tups b xs e),fun b o xs e => frzs b o xs (I.base.frzs b o xs e),fun b ps e => ?_⟩,?_,fun x c e => ?_,?_,fun x c e => ?_,fun p hp => ?_,hok,I.len⟩
  · exact keep b o (neL b o e) hb (neC b o e hx) (I.base.keep b o e n hb hx) (I.base.free b o e n hx)
  · obtain ⟨sl,e1⟩ := I.base.slot b o e n hb hx
    obtain ⟨sl',e2⟩ := slot b _ (neL b o e) hb (neC b o e hx) e1 (I.base.free b o e n hx)
    exact ⟨sl',e2⟩
  · obtain ⟨o',e1⟩ := I.base.there b o e hx
    exact free b o' (neC b o e hx) e1 (I.base.free b o e n hx)
  · obtain ⟨o',e1⟩ := I.base.there b o e hx
    exact there b o' (neC b o e hx) e1
  · obtain ⟨m1,e1⟩ := I.base.tbls b ps e
    obtain ⟨m2,e2⟩ := tbls b _ e1
    exact ⟨m1 ++ m2,by rw [e2,Array.append_assoc]⟩
  · obtain ⟨m,hn,hl⟩ := I.loc
    refine ⟨m,ns m hn,fun i x v e1 e2 e3 => ?_⟩
    obtain ⟨u,r,l⟩ := hl i x v e1 e2 e3
    refine ⟨u,r,?_⟩
    rcases l with l | ⟨k,c,e,z⟩
    · exact .inl l
    · exact .inr ⟨k,c,e,cellK x c e _ z⟩
  · obtain ⟨v,z⟩ := I.cell x c e
    exact ⟨v,cellK x c e v z⟩
  · obtain ⟨m,⟨o,_,_,ho,_⟩,_⟩ := I.loc
    exact free _ o (fun z => (hch _ z).2.1 rfl) ho I.free
  · obtain ⟨v,o,ho,hd⟩ := I.cell x c e
    exact free c o (fun z => (hch c z).2.2.1 x c e rfl) ho (I.freeC x c e)
  · obtain ⟨e,n,ne,nf,d⟩ := I.pin p hp
    have nch : p.1 ∉ ch := fun z => (hch p.1 z).2.2.2 p hp rfl
    exact ⟨keep p.1 p.2 ne nf nch e n,free p.1 p.2 nch e n,ne,nf,d⟩
theorem Inv.un {t' : Nat}(I : Inv X pins σ H s)(u : Un X.fs [] H H' s.heap h')(hok : HOk X.prog X.w H' h') : Inv X pins σ H' { s with heap := h',toks := t' } := by
  obtain ⟨m,⟨o,es,ep,ho,r⟩,_⟩ := id I.loc
  obtain ⟨sl,hL⟩ := u.any ho I.free (by simp)
  exact I.step (g' := s.gens) (d' := s.drawn) (ch := []) (fun _ z => nomatch z) (fun b o _ hb _ e n => u.keep b o e n hb (by simp)) (fun b o _ hb _ e n => u.slot b o e n hb (by simp)) (fun b o _ e n => u.free b o e n (by simp)) (fun b o _ e => u.there b o e (by simp)) u.tups u.frzs u.tbls (fun m' hm => by
    obtain ⟨o',es',ep',ho',r'⟩ := hm
    rw [ho] at ho'; cases ho'
    exact ⟨_,es',ep',hL,r'⟩) hok I.bare
theorem Inv.call {g' : Array GenState}{t' : Nat}{d' : Drawn}{ch : List Addr}(I : Inv X pins σ H s)(u : Un (frs X.stack) ch H H' s.heap h')(hok : HOk X.prog X.w H' h')(hg : AllBare g')
    (hch : ∀ b ∈ ch,(b ∈ X.ex \/ X.s₀.heap.objs.size <= b) /\ b ≠ X.env.locals /\ (∀ x c,X.env.cells.lookup x = some c -> c ≠ b) /\ ∀ p ∈ X.pn ++ pins,p.1 ≠ b) :
    Inv X pins σ H' { s with heap := h',gens := g',drawn := d',toks := t' } := by
  obtain ⟨m,⟨o,es,ep,ho,r⟩,_⟩ := id I.loc
  obtain ⟨sl,hL⟩ := u.any ho I.free fun z => (hch _ z).2.1 rfl
  exact I.step (ch := ch) hch (fun b o hL hb hc e n => u.keep b o e n (fun z => (List.mem_cons.mp (I.stkSub b z)).elim hL hb) hc) (fun b o _ _ hc e n => u.any e n hc) (fun b o hc e n => u.free b o e n hc) (fun b o hc e => u.there b o e hc) u.tups u.frzs u.tbls (fun m' hm => by
    obtain ⟨o',es',ep',ho',r'⟩ := hm
    rw [ho] at ho'; cases ho'
    exact ⟨_,es',ep',hL,r'⟩) hok hg
theorem Inv.turned {t' : Nat}{it : Addr}(I : Inv X pins σ H s)(k : ∀ b o,b ≠ it -> s.heap.get? b = some o -> h'.get? b = some o)(hn : H it = none)(hL : it ≠ X.env.locals)
    (h1 : it ∈ X.ex \/ X.s₀.heap.objs.size <= it) (h2 : ∀ x c,X.env.cells.lookup x = some c -> c ≠ it) (h3 : ∀ p ∈ X.pn ++ pins,p.1 ≠ it) : Inv X pins σ H { s with heap := h',toks := t' } := by
  have nit : ∀ b u,H b = some u -> b ≠ it := fun b u e z => by rw [z,hn] at e; cases e
  refine I.step (g' := s.gens) (d' := s.drawn) (ch := [it]) (fun b hb => ?_) (fun b o _ _ hc e _ => k b o (fun z => hc (by simp [z])) e) (fun b o _ _ hc e _ => ⟨o.slots,k b o (fun z => hc (by simp [z])) e⟩) (fun _ _ _ _ n => n)
    (fun b o hc e => ⟨o,k b o (fun z => hc (by simp [z])) e⟩) (fun _ _ e => e) (fun _ _ _ e => e) (fun b ps e => ⟨#[],by rw [e]; simp⟩) (fun m hm => ?_) (fun b u e => ?_) I.bare
  · have e : b = it := by simpa using hb
    subst e
    exact ⟨h1,hL,h2,h3⟩
  · obtain ⟨o,es,ep,ho,r⟩ := hm
    exact ⟨o,es,ep,k _ o (Ne.symm hL) ho,r⟩
  · refine (I.hok b u e).stay (fun c v hc q => k c v ?_ q) (fun _ q => q) fun _ _ q => q
    rcases hc with z | z
    · rw [z]; exact nit b u e
    · exact nit c _ z
theorem Inv.tok (I : Inv X pins σ H s)(t : Nat) : Inv X pins σ H { s with toks := t } := I.un (h' := s.heap) (t' := t) Un.refl I.hok
theorem Inv.kept {t' : Nat}(I : Inv X pins σ H s)(k : ∀ b u,s.heap.get? b = some u -> h'.get? b = some u) : Inv X pins σ H { s with heap := h',toks := t' } := I.un (Un.kept k) (I.hok.kept k)
theorem Inv.laid {a : Addr}{o : HO}{t' : Nat}(I : Inv X pins σ H s)(k : ∀ b u,s.heap.get? b = some u -> h'.get? b = some u)(hp : s.heap.objs.size <= a)(new : ObjOk X.prog X.w (upd H a o) h' a o) :
    Inv X pins σ (upd H a o) { s with heap := h',toks := t' } := I.un (Un.laid k hp (I.hok.fresh hp)) (I.hok.laid k hp new)
theorem Inv.write {x e : Addr}{o : HO}{t' : Nat}(I : Inv X pins σ H s)(mu : Mut (H x))(he : e = x \/ H e = some (.own x))(k : ∀ b u,b ≠ e -> s.heap.get? b = some u -> h'.get? b = some u)(heo : ∃ u,h'.get? e = some u)
    (new : ObjOk X.prog X.w (upd H x o) h' x o) : Inv X pins σ (upd H x o) { s with heap := h',toks := t' } := I.un (Un.write mu he k heo) (I.hok.write mu he k heo new)
theorem Inv.weak {σ' : List (Option V)}(I : Inv X pins σ H s)(hl : σ'.length = σ.length)(w : ∀ (i : Nat) v,σ'[i]? = some (some v) -> σ[i]? = some (some v)) : Inv X pins σ' H s :=
  ⟨I.ok,I.os,I.bare,I.base,let ⟨m,hn,hl'⟩ := I.loc; ⟨m,hn,fun i x v e1 e2 e3 => hl' i x v e1 (w i v e2) e3⟩,I.cell,I.free,I.freeC,I.pin,I.hok,hl.trans I.len⟩
theorem Inv.pins_of {pins' : List (Addr × Obj)}(I : Inv X pins σ H s)(h : ∀ p ∈ pins',s.heap.get? p.1 = some p.2 /\ H p.1 = none /\ p.1 ≠ X.env.locals /\ p.1 ∉ X.fs /\ ∀ v,p.2.data ≠ .cell v) : Inv X pins' σ H s :=
  ⟨I.ok,I.os,I.bare,I.base,I.loc,I.cell,I.free,I.freeC,fun p hp => (List.mem_append.mp hp).elim (fun z => I.pin p (List.mem_append_left _ z)) (h p),I.hok,I.len⟩
theorem nodup_ix {N : List Str}(hN : N.Nodup){i j : Nat}{x : Str}(a : N[i]? = some x)(b : N[j]? = some x) : i = j := by
  obtain ⟨h1,e1⟩ := List.getElem?_eq_some_iff.mp a
  obtain ⟨h2,e2⟩ := List.getElem?_eq_some_iff.mp b
  exact (List.getElem_inj hN).mp (e1.trans e2.symm)
theorem store_ok2 {M : Model}{A : Around}{E : Value -> Shared -> Prop}{i : Nat}{x : Str}{v : V}{u : Value}{Q : Unit -> Shared -> Prop}(I : Inv X pins σ H s)(hN : X.N.Nodup)(hi : X.N[i]? = some x)(hx : Loc X.env.scope x)(r : RelV v u)
    (h : ∀ s',Inv X pins (σ.set i (some v)) H s' -> (∃ a,Heap.SameBut a s.heap s'.heap /\ (a = X.env.locals \/ X.env.cells.lookup x = some a)) -> Q () s') (hf : X.fn x = true \/ X.env.scope.names.lookup x = some .local := by first | exact .inl rfl | exact .inr rfl | assumption) : wpAny M A (storeName X.env x u) Q E s := by
  obtain ⟨m,hn,hl⟩ := id I.loc
  have hcls : (X.env.scope.kind == .class || (X.env.scope.kind == .module && X.env.locals != X.env.globals)) = false := by rw [I.ok.kind]; rfl
  have hiσ : i < σ.length := by rw [I.len]; exact (List.getElem?_eq_some_iff.mp hi).1
  have cne := I.cne
  have tracked : ∀ {a : Addr} {h' : Heap},(∃ o,s.heap.get? a = some o /\ H a = none) -> Heap.SameBut a s.heap h' -> HOk X.prog X.w H h' := fun {a h'} ha hs b ob e => by
    obtain ⟨_,_,hfree⟩ := ha
    refine (I.hok b ob e).stay (fun c w' hc q => (hs.2 c ?_).trans q) (fun _ q => q) fun _ _ q => q
    rintro rfl
    rcases hc with rfl | hc
    · rw [hfree] at e; cases e
    · rw [hfree] at hc; cases hc
  rcases hx with hk | hk
  · refine wpAny_storeName_local hk hn (fun h' hn' hs => ?_) hcls
    obtain ⟨oL,_,_,hoL,_⟩ := id hn
    refine h _ ⟨I.ok,I.os,I.bare,⟨fun b o e n hb hx => ?_,fun b o e n hb hx => ?_,I.base.free,fun b o e hx => ?_,I.base.tups,I.base.frzs,I.base.tbls⟩,⟨_,hn',fun j y v' e1 e2 e3 => ?_⟩,fun y c e => ?_,I.free,I.freeC,fun p hp => ?_,tracked ⟨oL,hoL,I.free⟩ hs,by simpa using I.len⟩ ⟨_,hs,.inl rfl⟩
    · exact (hs.2 b (Nat.ne_of_lt (Nat.lt_of_lt_of_le (Heap.lt_size e) I.ok.above))).trans (I.base.keep b o e n hb hx)
    · obtain ⟨sl,e1⟩ := I.base.slot b o e n hb hx
      exact ⟨sl,(hs.2 b (Nat.ne_of_lt (Nat.lt_of_lt_of_le (Heap.lt_size e) I.ok.above))).trans e1⟩
    · obtain ⟨o',e1⟩ := I.base.there b o e hx
      exact ⟨o',(hs.2 b (Nat.ne_of_lt (Nat.lt_of_lt_of_le (Heap.lt_size e) I.ok.above))).trans e1⟩
    · by_cases hj : j = i
      · subst hj
        rw [hi] at e1; cases e1
        rw [List.getElem?_set_self hiσ] at e2
        cases e2
        exact ⟨u,r,.inl ⟨hk,by simp⟩⟩
      · rw [List.getElem?_set_ne (Ne.symm hj)] at e2
        obtain ⟨u',r',q⟩ := hl j y v' e1 e2 e3
        refine ⟨u',r',?_⟩
        rcases q with ⟨k,e⟩ | ⟨k,c,e,z⟩
        · refine .inl ⟨k,?_⟩
          have : y ≠ x := fun e => hj (nodup_ix hN e1 (e ▸ hi))
          simp [this,e]
        · exact .inr ⟨k,c,e,z.sameBut hs (cne y c e)⟩
    · obtain ⟨w',z⟩ := I.cell y c e
      exact ⟨w',z.sameBut hs (cne y c e)⟩
    · obtain ⟨e,n,ne,nf,d⟩ := I.pin p hp
      exact ⟨(hs.2 p.1 ne).trans e,n,ne,nf,d⟩
  · have hfn : X.fn x = true := by
      rcases hf with z | z
      · exact z
      · rw [z] at hk; cases hk
    obtain ⟨c,hc⟩ := I.ok.has x (.inl hk)
    obtain ⟨w',z⟩ := I.cell x c hc
    refine wpAny_storeName_cell I.ok.kind hk hc z (fun h' hc' hs => ?_)
    obtain ⟨oc,hoc,hocd⟩ := id z
    refine h { s with heap := h' } ⟨I.ok,I.os,I.bare,⟨fun b o e n hb hx => ?_,fun b o e n hb hx => ?_,I.base.free,fun b o e hx => ?_,I.base.tups,I.base.frzs,I.base.tbls⟩,⟨m,hn.sameBut hs (Ne.symm (cne x c hc)),fun j y v' e1 e2 e3 => ?_⟩,fun y c' e => ?_,I.free,I.freeC,fun p hp => ?_,tracked ⟨oc,hoc,I.freeC x c hc⟩ hs,by simpa using I.len⟩ ⟨c,hs,.inr hc⟩
    · exact (hs.2 b (Nat.ne_of_lt (Nat.lt_of_lt_of_le (Heap.lt_size e) (I.ok.cab x c hfn hc)))).trans (I.base.keep b o e n hb hx)
    · obtain ⟨sl,e1⟩ := I.base.slot b o e n hb hx
      exact ⟨sl,(hs.2 b (Nat.ne_of_lt (Nat.lt_of_lt_of_le (Heap.lt_size e) (I.ok.cab x c hfn hc)))).trans e1⟩
    · obtain ⟨o',e1⟩ := I.base.there b o e hx
      exact ⟨o',(hs.2 b (Nat.ne_of_lt (Nat.lt_of_lt_of_le (Heap.lt_size e) (I.ok.cab x c hfn hc)))).trans e1⟩
    · by_cases hj : j = i
      · subst hj
        rw [hi] at e1; cases e1
        rw [List.getElem?_set_self hiσ] at e2
        cases e2
        exact ⟨u,r,.inr ⟨.inl hk,c,hc,hc'⟩⟩
      · rw [List.getElem?_set_ne (Ne.symm hj)] at e2
        obtain ⟨u',r',q⟩ := hl j y v' e1 e2 e3
        refine ⟨u',r',?_⟩
        rcases q with q | ⟨k,c',e,z'⟩
        · exact .inl q
        · refine .inr ⟨k,c',e,z'.sameBut hs ?_⟩
          rintro rfl
          exact hj (nodup_ix hN e1 (I.ok.inj _ _ _ e hc ▸ hi))
    · by_cases hcc : c' = c
      · subst hcc; exact ⟨_,hc'⟩
      · obtain ⟨w2,z2⟩ := I.cell y c' e
        exact ⟨w2,z2.sameBut hs hcc⟩
    · obtain ⟨e,n,ne,nf,d⟩ := I.pin p hp
      refine ⟨(hs.2 p.1 ?_).trans e,n,ne,nf,d⟩
      intro q
      rw [q,hoc] at e
      have q' : oc = p.2 := Option.some.inj e
      exact d w' (by rw [<- q']; exact hocd)
theorem store_ok {M : Model}{A : Around}{E : Value -> Shared -> Prop}{i : Nat}{x : Str}{v : V}{u : Value}{Q : Unit -> Shared -> Prop}(I : Inv X pins σ H s)(hN : X.N.Nodup)(hi : X.N[i]? = some x)(hx : Loc X.env.scope x)(r : RelV v u)
    (h : ∀ s',Inv X pins (σ.set i (some v)) H s' -> Q () s') (hf : X.fn x = true \/ X.env.scope.names.lookup x = some .local := by first | exact .inl rfl | exact .inr rfl | assumption) : wpAny M A (storeName X.env x u) Q E s :=
  store_ok2 I hN hi hx r (fun s' I' _ => h s' I') hf
theorem Inv.call' {s' : Shared}{ch : List Addr}(I : Inv X pins σ H s)(ho : s'.os = s.os)(u : Un (frs X.stack) ch H H' s.heap s'.heap)(hok : HOk X.prog X.w H' s'.heap)(hg : AllBare s'.gens)
    (hch : ∀ b ∈ ch,(b ∈ X.ex \/ X.s₀.heap.objs.size <= b) /\ b ≠ X.env.locals /\ (∀ x c,X.env.cells.lookup x = some c -> c ≠ b) /\ ∀ p ∈ X.pn ++ pins,p.1 ≠ b) : Inv X pins σ H' s' := by
  obtain ⟨h',g',d',t',o'⟩ := s'
  have e : o' = s.os := ho
  subst e
  exact I.call (g' := g') (t' := t') (d' := d') u hok hg hch
end
abbrev XK := Value -> Option Addr -> Hp -> Prop
abbrev St := List (Option V)
abbrev VK := V -> Hp -> Prop
abbrev TE := St -> Hp -> VK -> Prop
abbrev TT := St -> Hp -> (Bool -> Hp -> Prop) -> Prop
abbrev TA := St -> Hp -> (List V -> Hp -> Prop) -> Prop
structure Ends where
  nx : St -> Hp -> Prop
  rt : VK
  bk : St -> Hp -> Prop := fun _ _ => False
  ct : St -> Hp -> Prop := fun _ _ => False
abbrev TS := Ends -> St -> Hp -> Prop
def EP (X : Cx)(pins : List (Addr × Obj))(σ : St)(Q : VK)(u : Value)(s' : Shared) : Prop := ∃ v H',Inv X pins σ H' s' /\ RelV v u /\ Q v H'
def TP (X : Cx)(pins : List (Addr × Obj))(σ : St)(Q : Bool -> Hp -> Prop)(b : Bool)(s' : Shared) : Prop := ∃ H',Inv X pins σ H' s' /\ Q b H'
def AP (X : Cx)(pins : List (Addr × Obj))(σ : St)(Q : List V -> Hp -> Prop)(us : List Value)(s' : Shared) : Prop := ∃ vs H',Inv X pins σ H' s' /\ Vals vs us /\ Q vs H'
def SP (X : Cx)(pins : List (Addr × Obj))(D : Ends)(f : Flow)(s' : Shared) : Prop :=
  match f with
  | .next => ∃ σ' H',Inv X pins σ' H' s' /\ D.nx σ' H'
  | .brk => ∃ σ' H',Inv X pins σ' H' s' /\ D.bk σ' H'
  | .cont => ∃ σ' H',Inv X pins σ' H' s' /\ D.ct σ' H'
  | .ret u => ∃ v σ' H',Inv X pins σ' H' s' /\ RelV v u /\ D.rt v H'
def PE (X : Cx)(e : Expr)(t : TE) : Prop :=
  ∀ (pins : List (Addr × Obj)) (s : Shared) (σ : St) (H : Hp) (Q : VK),Inv X pins σ H s -> t σ H Q -> wpAny (model X.prog X.w) X.A (eval e X.env) (EP X pins σ Q) X.xe s
def PT (X : Cx)(e : Expr)(t : TT) : Prop :=
  ∀ (pins : List (Addr × Obj)) (s : Shared) (σ : St) (H : Hp) (Q : Bool -> Hp -> Prop),Inv X pins σ H s -> t σ H Q -> wpAny (model X.prog X.w) X.A (isTrue e X.env (eval e X.env)) (TP X pins σ Q) X.xe s
def PW (X : Cx)(e : Expr)(t : TT) : Prop :=
  ∀ (whole : Sem Value) (pins : List (Addr × Obj)) (s : Shared) (σ : St) (H : Hp) (Q : Bool -> Hp -> Prop),Inv X pins σ H s -> t σ H Q -> wpAny (model X.prog X.w) X.A (isTrue e X.env whole) (TP X pins σ Q) X.xe s
theorem PW.pt {X : Cx}{e : Expr}{t : TT}(h : PW X e t) : PT X e t := h _
def PA (X : Cx)(es : List Expr)(t : TA) : Prop :=
  ∀ (pos : Pos) (pins : List (Addr × Obj)) (s : Shared) (σ : St) (H : Hp) (Q : List V -> Hp -> Prop),Inv X pins σ H s -> t σ H Q -> wpAny (model X.prog X.w) X.A (spliced (backTo pos (starEach es X.env))) (AP X pins σ Q) X.xe s
def PS (X : Cx)(st : Stmt)(t : TS) : Prop :=
  ∀ (pins : List (Addr × Obj)) (s : Shared) (σ : St) (H : Hp) (D : Ends),Inv X pins σ H s -> t D σ H -> wpAny (model X.prog X.w) X.A (exec st X.env) (SP X pins D) X.xe s
def PSs (X : Cx)(st : List Stmt)(t : TS) : Prop :=
  ∀ (pins : List (Addr × Obj)) (s : Shared) (σ : St) (H : Hp) (D : Ends),Inv X pins σ H s -> t D σ H -> wpAny (model X.prog X.w) X.A (execs st X.env) (SP X pins D) X.xe s
theorem thn {α : Type}{t : Sem α}{Q Q' : α -> Shared -> Prop}{M : Model}{A : Around}{E : Value -> Shared -> Prop}{s : Shared}(h : wpAny M A t Q E s)(hQ : ∀ a s,Q a s -> Q' a s) : wpAny M A t Q' E s := wpAny_mono h hQ fun _ _ x => x
end L2
namespace L2
open PySem PySem.Spec PyProof.Rows
section
variable {X : Cx}
def tVar (i : Nat) : TE := fun σ H Q => ∃ v,σ[i]? = some (some v) /\ Q v H
def tC (v : V) : TE := fun _ H Q => Q v H
theorem pe_var {i : Nat}{x : Str}{pos : Pos}(hN : X.N[i]? = some x)(hv : Vis X.env.scope x)(hd : (x == ("__debug__" : Str)) = false := by decide) (hcd : (x == ("__classdict__" : Str)) = false := by decide) : PE X (.Name x pos) (tVar i) := by
  intro pins s σ H Q I h
  obtain ⟨v,e,h⟩ := h
  obtain ⟨m,hn,hl⟩ := I.loc
  obtain ⟨u,r,l⟩ := hl i x v hN e hv
  have fin : EP X pins σ Q u s := ⟨v,H,I,r,h⟩
  rcases l with ⟨hk,hm⟩ | ⟨hk,c,hc,hcell⟩
  · exact wpAny_Name (wpAny_loadName_local I.ok.kind hk hn hm fin) hd
  · rcases hk with hk | hk
    · exact wpAny_Name (wpAny_loadName_cell I.ok.kind hk hc hcell fin) hd
    · exact wpAny_Name (wpAny_loadName_free I.ok.kind hk hc hcell fin hcd) hd
theorem pe_int {i j pos} : PE X (.Constant (.int i) j pos) (tC (.int i)) := fun _ _ _ H _ I h => wpAny_Constant_int ⟨.int i,H,I.tok _,⟨_,rfl⟩,h⟩
theorem pe_bl {b j pos} : PE X (.Constant (.bool b) j pos) (tC (.bl b)) := fun _ _ _ H _ I h => Constant_bool ⟨.bl b,H,I,rfl,h⟩
theorem pe_non {j pos} : PE X (.Constant .none j pos) (tC .non) := fun _ _ _ H _ I h => Constant_none ⟨.non,H,I,rfl,h⟩
theorem pe_str {x j pos} : PE X (.Constant (.str x) j pos) (tC (.str x)) := fun _ _ _ H _ I h => Calls.Constant_str ⟨.str x,H,I.tok _,⟨_,rfl⟩,h⟩
def Gl (X : Cx)(x : Str) : Prop := X.env.kindOf x = some .globalImplicit
theorem ld_glob {E : Value -> Shared -> Prop}{pins : List (Addr × Obj)}{s : Shared}{σ : St}{H : Hp}{x : Str}{u : Value}{pos : Pos}{Q : Value -> Shared -> Prop}(I : Inv X pins σ H s)(hg : Gl X x)(hm : X.mg x = some u)(h : Q u s)
    (hd : (x == ("__debug__" : Str)) = false := by decide) : wpAny (model X.prog X.w) X.A (eval (.Name x pos) X.env) Q E s :=
  Calls.Name_function_global I.ok.kind hg (Calls.loadGlobal_global (by rw [I.ok.glob]; exact I.mod.glob.keeps I.bk) hm h) hd
theorem ld_blt {E : Value -> Shared -> Prop}{pins : List (Addr × Obj)}{s : Shared}{σ : St}{H : Hp}{x : Str}{u : Value}{pos : Pos}{Q : Value -> Shared -> Prop}(I : Inv X pins σ H s)(hg : Gl X x)(hm : X.mg x = none)(hv : bootBuiltins x = some u)(h : Q u s)
    (hn : x ≠ "__name__" := by decide) (hd : (x == ("__debug__" : Str)) = false := by decide) : wpAny (model X.prog X.w) X.A (eval (.Name x pos) X.env) Q E s := by
  obtain ⟨mb,h1,h2⟩ := I.mod.blt
  exact Calls.Name_function_global I.ok.kind hg (Calls.loadGlobal_builtin (by rw [I.ok.glob]; exact I.mod.glob.keeps I.bk) hm (by rw [I.ok.blt]; exact h1.keeps I.bk) ((h2 x hn).trans hv) h) hd
theorem pe_glob {x : Str}{v : V}{u : Value}{pos : Pos}(hg : Gl X x)(hm : X.mg x = some u)(r : RelV v u)(hd : (x == ("__debug__" : Str)) = false := by decide) : PE X (.Name x pos) (tC v) :=
  fun _ _ _ H _ I h => ld_glob I hg hm ⟨v,H,I,r,h⟩ hd
theorem pe_bltn {x : Str}{v : V}{u : Value}{pos : Pos}(hg : Gl X x)(hm : X.mg x = none)(hv : bootBuiltins x = some u)(r : RelV v u)(hn : x ≠ "__name__" := by decide) (hd : (x == ("__debug__" : Str)) = false := by decide) : PE X (.Name x pos) (tC v) :=
  fun _ _ _ H _ I h => ld_blt I hg hm hv ⟨v,H,I,r,h⟩ hn hd
variable {a b : Expr}{ta tb : TE}{pos : Pos}
def tB (t : TE) : TT := fun σ H Q => t σ H fun x H1 => ∃ c,x = .bl c /\ Q c H1
variable {tA tB' : TT}{rest : List Expr}
def tOr (t u : TT) : TT := fun σ H Q => t σ H fun c H1 => if c = true then Q true H1 else u σ H1 Q
def tNot (t : TT) : TT := fun σ H Q => t σ H fun c H1 => Q (!c) H1
theorem pw_or1 (ha : PT X a tA) : PW X (.BoolOp .Or [a] pos) tA := by
  intro wh pins s σ H Q I h
  refine isTrue_or (thn (ha pins s σ H Q I h) fun c s1 e => ?_)
  cases c with
  | false => exact isTrue_or_nil e
  | true => exact e
theorem pw_or (ha : PT X a tA)(hb : PW X (.BoolOp .Or (b :: rest) pos) tB') : PW X (.BoolOp .Or (a :: b :: rest) pos) (tOr tA tB') := by
  intro wh pins s σ H Q I h
  refine isTrue_or (thn (ha pins s σ H _ I h) fun c s1 ⟨H1,I1,q1⟩ => ?_)
  cases c with
  | true => exact ⟨H1,I1,q1⟩
  | false => exact hb wh pins s1 σ H1 Q I1 q1
theorem pt_not (ha : PT X a tA) : PT X (.UnaryOp .Not a pos) (tNot tA) := by
  intro pins s σ H Q I h
  exact isTrue_not (ha pins s σ H (fun c H1 => Q (!c) H1) I h)
def tAndV (ta tb : TE) : TE := fun σ H Q => ta σ H fun x H1 => ∃ c,x = .bl c /\ if c = true then tb σ H1 Q else Q (.bl false) H1
def tNotV (ta : TE) : TE := fun σ H Q => ta σ H fun x H1 => ∃ c,x = .bl c /\ Q (.bl (!c)) H1
theorem pe_one {op}{t : TE}(h : PE X a t) : PE X (.BoolOp op [a] pos) t := fun pins s σ H Q I hw => BoolOp_one (h pins s σ H Q I hw)
theorem pe_and (ha : PE X a ta)(hb : PE X (.BoolOp .And (b :: rest) pos) tb) : PE X (.BoolOp .And (a :: b :: rest) pos) (tAndV ta tb) := by
  intro pins s σ H Q I h
  refine BoolOp_and (thn (ha pins s σ H _ I h) fun v s1 ⟨x,H1,I1,r1,q1⟩ => ?_)
  obtain ⟨c,rfl,q1⟩ := q1
  cases r1
  refine wpAny_truthy_bool ?_
  cases c with
  | true => exact hb pins s1 σ H1 Q I1 q1
  | false => exact ⟨.bl false,H1,I1,rfl,q1⟩
theorem pe_not (ha : PE X a ta) : PE X (.UnaryOp .Not a pos) (tNotV ta) := by
  intro pins s σ H Q I h
  refine UnaryOp_ (thn (ha pins s σ H _ I h) fun v s1 ⟨x,H1,I1,r1,q1⟩ => ?_)
  obtain ⟨c,rfl,q1⟩ := q1
  cases r1
  exact not_of (wpAny_truthy_bool ⟨.bl (!c),H1,I1,rfl,q1⟩)
end
end L2
namespace L2
open PySem PySem.Spec PyProof.Rows
def SqL (K : PySem.W.Frag)(H : Hp)(a : Addr)(xs : List V) : Prop :=
  Rd H a (.lst xs) \/
    ∃ (o : Obj) (its : Array Value) (n : Nat),K.lookup a = some o /\ o.cls = .type "list" /\ o.dict = none /\ o.data = .seq its n /\ its.size <= sizeLine /\ Vals xs its.toList
def SqT (K : PySem.W.Frag)(H : Hp)(a : Addr)(xs : List V) : Prop :=
  Rd H a (.tup xs) \/
    ∃ (o : Obj) (its : Array Value) (n : Nat),K.lookup a = some o /\ o.cls = .type "tuple" /\ o.data = .seq its n /\ its.size <= sizeLine /\ Vals xs its.toList
def absV : Value -> Option V
  | .none => some .non
  | .bool b => some (.bl b)
  | .int i _ => some (.int i)
  | .str x _ => some (.str x)
  | .bytes b _ => some (.byt b)
  | .float b _ => some (.flt b)
  | .ref a => some (.ref a)
  | .type n => some (.ty n)
  | _ => none
theorem RelV.abs {x : V}{u : Value}(r : RelV x u) : absV u = some x := by
  cases x with
  | non => cases r; rfl
  | bl _ => cases r; rfl
  | int _ => obtain ⟨t,rfl⟩ := r; rfl
  | str _ => obtain ⟨t,rfl⟩ := r; rfl
  | byt _ => obtain ⟨t,rfl⟩ := r; rfl
  | flt _ => obtain ⟨t,rfl⟩ := r; rfl
  | ref _ => cases r; rfl
  | ty _ => cases r; rfl
theorem RelV.inj {x y : V}{u : Value}(r : RelV x u)(q : RelV y u) : x = y := Option.some.inj (r.abs.symm.trans q.abs)
theorem Vals.inj : ∀ {xs ys : List V} {us : List Value},Vals xs us -> Vals ys us -> xs = ys
  | _,_,_,.nil,.nil => rfl
  | _,_,_,.cons r t,.cons r' t' => by rw [r.inj r',Vals.inj t t']
section
variable {X : Cx}{pins : List (Addr × Obj)}{σ : St}{H : Hp}{s : Shared}{a : Addr}{xs ys : List V}
theorem SqL.of {K : PySem.W.Frag}(h : H a = some (.lst xs)) : SqL K H a xs := .inl (.inl h)
theorem SqT.of {K : PySem.W.Frag}(h : H a = some (.tup xs)) : SqT K H a xs := .inl (.inl h)
theorem Inv.list (I : Inv X pins σ H s)(h : SqL X.K H a xs) : ∃ its : List Value,Vals xs its /\ PlainL s.heap a its.toArray /\ xs.length <= sizeLine := by
  rcases h with h | ⟨o,its,n,hk,hc,hd,hs,hz,r⟩
  · obtain ⟨z,its,n,r,e⟩ := h.ok I.hok
    exact ⟨its,r,⟨_,n,e,rfl,rfl,rfl⟩,z⟩
  · refine ⟨its.toList,r,⟨o,n,I.kIn a o hk,hc,hd,by simpa using hs⟩,?_⟩
    have e := r.length
    simp only [Array.length_toList] at e
    omega
theorem Inv.tuple (I : Inv X pins σ H s)(h : SqT X.K H a xs) : ∃ its : List Value,Vals xs its /\ IsTup s.heap a its.toArray /\ xs.length <= sizeLine := by
  rcases h with h | ⟨o,its,n,hk,hc,hs,hz,r⟩
  · obtain ⟨z,its,r,p⟩ := h.ok I.hok
    exact ⟨its,r,p,z⟩
  · refine ⟨its.toList,r,⟨o,I.kIn a o hk,hc,n,by simpa using hs⟩,?_⟩
    have e := r.length
    simp only [Array.length_toList] at e
    omega
theorem Inv.list_inj (I : Inv X pins σ H s)(h : SqL X.K H a xs)(h' : SqL X.K H a ys) : xs = ys := by
  obtain ⟨its,r,⟨o,n,e,_,_,d⟩,_⟩ := I.list h
  obtain ⟨its',r',⟨o',n',e',_,_,d'⟩,_⟩ := I.list h'
  rw [e] at e'; cases e'
  rw [d] at d'
  injection d' with d1 _
  have : its = its' := by simpa using congrArg Array.toList d1
  subst this
  exact r.inj r'
theorem Inv.tuple_inj (I : Inv X pins σ H s)(h : SqT X.K H a xs)(h' : SqT X.K H a ys) : xs = ys := by
  obtain ⟨its,r,⟨o,e,_,n,d⟩,_⟩ := I.tuple h
  obtain ⟨its',r',⟨o',e',_,n',d'⟩,_⟩ := I.tuple h'
  rw [e] at e'; cases e'
  rw [d] at d'
  injection d' with d1 _
  have : its = its' := by simpa using congrArg Array.toList d1
  subst this
  exact r.inj r'
end
abbrev Cx.wish (X : Cx)(E : Value -> Shared -> Prop) : Cx := { X with xe := E }
abbrev Cx.nox (X : Cx) : Cx := X.wish fun _ _ => False
theorem Cx.Ok.wish {X : Cx}(ok : X.Ok)(E : Value -> Shared -> Prop) : (X.wish E).Ok :=
  ⟨ok.mod,ok.kind,ok.glob,ok.blt,ok.above,ok.inj,ok.has,ok.cab,ok.hd,ok.frames,ok.stk,ok.exf,ok.bs,ok.bsz,ok.noex,ok.exfs,ok.funs,ok.frf⟩
theorem Cx.Ok.unwish {X : Cx}{E : Value -> Shared -> Prop}(ok : (X.wish E).Ok) : X.Ok :=
  ⟨ok.mod,ok.kind,ok.glob,ok.blt,ok.above,ok.inj,ok.has,ok.cab,ok.hd,ok.frames,ok.stk,ok.exf,ok.bs,ok.bsz,ok.noex,ok.exfs,ok.funs,ok.frf⟩
section
variable {X : Cx}{pins : List (Addr × Obj)}{σ : St}{H : Hp}{s : Shared}{E : Value -> Shared -> Prop}
theorem Inv.wish (I : Inv X pins σ H s)(E : Value -> Shared -> Prop) : Inv (X.wish E) pins σ H s := ⟨I.ok.wish E,I.os,I.bare,I.base,I.loc,I.cell,I.free,I.freeC,I.pin,I.hok,I.len⟩
theorem Inv.unwish (I : Inv (X.wish E) pins σ H s) : Inv X pins σ H s := ⟨I.ok.unwish,I.os,I.bare,I.base,I.loc,I.cell,I.free,I.freeC,I.pin,I.hok,I.len⟩
theorem SP.unwish {D : Ends}{f : Flow}{s' : Shared}(h : SP (X.wish E) pins D f s') : SP X pins D f s' := by
  cases f with
  | next => obtain ⟨σ',H',I,q⟩ := h; exact ⟨σ',H',I.unwish,q⟩
  | brk => obtain ⟨σ',H',I,q⟩ := h; exact ⟨σ',H',I.unwish,q⟩
  | cont => obtain ⟨σ',H',I,q⟩ := h; exact ⟨σ',H',I.unwish,q⟩
  | ret u => obtain ⟨v,σ',H',I,r,q⟩ := h; exact ⟨v,σ',H',I.unwish,r,q⟩
theorem PE.nox {e : Expr}{t : TE}(h : PE X.nox e t) : PE X e t := fun pins s σ H Q I hw =>
  wpAny_mono (h pins s σ H Q (I.wish _) hw) (fun _ _ ⟨v,H',I',r,q⟩ => ⟨v,H',I'.unwish,r,q⟩) fun _ _ z => False.elim z
theorem PT.nox {e : Expr}{t : TT}(h : PT X.nox e t) : PT X e t := fun pins s σ H Q I hw =>
  wpAny_mono (h pins s σ H Q (I.wish _) hw) (fun _ _ ⟨H',I',q⟩ => ⟨H',I'.unwish,q⟩) fun _ _ z => False.elim z
theorem PSs.nox {st : List Stmt}{t : TS}(h : PSs X.nox st t) : PSs X st t := fun pins s σ H D I hw =>
  wpAny_mono (h pins s σ H D (I.wish _) hw) (fun _ _ q => q.unwish) fun _ _ z => False.elim z
end
section
variable {X : Cx}{st : Stmt}{rest : List Stmt}{t u : TS}{e : Expr}{te : TE}{pos : Pos}
def tNext : TS := fun D σ H => D.nx σ H
def tSeq (t u : TS) : TS := fun D σ H => t { D with nx := u D } σ H
theorem pss_nil : PSs X [] tNext := fun _ _ σ H _ I h => wpAny_execs_nil ⟨σ,H,I,h⟩
theorem pss_cons (h1 : PS X st t)(h2 : PSs X rest u) : PSs X (st :: rest) (tSeq t u) := by
  intro pins s σ H D I h
  refine wpAny_execs_cons (thn (h1 pins s σ H { D with nx := u D } I h) fun f s1 q => ?_)
  cases f with
  | next =>
    obtain ⟨σ',H',I',q⟩ := q
    exact h2 pins s1 σ' H' D I' q
  | ret v => exact q
  | brk => exact q
  | cont => exact q
theorem pss_one (h1 : PS X st t) : PSs X [st] t := by
  intro pins s σ H D I h
  refine wpAny_execs_cons (thn (h1 pins s σ H D I h) fun f s1 q => ?_)
  cases f with
  | next => exact wpAny_execs_nil q
  | ret v => exact q
  | brk => exact q
  | cont => exact q
theorem Inv.quiet {pins : List (Addr × Obj)}{σ : St}{H : Hp}{s : Shared}(I : Inv X pins σ H s) : interactive X.env = false := by simp [interactive,I.ok.kind]
def tDrop (te : TE) : TS := fun D σ H => te σ H fun _ H1 => D.nx σ H1
theorem ps_expr (he : PE X e te)(hs : swapsWith e none pos.line X.env = pure false := by rfl) : PS X (.Expr e pos) (tDrop te) := by
  intro pins s σ H D I h
  exact wpAny_Expr_any (thn (he pins s σ H _ I h) fun v s1 ⟨x,H1,I1,r1,q1⟩ => ⟨σ,H1,I1,q1⟩) I.quiet hs
def tRet (te : TE) : TS := fun D σ H => te σ H D.rt
theorem ps_ret (he : PE X e te) : PS X (.Return (some e) pos) (tRet te) := by
  intro pins s σ H D I h
  exact wpAny_Return_some (thn (he pins s σ H _ I h) fun v s1 ⟨x,H1,I1,r1,q1⟩ => ⟨x,σ,H1,I1,r1,q1⟩)
def tIfS (c : TT)(t u : TS) : TS := fun D σ H => c σ H fun b H1 => if b = true then t D σ H1 else u D σ H1
theorem ps_if {c : Expr}{a b : List Stmt}{tc : TT}(hc : PT X c tc)(ha : PSs X a t)(hb : PSs X b u) : PS X (.If c a b pos) (tIfS tc t u) := by
  intro pins s σ H D I h
  refine wpAny_If (thn (hc pins s σ H _ I h) fun d s1 ⟨H1,I1,q1⟩ => ?_)
  cases d with
  | true => exact ha pins s1 σ H1 D I1 q1
  | false => exact hb pins s1 σ H1 D I1 q1
def tNever : TS := fun _ _ _ => False
theorem ps_never : PS X st tNever := fun _ _ _ _ _ _ h => h.elim
end
abbrev TG := V -> St -> Hp -> (St -> Hp -> Prop) -> Prop
abbrev TGs := List V -> St -> Hp -> (St -> Hp -> Prop) -> Prop
def PG (X : Cx)(target : Expr)(t : TG) : Prop :=
  ∀ (pins : List (Addr × Obj)) (s : Shared) (σ : St) (H : Hp) (v : V) (u : Value) (Q : St -> Hp -> Prop),Inv X pins σ H s -> RelV v u -> t v σ H Q ->
    wpAny (model X.prog X.w) X.A (assign target X.env u) (fun _ s' => ∃ σ' H',Inv X pins σ' H' s' /\ Q σ' H') X.xe s
def PGs (X : Cx)(ts : List Expr)(t : TGs) : Prop :=
  ∀ (pins : List (Addr × Obj)) (s : Shared) (σ : St) (H : Hp) (vs : List V) (us : List Value) (Q : St -> Hp -> Prop),Inv X pins σ H s -> Vals vs us -> t vs σ H Q ->
    wpAny (model X.prog X.w) X.A (assignInOrder ((assignEach ts X.env).map (·.2)) us) (fun _ s' => ∃ σ' H',Inv X pins σ' H' s' /\ Q σ' H') X.xe s
abbrev TSet := V -> V -> V -> Hp -> (Hp -> Prop) -> Prop
def PSet (X : Cx)(t : TSet) : Prop :=
  ∀ (pins : List (Addr × Obj)) (s : Shared) (σ : St) (H : Hp) (o i v : V) (ov iv u : Value) (Q : Hp -> Prop),Inv X pins σ H s -> RelV o ov -> RelV i iv -> RelV v u -> t o i v H Q ->
    wpAny (model X.prog X.w) X.A (setItem ov iv u) (fun _ s' => ∃ H',Inv X pins σ H' s' /\ Q H') X.xe s
section
variable {X : Cx}{pos : Pos}
def gName (i : Nat) : TG := fun v σ H Q => Q (σ.set i (some v)) H
theorem pg_name {i : Nat} {x : Str} (hN : X.N.Nodup) (hi : X.N[i]? = some x) (hx : Loc X.env.scope x) (hf : X.fn x = true \/ X.env.scope.names.lookup x = some .local := by first | exact .inl rfl | exact .inr rfl | assumption) : PG X (.Name x pos) (gName i) := by
  intro pins s σ H v u Q I r h
  exact wpAny_assign_Name (store_ok I hN hi hx r (fun s' I' => ⟨_,H,I',h⟩) hf)
def gNil : TGs := fun vs σ H Q => vs = [] /\ Q σ H
def gCons (t : TG)(u : TGs) : TGs := fun vs σ H Q => ∃ v r,vs = v :: r /\ t v σ H fun σ' H' => u r σ' H' Q
theorem pgs_nil : PGs X [] gNil := by
  intro pins s σ H vs us Q I r h
  obtain ⟨e,h⟩ := h
  subst e
  cases r
  exact assignInOrder_nil ⟨σ,H,I,h⟩
theorem pgs_cons {e : Expr}{es : List Expr}{t : TG}{u : TGs}(h1 : PG X e t)(h2 : PGs X es u)
    (hs : (assignEach (e :: es) X.env).map (·.2) = assign e X.env :: (assignEach es X.env).map (·.2) := by rfl) : PGs X (e :: es) (gCons t u) := by
  intro pins s σ H vs us Q I r h
  obtain ⟨v,vr,e1,h⟩ := h
  subst e1
  cases r with
  | cons r rr =>
    rw [hs]
    refine assignInOrder_cons (thn (h1 pins s σ H _ _ _ I r h) fun _ s1 ⟨σ1,H1,I1,q1⟩ => ?_)
    exact h2 pins s1 σ1 H1 _ _ Q I1 rr q1
def gTup (K : PySem.W.Frag)(n : Nat)(t : TGs) : TG := fun v σ H Q => ∃ a xs,v = .ref a /\ SqT K H a xs /\ xs.length = n /\ t xs σ H Q
theorem pg_tup {es : List Expr}{k : Nat}{t : TGs}{n : Nat}(hc : X.calm = true)(h : PGs X es t)
    (hn : (assignEach es X.env).length = n := by rfl) (hst : (assignEach es X.env).findIdx? (·.1) = none := by rfl) : PG X (.Tuple es k pos) (gTup X.K n t) := by
  intro pins s σ H v u Q I r hw
  obtain ⟨a,xs,e1,hq,hl,hw⟩ := hw
  subst e1
  cases r
  obtain ⟨its,rv,ht,hz⟩ := I.tuple hq
  refine assign_Tuple_tuple (I.ok.hd hc) ht (by simp [hn,<- hl,rv.length]) hst fun h' hx => ?_
  have I1 : Inv X pins σ H { s with heap := h' } := I.kept (t' := s.toks) fun b o e => hx b o (Nat.ne_of_lt (Heap.lt_size e)) e
  exact h pins _ σ H xs _ Q I1 (by simpa using rv) hw
def gSub (to ti : TE)(t : TSet) : TG := fun v σ H Q => to σ H fun o H1 => ti σ H1 fun i H2 => t o i v H2 fun H3 => Q σ H3
theorem pg_sub {o i : Expr}{to ti : TE}{t : TSet}(ho : PE X o to)(hi : PE X i ti)(hs : PSet X t)
    (ha : ∀ v,assign (.Subscript o i pos) X.env v = (do
      let ov <- holding [v] (eval o X.env)
      let iv <- holding [v,ov] (eval i X.env)
      standAt pos
      holding [v,ov,iv] (setItem ov iv v)
      release [v,ov,iv] []) := by intro _; rfl) : PG X (.Subscript o i pos) (gSub to ti t) := by
  intro pins s σ H v u Q I r h
  rw [ha]
  refine wpAny_bind (wpAny_holding (thn (ho pins s σ H _ I h) fun ov s1 ⟨x,H1,I1,r1,q1⟩ => ?_))
  refine wpAny_bind (wpAny_holding (thn (hi pins s1 σ H1 _ I1 q1) fun iv s2 ⟨y,H2,I2,r2,q2⟩ => ?_))
  refine wpAny_bind (wpAny_standAt (wpAny_bind (wpAny_holding (thn (hs pins s2 σ H2 x y v ov iv u _ I2 r1 r2 r q2) fun _ s3 ⟨H3,I3,q3⟩ => ?_))))
  exact wpAny_release ⟨σ,H3,I3,q3⟩
def tAsg (te : TE)(g : TG) : TS := fun D σ H => te σ H fun x H1 => g x σ H1 D.nx
theorem ps_asg {tg e : Expr}{te : TE}{g : TG}(he : PE X e te)(hg : PG X tg g)(hs : swapsWithSole [tg] e pos.line X.env = pure false := by rfl)(hw : swappedStores [tg] e X.env = pure none := by rfl)
    (h1 : (assignEach [tg] X.env).map (·.2) = [assign tg X.env] := by rfl) : PS X (.Assign [tg] e pos) (tAsg te g) := by
  intro pins s σ H D I h
  refine wpAny_Assign_stores (thn (he pins s σ H _ I h) fun v s1 ⟨x,H1,I1,r1,q1⟩ => ?_) hs hw
  rw [h1]
  exact thn (hg pins s1 σ H1 x v _ I1 r1 q1) fun _ s2 q => q
theorem ps_set {i : Nat} {x : Str} {e : Expr} {te : TE} {pos' : Pos} (hN : X.N.Nodup) (hi : X.N[i]? = some x) (hx : Loc X.env.scope x) (he : PE X e te) (hs : swapsWith e (some (.Name x pos')) pos.line X.env = pure false := by rfl) (hf : X.fn x = true \/ X.env.scope.names.lookup x = some .local := by first | exact .inl rfl | exact .inr rfl | assumption) :
    PS X (.Assign [.Name x pos'] e pos) (tAsg te (gName i)) := by
  intro pins s σ H D I h
  refine wpAny_Assign_Name (thn (he pins s σ H _ I h) fun v s1 ⟨y,H1,I1,r1,q1⟩ => ?_) hs
  exact store_ok I1 hN hi hx r1 (fun s2 I2 => ⟨_,H1,I2,q1⟩) hf
def tPar (i j : Nat)(ta : TA) : TS := fun D σ H => ta σ H fun vs H1 => ∃ v w,vs = [v,w] /\ D.nx ((σ.set i (some v)).set j (some w)) H1
theorem ps_par {i j : Nat}{x y : Str}{a b : Expr}{ta : TA}{px py pt : Pos}{kt k2 pt2}(hc : X.calm = true)(hN : X.N.Nodup)(hi : X.N[i]? = some x)(hj : X.N[j]? = some y)(hij : i ≠ j)
    (hx : X.env.scope.names.lookup x = some .local) (hy : X.env.scope.names.lookup y = some .local) (ha : PA X [a,b] ta)
    (hw : swappedStores [.Tuple [.Name x px,.Name y py] kt pt] (.Tuple [a,b] k2 pt2) X.env = pure (some [x,y]))
    (hs : swapsWithSole [.Tuple [.Name x px,.Name y py] kt pt] (.Tuple [a,b] k2 pt2) pos.line X.env = pure false := by rfl) :
    PS X (.Assign [.Tuple [.Name x px,.Name y py] kt pt] (.Tuple [a,b] k2 pt2) pos) (tPar i j ta) := by
  intro pins s σ H D I h
  rw [exec_Assign_arm]
  refine wpAny_bind (wpAny_standAt ?_)
  rw [hs]
  refine wpAny_bind (wpAny_pure ?_)
  rw [if_neg (by decide)]
  refine wpAny_bind (Tuple_ (thn (ha _ pins s σ H _ I h) fun us s1 ⟨vs,H1,I1,r1,q1⟩ => ?_))
  obtain ⟨v,w,e1,q1⟩ := q1
  subst e1
  obtain ⟨u1,u2,rfl,rv,rw'⟩ : ∃ u1 u2,us = [u1,u2] /\ RelV v u1 /\ RelV w u2 := by
    cases r1 with
    | cons p q =>
      cases q with
      | cons p' q' =>
        cases q'
        exact ⟨_,_,rfl,p,p'⟩
  refine wpAny_newObj_type ?_ (by show 2 <= sizeLine; decide)
  have I2 : Inv X pins σ H1 { s1 with heap := s1.heap.push { cls := .type "tuple",data := .seq [u1,u2].toArray } } := I1.kept (t' := s1.toks) fun b o e => Heap.get?_push_of_some _ e
  rw [hw]
  refine wpAny_bind (wpAny_pure ?_)
  show wpAny (model X.prog X.w) X.A (do rule "assign.swapped-stores"; let items <- unpackItems (.ref s1.heap.objs.size) 2 none; assignInOrder [fun v => bindName X.env y v,fun v => bindName X.env x v] items.reverse; pure Flow.next) _ _ _
  refine wpAny_bind (wpAny_rule (wpAny_bind (unpackItems_tuple (items := #[u1,u2]) (I.ok.hd hc) (IsTup.new s1.heap _) fun h' hx' => ?_)))
  have I3 := I2.kept (h' := h') (t' := s1.toks) fun b o e => hx' b o (Nat.ne_of_lt (Heap.lt_size e)) e
  show wpAny _ _ (assignInOrder [fun v => bindName X.env y v,fun v => bindName X.env x v] [u2,u1] >>= fun _ => pure Flow.next) _ _ _
  refine wpAny_bind (assignInOrder_cons (wpAny_bindName (store_ok I3 hN hj (.inl hy) rw' (fun s2 I4 => ?_) (.inr hy))))
  refine assignInOrder_cons (wpAny_bindName (store_ok I4 hN hi (.inl hx) rv (fun s3 I5 => assignInOrder_nil (wpAny_pure ?_)) (.inr hx)))
  rw [List.set_comm _ _ (Ne.symm hij)] at I5
  exact ⟨_,H1,I5,q1⟩
end
section
variable {X : Cx}{pos : Pos}
def tWhile (c : TT)(tb : TS) : TS := fun D σ H => ∃ W : Nat -> St -> Hp -> Prop,(∃ m,W m σ H) /\ ∀ m σ H,W m σ H ->
  c σ H fun b H1 => if b = true then ∃ N : St -> Hp -> Prop,(∀ σ' H',N σ' H' -> ∃ m',m' < m /\ W m' σ' H') /\ tb { D with nx := N,ct := N,bk := D.nx } σ H1 else D.nx σ H1
theorem ps_while {c : Expr}{body : List Stmt}{tc : TT}{tb : TS}(hp : PassesOwn (model X.prog X.w) X.A X.env X.xe)(hc : PT X c tc)(hb : PSs X body tb) : PS X (.While c body [] pos) (tWhile tc tb) := by
  intro pins s σ H D I h
  obtain ⟨W,⟨m0,w0⟩,turn⟩ := h
  refine wpAny_While (codeAny_whileLoop (fun n s' => ∃ σ' H',Inv X pins σ' H' s' /\ W n σ' H') ?_ m0 ⟨σ,H,I,w0⟩)
  rintro n s1 ⟨σ1,H1,I1,w1⟩
  refine wpAny_passesOwn hp (thn (hc pins s1 σ1 H1 _ I1 (turn n σ1 H1 w1)) fun b s2 ⟨H2,I2,q2⟩ => ?_)
  cases b with
  | true =>
    obtain ⟨N,hN,q2⟩ := q2
    rw [if_pos rfl]
    refine wpAny_passesOwn hp (thn (hb pins s2 σ1 H2 _ I2 q2) fun f s3 q3 => ?_)
    cases f with
    | next =>
      obtain ⟨σ3,H3,I3,n3⟩ := q3
      obtain ⟨m',hm,w3⟩ := hN σ3 H3 n3
      exact ⟨m',hm,σ3,H3,I3,w3⟩
    | cont =>
      obtain ⟨σ3,H3,I3,n3⟩ := q3
      obtain ⟨m',hm,w3⟩ := hN σ3 H3 n3
      exact ⟨m',hm,σ3,H3,I3,w3⟩
    | brk => exact q3
    | ret v => exact q3
  | false =>
    rw [if_neg Bool.false_ne_true]
    exact wpAny_execs_nil ⟨σ1,H2,I2,q2⟩
end
structure It where
  go : Nat -> Hp -> Prop
  yld : Nat -> Hp -> V -> Hp -> Prop
  stop : Nat -> Hp -> Prop
def FpOk (X : Cx)(pins : List (Addr × Obj))(H : Hp)(b : Addr) : Prop :=
  H b = none /\ b ≠ X.env.locals /\ b ∉ X.fs /\ (b ∈ X.ex \/ X.s₀.heap.objs.size <= b) /\ (∀ x c,X.env.cells.lookup x = some c -> c ≠ b) /\ ∀ p ∈ X.pn ++ pins,p.1 ≠ b
theorem Inv.fpOk {X : Cx}{pins : List (Addr × Obj)}{σ : St}{H H' : Hp}{s : Shared}{b : Addr}(I : Inv X pins σ H s)(hb : s.heap.objs.size <= b)(hn : H' b = none) : FpOk X pins H' b := by
  refine ⟨hn,Nat.ne_of_gt (Nat.lt_of_lt_of_le I.lt hb),I.nofs hb,.inr (Nat.le_trans I.sz hb),fun x c e z => ?_,fun p hp z => ?_⟩
  · obtain ⟨v,q⟩ := I.cell x c e
    exact absurd (Nat.lt_of_lt_of_le q.lt (by rw [z]; exact hb)) (Nat.lt_irrefl _)
  · exact absurd (Nat.lt_of_lt_of_le (Heap.lt_size (I.pin p hp).1) (by rw [z]; exact hb)) (Nat.lt_irrefl _)
structure Turn (P : Program)(w : World)(K : PySem.W.Frag)(tg : Expr)(J : It)(fp : List Addr)(it : Addr)(tn : Nat -> Heap -> Prop) : Prop where
  mem : it ∈ fp
  obj : ∀ i h,tn i h -> ∀ b ∈ fp,∃ o,h.get? b = some o /\ ∀ v,o.data ≠ .cell v
  keep : ∀ i h h',tn i h -> (∀ b ∈ fp,∀ o,h.get? b = some o -> h'.get? b = some o) -> tn i h'
  item : ∀ (X : Cx),X.prog = P -> X.w = w -> X.K = K -> X.calm = true -> ∀ (i : Nat) (pins : List (Addr × Obj)) (s : Shared) (σ : St) (H : Hp) (E : Value -> Shared -> Prop),Inv X pins σ H s -> (∀ b ∈ fp,FpOk X pins H b) -> tn i s.heap -> J.go i H ->
    wpAny (model P w) X.A (pyNext (.ref it)) (fun r s1 => ∃ u,r = some u /\
      wpAny (model P w) X.A (letOwnedTupleGo tg (.ref it) u) (fun _ s2 => ∃ x H',Inv X pins σ H' s2 /\ RelV x u /\ J.yld i H x H' /\ tn (i + 1) s2.heap /\ ∀ b ∈ fp,H' b = none) E s1) E s
  done : ∀ (X : Cx),X.prog = P -> X.w = w -> X.K = K -> X.calm = true -> ∀ (i : Nat) (pins : List (Addr × Obj)) (s : Shared) (σ : St) (H : Hp) (E : Value -> Shared -> Prop),Inv X pins σ H s -> (∀ b ∈ fp,FpOk X pins H b) -> tn i s.heap -> J.stop i H ->
    wpAny (model P w) X.A (pyNext (.ref it)) (fun r s1 => r = none /\ Inv X pins σ H s1) E s
  self : ∀ (A : Around) (i : Nat) (s : Shared) (Q : Value -> Shared -> Prop) (E : Value -> Shared -> Prop),tn i s.heap -> Q (.ref it) s -> wpAny (model P w) A (pyIter (.ref it)) Q E s
abbrev TI := St -> Hp -> (It -> Hp -> Prop) -> Prop
def PIE (X : Cx)(pins : List (Addr × Obj))(σ : St)(tg : Expr)(R : It -> Hp -> Prop)(itv : Value)(s2 : Shared) : Prop :=
  ∃ (it : Addr) (fp : List Addr) (tn : Nat -> Heap -> Prop) (J : It) (H' : Hp),itv = .ref it /\ Inv X pins σ H' s2 /\ Turn X.prog X.w X.K tg J fp it tn /\ tn 0 s2.heap /\ (∀ b ∈ fp,FpOk X pins H' b) /\ R J H'
def PI (X : Cx)(tg iter : Expr)(wi : TI) : Prop :=
  ∀ (pins : List (Addr × Obj)) (s : Shared) (σ : St) (H : Hp) (R : It -> Hp -> Prop),Inv X pins σ H s -> wi σ H R ->
    wpAny (model X.prog X.w) X.A (eval iter X.env) (fun v s1 => wpAny (model X.prog X.w) X.A (pyIter v) (PIE X pins σ tg R) X.xe s1) X.xe s
theorem go_of {M : Model}{A : Around}{E : Value -> Shared -> Prop}{s : Shared}{tg : Expr}{it : Addr}{u : Value}{o : Obj}{n : String}{vs : Array Value}{Q : Unit -> Shared -> Prop}(ho : s.heap.get? it = some o)(hc : o.cls = .type n)(hd : o.data = .fields vs)
    (hn : ["enumerate","zip","dict_itemiterator","dict_reverseitemiterator","odict_iterator","itertools.zip_longest","itertools.pairwise"].contains n = false) (hQ : Q () s) : wpAny M A (letOwnedTupleGo tg (.ref it) u) Q E s := by
  unfold letOwnedTupleGo
  cases tg <;> first
    | exact wpAny_pure hQ
    | (cases u <;> first
        | exact wpAny_pure hQ
        | (refine wpAny_bind (wpAny_load ho ?_)
           rw [hc,hd]
           show wpAny M A (if (["enumerate","zip","dict_itemiterator","dict_reverseitemiterator","odict_iterator","itertools.zip_longest","itertools.pairwise"].contains n && vs[0]? == some (rawInt _)) = true then _ else _) Q E s
           rw [if_neg (by intro h; rw [hn,Bool.false_and] at h; cases h)]
           exact wpAny_pure hQ))
def Itl (K : PySem.W.Frag)(a : Addr) : It :=
  ⟨fun i H => ∃ xs x,SqL K H a xs /\ xs[i]? = some x,fun i H x H' => H' = H /\ ∀ xs,SqL K H a xs -> xs[i]? = some x,fun i H => ∃ xs,SqL K H a xs /\ xs.length <= i⟩
def Itt (K : PySem.W.Frag)(a : Addr) : It :=
  ⟨fun i H => ∃ xs x,SqT K H a xs /\ xs[i]? = some x,fun i H x H' => H' = H /\ ∀ xs,SqT K H a xs -> xs[i]? = some x,fun i H => ∃ xs,SqT K H a xs /\ xs.length <= i⟩
def Itr (lo : Int)(n : Nat) : It := ⟨fun i _ => i < n,fun i H x H' => H' = H /\ x = .int (lo + i),fun i _ => n <= i⟩
theorem turn_list {P : Program}{w : World}{K : PySem.W.Frag}{tg : Expr}(a it : Addr) : Turn P w K tg (Itl K a) [it] it (fun i h => h.IsListIter it a i) where
  mem := by simp
  obj := fun i h st b hb => by
    have e : b = it := by simpa using hb
    subst e
    obtain ⟨o,e,c,d⟩ := st
    exact ⟨o,e,fun v z => by rw [d] at z; cases z⟩
  keep := fun i h h' st k => st.at fun o e => k it (by simp) o e
  item := by
    intro X hP hw hK hc i pins s σ H E I hf st hg
    subst hP hw hK
    obtain ⟨xs,x,hq,hx⟩ := hg
    obtain ⟨its,rv,p,hz⟩ := I.list hq
    obtain ⟨u,hu,ru⟩ := rv.get hx
    obtain ⟨f0,f1,f2,f3,f4,f5⟩ := hf it (by simp)
    refine wpAny_pyNext_list_item st p.isList (x := u) (by simpa using hu) fun h' st' sb => ?_
    have I1 : Inv X pins σ H { s with heap := h' } := I.turned (t' := s.toks) (fun b o hb e => (sb.2 b hb).trans e) f0 f1 f3 f4 f5
    obtain ⟨o,e,c,d⟩ := id st'
    exact ⟨u,rfl,go_of (s := { s with heap := h' }) e c d (by decide) ⟨x,H,I1,ru,⟨rfl,fun ys hy => by rw [I.list_inj hy hq]; exact hx⟩,st',fun b hb => (hf b hb).1⟩⟩
  done := by
    intro X hP hw hK hc i pins s σ H E I hf st hg
    subst hP hw hK
    obtain ⟨xs,hq,hx⟩ := hg
    obtain ⟨its,rv,p,hz⟩ := I.list hq
    obtain ⟨f0,f1,f2,f3,f4,f5⟩ := hf it (by simp)
    have hl := rv.length
    exact wpAny_pyNext_list_end (I.ok.hd hc) st p.isList (by simp; omega) fun h' eb => ⟨rfl,I.turned (t' := s.toks) (fun b o hb e => eb b o hb e) f0 f1 f3 f4 f5⟩
  self := fun _ _ _ _ _ st h => wpAny_pyIter_listiter st h
theorem turn_tuple {P : Program}{w : World}{K : PySem.W.Frag}{tg : Expr}(a it : Addr) : Turn P w K tg (Itt K a) [it] it (fun i h => h.IsTupleIter it a i) where
  mem := by simp
  obj := fun i h st b hb => by
    have e : b = it := by simpa using hb
    subst e
    obtain ⟨o,e,c,d⟩ := st
    exact ⟨o,e,fun v z => by rw [d] at z; cases z⟩
  keep := fun i h h' st k => st.at fun o e => k it (by simp) o e
  item := by
    intro X hP hw hK hc i pins s σ H E I hf st hg
    subst hP hw hK
    obtain ⟨xs,x,hq,hx⟩ := hg
    obtain ⟨its,rv,p,hz⟩ := I.tuple hq
    obtain ⟨u,hu,ru⟩ := rv.get hx
    obtain ⟨f0,f1,f2,f3,f4,f5⟩ := hf it (by simp)
    refine wpAny_pyNext_tuple_item st (show s.heap.IsTuple a its.toArray from p) (x := u) (by simpa using hu) fun h' st' sb => ?_
    have I1 : Inv X pins σ H { s with heap := h' } := I.turned (t' := s.toks) (fun b o hb e => (sb.2 b hb).trans e) f0 f1 f3 f4 f5
    obtain ⟨o,e,c,d⟩ := id st'
    exact ⟨u,rfl,go_of (s := { s with heap := h' }) e c d (by decide) ⟨x,H,I1,ru,⟨rfl,fun ys hy => by rw [I.tuple_inj hy hq]; exact hx⟩,st',fun b hb => (hf b hb).1⟩⟩
  done := by
    intro X hP hw hK hc i pins s σ H E I hf st hg
    subst hP hw hK
    obtain ⟨xs,hq,hx⟩ := hg
    obtain ⟨its,rv,p,hz⟩ := I.tuple hq
    obtain ⟨f0,f1,f2,f3,f4,f5⟩ := hf it (by simp)
    have hl := rv.length
    exact wpAny_pyNext_tuple_end (I.ok.hd hc) st (show s.heap.IsTuple a its.toArray from p) (by simp; omega) fun h' eb => ⟨rfl,I.turned (t' := s.toks) (fun b o hb e => eb b o hb e) f0 f1 f3 f4 f5⟩
  self := fun _ _ _ _ _ st h => wpAny_pyIter_tupleiter st h
theorem turn_range {P : Program}{w : World}{K : PySem.W.Frag}{tg : Expr}(it : Addr)(lo : Int)(n : Nat) : Turn P w K tg (Itr lo n) [it] it (fun i h => IsRangeIter h it (lo + (i : Nat) * 1) ((n : Int) - (i : Nat)) 1) where
  mem := by simp
  obj := fun i h st b hb => by
    have e : b = it := by simpa using hb
    subst e
    exact ⟨_,st,fun v z => by
      have z' : Data.fields _ = Data.cell v := z
      cases z'⟩
  keep := fun i h h' st k => k it (by simp) _ st
  item := by
    intro X hP hw hK hc i pins s σ H E I hf st hg
    subst hP hw hK
    obtain ⟨f0,f1,f2,f3,f4,f5⟩ := hf it (by simp)
    have W := Walks.range (prog := X.prog) (w := X.w) (I.ok.hd hc) it lo 1 n
    refine W.item i s _ _ hg st fun v h' tk hv st' kk => ?_
    obtain ⟨t,rfl⟩ := hv
    have I1 : Inv X pins σ H { s with heap := h',toks := tk } := I.turned (fun b o hb e => kk b o (by simpa using hb) e) f0 f1 f3 f4 f5
    refine ⟨_,rfl,go_of (s := { s with heap := h',toks := tk }) (n := "range_iterator") st' rfl rfl (by decide) ⟨.int (lo + i),H,I1,⟨t,?_⟩,⟨rfl,rfl⟩,st',fun b hb => (hf b hb).1⟩⟩
    rw [Int.mul_one]
  done := by
    intro X hP hw hK hc i pins s σ H E I hf st hg
    subst hP hw hK
    obtain ⟨f0,f1,f2,f3,f4,f5⟩ := hf it (by simp)
    exact wpAny_pyNext_range_end (I.ok.hd hc) st (by have : n <= i := hg; omega) fun h' eb => ⟨rfl,I.turned (t' := s.toks) (fun b o hb e => eb b o hb e) f0 f1 f3 f4 f5⟩
  self := fun _ _ _ _ _ st h => wpAny_pyIter_rangeiter st h
end L2
namespace L2
open PySem PySem.Spec PyProof.Rows
section
variable {X : Cx}{tg : Expr}
theorem range_it {pins : List (Addr × Obj)}{σ : St}{H : Hp}{s : Shared}{R : It -> Hp -> Prop}{E : Value -> Shared -> Prop}{lo hi : Int}{t u v : Tok}{tk : Nat}(I : Inv X pins σ H s)(h1 : -(2 ^ 62) <= lo)(h2 : lo < 2 ^ 62)(h3 : -(2 ^ 62) <= hi)(h4 : hi < 2 ^ 62)
    (q : R (Itr lo (hi - lo).toNat) H) : wpAny (model X.prog X.w) X.A (pyIter (.ref s.heap.objs.size)) (PIE X pins σ tg R) E { s with heap := s.heap.push { cls := .type "range",data := .fields #[.int lo t,.int hi u,.int 1 v] },toks := tk } := by
  refine wpAny_pyIter_range (IsRange.new ..) (small_one h1 h2 h3 h4) ?_
  have I1 : Inv X pins σ H { s with heap := s.heap.push { cls := .type "range",data := .fields #[.int lo t,.int hi u,.int 1 v] },toks := tk } := I.kept fun b o e => Heap.get?_push_of_some _ e
  refine ⟨(s.heap.push { cls := .type "range",data := .fields #[.int lo t,.int hi u,.int 1 v] }).objs.size,[(s.heap.push { cls := .type "range",data := .fields #[.int lo t,.int hi u,.int 1 v] }).objs.size],_,_,H,rfl,
    I1.kept (t' := tk) fun b o e => Heap.get?_push_of_some _ e,turn_range _ lo (hi - lo).toNat,?_,fun b hb => ?_,q⟩
  · have e1 : lo + ((0 : Nat) : Int) * 1 = lo := by simp
    have e2 : (((hi - lo).toNat : Nat) : Int) - ((0 : Nat) : Int) = Builtin.Range.rangeSize lo hi 1 := by rw [rangeSize_one]; split <;> omega
    show IsRangeIter _ _ (lo + ((0 : Nat) : Int) * 1) ((((hi - lo).toNat : Nat) : Int) - ((0 : Nat) : Int)) 1
    rw [e1,e2]
    exact Heap.get?_push_size _ rfl
  · have e : b = (s.heap.push { cls := .type "range",data := .fields #[.int lo t,.int hi u,.int 1 v] }).objs.size := by simpa using hb
    subst e
    exact I1.fpOk (Nat.le_refl _) (I1.hok.fresh (Nat.le_refl _))
def iRng1 (ta : TA) : TI := fun σ H R => ta σ H fun vs H1 => ∃ j : Int,vs = [.int j] /\ -(2 ^ 62) <= j /\ j < 2 ^ 62 /\ R (Itr 0 j.toNat) H1
theorem pi_range1 {a : Expr}{ta : TA}{p pos : Pos}(hg : Gl X "range") (hm : X.mg "range" = none) (ha : PA X [a] ta) (hs : starEach [a] X.env = [(false,eval a X.env)] := by rfl) : PI X tg (.Call (.Name "range" p) [a] [] pos) (iRng1 ta) := by
  intro pins s σ H R I h
  refine Call_ (ld_blt I hg hm boot_range (PyProof.Rows.callWith_type1 (thn (ha pos pins s σ H _ I h) fun us s1 ⟨vs,H1,I1,r1,q1⟩ => ?_) hs rfl))
  obtain ⟨j,e,q1,q2,q⟩ := q1
  subst e
  cases r1 with
  | cons r rr =>
    cases rr
    obtain ⟨t,rfl⟩ := r
    exact call_range_1 (range_it I1 (by omega) (by omega) q1 q2 (by simpa using q))
def tFor (wi : TI)(g : TG)(tb : TS) : TS := fun D σ H => wi σ H fun J H1 => ∃ W : Nat -> Nat -> St -> Hp -> Prop,(∃ m,W 0 m σ H1) /\ ∀ i m σ H,W i m σ H ->
  (J.stop i H /\ D.nx σ H) \/ (J.go i H /\ ∃ N : St -> Hp -> Prop,(∀ σ' H',N σ' H' -> ∃ m',m' < m /\ W (i + 1) m' σ' H') /\ ∀ x H',J.yld i H x H' -> g x σ H' fun σ2 H2 => tb { D with nx := N,ct := N,bk := D.nx } σ2 H2)
def pinsAt (fp : List Addr)(h : Heap) : List (Addr × Obj) := fp.filterMap fun b => (h.get? b).map fun o => (b,o)
theorem mem_pinsAt {fp : List Addr}{h : Heap}{b : Addr}{o : Obj}(hb : b ∈ fp)(e : h.get? b = some o) : (b,o) ∈ pinsAt fp h := List.mem_filterMap.mpr ⟨b,hb,by rw [e]; rfl⟩
theorem of_pinsAt {fp : List Addr}{h : Heap}{p : Addr × Obj}(hp : p ∈ pinsAt fp h) : p.1 ∈ fp /\ h.get? p.1 = some p.2 := by
  obtain ⟨b,hb,e⟩ := List.mem_filterMap.mp hp
  cases q : h.get? b with
  | none => rw [q] at e; cases e
  | some o =>
    rw [q] at e
    have e' : (b,o) = p := Option.some.inj e
    subst e'
    exact ⟨hb,q⟩
theorem Inv.pinned {pins : List (Addr × Obj)}{σ : St}{H : Hp}{s : Shared}{fp : List Addr}(I : Inv X pins σ H s)(hf : ∀ b ∈ fp,FpOk X pins H b)(ho : ∀ b ∈ fp,∃ o,s.heap.get? b = some o /\ ∀ v,o.data ≠ .cell v) : Inv X (pins ++ pinsAt fp s.heap) σ H s :=
  I.pins_of fun p hp => (List.mem_append.mp hp).elim (fun z => I.pin p (List.mem_append_right _ z)) fun z => by
    obtain ⟨hb,e⟩ := of_pinsAt z
    obtain ⟨f0,f1,f2,_⟩ := hf p.1 hb
    obtain ⟨o,e',d⟩ := ho p.1 hb
    rw [e] at e'; cases e'
    exact ⟨e,f0,f1,f2,d⟩
theorem Inv.unpinned {pins pl : List (Addr × Obj)}{σ : St}{H : Hp}{s : Shared}(I : Inv X (pins ++ pl) σ H s) : Inv X pins σ H s := I.pins_of fun p hp => I.pin p (List.mem_append_right _ (List.mem_append_left _ hp))
theorem ps_for {iter : Expr}{body : List Stmt}{wi : TI}{g : TG}{tb : TS}{pos : Pos}(hp : PassesOwn (model X.prog X.w) X.A X.env X.xe)(hc : X.calm = true)(hi : PI X tg iter wi)(hg : PG X tg g)(hb : PSs X body tb)
    (hs : ∀ x,foldedSetIterable iter X.env x = pure x := by intro _; rfl) : PS X (.For tg iter body [] pos) (tFor wi g tb) := by
  intro pins s σ H D I h
  refine wpAny_For (thn (hi pins s σ H _ I h) fun v s1 h1 => thn h1 fun itv s2 h2 => ?_) hs
  obtain ⟨it,fp,tn,J,H2,e,I2,T,st2,f2,W,⟨m0,w0⟩,turn⟩ := h2
  subst e
  have stat : ∀ {H' : Hp},(∀ b ∈ fp,H' b = none) -> ∀ b ∈ fp,FpOk X pins H' b := fun hn b hb => ⟨hn b hb,(f2 b hb).2⟩
  refine codeAny_forLoop_any (fun n s' => ∃ i σ' H',Inv X pins σ' H' s' /\ tn i s'.heap /\ (∀ b ∈ fp,H' b = none) /\ W i n σ' H') ?_ m0 ⟨0,σ,H2,I2,st2,fun b hb => (f2 b hb).1,w0⟩
  rintro n s3 ⟨i,σ3,H3,I3,st3,fr3,w3⟩
  rcases turn i n σ3 H3 w3 with ⟨stop,qn⟩ | ⟨go,N,hN,step⟩
  · refine wpAny_passesOwn hp (thn (T.done X rfl rfl rfl hc i pins s3 σ3 H3 X.xe I3 (stat fr3) st3 stop) fun r s4 ⟨hr,I4⟩ => ?_)
    subst hr
    exact wpAny_execs_nil ⟨σ3,H3,I4,qn⟩
  · refine wpAny_passesOwn hp (thn (T.item X rfl rfl rfl hc i pins s3 σ3 H3 X.xe I3 (stat fr3) st3 go) fun r s4 ⟨u,hr,h4⟩ => ?_)
    subst hr
    refine wpAny_passesOwn hp (thn h4 fun _ s5 ⟨x,H5,I5,r5,y5,st5,fr5⟩ => ?_)
    have I5' := I5.pinned (stat fr5) (T.obj _ _ st5)
    refine wpAny_passesOwn hp (thn (hg _ s5 σ3 H5 x u _ I5' r5 (step x H5 y5)) fun _ s6 ⟨σ6,H6,I6,q6⟩ => ?_)
    refine wpAny_passesOwn hp (thn (hb _ s6 σ6 H6 _ I6 q6) fun f s7 q7 => ?_)
    have again : ∀ {σ7 : St} {H7 : Hp},Inv X (pins ++ pinsAt fp s5.heap) σ7 H7 s7 -> N σ7 H7 -> ∃ m,m < n /\ ∃ i σ' H',Inv X pins σ' H' s7 /\ tn i s7.heap /\ (∀ b ∈ fp,H' b = none) /\ W i m σ' H' := fun {σ7 H7} I7 n7 => by
      obtain ⟨m',hm,w7⟩ := hN σ7 H7 n7
      refine ⟨m',hm,i + 1,σ7,H7,I7.unpinned,T.keep _ _ _ st5 fun b hb o e => (I7.pin (b,o) (List.mem_append_right _ (List.mem_append_right _ (mem_pinsAt hb e)))).1,fun b hb => ?_,w7⟩
      obtain ⟨o,e,d⟩ := T.obj _ _ st5 b hb
      exact (I7.pin (b,o) (List.mem_append_right _ (List.mem_append_right _ (mem_pinsAt hb e)))).2.1
    cases f with
    | next => obtain ⟨σ7,H7,I7,n7⟩ := q7; exact again I7 n7
    | cont => obtain ⟨σ7,H7,I7,n7⟩ := q7; exact again I7 n7
    | brk => obtain ⟨σ7,H7,I7,q7⟩ := q7; exact ⟨σ7,H7,I7.unpinned,q7⟩
    | ret v => obtain ⟨x7,σ7,H7,I7,r7,q7⟩ := q7; exact ⟨x7,σ7,H7,I7.unpinned,r7,q7⟩
end
theorem while_by {c : TT}{tb : TS}{D : Ends}{σ : St}{H : Hp}(Pv : St -> Hp -> Prop)(μ : St -> Hp -> Nat)(h0 : Pv σ H)
    (hs : ∀ σ H,Pv σ H -> c σ H fun b H1 => if b = true then tb { D with nx := fun σ' H' => Pv σ' H' /\ μ σ' H' < μ σ H,ct := fun σ' H' => Pv σ' H' /\ μ σ' H' < μ σ H,bk := D.nx } σ H1 else D.nx σ H1)
    (mono : ∀ σ H Q Q',(∀ b H1,Q b H1 -> Q' b H1) -> c σ H Q -> c σ H Q') : tWhile c tb D σ H := by
  refine ⟨fun m σ H => m = μ σ H /\ Pv σ H,⟨_,rfl,h0⟩,?_⟩
  rintro m σ H ⟨rfl,p⟩
  refine mono σ H _ _ (fun b H1 q => ?_) (hs σ H p)
  cases b with
  | true => exact ⟨_,fun σ' H' ⟨p',l⟩ => ⟨_,l,rfl,p'⟩,q⟩
  | false => exact q
end L2
namespace L2
open PySem PySem.Spec PyProof.Rows
abbrev R2 := V -> V -> Hp -> VK -> Prop
def OpR (X : Cx)(f : Value -> Value -> Sem Value)(r : R2) : Prop :=
  ∀ (pins : List (Addr × Obj)) (s : Shared) (σ : St) (H : Hp) (x y : V) (v u : Value) (Q : VK),Inv X pins σ H s -> RelV x v -> RelV y u -> r x y H Q ->
    wpAny (model X.prog X.w) X.A (f v u) (EP X pins σ Q) X.xe s
def UnR (X : Cx)(f : Value -> Sem Value)(r : V -> Hp -> VK -> Prop) : Prop :=
  ∀ (pins : List (Addr × Obj)) (s : Shared) (σ : St) (H : Hp) (x : V) (v : Value) (Q : VK),Inv X pins σ H s -> RelV x v -> r x H Q ->
    wpAny (model X.prog X.w) X.A (f v) (EP X pins σ Q) X.xe s
def CallR (X : Cx)(f : Value)(r : List V -> Hp -> VK -> Prop) : Prop :=
  ∀ (pins : List (Addr × Obj)) (s : Shared) (σ : St) (H : Hp) (xs : List V) (us : List Value) (Q : VK),Inv X pins σ H s -> Vals xs us -> r xs H Q ->
    wpAny (model X.prog X.w) X.A (call f us) (EP X pins σ Q) X.xe s
def TruR (X : Cx)(r : V -> Hp -> (Bool -> Hp -> Prop) -> Prop) : Prop :=
  ∀ (pins : List (Addr × Obj)) (s : Shared) (σ : St) (H : Hp) (x : V) (v : Value) (Q : Bool -> Hp -> Prop),Inv X pins σ H s -> RelV x v -> r x H Q ->
    wpAny (model X.prog X.w) X.A (truthy v) (TP X pins σ Q) X.xe s
def tOp (r : R2)(ta tb : TE) : TE := fun σ H Q => ta σ H fun x H1 => tb σ H1 fun y H2 => r x y H2 Q
def tUn (r : V -> Hp -> VK -> Prop)(ta : TE) : TE := fun σ H Q => ta σ H fun x H1 => r x H1 Q
def rI (C : Int -> Int -> Prop)(g : Int -> Int -> V) : R2 := fun x y H Q => ∃ i j,x = .int i /\ y = .int j /\ C i j /\ Q (g i j) H
def rI0 (g : Int -> Int -> V) : R2 := fun x y H Q => ∃ i j,x = .int i /\ y = .int j /\ Q (g i j) H
def rU (g : Int -> V) : V -> Hp -> VK -> Prop := fun x H Q => ∃ i,x = .int i /\ Q (g i) H
section
variable {X : Cx}{a b c : Expr}{ta tb tc : TE}{pos : Pos}
theorem binT (ha : PE X a ta)(hb : PE X b tb){pins : List (Addr × Obj)}{s : Shared}{σ : St}{H : Hp}{R : V -> V -> Hp -> Prop}(I : Inv X pins σ H s)
    (h : ta σ H fun x H1 => tb σ H1 fun y H2 => R x y H2) {Q : Value -> Shared -> Prop} {f : Value -> Value -> Sem Value}
    (hf : ∀ v u s2 x y H2,Inv X pins σ H2 s2 -> RelV x v -> RelV y u -> R x y H2 -> wpAny (model X.prog X.w) X.A (f v u) Q X.xe s2) :
    wpAny (model X.prog X.w) X.A (eval a X.env) (fun v s₁ => wpAny (model X.prog X.w) X.A (eval b X.env) (fun u s₂ => wpAny (model X.prog X.w) X.A (f v u) Q X.xe s₂) X.xe s₁) X.xe s := by
  refine thn (ha pins s σ H _ I h) fun v s1 ⟨x,H1,I1,r1,q1⟩ => ?_
  refine thn (hb pins s1 σ H1 _ I1 q1) fun u s2 ⟨y,H2,I2,r2,q2⟩ => ?_
  exact hf v u s2 x y H2 I2 r1 r2 q2
theorem pe_op {op : Operator}{r : R2}(ho : OpR X (binaryOp op) r)(ha : PE X a ta)(hb : PE X b tb) : PE X (.BinOp a op b pos) (tOp r ta tb) := by
  intro pins s σ H Q I h
  exact wpAny_BinOp (binT ha hb I h fun v u s2 x y H2 I2 rx ry q => ho pins s2 σ H2 x y v u Q I2 rx ry q)
theorem pe_un {op : UnaryOp}{r : V -> Hp -> VK -> Prop}(ho : UnR X (unaryOp op) r)(ha : PE X a ta) : PE X (.UnaryOp op a pos) (tUn r ta) := by
  intro pins s σ H Q I h
  exact UnaryOp_ (thn (ha pins s σ H _ I h) fun v s1 ⟨x,H1,I1,r1,q1⟩ => ho pins s1 σ H1 x v Q I1 r1 q1)
theorem opI {f : Value -> Value -> Sem Value}{C : Int -> Int -> Prop}{g : Int -> Int -> Int}
    (rule : ∀ (i j : Int) (t u : Tok) (s : Shared) (Q : Value -> Shared -> Prop) (E : Value -> Shared -> Prop),C i j -> Q (.int (g i j) s.toks) { s with toks := s.toks + 1 } -> wpAny (model X.prog X.w) X.A (f (.int i t) (.int j u)) Q E s) :
    OpR X f (rI C fun i j => .int (g i j)) := by
  intro pins s σ H x y v u Q I rx ry h
  obtain ⟨i,j,rfl,rfl,hc,q⟩ := h
  obtain ⟨t,rfl⟩ := rx
  obtain ⟨t',rfl⟩ := ry
  exact rule i j t t' s _ _ hc ⟨.int (g i j),H,I.tok _,⟨_,rfl⟩,q⟩
theorem opI0 {f : Value -> Value -> Sem Value}{g : Int -> Int -> Int}
    (rule : ∀ (i j : Int) (t u : Tok) (s : Shared) (Q : Value -> Shared -> Prop) (E : Value -> Shared -> Prop),Q (.int (g i j) s.toks) { s with toks := s.toks + 1 } -> wpAny (model X.prog X.w) X.A (f (.int i t) (.int j u)) Q E s) :
    OpR X f (rI0 fun i j => .int (g i j)) := by
  intro pins s σ H x y v u Q I rx ry h
  obtain ⟨i,j,rfl,rfl,q⟩ := h
  obtain ⟨t,rfl⟩ := rx
  obtain ⟨t',rfl⟩ := ry
  exact rule i j t t' s _ _ ⟨.int (g i j),H,I.tok _,⟨_,rfl⟩,q⟩
theorem opB0 {f : Value -> Value -> Sem Value}{g : Int -> Int -> Bool}
    (rule : ∀ (i j : Int) (t u : Tok) (s : Shared) (Q : Value -> Shared -> Prop) (E : Value -> Shared -> Prop),Q (.bool (g i j)) s -> wpAny (model X.prog X.w) X.A (f (.int i t) (.int j u)) Q E s) :
    OpR X f (rI0 fun i j => .bl (g i j)) := by
  intro pins s σ H x y v u Q I rx ry h
  obtain ⟨i,j,rfl,rfl,q⟩ := h
  obtain ⟨t,rfl⟩ := rx
  obtain ⟨t',rfl⟩ := ry
  exact rule i j t t' s _ _ ⟨.bl (g i j),H,I,rfl,q⟩
def CPow (i j : Int) : Prop := 0 <= j /\ j <= 1000000 /\ i.natAbs < 2 ^ 64
def CMul (i j : Int) : Prop := (-(2 ^ 64) < i /\ i < 2 ^ 64) \/ (-(2 ^ 64) < j /\ j < 2 ^ 64)
theorem CMul.ok {i j : Int}(h : CMul i j) : IntMulOk i j := by
  rcases h with ⟨h1,h2⟩ | ⟨h1,h2⟩
  · exact .of_left (intBits_le_64 h1 h2)
  · exact .of_right (intBits_le_64 h1 h2)
theorem op_add : OpR X (binaryOp .Add) (rI0 fun i j => .int (i + j)) := opI0 fun _ _ _ _ _ _ _ q => add_int q
theorem op_sub : OpR X (binaryOp .Sub) (rI0 fun i j => .int (i - j)) := opI0 fun _ _ _ _ _ _ _ q => sub_int q
theorem op_mod : OpR X (binaryOp .Mod) (rI (fun _ j => 0 < j) fun i j => .int (i % j)) := opI fun i j _ _ _ _ _ hc q => by
  have h1 : (0 : Int) < j := hc
  exact mod_int' (by omega) (by rw [Int.fmod_eq_emod_of_nonneg i (by omega)]; exact q)
theorem op_modN : OpR X (binaryOp .Mod) (rI (fun _ j => j ≠ 0) fun i j => .int (i.fmod j)) := opI fun _ _ _ _ _ _ _ hc q => mod_int' hc q
theorem op_pow : OpR X (binaryOp .Pow) (rI CPow fun i j => .int (i ^ j.toNat)) := opI fun _ _ _ _ _ _ _ hc q => pow_int_small hc.1 hc.2.1 hc.2.2 q
theorem unI {f : Value -> Sem Value}{g : Int -> Int}
    (rule : ∀ (i : Int) (t : Tok) (s : Shared) (Q : Value -> Shared -> Prop) (E : Value -> Shared -> Prop),Q (.int (g i) s.toks) { s with toks := s.toks + 1 } -> wpAny (model X.prog X.w) X.A (f (.int i t)) Q E s) :
    UnR X f (rU fun i => .int (g i)) := by
  intro pins s σ H x v Q I rx h
  obtain ⟨i,rfl,q⟩ := h
  obtain ⟨t,rfl⟩ := rx
  exact rule i t s _ _ ⟨.int (g i),H,I.tok _,⟨_,rfl⟩,q⟩
theorem un_neg : UnR X (unaryOp .USub) (rU fun i => .int (-i)) := unI fun _ _ _ _ _ q => neg_int q
end
def scal : V -> V -> Bool
  | .non,.non => true | .non,.int _ => true | .int _,.non => true | .non,.bl _ => true | .bl _,.non => true | .non,.str _ => true | .str _,.non => true
  | .int _,.int _ => true | .bl _,.bl _ => true | .str _,.str _ => true | .byt _,.byt _ => true
  | .int _,.str _ => true | .str _,.int _ => true | .bl _,.str _ => true | .str _,.bl _ => true
  | _,_ => false
def rEq : R2 := fun x y H Q => scal x y = true /\ Q (.bl (decide (x = y))) H
def rNe : R2 := fun x y H Q => scal x y = true /\ Q (.bl (!decide (x = y))) H
theorem dec_int {i j : Int} : decide (V.int i = V.int j) = (i == j) := by
  rw [Bool.eq_iff_iff]
  simp
theorem dec_bl {i j : Bool} : decide (V.bl i = V.bl j) = (i == j) := by
  rw [Bool.eq_iff_iff]
  simp
theorem dec_str {i j : Str} : decide (V.str i = V.str j) = (i == j) := by
  rw [Bool.eq_iff_iff]
  simp
theorem dec_byt {i j : Array UInt8} : decide (V.byt i = V.byt j) = (i.toList == j.toList) := by
  rw [Bool.eq_iff_iff]
  cases i
  cases j
  simp
section
variable {X : Cx}{a b c : Expr}{ta tb tc : TE}{pos : Pos}
theorem fin_bl {pins : List (Addr × Obj)}{σ : St}{H : Hp}{s : Shared}{Q : VK}{k k' : Bool}(I : Inv X pins σ H s)(q : Q (.bl k) H)(e : k = k') : EP X pins σ Q (.bool k') s := by
  subst e
  exact ⟨.bl k,H,I,rfl,q⟩
theorem op_eq : OpR X (compareOp .Eq) rEq := by
  intro pins s σ H x y v u Q I rx ry h
  obtain ⟨hs,q⟩ := h
  cases x with
  | non =>
    cases rx
    cases y with
    | non => cases ry; exact PySem.EqNone.eq_none_none (fin_bl I q (by simp))
    | bl j => cases ry; exact PySem.EqNone.eq_none_bool (fin_bl I q (by simp))
    | int j => obtain ⟨t',rfl⟩ := ry; exact PySem.EqNone.eq_none_int (fin_bl I q (by simp))
    | str j => obtain ⟨t',rfl⟩ := ry; exact PySem.EqNone.eq_none_str (fin_bl I q (by simp))
    | _ => exact absurd (show false = true from hs) Bool.false_ne_true
  | bl i =>
    cases rx
    cases y with
    | non => cases ry; exact PySem.EqNone.eq_bool_none (fin_bl I q (by simp))
    | bl j => cases ry; exact eq_bool (fin_bl I q dec_bl)
    | str j => obtain ⟨t',rfl⟩ := ry; exact PySem.EqMixed.eq_bool_str (fin_bl I q (by simp))
    | _ => exact absurd (show false = true from hs) Bool.false_ne_true
  | int i =>
    obtain ⟨t,rfl⟩ := rx
    cases y with
    | non => cases ry; exact PySem.EqNone.eq_int_none (fin_bl I q (by simp))
    | int j => obtain ⟨t',rfl⟩ := ry; exact eq_int (fin_bl I q dec_int)
    | str j => obtain ⟨t',rfl⟩ := ry; exact PySem.EqMixed.eq_int_str (fin_bl I q (by simp))
    | _ => exact absurd (show false = true from hs) Bool.false_ne_true
  | str i =>
    obtain ⟨t,rfl⟩ := rx
    cases y with
    | non => cases ry; exact PySem.EqNone.eq_str_none (fin_bl I q (by simp))
    | bl j => cases ry; exact PySem.EqMixed.eq_str_bool (fin_bl I q (by simp))
    | int j => obtain ⟨t',rfl⟩ := ry; exact PySem.EqMixed.eq_str_int (fin_bl I q (by simp))
    | str j => obtain ⟨t',rfl⟩ := ry; exact eq_str (fin_bl I q dec_str)
    | _ => exact absurd (show false = true from hs) Bool.false_ne_true
  | byt i =>
    obtain ⟨t,rfl⟩ := rx
    cases y with
    | byt j => obtain ⟨t',rfl⟩ := ry; exact PySem.W.eq_bytes (fin_bl I q dec_byt)
    | _ => exact absurd (show false = true from hs) Bool.false_ne_true
  | _ => cases y <;> exact absurd (show false = true from hs) Bool.false_ne_true
theorem op_ne : OpR X (compareOp .NotEq) rNe := by
  intro pins s σ H x y v u Q I rx ry h
  obtain ⟨hs,q⟩ := h
  cases x with
  | non =>
    cases rx
    cases y with
    | non => cases ry; exact PySem.EqNone.ne_none_none (fin_bl I q (by simp))
    | bl j => cases ry; exact PySem.EqNone.ne_none_bool (fin_bl I q (by simp))
    | int j => obtain ⟨t',rfl⟩ := ry; exact PySem.EqNone.ne_none_int (fin_bl I q (by simp))
    | str j => obtain ⟨t',rfl⟩ := ry; exact PySem.EqNone.ne_none_str (fin_bl I q (by simp))
    | _ => exact absurd (show false = true from hs) Bool.false_ne_true
  | bl i =>
    cases rx
    cases y with
    | non => cases ry; exact PySem.EqNone.ne_bool_none (fin_bl I q (by simp))
    | bl j => cases ry; exact ne_bool (fin_bl I q (congrArg not dec_bl))
    | str j => obtain ⟨t',rfl⟩ := ry; exact PySem.EqMixed.ne_bool_str (fin_bl I q (by simp))
    | _ => exact absurd (show false = true from hs) Bool.false_ne_true
  | int i =>
    obtain ⟨t,rfl⟩ := rx
    cases y with
    | non => cases ry; exact PySem.EqNone.ne_int_none (fin_bl I q (by simp))
    | int j => obtain ⟨t',rfl⟩ := ry; exact ne_int (fin_bl I q (congrArg not dec_int))
    | str j => obtain ⟨t',rfl⟩ := ry; exact PySem.EqMixed.ne_int_str (fin_bl I q (by simp))
    | _ => exact absurd (show false = true from hs) Bool.false_ne_true
  | str i =>
    obtain ⟨t,rfl⟩ := rx
    cases y with
    | non => cases ry; exact PySem.EqNone.ne_str_none (fin_bl I q (by simp))
    | bl j => cases ry; exact PySem.EqMixed.ne_str_bool (fin_bl I q (by simp))
    | int j => obtain ⟨t',rfl⟩ := ry; exact PySem.EqMixed.ne_str_int (fin_bl I q (by simp))
    | str j => obtain ⟨t',rfl⟩ := ry; exact ne_str (fin_bl I q (congrArg not dec_str))
    | _ => exact absurd (show false = true from hs) Bool.false_ne_true
  | byt i =>
    obtain ⟨t,rfl⟩ := rx
    cases y with
    | byt j => obtain ⟨t',rfl⟩ := ry; exact PySem.W.ne_bytes (fin_bl I q (congrArg not dec_byt))
    | _ => exact absurd (show false = true from hs) Bool.false_ne_true
  | _ => cases y <;> exact absurd (show false = true from hs) Bool.false_ne_true
theorem op_lt : OpR X (compareOp .Lt) (rI0 fun i j => .bl (decide (i < j))) := opB0 fun _ _ _ _ _ _ _ q => lt_int q
theorem op_gt : OpR X (compareOp .Gt) (rI0 fun i j => .bl (decide (j < i))) := opB0 fun _ _ _ _ _ _ _ q => gt_int q
theorem op_ge : OpR X (compareOp .GtE) (rI0 fun i j => .bl (decide (j <= i))) := opB0 fun _ _ _ _ _ _ _ q => ge_int q
theorem nomark (b : Expr){op : CmpOp}(h : op ≠ .In := by decide)(h2 : op ≠ .NotIn := by decide) : behindInMarks op b = false := by
  have e1 : (op == CmpOp.In) = false := by cases op <;> first | rfl | exact absurd rfl h
  have e2 : (op == CmpOp.NotIn) = false := by cases op <;> first | rfl | exact absurd rfl h2
  cases b <;> simp [behindInMarks,e1,e2]
theorem pe_cmpR {op : CmpOp}{r : R2}(ho : OpR X (compareOp op) r)(ha : PE X a ta)(hb : PE X b tb)(hm : behindInMarks op b = false) : PE X (.Compare a [op] [b] pos) (tOp r ta tb) := by
  intro pins s σ H Q I h
  exact wpAny_Compare1 (binT ha hb I h fun v u s2 x y H2 I2 rx ry q => ho pins s2 σ H2 x y v u Q I2 rx ry q) hm
def tTest (t : TE) : TT := fun σ H Q => t σ H fun x H' => ∃ k,x = .bl k /\ Q k H'
theorem pt_cmpR {op : CmpOp}{r : R2}(ho : OpR X (compareOp op) r)(ha : PE X a ta)(hb : PE X b tb)(hm : behindInMarks op b = false) : PT X (.Compare a [op] [b] pos) (tTest (tOp r ta tb)) := by
  intro pins s σ H Q I h
  refine wpAny_isTrue_Compare1 (thn (ha pins s σ H _ I h) fun v s1 ⟨x,H1,I1,r1,q1⟩ => thn (hb pins s1 σ H1 _ I1 q1) fun u s2 ⟨y,H2,I2,r2,q2⟩ =>
    thn (ho pins s2 σ H2 x y v u _ I2 r1 r2 q2) fun c s3 ⟨z,H3,I3,r3,k,e,q3⟩ => ?_) hm
  subst e
  cases r3
  exact wpAny_truthy_bool ⟨H3,I3,q3⟩
def TruV (K : PySem.W.Frag)(x : V)(H : Hp)(k : Bool) : Prop :=
  match x with
  | .non => k = false
  | .bl b => k = b
  | .int i => k = (i != 0)
  | .str y => y.length <= sizeLine /\ k = ((y.length : Int) != 0)
  | .byt y => y.size <= sizeLine /\ k = ((y.size : Int) != 0)
  | .ref p => (∃ xs,SqL K H p xs /\ k = !xs.isEmpty) \/ (∃ xs,SqT K H p xs /\ k = !xs.isEmpty) \/ ∃ kvs,H p = some (.dK kvs) /\ k = !kvs.isEmpty
  | _ => False
theorem isEmpty_kv {κ : Type}{kvs : List (κ × V)}{vs : List (κ × Value)}(r : KV kvs vs) : (!vs.isEmpty) = !kvs.isEmpty := by
  cases r <;> rfl
theorem isEmpty_of {xs : List V}{its : List Value}(r : Vals xs its) : (!its.toArray.isEmpty) = !xs.isEmpty := by
  cases r <;> simp
theorem line63 : (sizeLine : Nat) < 2 ^ 63 := by rw [sizeLine_eq]; decide
theorem tru_ok : TruR X (fun x H Q => ∃ k,TruV X.K x H k /\ Q k H) := by
  intro pins s σ H x v Q I rx h
  obtain ⟨k,e,q⟩ := h
  have hl := line63
  have hs : sizeLine = 16777216 := sizeLine_eq
  cases x with
  | non =>
    cases rx
    have e' : k = false := e
    subst e'
    exact truthy_none ⟨H,I,q⟩
  | bl b =>
    cases rx
    have e' : k = b := e
    subst e'
    exact wpAny_truthy_bool ⟨H,I,q⟩
  | int i =>
    obtain ⟨t,rfl⟩ := rx
    have e' : k = (i != 0) := e
    subst e'
    exact PySem.P.truthy_int ⟨H,I,q⟩
  | str y =>
    obtain ⟨t,rfl⟩ := rx
    obtain ⟨hy,e'⟩ : y.length <= sizeLine /\ k = ((y.length : Int) != 0) := e
    subst e'
    exact PySem.P.truthy_str (by omega) ⟨H,I.tok _,q⟩
  | byt y =>
    obtain ⟨t,rfl⟩ := rx
    obtain ⟨hy,e'⟩ : y.size <= sizeLine /\ k = ((y.size : Int) != 0) := e
    subst e'
    exact PySem.W.truthy_bytes (by omega) ⟨H,I.tok _,q⟩
  | ref p =>
    cases rx
    have e' : (∃ xs,SqL X.K H p xs /\ k = !xs.isEmpty) \/ (∃ xs,SqT X.K H p xs /\ k = !xs.isEmpty) \/ ∃ kvs,H p = some (.dK kvs) /\ k = !kvs.isEmpty := e
    rcases e' with ⟨xs,hx,e'⟩ | ⟨xs,hx,e'⟩ | ⟨kvs,hx,e'⟩
    · subst e'
      obtain ⟨its,r,pl,hz⟩ := I.list hx
      have hlen := r.length
      exact wpAny_truthy_list pl.isList (by simp only [List.size_toArray]; omega) ⟨H,I.tok _,by rw [isEmpty_of r]; exact q⟩
    · subst e'
      obtain ⟨its,r,pl,hz⟩ := I.tuple hx
      have hlen := r.length
      exact truthy_tuple pl (by simp only [List.size_toArray]; omega) ⟨H,I.tok _,by rw [isEmpty_of r]; exact q⟩
    · subst e'
      obtain ⟨hz,hS,vs,r,m⟩ : kvs.length <= sizeLine /\ (p == sysModules) = false /\ ∃ vs,KV kvs vs /\ s.heap.DictOf (mixKind X.prog X.w) p vs := I.hok p _ hx
      have hlen : kvs.length = vs.length := Paired.length r
      exact wpAny_truthy_dict hS m (by omega) ⟨H,I.tok _,by rw [isEmpty_kv r]; exact q⟩
  | _ => exact (show False from e).elim
theorem pt_truth (ha : PE X a ta)(he : ∀ whole,isTrue a X.env whole = (do let v <- whole; standAt a.pos; holding [v] (truthy v))) :
    PT X a (fun σ H Q => ta σ H fun x H' => ∃ k,TruV X.K x H' k /\ Q k H') := by
  intro pins s σ H Q I h
  exact isTrue_plain (thn (ha pins s σ H _ I h) fun v s1 ⟨x,H1,I1,r1,q1⟩ => tru_ok pins s1 σ H1 x v Q I1 r1 q1) (he _)
theorem vals1 {x : V}{us : List Value}(r : Vals [x] us) : ∃ u,us = [u] /\ RelV x u := by
  cases r with
  | cons r1 r2 => cases r2; exact ⟨_,rfl,r1⟩
theorem vals2 {x y : V}{us : List Value}(r : Vals [x,y] us) : ∃ u w',us = [u,w'] /\ RelV x u /\ RelV y w' := by
  cases r with
  | cons r1 r2 =>
    cases r2 with
    | cons r3 r4 => cases r4; exact ⟨_,_,rfl,r1,r3⟩
theorem call_abs : CallR X (.builtin "abs") (fun xs H Q => ∃ i,xs = [.int i] /\ Q (.int (if i < 0 then -i else i)) H) := by
  intro pins s σ H xs us Q I r h
  obtain ⟨i,rfl,q⟩ := h
  obtain ⟨u,rfl,t,rfl⟩ := vals1 r
  exact call_abs_int fun u tk => ⟨.int (if i < 0 then -i else i),H,I.tok _,⟨_,rfl⟩,q⟩
theorem call_max2 (hc : X.calm = true) : CallR X (.builtin "max") (fun xs H Q => ∃ i j,xs = [.int i,.int j] /\ Q (.int (if j > i then j else i)) H) := by
  intro pins s σ H xs us Q I r h
  obtain ⟨i,j,rfl,q⟩ := h
  obtain ⟨u,w',rfl,⟨t,rfl⟩,⟨t',rfl⟩⟩ := vals2 r
  refine max_two_ints (I.ok.hd hc) fun h' tk k => ⟨_,H,I.kept k,?_,q⟩
  by_cases hj : j > i
  · rw [if_pos hj,if_pos hj]; exact ⟨_,rfl⟩
  · rw [if_neg hj,if_neg hj]; exact ⟨_,rfl⟩
theorem call_min2 (hc : X.calm = true) : CallR X (.builtin "min") (fun xs H Q => ∃ i j,xs = [.int i,.int j] /\ Q (.int (if j < i then j else i)) H) := by
  intro pins s σ H xs us Q I r h
  obtain ⟨i,j,rfl,q⟩ := h
  obtain ⟨u,w',rfl,⟨t,rfl⟩,⟨t',rfl⟩⟩ := vals2 r
  refine min_two_ints (I.ok.hd hc) fun h' tk k => ⟨_,H,I.kept k,?_,q⟩
  by_cases hj : j < i
  · rw [if_pos hj,if_pos hj]; exact ⟨_,rfl⟩
  · rw [if_neg hj,if_neg hj]; exact ⟨_,rfl⟩
end
end L2
namespace L2
open PySem PySem.Spec PyProof.Rows
structure ObjM (h : Heap)(x dx C : Addr)(mA : Str -> Option Value) : Prop where
  obj : h.get? x = some (PySem.W.instObj C dx)
  ns : h.Ns1 dx mA
  ne : dx ≠ x
theorem lookIn_ns {h : Heap}{dx : Addr}{mA : Str -> Option Value}(n : h.Ns1 dx mA) : ∃ od,h.get? dx = some od /\ ∀ name,PySem.W.lookIn name od = some (mA name) := by
  obtain ⟨o,es,ep,ho,hd,hk,_,hm⟩ := n
  refine ⟨o,ho,fun name => ?_⟩
  have e := hm name
  unfold nsFind findBy at e
  rw [<- Array.find?_toList] at e
  unfold PySem.W.lookIn
  rw [hd]
  dsimp only
  split
  · rename_i y q
    rw [q] at e
    exact congrArg some e
  · rename_i q
    rw [q] at e
    have a : es.toList.any (·.refKey) = false := by
      rw [List.any_eq_false]
      intro y hy
      obtain ⟨z,t,hkey⟩ := hk y (Array.mem_toList_iff.mp hy)
      simp [DictEntry.refKey,hkey]
    have a' : ¬ es.toList.any (·.refKey) = true := by rw [a]; exact Bool.false_ne_true
    rw [if_neg a']
    exact congrArg some e
theorem ObjM.look {h : Heap}{x dx C : Addr}{mA : Str -> Option Value}(I : ObjM h x dx C mA) : ∃ od,PySem.W.InstAt h x (PySem.W.instObj C dx) C (some od) /\ ∀ name,PySem.W.lookIn name od = some (mA name) :=
  let ⟨od,ho,hl⟩ := lookIn_ns I.ns
  ⟨od,⟨I.obj,rfl,rfl,ho⟩,hl⟩
section
variable {prog : Program}{w : World}{A : Around}{E : Value -> Shared -> Prop}{s : Shared}{K : PySem.W.Frag}{x dx C f : Addr}{mA : Str -> Option Value}{name : Str}{v : Value}
end
section
variable {P : Program}{w : World}{H H' : Hp}{h h' : Heap}{a C dx : Addr}{fs fs' : List (Str × V)}
theorem ins_get (hok : HOk P w H h)(e : H a = some (.ins C dx fs)) : ∃ mA,ObjM h a dx C mA /\ (∀ f,RelO (fs.lookup f) (mA f)) /\ PySem.Within mA (fs.map (·.1)) /\ fs.length <= 1000 /\ H dx = some (.own a) := by
  obtain ⟨d,z,ne,ob,mA,n,r,q⟩ := (show ObjOk P w H h a (.ins C dx fs) from hok a _ e)
  exact ⟨mA,⟨ob,n,ne⟩,r,q,z,d⟩
end
structure Cls (K : PySem.W.Frag)(C : Addr) : Prop where
  pg : PySem.W.plainGet K C Str.empty = true
  hd : PySem.W.hasDictIn K C = true
  po : PySem.W.plainOver K C = true
  sa : PySem.W.findIn K (.ref C) "__setattr__" = some (some (.builtin "object.__setattr__"))
theorem Cls.get {K : PySem.W.Frag}{C : Addr}(c : Cls K C)(f : Str) : PySem.W.plainGet K C f = true := c.pg
def NoAttr (K : PySem.W.Frag)(C : Addr)(f : Str) : Prop := PySem.W.findIn K (.ref C) f = some none
section
variable {X : Cx}{pins : List (Addr × Obj)}{σ : St}{H : Hp}{s : Shared}{a C dx : Addr}{fs : List (Str × V)}{f : Str}{v : V}{A : Around}{E : Value -> Shared -> Prop}
end
def tFld (K : PySem.W.Frag)(ta : TE)(f : Str) : TE := fun σ H Q => ta σ H fun x H1 => ∃ a C dx fs v,x = .ref a /\ H1 a = some (.ins C dx fs) /\ Cls K C /\ NoAttr K C f /\ fs.lookup f = some v /\ Q v H1
section
variable {X : Cx}{o e value : Expr}{f : Str}{pos pos' tpos : Pos}{ta tv : TE}
end
section
variable {X : Cx}{pins : List (Addr × Obj)}{σ : St}{H : Hp}{s : Shared}{A : Around}{E : Value -> Shared -> Prop}{Q : Value -> Shared -> Prop}{c : Value}{b : Bool}
inductive TyOf (K : PySem.W.Frag)(H : Hp) : V -> Value -> Prop where
  | non : TyOf K H .non (.type "NoneType")
  | bl (x : Bool) : TyOf K H (.bl x) (.type "bool")
  | int (i : Int) : TyOf K H (.int i) (.type "int")
  | str (x : Str) : TyOf K H (.str x) (.type "str")
  | flt (x : UInt64) : TyOf K H (.flt x) (.type "float")
  | lst {a : Addr} {xs : List V} (e : H a = some (.lst xs)) : TyOf K H (.ref a) (.type "list")
  | frz {a : Addr} {o : Obj} {xs : List V} (e : H a = some (.frz o (.lst xs))) : TyOf K H (.ref a) (.type "list")
  | tup {a : Addr} {xs : List V} (e : H a = some (.tup xs)) : TyOf K H (.ref a) (.type "tuple")
  | dK {a : Addr} {kvs : List (Key × V)} (e : H a = some (.dK kvs)) : TyOf K H (.ref a) (.type "dict")
  | dT {a : Addr} {kvs : List (List Key × V)} (e : H a = some (.dT kvs)) : TyOf K H (.ref a) (.type "dict")
  | ins {a C dx : Addr} {fs : List (Str × V)} (e : H a = some (.ins C dx fs)) (cl : Cls K C) (ha : PySem.W.findIn K (.ref C) "__class__" = some (some (.builtin "object.__class__")))
      (hn : PySem.W.specialIn K (.builtin "object.__class__") "__get__" = some (some (.builtin "getset_descriptor.__get__"))) (htk : PySem.W.takesIn K (.builtin "object.__class__") = some true)
      (hm : PySem.W.mroIn K C (.type "object") = some true) : TyOf K H (.ref a) (.ref C)
theorem isinst_ok {x : V}{u t : Value}(I : Inv X pins σ H s)(rx : RelV x u)(ty : TyOf X.K H x t)(e : PySem.W.kitOne X.K t c = some b)(h : ∀ tk,Q (.bool b) { s with toks := tk }) :
    wpAny (model X.prog X.w) A (call (.builtin "isinstance") [u,c]) Q E s := by
  cases ty with
  | non => cases (show u = Value.none from rx); exact PySem.W.kia_one PySem.W.kitx_none I.kIn True.intro e (fun z => nomatch z) h
  | bl y => cases (show u = Value.bool y from rx); exact PySem.W.kia_one PySem.W.kitx_bool I.kIn True.intro e (fun z => nomatch z) h
  | int i => obtain ⟨t,q⟩ := (show ∃ t,u = Value.int i t from rx); cases q; exact PySem.W.kia_one PySem.W.kitx_int I.kIn True.intro e (fun z => nomatch z) h
  | str y => obtain ⟨t,q⟩ := (show ∃ t,u = Value.str y t from rx); cases q; exact PySem.W.kia_one PySem.W.kitx_str I.kIn True.intro e (fun z => nomatch z) h
  | flt y => obtain ⟨t,q⟩ := (show ∃ t,u = Value.float y t from rx); cases q; exact PySem.W.kia_one PySem.W.kitx_float I.kIn True.intro e (fun z => nomatch z) h
  | @lst a xs ea =>
    cases (show u = Value.ref a from rx)
    obtain ⟨_,_,n,_,h1⟩ := (show ObjOk X.prog X.w H s.heap a (.lst xs) from I.hok a _ ea)
    exact PySem.W.kia_one PySem.W.kitx_list I.kIn ⟨_,h1,rfl⟩ e (fun z => nomatch z) h
  | @frz a ob xs ea =>
    cases (show u = Value.ref a from rx)
    obtain ⟨_,_,_,n,_,h1⟩ := (show ObjOk X.prog X.w H s.heap a (.frz ob (.lst xs)) from I.hok a _ ea)
    exact PySem.W.kia_one PySem.W.kitx_list I.kIn ⟨_,h1,rfl⟩ e (fun z => nomatch z) h
  | @tup a xs ea =>
    cases (show u = Value.ref a from rx)
    obtain ⟨_,_,_,p⟩ := (show ObjOk X.prog X.w H s.heap a (.tup xs) from I.hok a _ ea)
    obtain ⟨o,h1,h2,_⟩ := p
    exact PySem.W.kia_one PySem.W.kitx_tuple I.kIn ⟨o,h1,h2⟩ e (fun z => nomatch z) h
  | @dK a kvs ea =>
    cases (show u = Value.ref a from rx)
    obtain ⟨_,_,vs,_,p⟩ := (show ObjOk X.prog X.w H s.heap a (.dK kvs) from I.hok a _ ea)
    obtain ⟨o,es,ep,h1,h2,_⟩ := p
    exact PySem.W.kia_one PySem.W.kitx_dict I.kIn ⟨o,h1,h2.1⟩ e (fun z => nomatch z) h
  | @dT a kvs ea =>
    cases (show u = Value.ref a from rx)
    obtain ⟨_,_,xs,_,o,es,ep,h1,h2,_⟩ := (show ObjOk X.prog X.w H s.heap a (.dT kvs) from I.hok a _ ea)
    exact PySem.W.kia_one PySem.W.kitx_dict I.kIn ⟨o,h1,h2.1⟩ e (fun z => nomatch z) h
  | @ins a C dx fs ea cl ha hn htk hm =>
    cases (show u = Value.ref a from rx)
    obtain ⟨mA,O,_⟩ := ins_get I.hok ea
    obtain ⟨od,J,_⟩ := O.look
    exact PySem.W.kia_one (PySem.W.kitx_own (cl.get _) cl.hd ha hn htk hm) I.kIn J e (fun z => nomatch z) h
end
end L2
namespace L2
open PySem PySem.Spec PyProof.Rows
structure Room (k : Nat)(A : Around) : Prop where
  hd : A.handled = none
  dp : A.depth + 3 * k + 5 < recursionLimit
  un : A.units + 16 * k + 200 < cLine
  gd : A.guards = some []
theorem Room.mono {j k : Nat}{A : Around}(r : Room k A)(h : j <= k) : Room j A := ⟨r.hd,by have := r.dp; omega,by have := r.un; omega,r.gd⟩
theorem Room.deeper {k : Nat}{A : Around}(r : Room (k + 1) A)(env : Env) : Room k (A.deeper env) :=
  ⟨r.hd,by have := r.dp; show A.depth + 1 + 3 * k + 5 < _; omega,by have := r.un; show A.units + 3 + 16 * k + 200 < _; omega,r.gd⟩
theorem Room.depth {k : Nat}{A : Around}(r : Room k A) : A.depth < recursionLimit := by have := r.dp; omega
theorem Room.units {k : Nat}{A : Around}(r : Room k A) : A.units + 64 < cLine := by have := r.un; omega
def tNil : TA := fun _ H Q => Q [] H
def tCons (ta : TE)(tr : TA) : TA := fun σ H Q => ta σ H fun x H1 => tr σ H1 fun xs H2 => Q (x :: xs) H2
section
variable {X : Cx}{e : Expr}{es : List Expr}{te : TE}{t : TA}{pos : Pos}
theorem pa_nil : PA X [] tNil := fun _ _ _ _ H Q I h => Calls.spliced_nil ⟨[],H,I,.nil,h⟩
theorem pa_cons (ha : PE X e te)(hr : PA X es t)(hs : starEach (e :: es) X.env = (false,eval e X.env) :: starEach es X.env := by rfl) : PA X (e :: es) (tCons te t) := by
  intro pos pins s σ H Q I h
  rw [hs]
  show wpAny _ _ (spliced ((false,eval e X.env) :: backTo pos (starEach es X.env))) _ _ s
  refine Calls.spliced_cons (thn (ha pins s σ H _ I h) fun u s1 ⟨x,H1,I1,r1,q1⟩ => ?_)
  exact thn (hr pos pins s1 σ H1 _ I1 q1) fun us s2 ⟨xs,H2,I2,r2,q2⟩ => ⟨x :: xs,H2,I2,.cons r1 r2,q2⟩
def tTup (t : TA) : TE := fun σ H Q => t σ H fun xs H1 => xs.length <= sizeLine /\ ∀ p,H1 p = none -> Q (.ref p) (upd H1 p (.tup xs))
def tLst (t : TA) : TE := fun σ H Q => t σ H fun xs H1 => xs.length <= sizeLine /\ ∀ p,H1 p = none -> Q (.ref p) (upd H1 p (.lst xs))
theorem pe_tup {x1}(h : PA X es t) : PE X (.Tuple es x1 pos) (tTup t) := by
  intro pins s σ H Q I hq
  refine wpAny_Tuple_spliced (thn (h pos pins s σ H _ I hq) fun us s1 ⟨xs,H1,I1,r,z,q⟩ => ⟨by rw [<- r.length]; exact z,?_⟩)
  have hf : H1 s1.heap.objs.size = none := I1.hok.fresh (Nat.le_refl _)
  refine ⟨.ref s1.heap.objs.size,upd H1 s1.heap.objs.size (.tup xs),I1.laid (t' := s1.toks) (fun b u e => Heap.get?_push_of_some _ e) (Nat.le_refl _) ?_,rfl,q _ hf⟩
  exact ⟨z,us,r,⟨_,Heap.get?_push_size _ rfl,rfl,_,rfl⟩⟩
theorem pe_lst (h : PA X es t) : PE X (.List es pos) (tLst t) := by
  intro pins s σ H Q I hq
  refine wpAny_List_spliced (thn (h pos pins s σ H _ I hq) fun us s1 ⟨xs,H1,I1,r,z,q⟩ => ⟨by rw [<- r.length]; exact z,?_⟩)
  have hf : H1 s1.heap.objs.size = none := I1.hok.fresh (Nat.le_refl _)
  refine ⟨.ref s1.heap.objs.size,upd H1 s1.heap.objs.size (.lst xs),I1.laid (t' := s1.toks) (fun b u e => Heap.get?_push_of_some _ e) (Nat.le_refl _) ?_,rfl,q _ hf⟩
  exact ⟨z,us,0,r,Heap.get?_push_size _ rfl⟩
end
abbrev Sp := List V -> Hp -> VK -> XK -> Prop
abbrev CXT := List Env -> Hp -> Shared -> XK -> Value -> Shared -> Prop
structure Env0 (P : Program)(w : World)(K : PySem.W.Frag)(mg : Str -> Option Value)(base : Heap)(A : Around)(outer : List Env)(s : Shared)(H : Hp) : Prop where
  frames : A.frames = some outer
  mod : Mod K mg base
  bs : ∀ b o,base.get? b = some o -> s.heap.get? b = some o /\ H b = none
  bsz : base.objs.size <= s.heap.objs.size
  funs : s.heap.FunFrames base outer
  frf : ∀ b ∈ frs outer,H b = none
  hok : HOk P w H s.heap
  bare : AllBare s.gens
def CE (outer : List Env)(P : Program)(w : World)(H : Hp)(s : Shared)(Q : VK)(u : Value)(s' : Shared) : Prop :=
  ∃ v H',s'.os = s.os /\ AllBare s'.gens /\ Un (frs outer) [] H H' s.heap s'.heap /\ HOk P w H' s'.heap /\ RelV v u /\ Q v H'
def CR (CX : CXT)(outer : List Env)(P : Program)(w : World)(H : Hp)(s : Shared)(Q : VK)(E : XK)(r : Result)(s' : Shared) : Prop :=
  match r with
  | .ok (.ret u) => CE outer P w H s Q u s'
  | .ok _ => False
  | .error e => CX outer H s E e s'
structure FnOk (P : Program)(w : World)(K : PySem.W.Frag)(mg : Str -> Option Value)(base : Heap)(CX : CXT)(k : Nat)(f : Addr)(fd : FuncData)(ps : List Str)(sp : Sp) : Prop where
  len : ∀ vs H Q E,sp vs H Q E -> vs.length = ps.length
  run : ∀ (A : Around) (outer : List Env) (s : Shared) (H : Hp) (args : Args) (us : List Value) (vs : List V) (Q : VK) (E : XK),Room k A -> Env0 P w K mg base A outer s H -> BindsTo s fd args (ps.zip us) -> Vals vs us -> sp vs H Q E ->
    codeAny (model P w) A (.call (.ref f) args) (CR CX outer P w H s Q E) s
theorem FnOk.mono {P : Program}{w : World}{K : PySem.W.Frag}{mg : Str -> Option Value}{base : Heap}{CX : CXT}{j k : Nat}{f : Addr}{fd : FuncData}{ps : List Str}{sp : Sp}(F : FnOk P w K mg base CX j f fd ps sp)(h : j <= k) :
    FnOk P w K mg base CX k f fd ps sp := ⟨F.len,fun A outer s H args us vs Q E hr => F.run A outer s H args us vs Q E (hr.mono h)⟩
theorem FnOk.imp {P : Program}{w : World}{K : PySem.W.Frag}{mg : Str -> Option Value}{base : Heap}{CX : CXT}{k : Nat}{f : Addr}{fd : FuncData}{ps : List Str}{sp sp' : Sp}(F : FnOk P w K mg base CX k f fd ps sp)
    (h : ∀ vs H Q E,sp' vs H Q E -> sp vs H Q E) : FnOk P w K mg base CX k f fd ps sp' :=
  ⟨fun vs H Q E q => F.len vs H Q E (h _ _ _ _ q),fun A outer s H args us vs Q E hr he hb hv hs => F.run A outer s H args us vs Q E hr he hb hv (h _ _ _ _ hs)⟩
section
variable {X : Cx}{pins : List (Addr × Obj)}{σ : St}{H : Hp}{s s' : Shared}
theorem Inv.env0 (I : Inv X pins σ H s) : Env0 X.prog X.w X.K X.mg X.base X.A X.stack s H :=
  ⟨I.ok.frames,I.ok.mod,I.bs,Nat.le_trans I.ok.bsz I.sz,I.stack,I.stkFree,I.hok,I.bare⟩
theorem Inv.after {Q : VK}{u : Value}(I : Inv X pins σ H s)(h : CE X.stack X.prog X.w H s Q u s') : EP X pins σ Q u s' := by
  obtain ⟨v,H',os,bare,un,hok,r,q⟩ := h
  obtain ⟨hh,g,d,t,os'⟩ := s'
  obtain rfl : os' = s.os := os
  exact ⟨v,H',I.call (h' := hh) (g' := g) (d' := d) (t' := t) (ch := []) un hok bare (fun b z => absurd z (by simp)),r,q⟩
end
def tCall (sp : Sp)(dvs : List V)(E : XK)(t : TA) : TE := fun σ H Q => t σ H fun vs H1 => sp (vs ++ dvs) H1 Q E
def tMeth (C : Addr)(m : Str)(sp : Sp)(dvs : List V)(E : XK)(ta : TE)(t : TA) : TE := fun σ H Q => ta σ H fun x H1 => ∃ a dx fs,x = .ref a /\ H1 a = some (.ins C dx fs) /\ fs.lookup m = none /\
  t σ H1 fun vs H2 => sp (x :: (vs ++ dvs)) H2 Q E
def tMake (C : Addr)(sp : Sp)(dvs : List V)(E : XK)(t : TA) : TE := fun σ H Q => t σ H fun vs H1 => ∀ x dx,H1 x = none -> H1 dx = none -> dx ≠ x ->
  sp (.ref x :: (vs ++ dvs)) (upd (upd H1 dx (.own x)) x (.ins C dx [])) (fun v H2 => v = .non /\ Q (.ref x) H2) E
def Binds (K : PySem.W.Frag)(fd : FuncData)(ps : List Str)(ds : List Value) : Prop :=
  ∀ (s : Shared) (us : List Value),K.In s.heap -> (us ++ ds).length = ps.length -> BindsTo s fd ⟨us,[]⟩ (ps.zip (us ++ ds))
theorem Binds.all {K : PySem.W.Frag}{fd : FuncData}{ps : List Str}(h : ∀ us : List Value,us.length = ps.length -> bindArgs fd ⟨us,[]⟩ = pure (ps.zip us)) : Binds K fd ps [] := fun s us _ hl => by
  rw [List.append_nil] at hl ⊢
  exact .of_eq (h us hl)
def Passes (CX : CXT)(X : Cx)(E : XK) : Prop := ∀ (pins : List (Addr × Obj)) (σ : St) (H : Hp) (s : Shared) (e : Value) (s' : Shared),Inv X pins σ H s -> CX X.stack H s E e s' -> X.xe e s'
section
variable {X : Cx}{CX : CXT}{k : Nat}{f C : Addr}{fd : FuncData}{ps : List Str}{sp : Sp}{dvs : List V}{ds : List Value}{E : XK}{x m : Str}{p pos apos : Pos}{e o : Expr}{es : List Expr}{ta : TE}{t : TA}
theorem run_fn {pins : List (Addr × Obj)}{σ : St}{H : Hp}{s : Shared}{Q : VK}{us : List Value}{vs : List V}(F : FnOk X.prog X.w X.K X.mg X.base CX k f fd ps sp)(hr : Room k X.A)(hb : Binds X.K fd ps ds)(hd : Vals dvs ds)(hx : Passes CX X E)
    (I : Inv X pins σ H s) (r : Vals vs us) (h : sp (vs ++ dvs) H Q E) : wpAny (model X.prog X.w) X.A (call (.ref f) us) (EP X pins σ Q) X.xe s := by
  have r2 : Vals (vs ++ dvs) (us ++ ds) := r.append hd
  have hl : (us ++ ds).length = ps.length := by rw [<- r2.length]; exact F.len _ _ _ _ h
  refine wpAny_call (codeAny_mono (F.run X.A X.stack s H ⟨us,[]⟩ (us ++ ds) (vs ++ dvs) Q E hr I.env0 (hb s us I.kIn hl) r2 h) fun r s' hq => ?_)
  cases r with
  | error e => exact hx pins σ H s e s' I hq
  | ok fl =>
    cases fl with
    | ret u => exact I.after hq
    | next => exact False.elim hq
    | brk => exact False.elim hq
    | cont => exact False.elim hq
theorem pe_call (F : FnOk X.prog X.w X.K X.mg X.base CX k f fd ps sp)(hr : Room k X.A)(hg : Gl X x)(hm : X.mg x = some (.ref f))(hk : PySem.W.keepIn X.K (.ref f) = true)(hb : Binds X.K fd ps ds)(hd : Vals dvs ds)(hx : Passes CX X E)
    (ha : PA X (e :: es) t) (hdb : (x == ("__debug__" : Str)) = false := by decide) (he : starEach (e :: es) X.env = (false,eval e X.env) :: starEach es X.env := by rfl) (hpl : (backTo pos (starEach es X.env)).any (·.1) = false := by rfl) :
    PE X (.Call (.Name x p) (e :: es) [] pos) (tCall sp dvs E t) := by
  intro pins s σ H Q I h
  refine wpAny_Call_Name_kw (ld_glob I hg hm ?_ hdb)
  refine PySem.W.callWith_K (h₀ := X.base) I.ok.mod.kin hk (thn (ha pos pins s σ H _ I h) fun us s1 ⟨vs,H1,I1,r,q⟩ => ⟨I1.kIn,?_⟩) he hpl
  exact run_fn F hr hb hd hx I1 r q
end
section
variable {X : Cx}{CX : CXT}{k : Nat}{f C : Addr}{fd : FuncData}{ps ks : List Str}{sp : Sp}{E : XK}{x m : Str}{p pos apos kpos : Pos}{e o : Expr}{es : List Expr}{kws : List Keyword}{te ta : TE}{t tk : TA}{nm : Option Str}
variable {g : List Value -> List Value -> List Value}{gV : List V -> List V -> List V}
end
structure FnScope (N P : List Str)(sc : Scope) : Prop where
  kind : sc.kind = .function
  co : sc.isCoroutine = false
  gen : sc.isGenerator = false
  nd : N.Nodup
  pre : N.take P.length = P
  par : ∀ x ∈ P,sc.names.lookup x = some .local \/ sc.names.lookup x = some .cell
  nofree : ∀ y ∈ sc.names,y.2 ≠ .free
theorem bindL_out {kindOf : Str -> Option NameKind}{x : Str} : ∀ {binds : List (Str × Value)} {m : Str -> Option Value},(∀ v,(x,v) ∉ binds) -> bindL kindOf binds m x = m x
  | [],_,_ => rfl
  | (n,v) :: r,m,h => by
    unfold bindL
    rw [bindL_out fun w hw => h w (List.mem_cons_of_mem _ hw)]
    split
    · have : x ≠ n := by rintro rfl; exact h v List.mem_cons_self
      simp [this]
    · rfl
theorem bindC_out {kindOf : Str -> Option NameKind}{x : Str} : ∀ {binds : List (Str × Value)} {m : Str -> Option Value},(∀ v,(x,v) ∉ binds) -> bindC kindOf binds m x = m x
  | [],_,_ => rfl
  | (n,v) :: r,m,h => by
    unfold bindC
    rw [bindC_out fun w hw => h w (List.mem_cons_of_mem _ hw)]
    split
    · rfl
    · have : x ≠ n := by rintro rfl; exact h v List.mem_cons_self
      simp [this]
theorem bindL_get {kindOf : Str -> Option NameKind}{x : Str}{v : Value} : ∀ {P : List Str} {vs : List Value} {i : Nat} {m : Str -> Option Value},P.Nodup -> P[i]? = some x -> vs[i]? = some v -> kindOf x = some .local ->
    bindL kindOf (P.zip vs) m x = some v
  | [],_,_,_,_,h,_,_ => by simp at h
  | _ :: _,[],_,_,_,_,h,_ => by simp at h
  | p :: P,w :: vs,0,m,nd,h1,h2,hk => by
    simp at h1 h2; subst h1; subst h2
    show bindL kindOf ((p,w) :: P.zip vs) m p = _
    unfold bindL
    rw [bindL_out fun v hv => (List.nodup_cons.mp nd).1 (List.of_mem_zip hv).1,if_pos hk]
    simp
  | p :: P,w :: vs,i + 1,m,nd,h1,h2,hk => by
    show bindL kindOf ((p,w) :: P.zip vs) m x = _
    unfold bindL
    exact bindL_get (i := i) (List.nodup_cons.mp nd).2 (by simpa using h1) (by simpa using h2) hk
theorem bindC_get {kindOf : Str -> Option NameKind}{x : Str}{v : Value} : ∀ {P : List Str} {vs : List Value} {i : Nat} {m : Str -> Option Value},P.Nodup -> P[i]? = some x -> vs[i]? = some v -> kindOf x ≠ some .local ->
    bindC kindOf (P.zip vs) m x = some v
  | [],_,_,_,_,h,_,_ => by simp at h
  | _ :: _,[],_,_,_,_,h,_ => by simp at h
  | p :: P,w :: vs,0,m,nd,h1,h2,hk => by
    simp at h1 h2; subst h1; subst h2
    show bindC kindOf ((p,w) :: P.zip vs) m p = _
    unfold bindC
    rw [bindC_out fun v hv => (List.nodup_cons.mp nd).1 (List.of_mem_zip hv).1,if_neg hk]
    simp
  | p :: P,w :: vs,i + 1,m,nd,h1,h2,hk => by
    show bindC kindOf ((p,w) :: P.zip vs) m x = _
    unfold bindC
    exact bindC_get (i := i) (List.nodup_cons.mp nd).2 (by simpa using h1) (by simpa using h2) hk
def start (N : List Str)(vs : List V) : St := vs.map some ++ List.replicate (N.length - vs.length) none
def cxOf (CX : CXT)(P : Program)(w : World)(K : PySem.W.Frag)(mg : Str -> Option Value)(base : Heap)(N : List Str)(qual : Str)(scope : Scope)(f : Addr)(cd : Value)(A : Around)(outer : List Env)(s : Shared)(H : Hp)(E : XK) : Cx where
  prog := P
  w := w
  K := K
  mg := mg
  base := base
  A := A.deeper (envOfC qual scope s.heap.objs.size f cd)
  N := N
  s₀ := s
  H₀ := H
  env := envOfC qual scope s.heap.objs.size f cd
  outer := outer
  stack := envOfC qual scope s.heap.objs.size f cd :: outer
  ex := []
  calm := true
  fn := fun _ => true
  pn := []
  xe := fun e s' => wpAny (model P w) (A.deeper (envOfC qual scope s.heap.objs.size f cd)) (leaving (envOfC qual scope s.heap.objs.size f cd) e) (fun _ s'' => CX outer H s E e s'') (fun e' s'' => CX outer H s E e' s'') s'
theorem cell_has {sc : Scope}{n : Nat}{x : Str}(h : sc.names.lookup x = some .cell) : ∃ c,(cellsFrom n sc.names []).lookup x = some c := by
  have q := PySem.W.cellsFrom_some sc.names n [] (.inl h)
  exact Option.isSome_iff_exists.mp q
theorem inv_start {CX : CXT}{P : Program}{w : World}{K : PySem.W.Frag}{mg : Str -> Option Value}{base : Heap}{N ps : List Str}{qual : Str}{scope : Scope}{f : Addr}{cd : Value}{A : Around}{outer : List Env}{s s1 : Shared}{H : Hp}{E : XK}{us : List Value}{vs : List V}
    (S : FnScope N ps scope) (hd : A.handled = none) (e0 : Env0 P w K mg base A outer s H) (hl : vs.length = ps.length) (r : Vals vs us)
    (x : InCallC s s.heap.objs.size (bindL (envOfC qual scope s.heap.objs.size f cd).kindOf (ps.zip us) fun _ => none) (cellsFrom (s.heap.objs.size + 1) scope.names []) (bindC (envOfC qual scope s.heap.objs.size f cd).kindOf (ps.zip us) fun _ => none) s1) :
    Inv (cxOf CX P w K mg base N qual scope f cd A outer s H E) [] (start N vs) H s1 := by
  have hpl : ps.length <= N.length := by have := congrArg List.length S.pre; rw [List.length_take] at this; omega
  obtain ⟨h1,tk,rfl,hk⟩ := x.done
  have noA : ∀ b : Addr,b ∉ (cxOf CX P w K mg base N qual scope f cd A outer s H E).ex := fun b z => absurd (show b ∈ ([] : List Addr) from z) (by simp)
  refine ⟨⟨e0.mod,S.kind,rfl,rfl,Nat.le_refl _,fun y z c h1 h2 => ?_,fun y hy => ?_,fun y c _ h => ?_,fun _ => hd,Around.frames_deeper e0.frames,.inr ⟨rfl,rfl⟩,fun b z => absurd z (noA b),e0.bs,e0.bsz,fun b _ _ => noA b,fun b z => absurd z (noA b),e0.funs,e0.frf⟩,
    rfl,e0.bare,Un.kept hk,⟨_,x.toInCall.ns,fun i y v h1 h2 h3 => ?_⟩,fun y c h => ⟨_,x.cell y c h⟩,e0.hok.fresh (Nat.le_refl _),fun y c h => ?_,fun p hp => absurd (show p ∈ ([] : List (Addr × Obj)) from hp) (by simp),e0.hok.kept hk,?_⟩
  · exact name_of_addr x.apart (PySem.mem_of_lookup h1) (PySem.mem_of_lookup h2)
  · have hy : scope.names.lookup y = some .cell \/ scope.names.lookup y = some .free := hy
    rcases hy with hy | hy
    · exact cell_has hy
    · exact absurd rfl (S.nofree _ (PySem.mem_of_lookup hy))
  · exact Nat.le_of_lt (x.above y c (PySem.mem_of_lookup h))
  · have hi : i < vs.length := by
      unfold start at h2
      by_cases hi : i < vs.length
      · exact hi
      · rw [List.getElem?_append_right (by simpa using hi)] at h2
        rw [List.getElem?_replicate] at h2
        split at h2 <;> cases h2
    have ha : vs[i]? = some v := by
      unfold start at h2
      rw [List.getElem?_append_left (by simpa using hi),List.getElem?_map] at h2
      cases e : vs[i]? with
      | none => rw [e] at h2; cases h2
      | some a => rw [e] at h2; cases h2; rfl
    obtain ⟨u,hu,rv⟩ := r.get ha
    have hp : ps[i]? = some y := by
      rw [<- S.pre,List.getElem?_take_of_lt (by omega)]; exact h1
    have ndP : ps.Nodup := by rw [<- S.pre]; exact S.nd.sublist (List.take_sublist _ _)
    refine ⟨u,rv,?_⟩
    rcases S.par y (List.mem_of_getElem? hp) with k | k
    · exact .inl ⟨k,bindL_get ndP hp hu k⟩
    · obtain ⟨c,e⟩ := cell_has (n := s.heap.objs.size + 1) k
      refine .inr ⟨.inl k,c,e,?_⟩
      have q := x.cell y c e
      rw [bindC_get ndP hp hu (by show scope.names.lookup y ≠ _; rw [k]; decide)] at q
      exact q
  · exact e0.hok.fresh (Nat.le_of_lt (x.above y c (PySem.mem_of_lookup h)))
  · unfold start
    show _ = N.length
    rw [List.length_append,List.length_map,List.length_replicate]
    omega
theorem fn_of {CX : CXT}{P : Program}{w : World}{K : PySem.W.Frag}{mg : Str -> Option Value}{base : Heap}{k : Nat}{f : Addr}{name qual : Str}{params : Arguments}{body : List Stmt}{scope : Scope}{dV kV doc pm cdv ct oc : Value}{an od : Option Addr}
    {osl : Array (Option Value)} {N ps : List Str} {sp : Sp} (lk : K.lookup f = some ⟨oc,od,.func (PySem.W.fnOf name qual params body scope dV kV doc pm an cdv ct),osl⟩) (hcd : PySem.W.codeIn K cdv qual = true) (S : FnScope N ps scope)
    (len : ∀ vs H Q E,sp vs H Q E -> vs.length = ps.length)
    (hbody : ∀ (A : Around) (outer : List Env) (s : Shared) (H : Hp) (vs : List V) (Q : VK) (E : XK),Room k (A.deeper (envOfC qual scope s.heap.objs.size f cdv)) -> sp vs H Q E ->
      ∃ t,PSs (cxOf CX P w K mg base N qual scope f cdv A outer s H E) body t /\ t { nx := fun _ H' => Q .non H',rt := Q } (start N vs) H) :
    FnOk P w K mg base CX (k + 1) f (PySem.W.fnOf name qual params body scope dV kV doc pm an cdv ct) ps sp := by
  refine ⟨len,fun A outer s H args us vs Q E hr e0 hb r hsp => ?_⟩
  have hl := len _ _ _ _ hsp
  have KX : K.In s.heap := e0.mod.kin.keeps fun b o e => (e0.bs b o e).1
  have lim : s.heap.NoLimit := e0.mod.nolimit.keeps fun b o e => (e0.bs b o e).1
  have hkind : ∀ y ∈ ps.zip us,scope.names.lookup y.1 = some .local \/ (scope.names.lookup y.1 = some .cell /\ ((cellsFrom (s.heap.objs.size + 1) scope.names []).lookup y.1).isSome = true) := fun ⟨n,v⟩ hy => by
    rcases S.par n (List.of_mem_zip hy).1 with q | q
    · exact .inl q
    · exact .inr ⟨q,PySem.W.cellsFrom_some _ _ _ (.inl q)⟩
  refine codeAny_call_function hr.depth (KX _ _ lk) rfl S.co S.gen rfl (PySem.W.codeRec_of KX hcd) (hb _ _ _ _ ?_)
  refine wpAny_newFunctionEnv_cells S.kind hkind fun env he s1 x => ?_
  subst he
  refine ⟨lim.keeps x.toInCall.keep,codeAny_func ?_⟩
  obtain ⟨t,ht,hq⟩ := hbody A outer s H vs Q E (hr.deeper _) hsp
  have I : Inv (cxOf CX P w K mg base N qual scope f cdv A outer s H E) [] (start N vs) H s1 := inv_start S hr.hd e0 hl r x
  refine wpAny_mono (ht [] s1 (start N vs) H _ I hq) (fun fl s' hs => ?_) fun e s' hs => hs
  have fin : ∀ {σ' : St} {H' : Hp} {v : V} {u : Value},Inv (cxOf CX P w K mg base N qual scope f cdv A outer s H E) [] σ' H' s' -> RelV v u -> Q v H' -> CE outer P w H s Q u s' :=
    fun {σ' H' v u} J rv q => ⟨v,H',J.os,J.bare,J.base,J.hok,rv,q⟩
  cases fl with
  | ret u =>
    obtain ⟨v,σ',H',J,rv,q⟩ := hs
    exact fin J rv q
  | next =>
    obtain ⟨σ',H',J,q⟩ := hs
    exact fin (v := V.non) (u := Value.none) J rfl q
  | brk =>
    obtain ⟨_,_,_,q⟩ := hs
    exact False.elim q
  | cont =>
    obtain ⟨_,_,_,q⟩ := hs
    exact False.elim q
end L2
namespace L2
open PySem PySem.Spec PyProof.Rows
section
variable {X : Cx}{x : Str}{p pos : Pos}{e : Expr}{es : List Expr}{t : TA}{id T : String}{r : List V -> Hp -> VK -> Prop}
def tCB (r : List V -> Hp -> VK -> Prop)(t : TA) : TE := fun σ H Q => t σ H fun vs H1 => r vs H1 Q
theorem pe_callB (hc : CallR X (.builtin id) r)(hg : Gl X x)(hm : X.mg x = none)(hv : bootBuiltins x = some (.builtin id))(ha : PA X (e :: es) t)(hn : x ≠ "__name__" := by decide) (hdb : (x == ("__debug__" : Str)) = false := by decide)
    (he : starEach (e :: es) X.env = (false,eval e X.env) :: starEach es X.env := by rfl) (hpl : (backTo pos (starEach es X.env)).any (·.1) = false := by rfl) : PE X (.Call (.Name x p) (e :: es) [] pos) (tCB r t) := by
  intro pins s σ H Q I h
  refine wpAny_Call_Name_kw (ld_blt I hg hm hv ?_ hn hdb)
  exact PyProof.Rows.callWith_builtin1 (thn (ha pos pins s σ H _ I h) fun us s1 ⟨vs,H1,I1,r1,q1⟩ => hc pins s1 σ H1 vs us Q I1 r1 q1) he hpl
theorem pe_callTy (hc : CallR X (.type T) r)(hg : Gl X x)(hm : X.mg x = none)(hv : bootBuiltins x = some (.type T))(ha : PA X (e :: es) t)(hn : x ≠ "__name__" := by decide) (hdb : (x == ("__debug__" : Str)) = false := by decide)
    (he : starEach (e :: es) X.env = (false,eval e X.env) :: starEach es X.env := by rfl) (hpl : (backTo pos (starEach es X.env)).any (·.1) = false := by rfl) : PE X (.Call (.Name x p) (e :: es) [] pos) (tCB r t) := by
  intro pins s σ H Q I h
  refine wpAny_Call_Name_kw (ld_blt I hg hm hv ?_ hn hdb)
  exact PyProof.Rows.callWith_type1 (thn (ha pos pins s σ H _ I h) fun us s1 ⟨vs,H1,I1,r1,q1⟩ => hc pins s1 σ H1 vs us Q I1 r1 q1) he hpl
end
end L2
namespace HT
open PySem PyProof.Rows
section
open PySem.SeqAt
open PySem.AutoSeq1 (wpAny_loadPart')
open PySem.MeetsSeq PySem.MeetsSeq2 PySem.MeetsSeq3
end
section
variable {prog : Program}{w : World}{A : Around}{E : Value -> Shared -> Prop}{s : Shared}
theorem cat_tup {t b : Addr}{vs ws : List Value}{Q : Value -> Shared -> Prop}(ht : IsTup s.heap t vs.toArray)(hb : IsTup s.heap b ws.toArray)(hv : vs ≠ [])
    (h1 : ws = [] -> Q (.ref t) s) (h2 : ws ≠ [] -> Q (.ref s.heap.objs.size) { s with heap := s.heap.push { cls := .type "tuple",data := .seq (vs ++ ws).toArray } })
    (hsz : vs.length + ws.length <= sizeLine) : wpAny (model prog w) A (binaryOp .Add (.ref t) (.ref b)) Q E s := by
  obtain ⟨⟨cls,dd,data,sl⟩,ho,hc,n,hd⟩ := id ht
  obtain ⟨⟨cls2,dd2,data2,sl2⟩,ho2,hc2,n2,hd2⟩ := id hb
  simp only at hc hd hc2 hd2
  subst hc hd hc2 hd2
  have e : vs.toArray ++ ws.toArray = (vs ++ ws).toArray := by simp
  by_cases hw : ws = []
  · exact concat_meets ⟨_,ho,rfl⟩ ⟨_,ho2,rfl⟩ noFill_tuple_add seq_tuple_add PySem.F.slot_tuple_add PySem.F.entry_tuple_add (PySem.F.args_tuple_add_2 _ _)
      (tuple_addW1 t b vs.toArray ws.toArray n n2 dd dd2 sl sl2 (by simpa using hv) (by simp [hw])) ⟨ho,ho2,h1 hw⟩
  · refine concat_meets ⟨_,ho,rfl⟩ ⟨_,ho2,rfl⟩ noFill_tuple_add seq_tuple_add PySem.F.slot_tuple_add PySem.F.entry_tuple_add (PySem.F.args_tuple_add_2 _ _)
      (tuple_addW2 t b vs.toArray ws.toArray n n2 dd dd2 sl sl2 (by simpa using hv) (by simpa using hw) (by rw [List.size_toArray,List.size_toArray]; exact hsz)) ⟨ho,ho2,?_⟩
    rw [e]
    exact h2 hw
def sIx (n d : Nat) : Option Int -> Nat
  | none => d
  | some v => if v < 0 then (v + (n : Int)).toNat else min v.toNat n
theorem sIx_le (n d : Nat)(hd : d <= n)(o : Option Int) : sIx n d o <= n := by
  cases o with
  | none => exact hd
  | some v =>
    show (if v < 0 then (v + (n : Int)).toNat else min v.toNat n) <= n
    by_cases hv : v < 0
    · rw [if_pos hv]; omega
    · rw [if_neg hv]; exact Nat.min_le_right _ _
theorem clip_eq (v : Int)(n d : Nat) : (if v < 0 then max (v + (n : Int)) 0 else min v (n : Int)) = ((sIx n d (some v) : Nat) : Int) := by
  show (if v < 0 then max (v + (n : Int)) 0 else min v (n : Int)) = (((if v < 0 then (v + (n : Int)).toNat else min v.toNat n) : Nat) : Int)
  by_cases hv : v < 0
  · simp only [if_pos hv]; omega
  · simp only [if_neg hv]; omega
theorem adjust_gen (lo hi : Option Int)(n : Nat) : Builtin.Slice.sliceAdjust lo hi 1 (n : Int) = (((sIx n 0 lo : Nat) : Int),((sIx n n hi : Nat) : Int)) := by
  have h1 : ¬ ((1 : Int) < 0) := by omega
  unfold Builtin.Slice.sliceAdjust
  simp only [h1,if_false]
  refine Prod.ext ?_ ?_
  · cases lo with
    | none => rfl
    | some v => exact clip_eq v n 0
  · cases hi with
    | none => rfl
    | some v => exact clip_eq v n n
theorem places_gen (i j : Nat) : Builtin.Slice.slicePlaces (i : Int) (j : Int) 1 = j - i := by
  unfold Builtin.Slice.slicePlaces
  have h1 : (1 : Int) > 0 := by omega
  simp only [h1,if_true,Int.ediv_one]
  split <;> omega
theorem slicePart_ {v : Value}{o : Option Int}{Q : Option Int -> Shared -> Prop}(p : IsPart v o)(h : Q o s) : wpAny (model prog w) A (Builtin.Slice.slicePartIndex v) Q E s := by
  cases p with
  | none => exact slicePart_none h
  | int i t => exact slicePart_int h
theorem sliceApplied_gen {sl : Addr}{vl vu : Value}{lo hi : Option Int}{n : Nat}{Q : Int × Int × Nat -> Shared -> Prop}(hs : s.heap.IsSliceOf sl vl vu .none)(pl : IsPart vl lo)(pu : IsPart vu hi)
    (h : Q (((sIx n 0 lo : Nat) : Int),1,sIx n n hi - sIx n 0 lo) s) : wpAny (model prog w) A (Builtin.Slice.sliceApplied (.ref sl) (pure (n : Int))) Q E s := by
  obtain ⟨os,hos,hcs,hds⟩ := id hs
  unfold Builtin.Slice.sliceApplied Builtin.Slice.sliceFields
  refine wpAny_bind (wpAny_bind (wpAny_field hos hds (x := vl) rfl (wpAny_bind (wpAny_field hos hds (x := vu) rfl (wpAny_bind (wpAny_field hos hds (x := .none) rfl (wpAny_pure ?_)))))))
  refine wpAny_bind (slicePart_none ?_)
  show wpAny _ _ (if ((1 : Int) == 0) = true then _ else _) _ _ s
  rw [if_neg (by decide)]
  refine wpAny_bind (slicePart_ pl (wpAny_bind (slicePart_ pu (wpAny_bind (wpAny_pure ?_)))))
  show wpAny _ _ (match Builtin.Slice.sliceAdjust lo hi 1 (n : Int) with | (lo,hi) => pure (lo,(1 : Int),Builtin.Slice.slicePlaces lo hi 1)) _ _ s
  rw [adjust_gen lo hi n]
  show wpAny _ _ (pure (((sIx n 0 lo : Nat) : Int),(1 : Int),Builtin.Slice.slicePlaces ((sIx n 0 lo : Nat) : Int) ((sIx n n hi : Nat) : Int) 1)) _ _ s
  rw [places_gen]
  exact wpAny_pure h
theorem pick_gen (xs : Array Value)(i k : Nat) : ((List.range k).filterMap fun (m : Nat) => xs[((i : Int) + (m : Int) * 1).toNat]?).toArray = ((xs.toList.drop i).take k).toArray := by
  have e : (fun (m : Nat) => xs[((i : Int) + (m : Int) * 1).toNat]?) = fun m => xs[i + m]? := by
    funext m
    have : ((i : Int) + (m : Int) * 1).toNat = i + m := by omega
    rw [this]
  rw [e]
  have := pick_run xs i k
  rw [List.filterMap_map] at this
  have e2 : ((fun x => xs[x]?) ∘ fun x => i + x) = fun m => xs[i + m]? := rfl
  rw [e2] at this
  rw [this]
theorem getItem_tuple_cut {t sl : Addr}{items : Array Value}{vl vu : Value}{lo hi : Option Int}{Q : Value -> Shared -> Prop}(ht : IsTup s.heap t items)(hs : s.heap.IsSliceOf sl vl vu .none)(pl : IsPart vl lo)(pu : IsPart vu hi)
    (hw : ¬ (sIx items.size 0 lo = 0 /\ sIx items.size items.size hi = items.size))
    (h : Q (.ref s.heap.objs.size) { s with heap := s.heap.push { cls := .type "tuple",data := .seq ((items.toList.drop (sIx items.size 0 lo)).take (sIx items.size items.size hi - sIx items.size 0 lo)).toArray } })
    (hsz : items.size <= sizeLine) : wpAny (model prog w) A (getItem (.ref t) (.ref sl)) Q E s := by
  have htake : sizeOk (.seq ((items.toList.drop (sIx items.size 0 lo)).take (sIx items.size items.size hi - sIx items.size 0 lo)).toArray) := by
    show ((items.toList.drop (sIx items.size 0 lo)).take (sIx items.size items.size hi - sIx items.size 0 lo)).toArray.size <= sizeLine
    rw [List.size_toArray,List.length_take,List.length_drop,Array.length_toList]
    omega
  have hj : sIx items.size items.size hi <= items.size := sIx_le _ _ (Nat.le_refl _) hi
  obtain ⟨os,hos,hcs,hds⟩ := id hs
  have hTs : s.TypeIs (.ref sl) "slice" := ⟨os,hos,hcs⟩
  unfold getItem
  try with_reducible refine wpAny_holding ?_
  first | refine wpAny_bind (wpAny_pure ?_) | skip
  refine wpAny_bind (wpAny_sequenceKey ht.typeIs (by decide) ?_)
  refine wpAny_bind (wpAny_callSpecial?_slot (name := Str.ofString "__getitem__") ht.typeIs PyProof.Rows.slot_tuple_getitem
    (wpAny_call_entry PyProof.Rows.slot_tuple_getitem ht.typeIs entry_tuple_getitem ?_ (args_tuple_getitem _ _)))
  show wpAny _ _ (Builtin.Tuple.tupleItemsOf (.ref t) >>= _) _ _ s
  refine wpAny_bind (tupleItemsOf_ ht ?_)
  refine wpAny_bind (wpAny_typeOf hTs ?_)
  rw [if_pos (by decide)]
  refine wpAny_bind (sliceApplied_gen hs pl pu ?_)
  have hno : ¬ ((((sIx items.size 0 lo : Nat) : Int) == 0 && (1 : Int) == 1 && (sIx items.size items.size hi - sIx items.size 0 lo) == items.size) = true) := by
    intro q
    rw [Bool.and_eq_true,Bool.and_eq_true] at q
    have q1 : ((sIx items.size 0 lo : Nat) : Int) = 0 := eq_of_beq q.1.1
    have q2 : sIx items.size items.size hi - sIx items.size 0 lo = items.size := eq_of_beq q.2
    exact hw ⟨by omega,by omega⟩
  show wpAny _ _ (if (((sIx items.size 0 lo : Nat) : Int) == 0 && (1 : Int) == 1 && (sIx items.size items.size hi - sIx items.size 0 lo) == items.size) = true then _ else _) _ _ s
  rw [if_neg hno,pick_gen]
  first
    | exact wpAny_bind (m := Builtin.Tuple.tupleExact _) (wpAny_newObj_type (wpAny_pure ⟨_,rfl,wpAny_pure h⟩) htake)
    | exact wpAny_bind (m := Builtin.Tuple.tupleExact _) (wpAny_newObj_type (wpAny_bind (wpAny_pure (wpAny_pure ⟨_,rfl,wpAny_pure h⟩))) htake)
    | exact wpAny_bind (wpAny_bind (m := Builtin.Tuple.tupleExact _) (wpAny_newObj_type (wpAny_pure (wpAny_pure ⟨_,rfl,wpAny_pure h⟩)) htake))
    | exact wpAny_bind (wpAny_bind (m := Builtin.Tuple.tupleExact _) (wpAny_newObj_type (wpAny_pure ⟨_,rfl,wpAny_pure h⟩) htake))
end
end HT
namespace L2
open PySem PySem.Spec PyProof.Rows
abbrev TO := St -> Hp -> (Option Int -> Hp -> Prop) -> Prop
def PO (X : Cx)(e : Option Expr)(t : TO) : Prop :=
  ∀ (pins : List (Addr × Obj)) (s : Shared) (σ : St) (H : Hp) (Q : Option Int -> Hp -> Prop),Inv X pins σ H s -> t σ H Q ->
    wpAny (model X.prog X.w) X.A (evalPart e X.env) (fun u s' => ∃ o H',Inv X pins σ H' s' /\ IsPart u o /\ Q o H') X.xe s
def tNoPart : TO := fun _ H Q => Q none H
def tPart (t : TE) : TO := fun σ H Q => t σ H fun x H1 => ∃ i,x = .int i /\ Q (some i) H1
section
variable {X : Cx}{e : Expr}{te : TE}{lo hi : Option Expr}{tl th : TO}{pos p2 : Pos}
theorem po_none : PO X none tNoPart := by
  intro pins s σ H Q I h
  rw [evalPart_none]
  exact wpAny_pure ⟨none,H,I,.none,h⟩
theorem po_some (h : PE X e te) : PO X (some e) (tPart te) := by
  intro pins s σ H Q I hw
  rw [evalPart_some]
  refine thn (h pins s σ H _ I hw) fun u s1 ⟨x,H1,I1,r1,q1⟩ => ?_
  obtain ⟨i,rfl,q⟩ := q1
  obtain ⟨t,rfl⟩ := r1
  exact ⟨some i,H1,I1,.int i t,q⟩
def SlR (X : Cx)(r : V -> Option Int -> Option Int -> Hp -> VK -> Prop) : Prop :=
  ∀ (pins : List (Addr × Obj)) (s : Shared) (σ : St) (H : Hp) (x : V) (v vl vu : Value) (lo hi : Option Int) (sl : Addr) (Q : VK),Inv X pins σ H s -> RelV x v -> s.heap.IsSliceOf sl vl vu .none -> IsPart vl lo -> IsPart vu hi -> r x lo hi H Q ->
    ∃ T id,typeLookup (.type T) "__getitem__" = pure (some (.builtin id)) /\ s.TypeIs v T /\ wpAny (model X.prog X.w) X.A (getItem v (.ref sl)) (EP X pins σ Q) X.xe s
theorem SlR.or {r r' : V -> Option Int -> Option Int -> Hp -> VK -> Prop}(h : SlR X r)(h' : SlR X r') : SlR X (fun x lo hi H Q => r x lo hi H Q \/ r' x lo hi H Q) := by
  intro pins s σ H x v vl vu lo hi sl Q I rx hs pl pu q
  rcases q with q | q
  · exact h pins s σ H x v vl vu lo hi sl Q I rx hs pl pu q
  · exact h' pins s σ H x v vl vu lo hi sl Q I rx hs pl pu q
def tSl (r : V -> Option Int -> Option Int -> Hp -> VK -> Prop)(te : TE)(tl th : TO) : TE := fun σ H Q => te σ H fun x H1 => tl σ H1 fun l H2 => th σ H2 fun u H3 => r x l u H3 Q
theorem pe_slice {r : V -> Option Int -> Option Int -> Hp -> VK -> Prop}(hr : SlR X r)(he : PE X e te)(hl : PO X lo tl)(hu : PO X hi th) : PE X (.Subscript e (.Slice lo hi none p2) pos) (tSl r te tl th) := by
  intro pins s σ H Q I h
  refine Subscript_ (thn (he pins s σ H _ I h) fun v s1 ⟨x,H1,I1,r1,q1⟩ => ?_)
  refine wpAny_Slice (thn (hl pins s1 σ H1 _ I1 q1) fun vl s2 ⟨l,H2,I2,pl,q2⟩ => thn (hu pins s2 σ H2 _ I2 q2) fun vu s3 ⟨u,H3,I3,pu,q3⟩ => ?_)
  rw [evalPart_none]
  refine wpAny_pure ?_
  have I4 : Inv X pins σ H3 { s3 with heap := s3.heap.push { cls := .type "slice",data := .fields #[vl,vu,.none] } } := I3.kept (t' := s3.toks) fun b ob q => Heap.get?_push_of_some _ q
  obtain ⟨T,id,hT,ht,hg⟩ := hr pins { s3 with heap := s3.heap.push { cls := .type "slice",data := .fields #[vl,vu,.none] } } σ H3 x v vl vu l u s3.heap.objs.size Q I4 r1 (Heap.IsSliceOf.new ..) pl pu q3
  show wpAny (model X.prog X.w) X.A (subscriptTail e (.Slice lo hi none p2) v (.ref s3.heap.objs.size)) (EP X pins σ Q) X.xe { s3 with heap := s3.heap.push { cls := .type "slice",data := .fields #[vl,vu,.none] } }
  exact tail_any (ops := [.ref s3.heap.objs.size,v]) ht hT hg (by with_unfolding_all rfl)
def cutV (xs : List V)(lo hi : Option Int) : List V := (xs.drop (HT.sIx xs.length 0 lo)).take (HT.sIx xs.length xs.length hi - HT.sIx xs.length 0 lo)
theorem cutV_length (xs : List V)(lo hi : Option Int) : (cutV xs lo hi).length <= xs.length := by
  unfold cutV
  rw [List.length_take,List.length_drop]
  omega
def rSlT (K : PySem.W.Frag) : V -> Option Int -> Option Int -> Hp -> VK -> Prop := fun x lo hi H Q => ∃ a xs,x = .ref a /\ SqT K H a xs /\
  ¬ (HT.sIx xs.length 0 lo = 0 /\ HT.sIx xs.length xs.length hi = xs.length) /\ ∀ p,H p = none -> Q (.ref p) (upd H p (.tup (cutV xs lo hi)))
theorem sl_tup : SlR X (rSlT X.K) := by
  intro pins s σ H x v vl vu lo hi sl Q I rx hs pl pu h
  obtain ⟨a,xs,rfl,hx,hw,q⟩ := h
  cases rx
  obtain ⟨its,r,ht,hz⟩ := I.tuple hx
  have hlen : its.toArray.size = xs.length := by rw [List.size_toArray]; exact r.length.symm
  refine ⟨"tuple",_,PyProof.Rows.slot_tuple_getitem.lookup,ht.typeIs,?_⟩
  refine HT.getItem_tuple_cut ht hs pl pu (by rw [hlen]; exact hw) ?_ (by rw [hlen]; exact hz)
  rw [hlen]
  refine ⟨.ref s.heap.objs.size,_,I.laid (t' := s.toks) (o := .tup (cutV xs lo hi)) (fun b ob q => Heap.get?_push_of_some _ q) (Nat.le_refl _) ?_,rfl,q _ (I.hok.fresh (Nat.le_refl _))⟩
  exact ⟨Nat.le_trans (cutV_length xs lo hi) hz,_,(r.drop (HT.sIx xs.length 0 lo)).take (HT.sIx xs.length xs.length hi - HT.sIx xs.length 0 lo),IsTup.new _ _⟩
def rCatT (K : PySem.W.Frag) : R2 := fun x y H Q => ∃ a b xs ys,x = .ref a /\ y = .ref b /\ SqT K H a xs /\ SqT K H b ys /\ xs ≠ [] /\ xs.length + ys.length <= sizeLine /\
  (ys = [] -> Q (.ref a) H) /\ (ys ≠ [] -> ∀ p,H p = none -> Q (.ref p) (upd H p (.tup (xs ++ ys))))
theorem Vals.nil_iff {xs : List V}{us : List Value}(r : Vals xs us) : us = [] ↔ xs = [] := by
  cases r with
  | nil => simp
  | cons _ _ => simp
theorem op_catT : OpR X (binaryOp .Add) (rCatT X.K) := by
  intro pins s σ H x y v u Q I rx ry h
  obtain ⟨a,b,xs,ys,rfl,rfl,ha,hb,hx,hz,q1,q2⟩ := h
  cases rx
  cases ry
  obtain ⟨its,r1,p1,_⟩ := I.tuple ha
  obtain ⟨its2,r2,p2,_⟩ := I.tuple hb
  refine HT.cat_tup p1 p2 (fun z => hx (r1.nil_iff.mp z)) (fun z => ⟨.ref a,H,I,rfl,q1 (r2.nil_iff.mp z)⟩) (fun z => ?_) (by rw [<- r1.length,<- r2.length]; exact hz)
  refine ⟨.ref s.heap.objs.size,_,I.laid (t' := s.toks) (o := .tup (xs ++ ys)) (fun b ob q => Heap.get?_push_of_some _ q) (Nat.le_refl _) ?_,rfl,q2 (fun w => z (r2.nil_iff.mpr w)) _ (I.hok.fresh (Nat.le_refl _))⟩
  exact ⟨by rw [List.length_append]; exact hz,_,r1.append r2,IsTup.new _ _⟩
end
end L2
namespace L2
open PySem PySem.Spec PyProof.Rows
def ixN (n : Nat)(i : Int) : Option Nat := if 0 <= i then (if i < n then some i.toNat else none) else if -(n : Int) <= i then some (i + n).toNat else none
def atI {α : Type}(xs : List α)(i : Int) : Option α := (ixN xs.length i).bind fun j => xs[j]?
theorem ixN_seq {n : Nat}{i : Int}{j : Nat}(h : ixN n i = some j) : seqIndex? i n = some j /\ j < n /\ -(n : Int) <= i /\ i < n := by
  unfold ixN at h
  by_cases h0 : 0 <= i
  · rw [if_pos h0] at h
    by_cases h1 : i < n
    · rw [if_pos h1] at h
      have e : i.toNat = j := Option.some.inj h
      exact ⟨by rw [seqIndex_of h0 h1,e],by omega,by omega,h1⟩
    · rw [if_neg h1] at h; cases h
  · rw [if_neg h0] at h
    by_cases h1 : -(n : Int) <= i
    · rw [if_pos h1] at h
      have e : (i + n).toNat = j := Option.some.inj h
      exact ⟨by rw [seqIndex_neg (by omega) h1,e],by omega,h1,by omega⟩
    · rw [if_neg h1] at h; cases h
theorem atI_get {α : Type}{xs : List α}{i : Int}{v : α}(h : atI xs i = some v) : ∃ j,seqIndex? i xs.length = some j /\ xs[j]? = some v /\ j < xs.length /\ -(xs.length : Int) <= i /\ i < xs.length := by
  unfold atI at h
  cases e : ixN xs.length i with
  | none => rw [e] at h; cases h
  | some j =>
    rw [e] at h
    obtain ⟨h1,h2,h3,h4⟩ := ixN_seq e
    exact ⟨j,h1,h,h2,h3,h4⟩
theorem atI_nat {α : Type}{xs : List α}{j : Nat}{v : α}(h : xs[j]? = some v) : atI xs (j : Int) = some v := by
  have hj : j < xs.length := (List.getElem?_eq_some_iff.mp h).1
  have e : ixN xs.length (j : Int) = some j := by
    unfold ixN
    rw [if_pos (by omega),if_pos (by omega)]; simp
  unfold atI; rw [e]; exact h
def PlainIx (b : Expr) : Prop := ∀ o i,subscripted b false o i = operate [o,i] (getItem o i)
def IxR (X : Cx)(r : R2) : Prop :=
  ∀ (value slice : Expr) (pins : List (Addr × Obj)) (s : Shared) (σ : St) (H : Hp) (x y : V) (v u : Value) (Q : VK),Inv X pins σ H s -> RelV x v -> RelV y u -> r x y H Q ->
    subscripted slice false v u = operate [v,u] (getItem v u) -> wpAny (model X.prog X.w) X.A (subscriptTail value slice v u) (EP X pins σ Q) X.xe s
def MtR (X : Cx)(id : String)(r : V -> List V -> Hp -> VK -> Prop) : Prop :=
  ∀ (pins : List (Addr × Obj)) (s : Shared) (σ : St) (H : Hp) (x : V) (xs : List V) (v : Value) (us : List Value) (Q : VK),Inv X pins σ H s -> RelV x v -> Vals xs us -> r x xs H Q ->
    wpAny (model X.prog X.w) X.A (call (.builtin id) (v :: us)) (EP X pins σ Q) X.xe s
section
variable {X : Cx}{a b : Expr}{ta tb : TE}{pos : Pos}
theorem IxR.or {r r' : R2}(h : IxR X r)(h' : IxR X r') : IxR X (fun x y H Q => r x y H Q \/ r' x y H Q) := by
  intro value slice pins s σ H x y v u Q I rx ry q hs
  rcases q with q | q
  · exact h value slice pins s σ H x y v u Q I rx ry q hs
  · exact h' value slice pins s σ H x y v u Q I rx ry q hs
theorem pe_ix {r : R2}(hr : IxR X r)(ha : PE X a ta)(hb : PE X b tb)(hs : PlainIx b) : PE X (.Subscript a b pos) (tOp r ta tb) := by
  intro pins s σ H Q I h
  exact Subscript_ (binT ha hb I h fun v u s2 x y H2 I2 rx ry q => hr a b pins s2 σ H2 x y v u Q I2 rx ry q (hs _ _))
def rIxL (K : PySem.W.Frag) : R2 := fun x y H Q => ∃ p xs i v,x = .ref p /\ y = .int i /\ SqL K H p xs /\ atI xs i = some v /\ Q v H
def rIxT (K : PySem.W.Frag) : R2 := fun x y H Q => ∃ p xs i v,x = .ref p /\ y = .int i /\ SqT K H p xs /\ atI xs i = some v /\ Q v H
theorem ix_list : IxR X (rIxL X.K) := by
  intro value slice pins s σ H x y v u Q I rx ry h hs
  obtain ⟨p,xs,i,z,rfl,rfl,hq,he,q⟩ := h
  cases rx
  obtain ⟨t,rfl⟩ := ry
  obtain ⟨its,r,pl,hz⟩ := I.list hq
  obtain ⟨j,h1,h2,h3,h4,h5⟩ := atI_get he
  obtain ⟨w,ew,rw'⟩ := r.get h2
  have hl := r.length
  have hn := line63
  have fin : EP X pins σ Q w s := ⟨z,H,I,rw',q⟩
  by_cases h0 : 0 <= i
  · have hj : i.toNat = j := by
      rw [seqIndex_of h0 h5] at h1
      exact Option.some.inj h1
    exact item_listR pl.isList h0 (by omega) (by rw [hj]; simpa using ew) fin hs
  · have hj : (i + (its.toArray.size : Int)).toNat = j := by
      rw [seqIndex_neg (by omega) h4] at h1
      rw [List.size_toArray,<- hl]
      exact Option.some.inj h1
    exact subscriptTail_builtinR (x := w) pl.isList.typeIs slot_list_getitem.lookup
      (wpAny_getItem_list_neg (Q := fun r s' => r = w /\ EP X pins σ Q r s') pl.isList (by omega) (by rw [List.size_toArray] <;> omega) (by omega) (by rw [hj]; simpa using ew) ⟨rfl,fin⟩) hs
theorem ix_tup : IxR X (rIxT X.K) := by
  intro value slice pins s σ H x y v u Q I rx ry h hs
  obtain ⟨p,xs,i,z,rfl,rfl,hq,he,q⟩ := h
  cases rx
  obtain ⟨t,rfl⟩ := ry
  obtain ⟨its,r,pl,hz⟩ := I.tuple hq
  obtain ⟨j,h1,h2,h3,h4,h5⟩ := atI_get he
  obtain ⟨w,ew,rw'⟩ := r.get h2
  have hl := r.length
  have hn := line63
  have fin : EP X pins σ Q w s := ⟨z,H,I,rw',q⟩
  exact subscriptTail_builtinR (x := w) pl.typeIs slot_tuple_getitem.lookup
    (getItem_tuple (j := j) (Q := fun r s' => r = w /\ EP X pins σ Q r s') pl (by omega) (by omega) (by rw [List.size_toArray,<- hl]; exact h1) (by simpa using ew) ⟨rfl,fin⟩) hs
theorem mapSeq_set (its : List Value)(n j : Nat)(u : Value) : Obj.mapSeq (·.setIfInBounds j u) { cls := .type "list",data := .seq its.toArray n } = { cls := .type "list",data := .seq (its.set j u).toArray n } := by
  simp [Obj.mapSeq]
theorem Inv.lst {pins : List (Addr × Obj)}{σ : St}{H : Hp}{s : Shared}{p : Addr}{xs : List V}(I : Inv X pins σ H s)(h : H p = some (.lst xs)) :
    ∃ (its : List Value) (n : Nat),Vals xs its /\ s.heap.get? p = some { cls := .type "list",data := .seq its.toArray n } /\ xs.length <= sizeLine := by
  obtain ⟨z,its,n,r,e⟩ := I.hok p _ h
  exact ⟨its,n,r,e,z⟩
theorem Inv.lstUpd {pins : List (Addr × Obj)}{σ : St}{H : Hp}{s : Shared}{p : Addr}{xs ys : List V}{its its' : List Value}{n n' : Nat}{f : Obj -> Obj}(I : Inv X pins σ H s)(h : H p = some (.lst xs))
    (ho : s.heap.get? p = some { cls := .type "list",data := .seq its.toArray n }) (hf : f { cls := .type "list",data := .seq its.toArray n } = { cls := .type "list",data := .seq its'.toArray n' }) (r : Vals ys its') (hz : ys.length <= sizeLine) (t : Nat) :
    Inv X pins σ (upd H p (.lst ys)) { s with heap := s.heap.update p f,toks := t } := by
  have e : (s.heap.update p f).get? p = some { cls := .type "list",data := .seq its'.toArray n' } := by
    rw [Heap.get?_update_self f ho (by rw [hf] <;> rfl),hf]
  refine I.write (x := p) (e := p) (by rw [h]; trivial) (.inl rfl) (fun b u hb q => (Heap.get?_update_other _ _ (Ne.symm hb)).trans q) ⟨_,e⟩ ?_
  exact ⟨hz,its',n',r,e⟩
def rSetL : V -> V -> V -> Hp -> (Hp -> Prop) -> Prop := fun o i v H Q => ∃ p xs k j,o = .ref p /\ i = .int k /\ H p = some (.lst xs) /\ ixN xs.length k = some j /\ Q (upd H p (.lst (xs.set j v)))
theorem set_list : PSet X rSetL := by
  intro pins s σ H o i v ov iv u Q I ro ri rv h
  obtain ⟨p,xs,k,j,rfl,rfl,hp,hj,q⟩ := h
  cases ro
  obtain ⟨t,rfl⟩ := ri
  obtain ⟨its,n,r,ho,hz⟩ := I.lst hp
  obtain ⟨h1,h2,h3,h4⟩ := ixN_seq hj
  have hl := r.length
  have hn := line63
  have I' : Inv X pins σ (upd H p (.lst (xs.set j v))) { s with heap := s.heap.update p (Obj.mapSeq (·.setIfInBounds j u)) } :=
    I.lstUpd hp ho (mapSeq_set its n j u) (r.set rv j) (by rw [List.length_set]; exact hz) s.toks
  by_cases h0 : 0 <= k
  · have hk : k.toNat = j := by
      rw [seqIndex_of h0 h4] at h1
      exact Option.some.inj h1
    exact PySem.W.ki_setAt ho h0 (by omega) (by rw [List.size_toArray,<- hl]; exact h4) (by rw [hk]; exact ⟨_,I',q⟩)
  · have hk : (k + (its.toArray.size : Int)).toNat = j := by
      rw [seqIndex_neg (by omega) h3] at h1
      rw [List.size_toArray,<- hl]
      exact Option.some.inj h1
    exact PySem.W.ki_setBack ho (by omega) (by rw [List.size_toArray,<- hl]; exact h3) (by omega) (by rw [hk]; exact ⟨_,I',q⟩)
theorem slice_bounds (lo hi : Option Int)(n : Nat) : (sliceBounds lo hi none n).1 = ((HT.sIx n 0 lo : Nat) : Int) /\ (sliceBounds lo hi none n).2.1 = ((HT.sIx n n hi : Nat) : Int) /\ (sliceBounds lo hi none n).2.2 = 1 := by
  refine ⟨?_,?_,rfl⟩
  · cases lo with
    | none => simp [sliceBounds,HT.sIx]
    | some i =>
      simp only [sliceBounds,HT.sIx,Option.getD_none,show (1 : Int) > 0 by decide,if_true]
      by_cases h : i < 0
      · simp only [h,if_true] <;> omega
      · simp only [h,if_false] <;> omega
  · cases hi with
    | none => simp [sliceBounds,HT.sIx]
    | some i =>
      simp only [sliceBounds,HT.sIx,Option.getD_none,show (1 : Int) > 0 by decide,if_true]
      by_cases h : i < 0
      · simp only [h,if_true] <;> omega
      · simp only [h,if_false] <;> omega
theorem slicePick_cut (its : List Value)(lo hi : Option Int) : slicePick its.toArray lo hi none = ((its.drop (HT.sIx its.length 0 lo)).take (HT.sIx its.length its.length hi - HT.sIx its.length 0 lo)).toArray := by
  obtain ⟨h1,h2,h3⟩ := slice_bounds lo hi its.toArray.size
  unfold slicePick
  rw [h1,h2,h3]
  simp only [sliceRange_one,pick_run,List.size_toArray] <;> rfl
def rSlL (K : PySem.W.Frag) : V -> Option Int -> Option Int -> Hp -> VK -> Prop := fun x lo hi H Q => ∃ a xs,x = .ref a /\ SqL K H a xs /\ ∀ p,H p = none -> Q (.ref p) (upd H p (.lst (cutV xs lo hi)))
theorem sl_list : SlR X (rSlL X.K) := by
  intro pins s σ H x v vl vu lo hi sl Q I rx hs pl pu h
  obtain ⟨a,xs,rfl,hx,q⟩ := h
  cases rx
  obtain ⟨its,r,ht,hz⟩ := I.list hx
  have hlen := r.length
  refine ⟨"list",_,slot_list_getitem.lookup,ht.isList.typeIs,?_⟩
  refine wpAny_getItem_list_slice ht.isList hs pl pu .none (by simp) ?_ (by rw [List.size_toArray] <;> omega)
  rw [slicePick_cut,<- hlen]
  refine ⟨.ref s.heap.objs.size,_,I.laid (t' := s.toks) (o := .lst (cutV xs lo hi)) (fun b ob q => Heap.get?_push_of_some _ q) (Nat.le_refl _) ?_,rfl,q _ (I.hok.fresh (Nat.le_refl _))⟩
  exact ⟨Nat.le_trans (cutV_length xs lo hi) hz,_,0,(r.drop (HT.sIx xs.length 0 lo)).take (HT.sIx xs.length xs.length hi - HT.sIx xs.length 0 lo),Heap.get?_push_size _ rfl⟩
def flatV : V -> Bool
  | .non => true
  | .bl _ => true
  | .int _ => true
  | .str _ => true
  | _ => false
def eqV : V -> V -> Bool
  | .non,.non => true
  | .bl a,.bl b => a == b
  | .bl a,.int b => (if a then 1 else 0) == b
  | .int a,.bl b => a == (if b then 1 else 0)
  | .int a,.int b => a == b
  | .str a,.str b => a == b
  | _,_ => false
theorem eqAt_V {A : Around}{s : Shared}{y x : V}{u v : Value}(ry : RelV y u)(rx : RelV x v)(fy : flatV y = true)(fx : flatV x = true) : SeqAt.EqAt A s u v (eqV y x) := by
  cases y with
  | non =>
    cases ry
    cases x with
    | non => cases rx; exact SeqAt.EqAt.same _
    | bl b => cases rx; exact SeqAt.EqAt.none_bool b
    | int b => obtain ⟨t,rfl⟩ := rx; exact SeqAt.EqAt.none_int b t
    | str b => obtain ⟨t,rfl⟩ := rx; exact SeqAt.EqAt.none_str b t
    | _ => exact absurd (show false = true from fx) Bool.false_ne_true
  | bl a =>
    cases ry
    cases x with
    | non => cases rx; exact SeqAt.EqAt.bool_none a
    | bl b => cases rx; exact SeqAt.EqAt.bool_bool a b
    | int b => obtain ⟨t,rfl⟩ := rx; exact SeqAt.EqAt.bool_int a b t
    | str b => obtain ⟨t,rfl⟩ := rx; exact SeqAt.EqAt.bool_str a b t
    | _ => exact absurd (show false = true from fx) Bool.false_ne_true
  | int a =>
    obtain ⟨t',rfl⟩ := ry
    cases x with
    | non => cases rx; exact SeqAt.EqAt.int_none a t'
    | bl b => cases rx; exact SeqAt.EqAt.int_bool a t' b
    | int b => obtain ⟨t,rfl⟩ := rx; exact SeqAt.EqAt.int_int a t' b t
    | str b => obtain ⟨t,rfl⟩ := rx; exact SeqAt.EqAt.int_str a t' b t
    | _ => exact absurd (show false = true from fx) Bool.false_ne_true
  | str a =>
    obtain ⟨t',rfl⟩ := ry
    cases x with
    | non => cases rx; exact SeqAt.EqAt.str_none a t'
    | bl b => cases rx; exact SeqAt.EqAt.str_bool a t' b
    | int b => obtain ⟨t,rfl⟩ := rx; exact SeqAt.EqAt.str_int a t' b t
    | str b => obtain ⟨t,rfl⟩ := rx; exact SeqAt.EqAt.str_str a t' b t
    | _ => exact absurd (show false = true from fx) Bool.false_ne_true
  | _ => exact absurd (show false = true from fy) Bool.false_ne_true
theorem call_len_seq : CallR X (.builtin "len") (fun xs H Q => ∃ p ys,xs = [.ref p] /\ (SqL X.K H p ys \/ SqT X.K H p ys) /\ Q (.int ys.length) H) := by
  intro pins s σ H xs us Q I r h
  obtain ⟨p,ys,rfl,hq,q⟩ := h
  obtain ⟨u,rfl,rx⟩ := vals1 r
  cases rx
  have hn := line63
  rcases hq with hq | hq
  · obtain ⟨its,r',pl,hz⟩ := I.list hq
    have hlen := r'.length
    exact Calls.call_len_list pl.isList (by simp only [List.size_toArray] <;> omega) ⟨.int ys.length,H,I.tok _,⟨s.toks + 1,by rw [List.size_toArray,hlen]⟩,q⟩
  · obtain ⟨its,r',pl,hz⟩ := I.tuple hq
    have hlen := r'.length
    exact len_tuple pl (by simp only [List.size_toArray] <;> omega) ⟨.int ys.length,H,I.tok _,⟨s.toks + 1,by rw [List.size_toArray,hlen]⟩,q⟩
theorem call_list_of : CallR X (.type "list") (fun xs H Q => ∃ p ys,xs = [.ref p] /\ (SqL X.K H p ys \/ SqT X.K H p ys) /\ ∀ l,H l = none -> Q (.ref l) (upd H l (.lst ys))) := by
  intro pins s σ H xs us Q I r h
  obtain ⟨p,ys,rfl,hq,q⟩ := h
  obtain ⟨u,rfl,rx⟩ := vals1 r
  cases rx
  have fin : ∀ (its : List Value),Vals ys its -> ys.length <= sizeLine -> ∀ (h' : Heap) (c' : Nat),(∀ b o',s.heap.get? b = some o' -> h'.get? b = some o') ->
      h'.get? s.heap.objs.size = some { cls := .type "list",dict := none,data := .seq its.toArray c',slots := #[] } -> EP X pins σ Q (.ref s.heap.objs.size) { s with heap := h' } := fun its r' hz h' c' kp e =>
    ⟨.ref s.heap.objs.size,_,I.laid (t' := s.toks) kp (Nat.le_refl _) (show ObjOk X.prog X.w _ h' _ (.lst ys) from ⟨hz,its,c',r',e⟩),rfl,q _ (I.hok.fresh (Nat.le_refl _))⟩
  rcases hq with hq | hq
  · obtain ⟨its,r',pl,hz⟩ := I.list hq
    have hlen := r'.length
    obtain ⟨o,ho,hc,n,hd⟩ := pl.isList
    exact call_list_seq p (.inl rfl) ho hc hd (fun h' c' kp e => fin its r' hz h' c' kp e) (by simp only [List.size_toArray] <;> omega)
  · obtain ⟨its,r',pl,hz⟩ := I.tuple hq
    have hlen := r'.length
    obtain ⟨o,ho,hc,n,hd⟩ := pl
    exact call_list_seq p (.inr rfl) ho hc hd (fun h' c' kp e => fin its r' hz h' c' kp e) (by simp only [List.size_toArray] <;> omega)
theorem call_tuple_of : CallR X (.type "tuple") (fun xs H Q => ∃ p ys,xs = [.ref p] /\ ((SqL X.K H p ys /\ ∀ l,H l = none -> Q (.ref l) (upd H l (.tup ys))) \/ (SqT X.K H p ys /\ Q (.ref p) H))) := by
  intro pins s σ H xs us Q I r h
  obtain ⟨p,ys,rfl,h⟩ := h
  obtain ⟨u,rfl,rx⟩ := vals1 r
  cases rx
  rcases h with ⟨hq,q⟩ | ⟨hq,q⟩
  · obtain ⟨its,r',pl,hz⟩ := I.list hq
    have hlen := r'.length
    refine call_tuple_list pl.isList (fun h' kp => ?_) (by simp only [List.size_toArray] <;> omega)
    have I1 : Inv X pins σ H { s with heap := h' } := I.kept (t' := s.toks) kp
    have I2 : Inv X pins σ (upd H h'.objs.size (.tup ys)) { s with heap := h'.push { cls := .type "tuple",data := .seq its.toArray } } :=
      I1.laid (t' := s.toks) (fun b o e => Heap.get?_push_of_some _ e) (Nat.le_refl _) (show ObjOk X.prog X.w _ _ _ (.tup ys) from ⟨hz,its,r',IsTup.new _ _⟩)
    exact ⟨.ref h'.objs.size,_,I2,rfl,q _ (I1.hok.fresh (Nat.le_refl _))⟩
  · obtain ⟨its,r',pl,hz⟩ := I.tuple hq
    exact call_tuple_same pl ⟨.ref p,H,I,rfl,q⟩
variable {o e : Expr}{es : List Expr}{to : TE}{t : TA}{name : Str}{apos cpos : Pos}{T id : String}{r : V -> List V -> Hp -> VK -> Prop}
end
end L2
namespace L2
open PySem PySem.Spec PyProof.Rows
theorem Vals.one : ∀ {x : V} {us : List Value},Vals [x] us -> ∃ u,us = [u] /\ RelV x u
  | _,_,.cons r .nil => ⟨_,rfl,r⟩
theorem Vals.two : ∀ {x y : V} {us : List Value},Vals [x,y] us -> ∃ u v,us = [u,v] /\ RelV x u /\ RelV y v
  | _,_,_,.cons r (.cons q .nil) => ⟨_,_,rfl,r,q⟩
section
variable {X : Cx}{pins : List (Addr × Obj)}{σ : St}{H : Hp}{s : Shared}{l b : Addr}{xs ys zs : List V}
theorem Inv.lnew {its : List Value}{t' : Nat}(I : Inv X pins σ H s)(hv : Vals ys its)(hz : ys.length <= sizeLine) :
    Inv X pins σ (upd H s.heap.objs.size (.lst ys)) { s with heap := s.heap.push { cls := .type "list",data := .seq its.toArray },toks := t' } :=
  I.laid (fun _ _ q => Heap.get?_push_of_some _ q) (Nat.le_refl _) ⟨hz,its,0,hv,Heap.get?_push_size _ rfl⟩
theorem Inv.fresh (I : Inv X pins σ H s) : H s.heap.objs.size = none := I.hok.fresh (Nat.le_refl _)
theorem Inv.lstM (I : Inv X pins σ H s)(hH : H l = some (.lst xs)) : xs.length <= sizeLine /\ ∃ (its : List Value) (n : Nat),Vals xs its /\ xs.length = its.length /\ s.heap.get? l = some { cls := .type "list",data := .seq its.toArray n } := by
  obtain ⟨z,its,n,r,e⟩ := I.hok l _ hH
  exact ⟨z,its,n,r,r.length,e⟩
end
section
variable {X : Cx}
def rCat : R2 := fun x y H Q => ∃ l b xs zs,x = .ref l /\ y = .ref b /\ H l = some (.lst xs) /\ H b = some (.lst zs) /\ xs.length + zs.length <= sizeLine /\ ∀ p,H p = none -> Q (.ref p) (upd H p (.lst (xs ++ zs)))
theorem op_cat : OpR X (binaryOp .Add) rCat := by
  intro pins s σ H x y v u Q I rx ry h
  obtain ⟨l,b,xs,zs,rfl,rfl,hH,hB,hz,q⟩ := h
  cases rx
  cases ry
  obtain ⟨z,its,n,r,hl,e⟩ := I.lstM hH
  obtain ⟨z2,its2,n2,r2,hl2,e2⟩ := I.lstM hB
  refine PySem.P.add_list e e2 ?_ (by rw [List.size_toArray,List.size_toArray]; omega)
  have ea : its.toArray ++ its2.toArray = (its ++ its2).toArray := by simp
  rw [ea]
  exact ⟨.ref _,_,I.lnew (t' := s.toks) (r.append r2) (by rw [List.length_append]; omega),rfl,q _ I.fresh⟩
end
section
variable {prog : Program}{w : World}{A : Around}{E : Value -> Shared -> Prop}{s : Shared}
end
section
variable {X : Cx}
end
end L2
namespace Att
open PySem PySem.W PySem.Calls PyProof.Rows
theorem ints_of_wellAll {P : Params}{h : Heap} : ∀ (ns : List Int) (vs : List Value),WellAll P h vs (ns.map WData.int) -> IntsAre vs ns := by
  intro ns
  induction ns with
  | nil =>
    intro vs w
    rw [List.map_nil] at w
    cases w
    exact .nil
  | cons n ns ih =>
    intro vs w
    rw [List.map_cons] at w
    cases w with
    | cons a b =>
      cases a
      exact .cons _ _ (ih _ b)
theorem script_of {l : OpenLaw}{n : Nat}(hn : l.most = some n){P : Params}{h : Heap}{args : List WData}{vals : List Value}
    (hpre : l.row.toRowW.claim.pre args = true) (hwl : WellAll P h vals args) :
    ∃ a vs ns,vals = [Value.ref a] /\ args = [WData.list (ns.map WData.int)] /\ h.get? a = some { cls := .type "list",data := .seq vs.toArray } /\ IntsAre vs ns /\ ns.length <= n := by
  have hsh : WShape.hasAll [] args [.list .int] = true := (pre_splitW hpre).1
  have hc : l.pre.holds [] { args := args } = true := (pre_splitW hpre).2
  obtain ⟨d,r,rfl,h1,h2⟩ := hasAllW_cons hsh
  obtain rfl := hasAllW_nil h2
  obtain ⟨xs,rfl,h3⟩ := hasW_list h1
  obtain ⟨ns,rfl⟩ := items_int h3
  have hlen : ns.length <= n := by
    unfold OpenLaw.pre at hc
    have h4 : (WTm.not (.lt (.lit (.int (n : Int))) (.len (.arg 0)))).holds [] { args := [.list (ns.map .int)] } = true := by
      have h4 := (holds_andW hc).1
      rw [hn] at h4
      exact h4
    have h5 := condW_of h4 (w_not (w_lt w_lit (w_len_list (w_arg rfl))))
    rw [List.length_map] at h5
    refine Nat.le_of_not_lt fun q => ?_
    have q' : (n : Int) < ((ns.length : Nat) : Int) := by omega
    first
      | (rw [decide_eq_true q'] at h5; exact absurd h5 (by decide))
      | (simp at h5; omega)
  cases hwl with
  | cons w1 w2 =>
    cases w2
    cases w1 with
    | list ho hall => exact ⟨_,_,ns,rfl,rfl,ho,ints_of_wellAll ns _ hall,hlen⟩
theorem post_true (l : OpenLaw)(args : List WData) : l.row.toRowW.claim.post args (.bool true) args = true :=
  postW_of (r := l.row.toRowW) (X := (true == true))
    (show WShape.has [] (.bool true) .bool = true by first | rfl | decide | simp [WShape.has,WShape.arms,WShape.armsAll])
    (show (WTm.eq .res (.lit (.bool true))).value [] { args := args,res := some (.bool true),after := args } = some (.bool (true == true)) from w_eq_bool (w_res rfl) w_lit) rfl
theorem attach_call {l : OpenLaw}{n : Nat}{q : Program}{loose : List Str}{XP : (Str -> Option Value) -> Heap -> Prop}{YP : World -> Heap -> Prop}{d : DefRec}
    (hn : l.most = some n) (hdf : d.params.defaults = [])
    (call : ∀ (w : World) (s₀ s₁ : Shared) (mg mb : Str -> Option Value) (fa : Addr) (o : Obj) (pm cd doc : Value) (a : Addr) (vs : List Value) (ns : List Int),
      Ground q loose [] XP w s₀ mg mb s₁.heap -> YP w s₁.heap ->
      s₁.heap.get? fa = some o -> o.data = .func (docDef d.name d.params d.body d.scope pm cd doc) -> s₁.heap.CodeRec cd d.name -> mg d.name = some (.ref fa) ->
      s₁.heap.get? a = some { cls := .type "list",data := .seq vs.toArray } -> IntsAre vs ns -> ns.length <= n -> s₁.gens = #[] ->
      codeAny (model l.prog w) callerA (.call (.ref fa) ⟨[.ref a],[]⟩) (fun r s' => r = .ok (.ret (.bool true)) /\ OldK s₁.heap s'.heap /\ s'.os = s₁.os /\ AllBare s'.gens) s₁) :
    WalkO q loose XP YP l.row.toRowW d [] (fun f vs => PySem.call f vs) := by
  intro w s₀ s₁ mg mb G Y fa o pm cd doc dV kV ho hd hcd hD hmg hg args vals as hpre hlay hrd hwl hlo
  obtain rfl : dV = .none := Dflts.none hD hdf
  obtain rfl : kV = .none := Dflts.noKw hD
  obtain ⟨a,vs,ns,rfl,rfl,hobj,hints,hlen⟩ := script_of hn hpre hwl
  refine enter_call (codeAny_mono (call w s₀ s₁ mg mb fa o pm cd doc a vs ns G Y ho (fd_plain hd) hcd hmg hobj hints hlen hg) fun r s' hq => ?_)
  obtain ⟨rfl,h2,h3,h4⟩ := hq
  exact ⟨.inl ⟨.bool true,.bool true,[],rfl,fun _ => rfl,.bool true,post_true l _,fun _ => ⟨List.Pairwise.nil,fun _ hm => (nomatch hm)⟩⟩,h2,h3,h4⟩
section
variable {prog : Program}{w : World}{A : Around}{E : Value -> Shared -> Prop}{s : Shared}{K : Frag}
def ledger (h : Heap)(L d : Addr) : List (Addr × Obj) := (List.range h.objs.size).filterMap fun a => if a = L \/ a = d then none else (h.get? a).map fun o => (a,o)
end
end Att
namespace L2
open PySem PySem.Spec PyProof.Rows
theorem vals_ints : ∀ {vs : List Value} {ns : List Int},IntsAre vs ns -> Vals (ns.map V.int) vs
  | _,_,.nil => .nil
  | _,_,.cons n t h => .cons ⟨t,rfl⟩ (vals_ints h)
end L2
namespace L2
open PySem PySem.Spec PyProof.Rows
end L2
namespace L2
open PySem PySem.Spec PyProof.Rows
def defArgs (s : Stmt) : Arguments := match s with
  | .FunctionDef _ a _ _ _ _ _ _ _ _ => a
  | _ => { posonlyargs := [],args := [],vararg := none,kwonlyargs := [],kw_defaults := [],kwarg := none,defaults := [] }
def defBody (s : Stmt) : List Stmt := match s with
  | .FunctionDef _ _ b _ _ _ _ _ _ _ => b
  | _ => []
def defScope (s : Stmt) : Scope := match s with
  | .FunctionDef _ _ _ _ _ _ sc _ _ _ => sc
  | _ => { kind := .function,names := [],isGenerator := false,isCoroutine := false }
abbrev CX0 : CXT := fun _ _ _ _ _ _ => False
abbrev E0 : XK := fun _ _ _ => False
theorem pass0 {X : Cx} : Passes CX0 X E0 := fun _ _ _ _ _ _ _ h => h.elim
structure Fun (K : PySem.W.Frag)(x qual : Str)(st : Stmt)(f : Addr)(fd : FuncData) : Prop where
  ex : ∃ (oc : Value) (od : Option Addr) (kV doc pm : Value) (an : Option Addr) (cdv ct : Value) (osl : Array (Option Value)),
    fd = PySem.W.fnOf x qual (defArgs st) (defBody st) (defScope st) .none kV doc pm an cdv ct /\ K.lookup f = some ⟨oc,od,.func fd,osl⟩ /\ PySem.W.codeIn K cdv qual = true
  kp : PySem.W.keepIn K (.ref f) = true
section
variable {P : Program}{w : World}{K : PySem.W.Frag}{mg : Str -> Option Value}{base : Heap}
theorem Fun.ok {x qual : Str}{st : Stmt}{f : Addr}{fd : FuncData}{N ps : List Str}{k : Nat}{sp : Sp}(F : Fun K x qual st f fd)(S : FnScope N ps (defScope st))(len : ∀ vs H Q E,sp vs H Q E -> vs.length = ps.length)
    (hbody : ∀ (cdv : Value) (A : Around) (outer : List Env) (s : Shared) (H : Hp) (vs : List V) (Q : VK) (E : XK),Room k (A.deeper (envOfC qual (defScope st) s.heap.objs.size f cdv)) -> sp vs H Q E ->
      ∃ t,PSs (cxOf CX0 P w K mg base N qual (defScope st) f cdv A outer s H E).nox (defBody st) t /\ t { nx := fun _ H' => Q .non H',rt := Q } (start N vs) H) : FnOk P w K mg base CX0 (k + 1) f fd ps sp := by
  obtain ⟨oc,od,kV,doc,pm,an,cdv,ct,osl,rfl,lk,hcd⟩ := F.ex
  refine fn_of lk hcd S len fun A outer s H vs Q E hr hsp => ?_
  obtain ⟨t,h,q⟩ := hbody cdv A outer s H vs Q E hr hsp
  exact ⟨t,h.nox,q⟩
theorem Fun.binds {x qual : Str}{st : Stmt}{f : Addr}{fd : FuncData}{ps : List Str}(F : Fun K x qual st f fd)
    (h : ∀ (kV doc pm : Value) (an : Option Addr) (cdv ct : Value) (us : List Value),us.length = ps.length -> bindArgs (PySem.W.fnOf x qual (defArgs st) (defBody st) (defScope st) .none kV doc pm an cdv ct) ⟨us,[]⟩ = pure (ps.zip us)) : Binds K fd ps [] := by
  obtain ⟨oc,od,kV,doc,pm,an,cdv,ct,osl,rfl,lk,hcd⟩ := F.ex
  exact .all (h kV doc pm an cdv ct)
theorem fun_mk {x qual : Str}{st : Stmt}{f : Addr}{oc : Value}{od an : Option Addr}{osl : Array (Option Value)}{kV doc pm cdv ct : Value}(l : K.lookup f = some ⟨oc,od,.func (PySem.W.fnOf x qual (defArgs st) (defBody st) (defScope st) .none kV doc pm an cdv ct),osl⟩)
    (c : PySem.W.codeIn K cdv qual = true) (k : PySem.W.keepIn K (.ref f) = true) : Fun K x qual st f (PySem.W.fnOf x qual (defArgs st) (defBody st) (defScope st) .none kV doc pm an cdv ct) := ⟨⟨oc,od,kV,doc,pm,an,cdv,ct,osl,rfl,l,c⟩,k⟩
end
section
variable {X : Cx}
theorem pv (i : Nat) {x : Str} {pos : Pos} (hN : X.N[i]? = some x := by rfl) (hv : Vis X.env.scope x := by first | exact Or.inl rfl | exact Or.inr (Or.inl rfl) | exact Or.inr (Or.inr rfl)) (hd : (x == ("__debug__" : Str)) = false := by decide)
    (hcd : (x == ("__classdict__" : Str)) = false := by decide) : PE X (.Name x pos) (tVar i) := pe_var hN hv hd hcd
end
theorem iteF {A B : Prop}(h : B) : if false = true then A else B := by
  rw [if_neg Bool.false_ne_true]
  exact h
theorem iteT {A B : Prop}(h : A) : if true = true then A else B := by
  rw [if_pos rfl]
  exact h
def Same (H H' : Hp) : Prop := ∀ b o,H b = some o -> H' b = some o
theorem Same.refl (H : Hp) : Same H H := fun _ _ h => h
theorem Same.trans {H H1 H2 : Hp}(a : Same H H1)(b : Same H1 H2) : Same H H2 := fun c o h => b c o (a c o h)
theorem Same.free {H H' : Hp}(e : Same H H'){l : Addr}(h : H' l = Option.none) : H l = Option.none := by
  cases q : H l with
  | none => rfl
  | some o =>
    rw [e l o q] at h
    cases h
theorem Same.seq {K : PySem.W.Frag}{H H' : Hp}{a : Addr}{xs : List V}(e : Same H H')(h : SqL K H a xs) : SqL K H' a xs := by
  rcases h with (h | ⟨o,h⟩) | h
  · exact .inl (.inl (e _ _ h))
  · exact .inl (.inr ⟨o,e _ _ h⟩)
  · exact .inr h
end L2
set_option Elab.async false
set_option linter.all false
set_option maxRecDepth 100000
set_option maxHeartbeats 4000000
namespace L2
open PySem PySem.Spec PyProof.Rows
theorem cf_keep {x : Str}{lo : Nat} : ∀ (names : List (Str × NameKind)) (n : Nat) (acc : List (Str × Addr)),lo <= n -> (∀ c,acc.lookup x = some c -> lo <= c) -> ∀ c,(cellsFrom n names acc).lookup x = some c -> lo <= c
  | [],_,_,_,h,c,e => h c e
  | (y,k) :: r,n,acc,hn,h,c,e => by
    unfold cellsFrom at e
    split at e
    · refine cf_keep r (n + 1) ((y,n) :: acc) (by omega) (fun c' e' => ?_) c e
      rw [List.lookup_cons] at e'
      cases hb : x == y with
      | true => rw [hb] at e'; cases e'; exact hn
      | false => rw [hb] at e'; exact h c' e'
    · exact cf_keep r n acc hn h c e
theorem cf_own {x : Str}{lo : Nat} : ∀ (names : List (Str × NameKind)) (n : Nat) (acc : List (Str × Addr)),lo <= n -> (x,NameKind.cell) ∈ names -> ∀ c,(cellsFrom n names acc).lookup x = some c -> lo <= c
  | [],_,_,_,hm,_,_ => by cases hm
  | (y,k) :: r,n,acc,hn,hm,c,e => by
    unfold cellsFrom at e
    split at e
    · rcases List.mem_cons.mp hm with z | z
      · cases z
        refine cf_keep r (n + 1) ((x,n) :: acc) (by omega) (fun c' e' => ?_) c e
        rw [List.lookup_cons,beq_self_eq_true] at e'
        cases e'
        exact hn
      · exact cf_own r (n + 1) ((y,n) :: acc) (by omega) z c e
    · rename_i hk
      rcases List.mem_cons.mp hm with z | z
      · cases z
        exact absurd rfl hk
      · exact cf_own r n acc hn z c e
theorem cf_not {x : Str} : ∀ (names : List (Str × NameKind)) (n : Nat) (acc : List (Str × Addr)),¬ (x,NameKind.cell) ∈ names -> (cellsFrom n names acc).lookup x = acc.lookup x
  | [],_,_,_ => rfl
  | (y,k) :: r,n,acc,hm => by
    unfold cellsFrom
    have hr : ¬ (x,NameKind.cell) ∈ r := fun z => hm (List.mem_cons_of_mem _ z)
    split
    · rename_i hk
      rw [cf_not r (n + 1) _ hr,List.lookup_cons]
      have hxy : (x == y) = false := by
        cases hb : x == y with
        | false => rfl
        | true =>
          have e1 : x = y := beq_iff_eq.mp hb
          have e2 : k = NameKind.cell := beq_iff_eq.mp hk
          subst e1 e2
          exact absurd List.mem_cons_self hm
      rw [hxy]
    · exact cf_not r n acc hr
theorem cf_inj : ∀ (names : List (Str × NameKind)) (n : Nat) (acc : List (Str × Addr)),(∀ x c,acc.lookup x = some c -> c < n) -> (∀ x y c,acc.lookup x = some c -> acc.lookup y = some c -> x = y) ->
    ∀ x y c,(cellsFrom n names acc).lookup x = some c -> (cellsFrom n names acc).lookup y = some c -> x = y
  | [],_,_,_,h,x,y,c,e1,e2 => h x y c e1 e2
  | (z,k) :: r,n,acc,hb,h,x,y,c,e1,e2 => by
    unfold cellsFrom at e1 e2
    split at e1
    · rename_i hk
      rw [if_pos hk] at e2
      refine cf_inj r (n + 1) ((z,n) :: acc) (fun x' c' e' => ?_) (fun x' y' c' e1' e2' => ?_) x y c e1 e2
      · rw [List.lookup_cons] at e'
        cases q : x' == z with
        | true => rw [q] at e'; cases e'; exact Nat.lt_succ_self _
        | false => rw [q] at e'; exact Nat.lt_succ_of_lt (hb x' c' e')
      · rw [List.lookup_cons] at e1' e2'
        cases q1 : x' == z with
        | true =>
          rw [q1] at e1'
          cases e1'
          cases q2 : y' == z with
          | true => rw [beq_iff_eq.mp q1,beq_iff_eq.mp q2]
          | false =>
            rw [q2] at e2'
            exact absurd (hb y' _ e2') (Nat.lt_irrefl _)
        | false =>
          rw [q1] at e1'
          cases q2 : y' == z with
          | true =>
            rw [q2] at e2'
            cases e2'
            exact absurd (hb x' _ e1') (Nat.lt_irrefl _)
          | false =>
            rw [q2] at e2'
            exact h x' y' c' e1' e2'
    · rename_i hk
      rw [if_neg hk] at e2
      exact cf_inj r n acc hb h x y c e1 e2
theorem cf_of : ∀ (names : List (Str × NameKind)) (n : Nat) (acc : List (Str × Addr)) (x : Str) (c : Addr),(cellsFrom n names acc).lookup x = some c -> acc.lookup x = some c \/ n <= c
  | [],_,_,_,_,e => .inl e
  | (z,k) :: r,n,acc,x,c,e => by
    unfold cellsFrom at e
    split at e
    · rcases cf_of r (n + 1) ((z,n) :: acc) x c e with q | q
      · rw [List.lookup_cons] at q
        cases hb : x == z with
        | true => rw [hb] at q; cases q; exact .inr (Nat.le_refl _)
        | false => rw [hb] at q; exact .inl q
      · exact .inr (by omega)
    · exact cf_of r n acc x c e
theorem cf_cell : ∀ (names : List (Str × NameKind)) (h : Heap) (acc : List (Str × Addr)),(∀ x c,acc.lookup x = some c -> ∃ v,h.IsCell c v) ->
    ∀ x c,(cellsFrom h.objs.size names acc).lookup x = some c -> ∃ v,(pushCells h names).IsCell c v
  | [],_,_,hh,x,c,e => hh x c e
  | (z,k) :: r,h,acc,hh,x,c,e => by
    unfold cellsFrom at e
    unfold pushCells
    split at e
    · rename_i hk
      rw [if_pos hk]
      have e' : (cellsFrom (h.push { cls := .type "cell",data := .cell none }).objs.size r ((z,h.objs.size) :: acc)).lookup x = some c := by rw [Heap.size_push]; exact e
      refine cf_cell r _ _ (fun x' c' q => ?_) x c e'
      rw [List.lookup_cons] at q
      cases hb : x' == z with
      | true =>
        rw [hb] at q
        cases q
        exact ⟨none,_,Heap.get?_push_size _ rfl,rfl⟩
      | false =>
        rw [hb] at q
        obtain ⟨v,w⟩ := hh x' c' q
        exact ⟨v,w.keeps fun b o e => Heap.get?_push_of_some _ e⟩
    · rename_i hk
      rw [if_neg hk]
      exact cf_cell r h acc hh x c e
theorem clos_ok {env : Env}(f : Str × NameKind -> List (Str × Addr) -> Sem (ForInStep (List (Str × Addr))))
    (hf : ∀ name kind cs,f (name,kind) cs = if kind == .free then (do let a <- cellOf env name; pure (.yield ((name,a) :: cs))) else pure (.yield cs)) :
    ∀ (names : List (Str × NameKind)) (acc : List (Str × Addr)),(∀ x,(x,NameKind.free) ∈ names -> ∃ c,env.cells.lookup x = some c) -> (∀ x c,acc.lookup x = some c -> env.cells.lookup x = some c) ->
      ∃ cl,forIn names acc f = pure cl /\ (∀ x c,cl.lookup x = some c -> env.cells.lookup x = some c) /\ ∀ x,((acc.lookup x).isSome = true \/ (x,NameKind.free) ∈ names) -> (cl.lookup x).isSome = true
  | [],acc,_,ha => ⟨acc,by rw [List.forIn_nil],ha,fun x h => h.elim id fun z => by cases z⟩
  | (name,kind) :: r,acc,hn,ha => by
    have hr : ∀ x,(x,NameKind.free) ∈ r -> ∃ c,env.cells.lookup x = some c := fun x hx => hn x (List.mem_cons_of_mem _ hx)
    by_cases hk : (kind == NameKind.free) = true
    · have ek : kind = NameKind.free := beq_iff_eq.mp hk
      subst ek
      obtain ⟨c,hc⟩ := hn name List.mem_cons_self
      obtain ⟨cl,e1,e2,e3⟩ := clos_ok f hf r ((name,c) :: acc) hr (fun x c' e => by
        rw [List.lookup_cons] at e
        cases hb : x == name with
        | true => rw [hb] at e; cases e; rw [beq_iff_eq.mp hb]; exact hc
        | false => rw [hb] at e; exact ha x c' e)
      refine ⟨cl,?_,e2,fun x hx => e3 x ?_⟩
      · rw [List.forIn_cons,hf,if_pos hk]
        unfold cellOf
        rw [hc]
        simpa using e1
      · rcases hx with hx | hx
        · left
          rw [List.lookup_cons]
          cases hb : x == name with
          | true => rfl
          | false => exact hx
        · rcases List.mem_cons.mp hx with z | z
          · cases z
            left
            rw [List.lookup_cons,beq_self_eq_true]
            rfl
          · exact .inr z
    · obtain ⟨cl,e1,e2,e3⟩ := clos_ok f hf r acc hr ha
      refine ⟨cl,?_,e2,fun x hx => e3 x ?_⟩
      · rw [List.forIn_cons,hf,if_neg hk]
        simpa using e1
      · rcases hx with hx | hx
        · exact .inl hx
        · rcases List.mem_cons.mp hx with z | z
          · cases z
            exact absurd rfl hk
          · exact .inr z
theorem closureFor_ok {scope : Scope}{env : Env}(hn : ∀ x,(x,NameKind.free) ∈ scope.names -> ∃ c,env.cells.lookup x = some c) :
    ∃ cl,closureFor scope env = pure cl /\ (∀ x c,cl.lookup x = some c -> env.cells.lookup x = some c) /\ ∀ x,(x,NameKind.free) ∈ scope.names -> (cl.lookup x).isSome = true := by
  obtain ⟨cl,e1,e2,e3⟩ := clos_ok (env := env) (fun x cs => match x with
    | (name,kind) => if (kind == NameKind.free) = true then (do let a <- cellOf env name; pure (ForInStep.yield ((name,a) :: cs))) else pure (ForInStep.yield cs)) (fun name kind cs => rfl) scope.names [] hn (fun x c e => by cases e)
  refine ⟨cl,?_,e2,fun x hx => e3 x (.inr hx)⟩
  show (forIn scope.names [] _ >>= fun r => pure r) = _
  refine Eq.trans (congrArg (fun m => m >>= fun r => pure r) e1) ?_
  simp
def tries (ifs : List Expr)(env : Env) : Sem Bool := forIn ifs true fun c r => if r = true then do let ok <- isTrue c env (eval c env); pure (ForInStep.yield ok) else pure (ForInStep.yield r)
theorem compLoop_any {prog : Program}{w : World}{A : Around}{R : Result -> Shared -> Prop}{s : Shared}{elt target iter : Expr}{ifs : List Expr}{scope : Scope}{pos : Pos}{it acc : Value}{env : Env}(J : Nat -> Shared -> Prop)
    (turn : ∀ n s,J n s -> wpAny (model prog w) A (pyNext it) (fun r s₁ => match r with
      | none => R (.ok .next) s₁
      | some v => wpAny (model prog w) A (letOwnedTupleGo target it v) (fun _ s₁' => wpAny (model prog w) A (assign target env v) (fun _ s₂ => wpAny (model prog w) A (tries ifs env) (fun ok s₃ =>
            if ok = true then wpAny (model prog w) A (eval elt env) (fun x s₄ => wpAny (model prog w) A (call (.builtin "list.append") [acc,x]) (fun _ s₅ => ∃ m,m < n /\ J m s₅) (notedBy (model prog w) A env fun e s' => R (.error e) s') s₄)
                (notedBy (model prog w) A env fun e s' => R (.error e) s') s₃
            else ∃ m,m < n /\ J m s₃) (notedBy (model prog w) A env fun e s' => R (.error e) s') s₂) (notedBy (model prog w) A env fun e s' => R (.error e) s') s₁') (notedBy (model prog w) A env fun e s' => R (.error e) s') s₁)
        (notedBy (model prog w) A env fun e s' => R (.error e) s') s) (n : Nat) (h : J n s) :
    codeAny (model prog w) A (.compLoop (.ListComp elt [⟨target,iter,ifs,0⟩] scope pos) 0 it acc env) R s := by
  refine codeAny_loop rfl J (fun n s hJ => ?_) n h
  show wpAny _ _ (Sem.onRaise (compTurn (.ListComp elt [⟨target,iter,ifs,0⟩] scope pos) 0 it acc env) fun x => do noteFrame x env; theTreesLotGoes x) _ _ _
  refine wpAny_noted ?_
  rw [compTurn_list]
  refine wpAny_bind (wpAny_standAt (wpAny_bind (thn (turn n s hJ) fun r s₁ h₁ => ?_)))
  cases r with
  | none => exact wpAny_pure h₁
  | some v =>
    refine wpAny_bind (thn h₁ fun _ s₁' h₁' => wpAny_bind (thn h₁' fun _ s₂ h₂ => wpAny_bind (thn h₂ fun ok s₃ h₃ => ?_)))
    cases ok with
    | true => exact wpAny_bind (wpAny_bind (thn h₃ fun x s₄ h₄ => wpAny_bind (thn h₄ fun _ s₅ h₅ => wpAny_pure (wpAny_pure ⟨rfl,h₅⟩))))
    | false => exact wpAny_pure ⟨rfl,h₃⟩
def CErr (X : Cx)(C : Addr)(e : Value)(s' : Shared) : Prop :=
  ∃ m,s'.heap.Ns C m /\ ∀ h',Heap.SameBut C s'.heap h' -> ∀ cenv : Env,cenv.locals = C -> wpAny (model X.prog X.w) X.A (passOn "comprehension.variables-let-go" e cenv : Sem Value) (fun _ _ => False) X.xe { s' with heap := h' }
def cxComp (X : Cx)(N : List Str)(scope : Scope)(cells : List (Str × Addr))(C : Addr)(fp : List Addr)(s : Shared)(H : Hp) : Cx where
  prog := X.prog
  w := X.w
  K := X.K
  mg := X.mg
  base := X.base
  A := X.A
  N := N
  s₀ := s
  H₀ := H
  env := compEnvC scope cells C X.env
  outer := X.stack
  stack := X.stack
  ex := fp
  fn := fun x => decide (scope.names.lookup x = some NameKind.cell)
  calm := X.calm
  pn := []
  xe := notedBy (model X.prog X.w) X.A (compEnvC scope cells C X.env) (CErr X C)
def capt (σ : St)(map : List (Option Nat)) : St := map.map fun o => o.bind fun i => (σ[i]?).join
def CapOk (X : Cx)(scope : Scope) : List (Option Nat) -> List Str -> Prop
  | [],[] => True
  | none :: m,_ :: n => CapOk X scope m n
  | some i :: m,x :: n => (X.N[i]? = some x /\ scope.names.lookup x = some .free /\ (scope.names.all fun p => !(p.1 == x && p.2 == NameKind.cell)) = true /\ (X.env.kindOf x = some .cell \/ X.env.kindOf x = some .free)) /\ CapOk X scope m n
  | _,_ => False
theorem CapOk.length {X : Cx}{scope : Scope} : ∀ {m : List (Option Nat)} {n : List Str},CapOk X scope m n -> m.length = n.length
  | [],[],_ => rfl
  | none :: m,_ :: n,h => by simp [CapOk.length (m := m) (n := n) h]
  | some i :: m,x :: n,h => by simp [CapOk.length (m := m) (n := n) h.2]
  | [],_ :: _,h => h.elim
  | some _ :: _,[],h => h.elim
  | none :: _,[],h => h.elim
theorem CapOk.get {X : Cx}{scope : Scope} : ∀ {m : List (Option Nat)} {n : List Str} {j i : Nat} {x : Str},CapOk X scope m n -> m[j]? = some (some i) -> n[j]? = some x ->
    X.N[i]? = some x /\ scope.names.lookup x = some .free /\ ¬ (x,NameKind.cell) ∈ scope.names /\ (X.env.kindOf x = some .cell \/ X.env.kindOf x = some .free)
  | [],[],_,_,_,_,e,_ => by simp at e
  | none :: m,_ :: n,0,_,_,_,e,_ => by simp at e
  | none :: m,_ :: n,j + 1,i,x,h,e,e' => CapOk.get (m := m) (n := n) (j := j) h (by simpa using e) (by simpa using e')
  | some k :: m,y :: n,0,i,x,h,e,e' => by
    have e1 : k = i := by simpa using e
    have e2 : y = x := by simpa using e'
    subst e1 e2
    obtain ⟨⟨h1,h2,h3,h4⟩,_⟩ := h
    refine ⟨h1,h2,fun hm => ?_,h4⟩
    have q := List.all_eq_true.mp h3 _ hm
    simp at q
  | some k :: m,y :: n,j + 1,i,x,h,e,e' => CapOk.get (m := m) (n := n) (j := j) h.2 (by simpa using e) (by simpa using e')
  | [],_ :: _,_,_,_,h,_,_ => h.elim
  | some _ :: _,[],_,_,_,h,_,_ => h.elim
  | none :: _,[],_,_,_,h,_,_ => h.elim
def GKeep (g : TG)(map : List (Option Nat)) : Prop := ∀ v σ H Q,g v σ H Q -> g v σ H fun σ' H' => (σ'.length = σ.length /\ ∀ j i : Nat,map[j]? = some (some i) -> σ'[j]? = σ[j]?) /\ Q σ' H'
def PIf (X : Cx)(ifs : List Expr)(t : TT) : Prop :=
  ∀ (pins : List (Addr × Obj)) (s : Shared) (σ : St) (H : Hp) (Q : Bool -> Hp -> Prop),Inv X pins σ H s -> t σ H Q -> wpAny (model X.prog X.w) X.A (tries ifs X.env) (TP X pins σ Q) X.xe s
def tTrue : TT := fun _ H Q => Q true H
theorem pif_nil {X : Cx} : PIf X [] tTrue := fun _ _ _ H _ I h => wpAny_pure ⟨H,I,h⟩
theorem lookup_relabel {env : Env}{x : Str}{k : NameKind} : ∀ {names : List (Str × NameKind)},
    (names.map fun (p : Str × NameKind) => match p with | (n,k) => if (k == NameKind.free && env.scope.kind == .function && env.kindOf n == some .cell) then (n,NameKind.cell) else (n,k)).lookup x = some k ->
    ∃ k',names.lookup x = some k' /\ (k' = k \/ (k' = .free /\ k = .cell))
  | [],h => by simp at h
  | (n,k') :: r,h => by
    rw [List.map_cons] at h
    by_cases hc : (k' == NameKind.free && env.scope.kind == .function && env.kindOf n == some .cell) = true
    · simp only [if_pos hc,List.lookup_cons] at h
      rw [List.lookup_cons]
      cases hx : x == n with
      | true =>
        rw [hx] at h
        cases h
        refine ⟨k',rfl,.inr ⟨?_,rfl⟩⟩
        simp only [Bool.and_eq_true,beq_iff_eq] at hc
        exact hc.1.1
      | false =>
        rw [hx] at h
        exact lookup_relabel h
    · simp only [if_neg hc,List.lookup_cons] at h
      rw [List.lookup_cons]
      cases hx : x == n with
      | true =>
        rw [hx] at h
        cases h
        exact ⟨_,rfl,.inl rfl⟩
      | false =>
        rw [hx] at h
        exact lookup_relabel h
theorem relabel_free {env : Env}{x : Str} : ∀ {names : List (Str × NameKind)},names.lookup x = some .free ->
    (names.map fun (p : Str × NameKind) => match p with | (n,k) => if (k == NameKind.free && env.scope.kind == .function && env.kindOf n == some .cell) then (n,NameKind.cell) else (n,k)).lookup x = some .cell \/
    (names.map fun (p : Str × NameKind) => match p with | (n,k) => if (k == NameKind.free && env.scope.kind == .function && env.kindOf n == some .cell) then (n,NameKind.cell) else (n,k)).lookup x = some .free
  | [],h => by simp at h
  | (n,k') :: r,h => by
    rw [List.map_cons]
    rw [List.lookup_cons] at h
    by_cases hc : (k' == NameKind.free && env.scope.kind == .function && env.kindOf n == some .cell) = true
    · simp only [if_pos hc,List.lookup_cons]
      cases hx : x == n with
      | true => exact .inl rfl
      | false =>
        rw [hx] at h
        exact relabel_free h
    · simp only [if_neg hc,List.lookup_cons]
      cases hx : x == n with
      | true =>
        rw [hx] at h
        cases h
        exact .inr rfl
      | false =>
        rw [hx] at h
        exact relabel_free h
end L2
set_option Elab.async false
set_option linter.all false
set_option maxRecDepth 100000
set_option maxHeartbeats 4000000
namespace L2
open PySem PySem.Spec PyProof.Rows
section
variable {X : Cx}{elt iter tg : Expr}{ifs : List Expr}{scope : Scope}{pos : Pos}{N' : List Str}{map : List (Option Nat)}{wi : TI}{g : TG}{tt : TT}{te : TE}
def Turns (J : It)(g : TG)(tt : TT)(te : TE)(σc : St)(Fin : List V -> Hp -> Prop)(W : Nat -> Nat -> List V -> Hp -> Prop) : Prop :=
  ∀ i m acc H2,W i m acc H2 -> (J.stop i H2 /\ acc.length <= sizeLine /\ Fin acc H2) \/
    (J.go i H2 /\ acc.length < sizeLine /\ ∃ N : List V -> Hp -> Prop,(∀ acc' H',N acc' H' -> ∃ m',m' < m /\ W (i + 1) m' acc' H') /\ ∀ x H3,J.yld i H2 x H3 -> g x σc H3 fun σ4 H4 => tt σ4 H4 fun b H5 => if b = true then te σ4 H5 fun v H6 => N (acc ++ [v]) H6 else N acc H5)
structure TurnG (R : Cx -> Prop)(P : Program)(w : World)(K : PySem.W.Frag)(tg : Expr)(J : It)(fp : List Addr)(it : Addr)(tn : Nat -> Heap -> Prop) : Prop where
  mem : it ∈ fp
  obj : ∀ i h,tn i h -> ∀ b ∈ fp,∃ o,h.get? b = some o /\ ∀ v,o.data ≠ .cell v
  keep : ∀ i h h',tn i h -> (∀ b ∈ fp,∀ o,h.get? b = some o -> h'.get? b = some o) -> tn i h'
  item : ∀ (X : Cx),X.prog = P -> X.w = w -> X.K = K -> R X -> ∀ (i : Nat) (pins : List (Addr × Obj)) (s : Shared) (σ : St) (H : Hp) (E : Value -> Shared -> Prop),Inv X pins σ H s -> (∀ b ∈ fp,FpOk X pins H b) -> tn i s.heap -> J.go i H -> wpAny (model P w) X.A (pyNext (.ref it)) (fun r s1 => ∃ u,r = some u /\
      wpAny (model P w) X.A (letOwnedTupleGo tg (.ref it) u) (fun _ s2 => ∃ x H',Inv X pins σ H' s2 /\ RelV x u /\ J.yld i H x H' /\ tn (i + 1) s2.heap /\ ∀ b ∈ fp,H' b = none) E s1) E s
  done : ∀ (X : Cx),X.prog = P -> X.w = w -> X.K = K -> R X -> ∀ (i : Nat) (pins : List (Addr × Obj)) (s : Shared) (σ : St) (H : Hp) (E : Value -> Shared -> Prop),Inv X pins σ H s -> (∀ b ∈ fp,FpOk X pins H b) -> tn i s.heap -> J.stop i H -> wpAny (model P w) X.A (pyNext (.ref it)) (fun r s1 => r = none /\ Inv X pins σ H s1) E s
  self : ∀ (A : Around) (i : Nat) (s : Shared) (Q : Value -> Shared -> Prop) (E : Value -> Shared -> Prop),tn i s.heap -> Q (.ref it) s -> wpAny (model P w) A (pyIter (.ref it)) Q E s
theorem Turn.gen {P : Program}{w : World}{K : PySem.W.Frag}{tg : Expr}{J : It}{fp : List Addr}{it : Addr}{tn : Nat -> Heap -> Prop}(T : Turn P w K tg J fp it tn) : TurnG (fun X => X.calm = true) P w K tg J fp it tn := ⟨T.mem,T.obj,T.keep,T.item,T.done,T.self⟩
def CompIn (X : Cx)(C : Addr)(fp : List Addr)(s : Shared)(H : Hp) : Prop := ∃ pins σ,Inv X pins σ H s /\ (∀ b ∈ fp,FpOk X pins H b) /\ s.heap.objs.size <= C
structure BlkM (X : Cx)(N' : List Str)(scope : Scope)(map : List (Option Nat))(tg elt : Expr)(ifs : List Expr)(g : TG)(tt : TT)(te : TE) : Prop where
  kind : scope.kind = .function
  loc : ∀ x ∈ scope.names,x.2 = .local -> scope.names.lookup x.1 = some .local
  free : (scope.names.all fun p => !(p.2 == NameKind.free) || (X.env.kindOf p.1 == some .cell || X.env.kindOf p.1 == some .free)) = true
  cap : CapOk X scope map N'
  keep : GKeep g map
  run : ∀ cells C fp s H,CompIn X C fp s H -> PG (cxComp X N' scope cells C fp s H) tg g /\ PIf (cxComp X N' scope cells C fp s H) ifs tt /\ PE (cxComp X N' scope cells C fp s H) elt te
structure Blk (X : Cx)(N' : List Str)(scope : Scope)(map : List (Option Nat))(tg elt : Expr)(ifs : List Expr)(g : TG)(tt : TT)(te : TE) : Prop where
  calm : X.calm = true
  kind : scope.kind = .function
  loc : ∀ x ∈ scope.names,x.2 = .local -> scope.names.lookup x.1 = some .local
  free : (scope.names.all fun p => !(p.2 == NameKind.free) || (X.env.kindOf p.1 == some .cell || X.env.kindOf p.1 == some .free)) = true
  cap : CapOk X scope map N'
  keep : GKeep g map
  run : ∀ cells C fp s H,CompIn X C fp s H -> PG (cxComp X N' scope cells C fp s H) tg g /\ PIf (cxComp X N' scope cells C fp s H) ifs tt /\ PE (cxComp X N' scope cells C fp s H) elt te
theorem Blk.m (B : Blk X N' scope map tg elt ifs g tt te) : BlkM X N' scope map tg elt ifs g tt te := ⟨B.kind,B.loc,B.free,B.cap,B.keep,B.run⟩
theorem blk_inv {pins : List (Addr × Obj)}{σ : St}{H1 : Hp}{s2 : Shared}{cl : List (Str × Addr)}{fp : List Addr}(I : Inv X pins σ H1 s2)(B : BlkM X N' scope map tg elt ifs g tt te)
    (hsub : ∀ x c,cl.lookup x = some c -> X.env.cells.lookup x = some c) (hhas : ∀ x,(x,NameKind.free) ∈ scope.names -> (cl.lookup x).isSome = true)
    (hf : ∀ b ∈ fp,FpOk X pins H1 b) (hfo : ∀ b ∈ fp,∃ o,s2.heap.get? b = some o) (C : Addr) (h3 : Heap) (hC : s2.heap.objs.size <= C) (k3 : ∀ b o,s2.heap.get? b = some o -> h3.get? b = some o) (hCsz : C < h3.objs.size) (hns : h3.Ns C fun _ => none) (tk : Nat) :
    Inv (cxComp X N' scope (cellsFrom h3.objs.size scope.names cl) C fp s2 H1) [] (capt σ map) H1 { s2 with heap := pushCells h3 scope.names,toks := tk } := by
  have kk : ∀ b o,s2.heap.get? b = some o -> (pushCells h3 scope.names).get? b = some o := fun b o e => pushCells_keeps _ _ b o (k3 b o e)
  have fsz : ∀ b ∈ fp,b < s2.heap.objs.size := fun b hb => by obtain ⟨o,e⟩ := hfo b hb; exact Heap.lt_size e
  have clz : ∀ x c,cl.lookup x = some c -> c < s2.heap.objs.size := fun x c e => by
    obtain ⟨v,o,ho,_⟩ := I.cell x c (hsub x c e)
    exact Heap.lt_size ho
  have h3sz : s2.heap.objs.size < h3.objs.size := Nat.lt_of_le_of_lt hC hCsz
  have cof : ∀ x c,(cellsFrom h3.objs.size scope.names cl).lookup x = some c -> X.env.cells.lookup x = some c \/ h3.objs.size <= c := fun x c e => (cf_of _ _ _ x c e).imp (hsub x c) id
  have cnb : ∀ x c,(cellsFrom h3.objs.size scope.names cl).lookup x = some c -> ∀ b ∈ fp,c ≠ b := fun x c e b hb z => by
    rcases cof x c e with q | q
    · exact (hf b hb).2.2.2.2.1 x c q z
    · have h1 := fsz b hb
      rw [<- z] at h1
      exact absurd (Nat.lt_of_lt_of_le (Nat.lt_trans h1 h3sz) q) (Nat.lt_irrefl _)
  have fnf : ∀ b ∈ fp,b ∉ frs X.stack := fun b hb hm => by
    obtain ⟨_,f1,f2,_⟩ := hf b hb
    rcases List.mem_cons.mp (I.stkSub b hm) with z | z
    · exact f1 z
    · exact f2 z
  have cellI : ∀ x c,(cellsFrom h3.objs.size scope.names cl).lookup x = some c -> ∃ v,(pushCells h3 scope.names).IsCell c v := fun x c e =>
    cf_cell scope.names h3 cl (fun x' c' q => by
      obtain ⟨v,w⟩ := I.cell x' c' (hsub x' c' q)
      exact ⟨v,w.keeps k3⟩) x c e
  have hC0 : H1 C = none := I.hok.fresh hC
  have ok : (cxComp X N' scope (cellsFrom h3.objs.size scope.names cl) C fp s2 H1).Ok :=
    { mod := I.ok.mod
      kind := B.kind
      glob := I.ok.glob
      blt := I.ok.blt
      above := hC
      inj := cf_inj scope.names h3.objs.size cl (fun x c e => Nat.lt_trans (clz x c e) h3sz) fun x y c e1 e2 => I.ok.inj x y c (hsub x c e1) (hsub y c e2)
      has := fun x hx => by
        have hx : (relabel scope X.env).names.lookup x = some .cell \/ (relabel scope X.env).names.lookup x = some .free := hx
        have goal : (scope.names.lookup x = some .cell \/ (cl.lookup x).isSome = true) := by
          rcases hx with q | q
          · obtain ⟨k',e1,e2⟩ := lookup_relabel q
            rcases e2 with z | ⟨z,_⟩
            · exact .inl (by rw [e1,z])
            · exact .inr (hhas x (PySem.mem_of_lookup (by rw [e1,z])))
          · obtain ⟨k',e1,e2⟩ := lookup_relabel q
            rcases e2 with z | ⟨z,z'⟩
            · exact .inr (hhas x (PySem.mem_of_lookup (by rw [e1,z])))
            · cases z'
        exact Option.isSome_iff_exists.mp (PySem.W.cellsFrom_some scope.names h3.objs.size cl goal)
      cab := fun x c hx e => Nat.le_of_lt (Nat.lt_of_lt_of_le h3sz (cf_own scope.names h3.objs.size cl (Nat.le_refl _) (PySem.mem_of_lookup (of_decide_eq_true hx)) c e))
      hd := I.ok.hd
      frames := I.ok.frames
      stk := .inl rfl
      exf := fun b hb => ⟨fun z => absurd (fsz b hb) (by rw [z]; exact Nat.not_lt.mpr hC),fun x c e => cnb x c e b hb⟩
      bs := I.bs
      bsz := Nat.le_trans I.ok.bsz I.sz
      noex := fun b o e hb => by
        rcases (hf b hb).2.2.2.1 with z | z
        · exact I.ok.noex b o e z
        · exact absurd (Heap.lt_size (I.ok.bs b o e).1) (Nat.not_lt.mpr z)
      exfs := fnf
      funs := I.stack
      frf := I.stkFree }
  refine ⟨ok,rfl,I.bare,Un.kept kk,⟨fun _ => none,hns.keeps fun b o e => pushCells_keeps _ _ b o e,fun j x v e1 e2 e3 => ?_⟩,cellI,hC0,fun x c e => ?_,fun p hp => absurd (show p ∈ ([] : List (Addr × Obj)) from hp) (by simp),I.hok.kept kk,?_⟩
  · have e2' : (capt σ map)[j]? = some (some v) := e2
    unfold capt at e2'
    rw [List.getElem?_map] at e2'
    cases hm : map[j]? with
    | none => rw [hm] at e2'; cases e2'
    | some o =>
      rw [hm] at e2'
      cases o with
      | none => simp at e2'
      | some i =>
        have e2'' : (σ[i]?).join = some v := by simpa using e2'
        have hσ : σ[i]? = some (some v) := by
          cases q : σ[i]? with
          | none => rw [q] at e2''; cases e2''
          | some o' =>
            rw [q] at e2''
            have : o' = some v := by simpa using e2''
            rw [this]
        obtain ⟨c1,c2,c3,c4⟩ := B.cap.get hm e1
        obtain ⟨m,hn,hl⟩ := I.loc
        have vis : Vis X.env.scope x := by
          rcases c4 with z | z
          · exact .inr (.inl z)
          · exact .inr (.inr z)
        obtain ⟨u,r,l⟩ := hl i x v c1 hσ vis
        refine ⟨u,r,?_⟩
        rcases l with ⟨z,_⟩ | ⟨_,c,ec,hcell⟩
        · rcases c4 with q | q
          · rw [q] at z; cases z
          · rw [q] at z; cases z
        · right
          refine ⟨relabel_free c2,c,?_,hcell.keeps kk⟩
          show (cellsFrom h3.objs.size scope.names cl).lookup x = some c
          rw [cf_not _ _ _ c3]
          obtain ⟨c',hc'⟩ := Option.isSome_iff_exists.mp (hhas x (PySem.mem_of_lookup c2))
          have := hsub x c' hc'
          rw [ec] at this
          cases this
          exact hc'
  · rcases cof x c e with q | q
    · exact I.freeC x c q
    · exact I.hok.fresh (Nat.le_trans (Nat.le_of_lt h3sz) q)
  · show (capt σ map).length = N'.length
    unfold capt
    rw [List.length_map]
    exact B.cap.length
theorem blk_run {pins : List (Addr × Obj)}{σ : St}{H1 : Hp}{s2 : Shared}{cl : List (Str × Addr)}{fp : List Addr}{it : Addr}{tn : Nat -> Heap -> Prop}{J : It}{E : Value -> Shared -> Prop}(I : Inv X pins σ H1 s2)(B : BlkM X N' scope map tg elt ifs g tt te)
    (hsub : ∀ x c,cl.lookup x = some c -> X.env.cells.lookup x = some c) (hhas : ∀ x,(x,NameKind.free) ∈ scope.names -> (cl.lookup x).isSome = true)
    {R : Cx -> Prop} (hR : ∀ cells C fp s H,R (cxComp X N' scope cells C fp s H)) (T : TurnG R X.prog X.w X.K tg J fp it tn) (st : tn 0 s2.heap) (hf : ∀ b ∈ fp,FpOk X pins H1 b) {Fin : List V -> Hp -> Prop} {W : Nat -> Nat -> List V -> Hp -> Prop} {m0 : Nat} (w0 : W 0 m0 [] H1) (ht : Turns J g tt te (capt σ map) Fin W)
    {RR : Value -> Addr -> Result -> Shared -> Prop}
    (hOk : ∀ D C acc H' s' m,Inv X pins σ (upd H' D (.lst acc)) s' -> H' D = none -> s'.heap.Ns C m -> upd H' D (.lst acc) C = none -> C ≠ X.env.locals -> X.s₀.heap.objs.size <= C -> (∀ x c,X.env.cells.lookup x = some c -> c ≠ C) -> (∀ p ∈ X.pn ++ pins,p.1 ≠ C) -> Fin acc H' -> RR (.ref D) C (.ok .next) s')
    (hErr : ∀ D C e s',CErr X C e s' -> RR (.ref D) C (.error e) s') :
    wpAny (model X.prog X.w) X.A (newList []) (fun acc s3 => wpAny (model X.prog X.w) X.A (newFunctionEnv scope X.env.globals cl [] X.env.qual none .none (some X.env)) (fun cenv s4 =>
      codeAny (model X.prog X.w) X.A (.compStart (.ListComp elt [⟨tg,iter,ifs,0⟩] scope pos) 0 (.ref it) acc { cenv with scope := relabel scope X.env }) (RR acc cenv.locals) s4) E s3) E s2 := by
  have fo : ∀ b ∈ fp,∃ o,s2.heap.get? b = some o := fun b hb => by obtain ⟨o,e,_⟩ := T.obj 0 _ st b hb; exact ⟨o,e⟩
  refine wpAny_newObj_type ?_
  generalize hH2 : s2.heap.push { cls := .type "list",dict := none,data := .seq ([] : List Value).toArray } = H2
  have szD : H2.objs.size = s2.heap.objs.size + 1 := by rw [<- hH2,Heap.size_push]
  have kD : ∀ b o,s2.heap.get? b = some o -> H2.get? b = some o := fun b o e => hH2 ▸ Heap.get?_push_of_some _ e
  simp only [newFunctionEnv,Option.isSome_some,if_true]
  refine wpAny_bind (wpAny_alloc ?_)
  refine wpAny_bind (wpAny_layCells _ (fun name kind cells => by cases hkc : kind == NameKind.cell <;> simp [hkc]) _ _ _ _ ?_)
  dsimp only
  generalize hH3 : H2.push { cls := .type "dict",dict := none,data := .dict #[] } = h3
  have sz3 : h3.objs.size = H2.objs.size + 1 := by rw [<- hH3,Heap.size_push]
  have kC : ∀ b o,H2.get? b = some o -> h3.get? b = some o := fun b o e => hH3 ▸ Heap.get?_push_of_some _ e
  have nsC : h3.Ns H2.objs.size fun _ => none := hH3 ▸ Heap.Ns.new H2 (.type "dict")
  refine wpAny_bind (wpAny_pure (wpAny_pure ?_))
  show codeAny _ _ (.compStart (.ListComp elt [⟨tg,iter,ifs,0⟩] scope pos) 0 (.ref it) (.ref s2.heap.objs.size) (compEnvC scope (cellsFrom h3.objs.size scope.names cl) H2.objs.size X.env)) _ _
  generalize hX' : cxComp X N' scope (cellsFrom h3.objs.size scope.names cl) H2.objs.size fp s2 H1 = X'
  have I4 : Inv X' [] (capt σ map) H1 { s2 with heap := pushCells h3 scope.names } := hX' ▸ blk_inv I B hsub hhas hf fo H2.objs.size h3 (by rw [szD]; exact Nat.le_succ _) (fun b o e => kC b o (kD b o e)) (by rw [sz3]; exact Nat.lt_succ_self _) nsC s2.toks
  obtain ⟨pg,pif,pel⟩ := B.run (cellsFrom h3.objs.size scope.names cl) H2.objs.size fp s2 H1 ⟨pins,σ,I,hf,by rw [szD]; exact Nat.le_succ _⟩
  rw [hX'] at pg pif pel
  have eprog : X'.prog = X.prog := by rw [<- hX']; rfl
  have ew : X'.w = X.w := by rw [<- hX']; rfl
  have eK : X'.K = X.K := by rw [<- hX']; rfl
  have eA : X'.A = X.A := by rw [<- hX']; rfl
  have ecalm : R X' := by rw [<- hX']; exact hR _ _ _ _ _
  have eenv : X'.env = compEnvC scope (cellsFrom h3.objs.size scope.names cl) H2.objs.size X.env := by rw [<- hX']; rfl
  have exe : X'.xe = notedBy (model X.prog X.w) X.A (compEnvC scope (cellsFrom h3.objs.size scope.names cl) H2.objs.size X.env) (CErr X H2.objs.size) := by rw [<- hX']; rfl
  have es0 : X'.s₀ = s2 := by rw [<- hX']; rfl
  have eH0 : X'.H₀ = H1 := by rw [<- hX']; rfl
  have eex : X'.ex = fp := by rw [<- hX']; rfl
  have efs : X'.fs = frs X.stack := by rw [<- hX']; rfl
  have epn : X'.pn = [] := by rw [<- hX']; rfl
  have eL : X'.env.locals = H2.objs.size := by rw [eenv]; rfl
  generalize hDd : s2.heap.objs.size = D at *
  have fD : ∀ b ∈ fp,b ≠ D := fun b hb => by obtain ⟨o,e⟩ := fo b hb; exact Nat.ne_of_lt (hDd ▸ Heap.lt_size e)
  have nfsD : D ∉ X'.fs := fun hb => by
    rw [efs] at hb
    have h1 := I.stkSub D hb
    rcases List.mem_cons.mp h1 with z | z
    · have := I.lt; rw [hDd,<- z] at this; exact Nat.lt_irrefl _ this
    · exact I.nofs (by rw [hDd]; exact Nat.le_refl _) z
  have ncD : ∀ x c,X'.env.cells.lookup x = some c -> c ≠ D := fun x c e z => by
    rw [eenv] at e
    rcases cf_of _ _ _ x c e with q | q
    · obtain ⟨v,o,ho,_⟩ := I.cell x c (hsub x c q)
      have := Heap.lt_size ho
      rw [hDd,z] at this
      exact Nat.lt_irrefl _ this
    · rw [z,sz3,szD] at q
      exact absurd (Nat.lt_of_lt_of_le (Nat.lt_succ_of_lt (Nat.lt_succ_self D)) q) (Nat.lt_irrefl _)
  have f4 : ∀ {H' : Hp} {pl : List (Addr × Obj)},(∀ b ∈ fp,H' b = none) -> (∀ p ∈ pl,p.1 = D) -> ∀ b ∈ fp,FpOk X' pl H' b := fun {H' pl} hn hpl b hb => by
    have q := hf b hb
    refine ⟨hn b hb,?_,?_,.inl (by rw [eex]; exact hb),fun x c e => ?_,fun p hp => ?_⟩
    · rw [eL]
      obtain ⟨o,e⟩ := fo b hb
      have := Heap.lt_size e
      rw [hDd] at this
      intro z
      rw [z,szD] at this
      exact absurd (Nat.lt_of_succ_lt this) (Nat.lt_irrefl _)
    · have := I4.ok.exfs b (by rw [eex]; exact hb)
      exact this
    · exact (I4.ok.exf b (by rw [eex]; exact hb)).2 x c e
    · rw [epn] at hp
      have hp : p ∈ pl := by simpa using hp
      rw [hpl p hp]
      exact (fD b hb).symm
  have noCell : ∀ {its : Array Value} {n : Nat} (v : Option Value),({ cls := .type "list",data := .seq its n } : Obj).data ≠ .cell v := fun v z => by cases z
  have hD4 : (pushCells h3 scope.names).get? D = some { cls := .type "list",data := .seq ([] : List Value).toArray 0 } := pushCells_keeps _ _ _ _ (kC _ _ (by rw [<- hH2,<- hDd]; exact Heap.get?_push_size _ rfl))
  have loop : codeAny (model X.prog X.w) X.A (.compLoop (.ListComp elt [⟨tg,iter,ifs,0⟩] scope pos) 0 (.ref it) (.ref D) (compEnvC scope (cellsFrom h3.objs.size scope.names cl) H2.objs.size X.env)) (RR (.ref D) H2.objs.size) { s2 with heap := pushCells h3 scope.names } := by
    refine compLoop_any (fun n s' => ∃ i acc H' its k,Inv X' [] (capt σ map) H' s' /\ tn i s'.heap /\ (∀ b ∈ fp,H' b = none) /\ H' D = none /\ s'.heap.get? D = some { cls := .type "list",data := .seq (List.toArray its) k } /\ Vals acc its /\ W i n acc H') ?_ m0
      ⟨0,[],H1,[],0,I4,T.keep _ _ _ st fun b hb o e => pushCells_keeps _ _ _ _ (kC _ _ (kD _ _ e)),fun b hb => (hf b hb).1,I.hok.fresh (by rw [hDd]; exact Nat.le_refl _),hD4,.nil,w0⟩
    rintro n s5 ⟨i,acc,H5,its,k,I5,st5,fr5,hD5,oD5,rv5,w5⟩
    have pinD : Inv X' [(D,{ cls := .type "list",data := .seq (List.toArray its) k })] (capt σ map) H5 s5 := I5.pins_of fun p hp => by
      have e : p = (D,{ cls := .type "list",data := .seq (List.toArray its) k }) := by simpa using hp
      subst e
      refine ⟨oD5,hD5,?_,nfsD,fun v => noCell v⟩
      rw [eL,szD]
      exact Nat.ne_of_lt (Nat.lt_succ_self _)
    have plD : ∀ p ∈ [(D,({ cls := .type "list",data := .seq (List.toArray its) k } : Obj))],p.1 = D := fun p hp => by
      have e : p = (D,{ cls := .type "list",data := .seq (List.toArray its) k }) := by simpa using hp
      rw [e]
    have err : ∀ e s',X'.xe e s' -> notedBy (model X.prog X.w) X.A (compEnvC scope (cellsFrom h3.objs.size scope.names cl) H2.objs.size X.env) (fun e s' => RR (.ref D) H2.objs.size (.error e) s') e s' := fun e s' he => by
      rw [exe] at he
      exact wpAny_mono he (fun _ s'' q => hErr D _ e s'' q) fun e'' s'' q => hErr D _ e'' s'' q
    rcases ht i n acc H5 w5 with ⟨stop,hsz,fin⟩ | ⟨go,hsz,NN,hNN,step⟩
    · have dn := T.done X' eprog ew eK ecalm i _ s5 (capt σ map) H5 (notedBy (model X.prog X.w) X.A (compEnvC scope (cellsFrom h3.objs.size scope.names cl) H2.objs.size X.env) fun e s' => RR (.ref D) H2.objs.size (.error e) s') pinD (f4 fr5 plD) st5 stop
      rw [eA] at dn
      refine thn dn fun r s6 ⟨hr,I6⟩ => ?_
      subst hr
      obtain ⟨oD6,hD6,_⟩ := I6.pin (D,_) (by rw [epn]; exact List.mem_cons_self)
      obtain ⟨m,nsm,_⟩ := I6.loc
      rw [eL] at nsm
      have un := I6.base
      rw [efs,eex,eH0,es0] at un
      have hok := I6.hok
      rw [eprog,ew] at hok
      have os6 := I6.os
      rw [es0] at os6
      have fC : H5 H2.objs.size = none := by rw [<- eL]; exact I6.free
      have nDC : H2.objs.size ≠ D := by rw [szD]; exact Nat.ne_of_gt (Nat.lt_succ_self _)
      refine hOk D H2.objs.size acc H5 s6 m (I.call' (ch := fp) os6 ?_ ?_ I6.bare fun b hb => ?_) hD5 nsm (by rw [upd_ne nDC]; exact fC) ?_ ?_ ?_ ?_ fin
      · refine ⟨un.keep,un.slot,fun b o e n hx => ?_,un.there,fun b xs e => ?_,fun b o u e => ?_,fun b ps e => ?_⟩
        · rw [upd_ne (Nat.ne_of_lt (hDd ▸ Heap.lt_size e))]
          exact un.free b o e n hx
        · have := un.tups b xs e
          rw [upd_ne (ne_of_none this hD5)]
          exact this
        · have := un.frzs b o u e
          rw [upd_ne (ne_of_none this hD5)]
          exact this
        · obtain ⟨more,this⟩ := un.tbls b ps e
          exact ⟨more,by rw [upd_ne (ne_of_none this hD5)]; exact this⟩
      · intro b o e
        by_cases hb : b = D
        · subst hb
          rw [upd_same] at e
          cases e
          exact ⟨hsz,its,k,rv5,oD6⟩
        · rw [upd_ne hb] at e
          exact (hok b o e).stay (fun _ _ _ q => q) (fun c q => by rw [upd_ne (ne_of_none q hD5)]; exact q) fun c xs q => by rw [upd_ne (ne_of_none q hD5)]; exact q
      · obtain ⟨f0,f1,f2,f3,f4',f5⟩ := hf b hb
        exact ⟨f3,f1,f4',f5⟩
      · have := I.lt
        rw [hDd] at this
        intro z
        rw [<- z,szD] at this
        exact absurd (Nat.lt_of_succ_lt this) (Nat.lt_irrefl _)
      · have := I.sz
        rw [hDd] at this
        omega
      · intro x c e z
        obtain ⟨v,o,ho,_⟩ := I.cell x c e
        have := Heap.lt_size ho
        rw [hDd,z,szD] at this
        exact absurd (Nat.lt_of_succ_lt this) (Nat.lt_irrefl _)
      · intro p hp z
        have := Heap.lt_size (I.pin p hp).1
        rw [hDd,z,szD] at this
        exact absurd (Nat.lt_of_succ_lt this) (Nat.lt_irrefl _)
    · have im := T.item X' eprog ew eK ecalm i _ s5 (capt σ map) H5 (notedBy (model X.prog X.w) X.A (compEnvC scope (cellsFrom h3.objs.size scope.names cl) H2.objs.size X.env) fun e s' => RR (.ref D) H2.objs.size (.error e) s') pinD (f4 fr5 plD) st5 go
      rw [eA] at im
      refine thn im fun r s6 ⟨u,hr,h6⟩ => ?_
      subst hr
      refine thn h6 fun _ s7 ⟨x,H7,I7,r7,y7,st7,fr7⟩ => ?_
      have I7' := I7.pinned (f4 fr7 plD) (T.obj _ _ st7)
      have stp := B.keep _ _ _ _ (step x H7 y7)
      have pgx := pg _ s7 (capt σ map) H7 x u _ I7' r7 stp
      rw [eprog,ew,eA,eenv] at pgx
      refine wpAny_mono pgx (fun _ s8 ⟨σ8,H8,I8,⟨kl,k8⟩,q8⟩ => ?_) err
      have pix := pif _ s8 σ8 H8 _ I8 q8
      rw [eprog,ew,eA,eenv] at pix
      refine wpAny_mono pix (fun b s9 ⟨H9,I9,q9⟩ => ?_) err
      have wk : ∀ {σa : St} {Ha : Hp} {sa : Shared},σa = σ8 -> Inv X' ([(D,({ cls := .type "list",data := .seq (List.toArray its) k } : Obj))] ++ pinsAt fp s7.heap) σa Ha sa ->
          Inv X' [] (capt σ map) Ha sa /\ tn (i + 1) sa.heap /\ (∀ b ∈ fp,Ha b = none) /\ Ha D = none /\ sa.heap.get? D = some { cls := .type "list",data := .seq (List.toArray its) k } := fun {σa Ha sa} ea Ia => by
        subst ea
        refine ⟨(Ia.pins_of (pins' := []) fun p hp => absurd hp (by simp)).weak kl.symm fun j v e => ?_,T.keep _ _ _ st7 fun b hb o e => (Ia.pin (b,o) (List.mem_append_right _ (List.mem_append_right _ (mem_pinsAt hb e)))).1,fun b hb => ?_,?_,?_⟩
        · have e' := e
          unfold capt at e'
          rw [List.getElem?_map] at e'
          cases hm : map[j]? with
          | none => rw [hm] at e'; cases e'
          | some o =>
            rw [hm] at e'
            cases o with
            | none => simp at e'
            | some i' => rw [k8 j i' hm]; exact e
        · obtain ⟨o,e,d⟩ := T.obj _ _ st7 b hb
          exact (Ia.pin (b,o) (List.mem_append_right _ (List.mem_append_right _ (mem_pinsAt hb e)))).2.1
        · exact (Ia.pin (D,_) (List.mem_append_right _ (List.mem_append_left _ List.mem_cons_self))).2.1
        · exact (Ia.pin (D,_) (List.mem_append_right _ (List.mem_append_left _ List.mem_cons_self))).1
      cases b with
      | false =>
        rw [if_neg Bool.false_ne_true] at q9 ⊢
        obtain ⟨m',hm',w9⟩ := hNN _ _ q9
        obtain ⟨a1,a2,a3,a4,a5⟩ := wk rfl I9
        exact ⟨m',hm',i + 1,acc,H9,its,k,a1,a2,a3,a4,a5,rv5,w9⟩
      | true =>
        rw [if_pos rfl] at q9 ⊢
        have pex := pel _ s9 σ8 H9 _ I9 q9
        rw [eprog,ew,eA,eenv] at pex
        refine wpAny_mono pex (fun v s10 ⟨y,H10,I10,r10,q10⟩ => ?_) err
        obtain ⟨m',hm',w10⟩ := hNN _ _ q10
        obtain ⟨a1,a2,a3,a4,a5⟩ := wk rfl I10
        have hl := rv5.length
        refine wpAny_list_append_plain (items := List.toArray its) ⟨k,a5⟩ (fun h11 pl11 sb11 => ?_) (by simp only [List.size_toArray]; omega)
        obtain ⟨k',e11⟩ := pl11
        refine ⟨m',hm',i + 1,acc ++ [y],H10,its ++ [v],k',a1.turned (t' := s10.toks) (it := D) (fun b o hb e => (sb11.2 b hb).trans e) a4 ?_ (.inr (by rw [es0,hDd]; exact Nat.le_refl _)) ncD (fun p hp => absurd hp (by rw [epn]; simp)),T.keep _ _ _ a2 fun b hb o e => (sb11.2 b (fD b hb)).trans e,a3,a4,?_,rv5.append (.cons r10 .nil),w10⟩
        · rw [eL,szD]
          exact Nat.ne_of_lt (Nat.lt_succ_self _)
        · rw [e11,List.push_toArray]
  exact codeAny_compStart_list loop (T.self _ 0 _ _ _ (T.keep _ _ _ st fun b hb o e => pushCells_keeps _ _ _ _ (kC _ _ (kD _ _ e))) loop)
theorem Blk.clos {pins : List (Addr × Obj)}{σ : St}{H : Hp}{s : Shared}(B : Blk X N' scope map tg elt ifs g tt te)(I : Inv X pins σ H s) :
    ∃ cl,closureFor scope X.env = pure cl /\ (∀ x c,cl.lookup x = some c -> X.env.cells.lookup x = some c) /\ ∀ x,(x,NameKind.free) ∈ scope.names -> (cl.lookup x).isSome = true :=
  closureFor_ok fun x hx => I.ok.has x (by
    have q := List.all_eq_true.mp B.free _ hx
    simpa using q)
def tComp (wi : TI)(map : List (Option Nat))(g : TG)(tt : TT)(te : TE) : TE := fun σ H Q => wi σ H fun J H1 => ∃ W : Nat -> Nat -> List V -> Hp -> Prop,(∃ m,W 0 m [] H1) /\
  Turns J g tt te (capt σ map) (fun acc H' => ∀ D,H' D = none -> Q (.ref D) (upd H' D (.lst acc))) W
theorem pe_comp (B : Blk X N' scope map tg elt ifs g tt te)(hi : PI X tg iter wi)(hs : ∀ x,foldedSetIterable iter X.env x = pure x := by intro _; rfl) : PE X (.ListComp elt [⟨tg,iter,ifs,0⟩] scope pos) (tComp wi map g tt te) := by
  intro pins s σ H Q I h
  obtain ⟨cl,hcl,hsub,hhas⟩ := B.clos I
  rw [eval_ListComp]
  refine wpAny_comprehension_free (use := none) rfl hs hcl B.kind B.loc (thn (hi pins s σ H _ I h) fun v s1 h1 => thn h1 fun itv s2 h2 => ?_)
  obtain ⟨it,fp,tn,J,H2,e,I2,T,st2,f2,W,⟨m0,w0⟩,turn⟩ := h2
  subst e
  refine blk_run (RR := fun acc C => compPost (model X.prog X.w) X.A X.xe none (EP X pins σ Q) acc C) I2 B.m hsub hhas (R := fun X => X.calm = true) (fun _ _ _ _ _ => B.calm) T.gen st2 f2 w0 turn (fun D C acc H' s' m I' hD nsm fC c1 c2 c3 c4 fin => ?_) fun D C e s' z => z
  refine ⟨m,nsm,fun h' sb => ⟨.ref D,_,?_,rfl,fin D hD⟩⟩
  exact I'.turned (t' := s'.toks) (fun b o hb e => (sb.2 b hb).trans e) fC c1 (.inr c2) c3 c4
def tSetComp (i : Nat)(wi : TI)(map : List (Option Nat))(g : TG)(tt : TT)(te : TE) : TS := fun D σ H => wi σ H fun J H1 => ∃ W : Nat -> Nat -> List V -> Hp -> Prop,(∃ m,W 0 m [] H1) /\
  Turns J g tt te (capt σ map) (fun acc H' => ∀ d,H' d = none -> D.nx (σ.set i (some (.ref d))) (upd H' d (.lst acc))) W
theorem ps_setComp {i : Nat}{y : Str}{py spos : Pos}(hN : X.N.Nodup)(hiN : X.N[i]? = some y)(hy : Loc X.env.scope y)(B : Blk X N' scope map tg elt ifs g tt te)(hi : PI X tg iter wi)
    (hsw : swapsWith (.ListComp elt [⟨tg,iter,ifs,0⟩] scope pos) (some (.Name y py)) spos.line X.env = pure true := by rfl) (hfn : X.fn y = true \/ X.env.scope.names.lookup y = some .local := by first | exact .inl rfl | exact .inr rfl)
    (hs : ∀ x,foldedSetIterable iter X.env x = pure x := by intro _; rfl) : PS X (.Assign [.Name y py] (.ListComp elt [⟨tg,iter,ifs,0⟩] scope pos) spos) (tSetComp i wi map g tt te) := by
  intro pins s σ H D I h
  obtain ⟨cl,hcl,hsub,hhas⟩ := B.clos I
  rw [exec_Assign_Name_used _ _ _ _ hsw]
  refine wpAny_bind (wpAny_standAt (wpAny_bind ?_))
  show wpAny _ _ (do let _ <- comprehension (.ListComp elt [⟨tg,iter,ifs,0⟩] scope pos) scope X.env _ (newList []) false (eval iter X.env) (some (assign (.Name y py) X.env))) _ _ _
  refine wpAny_bind (thn (wpAny_comprehension_free (use := some (assign (.Name y py) X.env)) (Q := fun _ s' => SP X pins D .next s') rfl hs hcl B.kind B.loc (thn (hi pins s σ H _ I h) fun v s1 h1 => thn h1 fun itv s2 h2 => ?_)) fun _ s' hq => wpAny_pure (wpAny_pure hq))
  obtain ⟨it,fp,tn,J,H2,e,I2,T,st2,f2,W,⟨m0,w0⟩,turn⟩ := h2
  subst e
  refine blk_run (RR := fun acc C => compPost (model X.prog X.w) X.A X.xe (some (assign (.Name y py) X.env)) (fun _ s' => SP X pins D .next s') acc C) I2 B.m hsub hhas (R := fun X => X.calm = true) (fun _ _ _ _ _ => B.calm) T.gen st2 f2 w0 turn (fun d C acc H' s' m I' hD nsm fC c1 c2 c3 c4 fin => ?_) fun D C e s' z => z
  refine wpAny_assign_Name (store_ok2 I' hN hiN hy (v := .ref d) rfl (fun s'' I'' ⟨a,sb,ha⟩ => ?_) hfn)
  have hCa : C ≠ a := by
    rcases ha with z | z
    · rw [z]; exact c1
    · exact (c3 y a z).symm
  refine ⟨m,nsm.sameBut sb hCa,fun h' sb' => ⟨_,_,?_,fin d hD⟩⟩
  exact I''.turned (t' := s''.toks) (fun b o hb e => (sb'.2 b hb).trans e) fC c1 (.inr c2) c3 c4
end
theorem gkeep_name {j : Nat}{map : List (Option Nat)}(h : map[j]? = some none) : GKeep (gName j) map := fun v σ H Q q => by
  refine ⟨⟨by simp,fun j' i hm => ?_⟩,q⟩
  have : j ≠ j' := fun z => by rw [z,hm] at h; cases h
  rw [List.getElem?_set_ne this]
end L2
set_option Elab.async false
set_option linter.all false
set_option maxRecDepth 100000
set_option maxHeartbeats 4000000
namespace L2
open PySem PySem.Spec PyProof.Rows
def Bd (n : Nat)(i : Int) : Prop := i.natAbs < 2 ^ n
theorem Bd.mono {m n : Nat}{i : Int}(h : Bd m i)(k : m <= n) : Bd n i := Nat.lt_of_lt_of_le h (Nat.pow_le_pow_right (by decide) k)
theorem Bd.add {m n : Nat}{i j : Int}(h : Bd m i)(k : Bd n j) : Bd (max m n + 1) (i + j) := by
  have h' : Bd (max m n) i := h.mono (Nat.le_max_left _ _)
  have k' : Bd (max m n) j := k.mono (Nat.le_max_right _ _)
  unfold Bd at *
  rw [Nat.pow_succ]
  have := Int.natAbs_add_le i j
  omega
theorem Bd.neg {m : Nat}{i : Int}(h : Bd m i) : Bd m (-i) := by
  unfold Bd at *
  rw [Int.natAbs_neg]
  exact h
theorem Bd.of {n : Nat}{i : Int}(h1 : -(2 ^ n : Nat) < i)(h2 : i < (2 ^ n : Nat)) : Bd n i := by
  unfold Bd
  omega
theorem Bd.lt {n : Nat}{i : Int}(h : Bd n i) : -((2 ^ n : Nat) : Int) < i /\ i < ((2 ^ n : Nat) : Int) := by
  unfold Bd at h
  omega
theorem bits_of {n : Nat}{i : Int}(h : Bd n i) : Builtin.Int.intBits i <= n := by
  unfold Builtin.Int.intBits
  split
  · exact Nat.zero_le _
  · rename_i hz
    have h0 : i.natAbs ≠ 0 := fun z => hz (by have : i = 0 := Int.natAbs_eq_zero.mp z; simp [this])
    exact (Nat.log2_lt h0).mpr h
def CMulB (i j : Int) : Prop := (∃ m n,Bd m i /\ Bd n j /\ m + n <= 100000000) \/ Bd 64 j
def CDivB (i j : Int) : Prop := 0 < j /\ ∃ n,Bd n j /\ n <= 9000
section
variable {X : Cx}
theorem op_mulB : OpR X (binaryOp .Mult) (rI CMulB fun i j => .int (i * j)) := opI fun i j _ _ _ _ _ hc q => mul_int q (by
  rcases hc with ⟨m,n,h1,h2,h3⟩ | h1
  case inr => exact .of_right (bits_of h1)
  have e1 := bits_of h1
  have e2 := bits_of h2
  unfold IntMulOk
  have e3 : Builtin.Int.intTooBig (Builtin.Int.intBits i + Builtin.Int.intBits j) = false := by
    unfold Builtin.Int.intTooBig
    refine decide_eq_false ?_
    have : bitsLine = 134217728 := by unfold bitsLine; decide
    rw [this]
    omega
  rw [e3]
  simp)
theorem op_fdivB : OpR X (binaryOp .FloorDiv) (rI CDivB fun i j => .int (i / j)) := opI fun i j _ _ _ _ _ hc q => by
  obtain ⟨h1,n,h2,h3⟩ := hc
  refine floordiv_int (by omega) (by rw [Int.fdiv_eq_ediv_of_nonneg i (by omega)]; exact q) (.inl (PyProof.noPylong_of_log2 ?_))
  have h0 : j.natAbs ≠ 0 := by omega
  exact (Nat.log2_lt h0).mpr (h2.mono h3)
theorem op_fdivZ : OpR X (binaryOp .FloorDiv) (rI (fun _ j => j ≠ 0 /\ ∃ n,Bd n j /\ n <= 9000) fun i j => .int (i.fdiv j)) := opI fun i j _ _ _ _ _ hc q => by
  obtain ⟨h1,n,h2,h3⟩ := hc
  refine floordiv_int h1 q (.inl (PyProof.noPylong_of_log2 ?_))
  have h0 : j.natAbs ≠ 0 := by omega
  exact (Nat.log2_lt h0).mpr (h2.mono h3)
end
theorem Same.upd {H : Hp}{p : Addr}{o : HO}(h : H p = none) : Same H (upd H p o) := fun b u e => by rw [upd_ne (ne_of_none e h)]; exact e
def Keep (p : Addr)(H H' : Hp) : Prop := ∀ b o,b ≠ p -> H b = some o -> H' b = some o
theorem Keep.trans {p : Addr}{H H1 H2 : Hp}(a : Keep p H H1)(b : Keep p H1 H2) : Keep p H H2 := fun c o n e => b c o n (a c o n e)
theorem Keep.upd {p : Addr}{H : Hp}{o : HO} : Keep p H (upd H p o) := fun b u n e => by rw [upd_ne n]; exact e
theorem Same.keep {p : Addr}{H H' : Hp}(h : Same H H') : Keep p H H' := fun b o _ e => h b o e
structure Callee (P : Program)(w : World)(K : PySem.W.Frag)(mg : Str -> Option Value)(base : Heap)(CX : CXT)(x : Str)(k : Nat)(ps : List Str)(sp : Sp) : Prop where
  ex : ∃ f fd,FnOk P w K mg base CX k f fd ps sp /\ mg x = some (.ref f) /\ PySem.W.keepIn K (.ref f) = true /\ Binds K fd ps []
section
variable {X : Cx}{CX : CXT}{k : Nat}{ps : List Str}{sp : Sp}{E : XK}{x : Str}{p pos : Pos}{e : Expr}{es : List Expr}{t : TA}
theorem pe_own (G : Callee X.prog X.w X.K X.mg X.base CX0 x k ps sp)(hr : Room k X.A)(hg : Gl X x)(ha : PA X (e :: es) t)(hdb : (x == ("__debug__" : Str)) = false := by decide) (he : starEach (e :: es) X.env = (false,eval e X.env) :: starEach es X.env := by rfl) (hpl : (backTo pos (starEach es X.env)).any (·.1) = false := by rfl) :
    PE X (.Call (.Name x p) (e :: es) [] pos) (tCall sp [] E0 t) := by
  obtain ⟨f,fd,F,hm,hk,hb⟩ := G.ex
  exact pe_call F hr hg hm hk hb .nil pass0 ha hdb he hpl
theorem call_isinst : CallR X (.builtin "isinstance") (fun xs H Q => ∃ y c t b,xs = [y,.ty c] /\ TyOf X.K H y t /\ PySem.W.kitOne X.K t (.type c) = some b /\ Q (.bl b) H) := by
  intro pins s σ H xs us Q I r h
  obtain ⟨y,c,t,b,rfl,ty,e,q⟩ := h
  obtain ⟨u,w',rfl,r1,r2⟩ := vals2 r
  cases (show w' = Value.type c from r2)
  exact isinst_ok I r1 ty e fun tk => ⟨.bl b,H,I.tok _,rfl,q⟩
end
theorem Callee.mk' {P : Program}{w : World}{K : PySem.W.Frag}{mg : Str -> Option Value}{base : Heap}{CX : CXT}{x qual : Str}{st : Stmt}{f : Addr}{fd : FuncData}{k : Nat}{ps : List Str}{sp : Sp}(F : Fun K x qual st f fd)(G : FnOk P w K mg base CX k f fd ps sp)(hm : mg x = some (.ref f))(hb : Binds K fd ps []) :
    Callee P w K mg base CX x k ps sp := ⟨f,fd,G,hm,F.kp,hb⟩
theorem iteB {c : Bool}{A B : Prop}(h1 : c = true -> A)(h2 : c = false -> B) : if c = true then A else B := by
  cases c with
  | true => exact iteT (h1 rfl)
  | false => exact iteF (h2 rfl)
theorem bt_abs : bootBuiltins "abs" = some (.builtin "abs") := by decide +kernel
theorem bt_len : bootBuiltins "len" = some (.builtin "len") := by decide +kernel
theorem bt_isinstance : bootBuiltins "isinstance" = some (.builtin "isinstance") := by decide +kernel
theorem bt_max : bootBuiltins "max" = some (.builtin "max") := by decide +kernel
theorem bt_min : bootBuiltins "min" = some (.builtin "min") := by decide +kernel
theorem bt_sum : bootBuiltins "sum" = some (.builtin "sum") := by decide +kernel
theorem bt_all : bootBuiltins "all" = some (.builtin "all") := by decide +kernel
theorem bt_int : bootBuiltins "int" = some (.type "int") := by decide +kernel
theorem bt_bool : bootBuiltins "bool" = some (.type "bool") := by decide +kernel
theorem bt_tuple : bootBuiltins "tuple" = some (.type "tuple") := by decide +kernel
theorem bt_list : bootBuiltins "list" = some (.type "list") := by decide +kernel
theorem bt_zip : bootBuiltins "zip" = some (.type "zip") := by decide +kernel
theorem bt_ValueError : bootBuiltins "ValueError" = some (.type "ValueError") := by decide +kernel
theorem Same.get {H H' : Hp}{a : Addr}{o : HO}(S : Same H H')(h : H a = some o) : H' a = some o := S a o h
theorem Keep.get {p : Addr}{H H' : Hp}{a : Addr}{o : HO}(S : Keep p H H')(n : a ≠ p)(h : H a = some o) : H' a = some o := S a o n h
theorem Bd.num (i : Int)(h : i.natAbs < 18446744073709551616) : Bd 64 i := h
theorem le1000 : 1000 <= sizeLine := by decide
theorem vint_t {a b : Int}(h : decide (V.int a = V.int b) = true) : a = b := by injection of_decide_eq_true h
theorem nvint_t {a b : Int}(h : (!decide (V.int a = V.int b)) = true) : a ≠ b := fun z => by rw [z] at h; simp at h
theorem nvint_f {a b : Int}(h : (!decide (V.int a = V.int b)) = false) : a = b := by
  have q : decide (V.int a = V.int b) = true := by cases e : decide (V.int a = V.int b) with | true => rfl | false => rw [e] at h; cases h
  exact vint_t q
theorem dec_t {p : Prop}[Decidable p](h : decide p = true) : p := of_decide_eq_true h
def Bag (H : Hp)(p : Addr) : Prop := ∃ f m : Int,H p = some (.lst [.int f,.int m]) /\ 0 <= f /\ 0 <= m /\ m < 2147483647
theorem Bag.ne {H : Hp}{p a : Addr}{xs : List V}(b : Bag H p)(h : H a = some (.tup xs)) : a ≠ p := by
  obtain ⟨f,m,e,_⟩ := b
  exact ne_of h e (by intro z; cases z)
theorem CMulB.right {i j : Int}(h : Bd 64 j) : CMulB i j := .inr h
theorem Keep.tup {p : Addr}{H H' : Hp}{a : Addr}{xs : List V}(S : Keep p H H')(b : Bag H p)(h : H a = some (.tup xs)) : H' a = some (.tup xs) := S a _ (b.ne h) h
theorem atI_some {xs : List V}{i : Int}(h0 : 0 <= i)(h1 : i < xs.length) : ∃ v,atI xs i = some v /\ v ∈ xs := by
  obtain ⟨j,rfl⟩ : ∃ j : Nat,i = j := ⟨i.toNat,by omega⟩
  have hj : j < xs.length := by omega
  exact ⟨xs[j],atI_nat (List.getElem?_eq_getElem hj),List.getElem_mem hj⟩
end L2
set_option Elab.async false
set_option linter.all false
set_option maxRecDepth 100000
set_option maxHeartbeats 4000000
namespace L2
open PySem PySem.Spec PyProof.Rows
theorem nodupS (l : List Str)(h : l.Nodup) : l.Nodup := h
section
variable {X : Cx}{tg l : Expr}{tl : TE}
theorem ix_tupK (K : PySem.W.Frag)(h : X.K = K) : IxR X (rIxT K) := by subst h; exact ix_tup
theorem ix_listK (K : PySem.W.Frag)(h : X.K = K) : IxR X (rIxL K) := by subst h; exact ix_list
theorem pg_tupK {es : List Expr}{k : Nat}{t : TGs}{n : Nat}{pos : Pos}(K : PySem.W.Frag)(h : X.K = K)(hc : X.calm = true)(hs : PGs X es t)(hn : (assignEach es X.env).length = n := by rfl)(hst : (assignEach es X.env).findIdx? (·.1) = none := by rfl) : PG X (.Tuple es k pos) (gTup K n t) := by subst h; exact pg_tup hc hs hn hst
theorem call_len_seqK (K : PySem.W.Frag)(h : X.K = K) : CallR X (.builtin "len") (fun xs H Q => ∃ p ys,xs = [.ref p] /\ (SqL K H p ys \/ SqT K H p ys) /\ Q (.int ys.length) H) := by subst h; exact call_len_seq
theorem call_tuple_ofK (K : PySem.W.Frag)(h : X.K = K) : CallR X (.type "tuple") (fun xs H Q => ∃ p ys,xs = [.ref p] /\ ((SqL K H p ys /\ ∀ l,H l = none -> Q (.ref l) (upd H l (.tup ys))) \/ (SqT K H p ys /\ Q (.ref p) H))) := by subst h; exact call_tuple_of
theorem call_list_ofK (K : PySem.W.Frag)(h : X.K = K) : CallR X (.type "list") (fun xs H Q => ∃ p ys,xs = [.ref p] /\ (SqL K H p ys \/ SqT K H p ys) /\ ∀ l,H l = none -> Q (.ref l) (upd H l (.lst ys))) := by subst h; exact call_list_of
theorem pt_truthK {a : Expr}{ta : TE}(K : PySem.W.Frag)(h : X.K = K)(ha : PE X a ta)(he : ∀ whole,isTrue a X.env whole = (do let v <- whole; standAt a.pos; holding [v] (truthy v))) : PT X a (fun σ H Q => ta σ H fun x H' => ∃ k,TruV K x H' k /\ Q k H') := by subst h; exact pt_truth ha he
end
theorem ints_pairs : ∀ {ns : List Int} {us : List Value},Vals (ns.map V.int) us -> ∃ xs : List (Int × Tok),us = xs.map (fun p => Value.int p.1 p.2) /\ xs.map (·.1) = ns
  | [],us,r => by
    cases r
    exact ⟨[],rfl,rfl⟩
  | n :: ns,us,r => by
    cases r with
    | cons r1 r2 =>
      obtain ⟨t,rfl⟩ := r1
      obtain ⟨xs,e1,e2⟩ := ints_pairs r2
      exact ⟨(n,t) :: xs,by rw [e1]; rfl,by rw [<- e2]; rfl⟩
theorem intItems_toArray (xs : List (Int × Tok)) : intItems xs.toArray = (xs.map fun p => Value.int p.1 p.2).toArray := by simp [intItems]
section
variable {X : Cx}
end
end L2
set_option Elab.async false
set_option linter.all false
set_option maxRecDepth 100000
set_option maxHeartbeats 4000000
namespace L2
open PySem PySem.Spec PyProof.Rows
section
variable {X : Cx}
theorem call_sumL (K : PySem.W.Frag)(hK : X.K = K)(hc : X.calm = true) : CallR X (.builtin "sum") (fun xs H Q => ∃ (p : Addr) (ns : List Int),xs = [.ref p] /\ SqL K H p (ns.map V.int) /\ Q (.int ns.sum) H) := by
  subst hK
  intro pins s σ H xs us Q I r h
  obtain ⟨p,ns,rfl,hq,q⟩ := h
  obtain ⟨u,rfl,rx⟩ := vals1 r
  cases rx
  obtain ⟨its,rv,pl,hz⟩ := I.list hq
  obtain ⟨ps,e1,e2⟩ := ints_pairs rv
  subst e1
  have hl := pl.isList
  rw [<- intItems_toArray] at hl
  refine sum_intListG (xs := ps.toArray) (I.ok.hd hc) hl fun h' tk t' k => ?_
  refine ⟨.int ns.sum,H,I.kept k,⟨t',?_⟩,q⟩
  rw [preSum_eq,List.take_of_length_le (by simp)]
  show Value.int ((ps.map (·.1)).sum) t' = _
  rw [e2]
theorem bools_are : ∀ {bs : List Bool} {us : List Value},Vals (bs.map V.bl) us -> us = bs.map Value.bool
  | [],us,r => by
    cases r
    rfl
  | b :: bs,us,r => by
    cases r with
    | cons r1 r2 =>
      cases r1
      rw [bools_are r2]
      rfl
theorem range_bools (bs : List Bool) : (List.range bs.length).map (fun i => bs[i]?.getD false) = bs := by
  apply List.ext_getElem
  · simp
  · intro i h1 h2
    simp at h1
    simp [h1]
theorem call_allL (K : PySem.W.Frag)(hK : X.K = K)(hc : X.calm = true) : CallR X (.builtin "all") (fun xs H Q => ∃ (p : Addr) (bs : List Bool),xs = [.ref p] /\ SqL K H p (bs.map V.bl) /\ Q (.bl (bs.all id)) H) := by
  subst hK
  intro pins s σ H xs us Q I r h
  obtain ⟨p,bs,rfl,hq,q⟩ := h
  obtain ⟨u,rfl,rx⟩ := vals1 r
  cases rx
  obtain ⟨its,rv,pl,hz⟩ := I.list hq
  have e1 := bools_are rv
  subst e1
  have hl := pl.isList
  have hlt : p < s.heap.objs.size := by obtain ⟨_,e,_⟩ := hl; exact Heap.lt_size e
  refine call_all_walk (wpAny_pyIter_list hl ?_)
  refine ⟨_,_,_,_,_,_,(fun i => bs[i]?.getD false),rfl,Walks.list (A := X.A.in1) (I.ok.hd hc) _ p (Nat.ne_of_lt hlt) (bs.map Value.bool).toArray,⟨⟨_,Heap.get?_push_size _ rfl,rfl,rfl⟩,hl.push _⟩,?_,fun h' tk hk => ?_⟩
  · intro i v s' Q' E' hv hq'
    have e : bs[i]?.map Value.bool = some v := by simpa using hv
    cases hb : bs[i]? with
    | none => rw [hb] at e; cases e
    | some b =>
      rw [hb] at e
      cases e
      have hq'' : Q' (bs[i]?.getD false) s' := hq'
      rw [hb] at hq''
      exact wpAny_truthy_bool hq''
  · have ea : (List.range (bs.map Value.bool).toArray.size).all (fun i => bs[i]?.getD false) = bs.all id := by
      have := congrArg (fun l : List Bool => l.all id) (range_bools bs)
      simpa [List.all_map] using this
    rw [ea]
    refine ⟨.bl (bs.all id),H,I.kept fun b o e => hk b o (fun hm => ?_) (Heap.get?_push_of_some _ e),rfl,q⟩
    have : b = s.heap.objs.size := by simpa using hm
    exact absurd (this ▸ Heap.lt_size e) (Nat.lt_irrefl _)
end
section
variable {X : Cx}
end
end L2
set_option Elab.async false
set_option linter.all false
set_option maxRecDepth 100000
set_option maxHeartbeats 4000000
namespace L2
open PySem PySem.Spec PyProof.Rows
section
variable {prog : Program}{w : World}{A : Around}{E : Value -> Shared -> Prop}{s : Shared}
theorem nextT_item {u t : Addr}{j : Nat}{its}{v : Value}{Q : Value -> Shared -> Prop}(a1 : s.heap.IsTupleIter u t j)(a2 : s.heap.IsTuple t its)(a3 : its[j]? = some v)
    (q : ∀ h',h'.IsTupleIter u t (j + 1) -> Heap.SameBut u s.heap h' -> Q v { s with heap := h' }) : wpAny (model prog w) A (Builtin.SmallTypes.nextOf (.ref u)) Q E s := by
  obtain ⟨oi,b1,b2,b3⟩ := id a1
  obtain ⟨ot,c1,_,nt,c2⟩ := a2
  unfold Builtin.SmallTypes.nextOf
  refine wpAny_bind (wpAny_callSpecial?_slot (name := Str.ofString "__next__") a1.typeIs F.slot_tuple_iterator_next (wpAny_call_entry F.slot_tuple_iterator_next a1.typeIs F.entry_tuple_iterator_next ?_ (F.args_tuple_iterator_next_1 _)))
  show wpAny _ _ (field (.ref u) 0 >>= _) _ _ s
  refine wpAny_bind (wpAny_field b1 b3 (x := .ref t) rfl ?_)
  show wpAny _ _ (if (Value.ref t == Value.none) = true then _ else _) _ _ s; rw [if_neg (show ¬ ((Value.ref t == Value.none) = true) from Bool.false_ne_true)]
  show wpAny _ _ (field (.ref u) 1 >>= _) _ _ s
  refine wpAny_bind (wpAny_field b1 b3 (x := .int j 0) rfl ?_)
  show wpAny _ _ (seqItems? (.ref t) >>= _) _ _ s; refine wpAny_bind (wpAny_seqItems c1 c2 ?_)
  simp only [Int.toNat_natCast,a3]
  refine wpAny_bind (wpAny_setField b1 b3 (by simp) (wpAny_pure ⟨v,rfl,wpAny_pure (q _ ⟨_,Heap.get?_update_self _ b1 (Obj.isFreed_of_fields (Obj.data_mapFields b3 _)),(Obj.cls_mapFields ..).trans b2,by rw [Obj.data_mapFields b3]; simp [rawInt]⟩ (Heap.SameBut.update ..))⟩))
theorem nextT_end {u t : Addr}{j : Nat}{its}{Q : Value -> Shared -> Prop}(a0 : A.handled = none)(a1 : s.heap.IsTupleIter u t j)(a2 : s.heap.IsTuple t its)(a3 : its[j]? = none)
    (q : ∀ h' e,Heap.ExtBut u s.heap h' -> (∃ o,h'.get? e = some o /\ o.cls = .type "StopIteration") -> E (.ref e) { s with heap := h' }) : wpAny (model prog w) A (Builtin.SmallTypes.nextOf (.ref u)) Q E s := by
  obtain ⟨oi,b1,b2,b3⟩ := id a1
  obtain ⟨ot,c1,_,nt,c2⟩ := a2
  unfold Builtin.SmallTypes.nextOf
  refine wpAny_bind (wpAny_callSpecial?_slot (name := Str.ofString "__next__") a1.typeIs F.slot_tuple_iterator_next (wpAny_call_entry F.slot_tuple_iterator_next a1.typeIs F.entry_tuple_iterator_next ?_ (F.args_tuple_iterator_next_1 _)))
  show wpAny _ _ (field (.ref u) 0 >>= _) _ _ s
  refine wpAny_bind (wpAny_field b1 b3 (x := .ref t) rfl ?_)
  show wpAny _ _ (if (Value.ref t == Value.none) = true then _ else _) _ _ s; rw [if_neg (show ¬ ((Value.ref t == Value.none) = true) from Bool.false_ne_true)]
  show wpAny _ _ (field (.ref u) 1 >>= _) _ _ s
  refine wpAny_bind (wpAny_field b1 b3 (x := .int j 0) rfl ?_)
  show wpAny _ _ (seqItems? (.ref t) >>= _) _ _ s; refine wpAny_bind (wpAny_seqItems c1 c2 ?_)
  simp only [Int.toNat_natCast,a3]
  refine wpAny_bind (wpAny_rule (wpAny_bind (wpAny_setField b1 b3 (by simp) ?_)))
  show wpAny _ _ (newExc (.type "StopIteration") [] >>= _) _ _ _; refine wpAny_bind ?_; simp only [newExc,newTuple]
  refine wpAny_bind (wpAny_newObj_type ?_ (by size_fits)); refine wpAny_bind (m := firstArgMember _ _) (wpAny_of_eq (a := Value.none) (by first | rfl | (simp only [firstArgMember]; rfl)) ?_)
  refine wpAny_newObj_type ?_ (by size_fits); simp only [raiseNew]; refine wpAny_bind (wpAny_handled ?_)
  first | rw [show A.in1.handled = none from a0] | rw [a0]
  refine wpAny_bind (wpAny_pure (wpAny_throw (q _ _ (((Heap.SameBut.update ..).extBut.push _).push _) ⟨_,Heap.get?_push_size _ rfl,rfl⟩)))
def ItAt (b : Bool)(h : Heap)(u l : Addr)(j : Nat) : Prop := match b with | false => h.IsListIter u l j | true => h.IsTupleIter u l j
def SeqAt (b : Bool)(h : Heap)(l : Addr)(xs : Array Value) : Prop := match b with | false => h.IsList l xs | true => h.IsTuple l xs
theorem ItAt.at {b : Bool}{h h' : Heap}{u l : Addr}{j : Nat}(x : ItAt b h u l j)(k : ∀ o,h.get? u = some o -> h'.get? u = some o) : ItAt b h' u l j := by
  cases b with
  | false => exact Heap.IsListIter.at x k
  | true => exact Heap.IsTupleIter.at x k
theorem SeqAt.at {b : Bool}{h h' : Heap}{l : Addr}{xs : Array Value}(x : SeqAt b h l xs)(k : ∀ o,h.get? l = some o -> h'.get? l = some o) : SeqAt b h' l xs := by
  cases b with
  | false => obtain ⟨o,e,r⟩ := x; exact ⟨o,k o e,r⟩
  | true => obtain ⟨o,e,r⟩ := x; exact ⟨o,k o e,r⟩
theorem ItAt.obj {b : Bool}{h : Heap}{u l : Addr}{j : Nat}(x : ItAt b h u l j) : ∃ o,h.get? u = some o /\ ∀ v,o.data ≠ .cell v := by
  cases b with
  | false => obtain ⟨o,e,c,d⟩ := x; exact ⟨o,e,fun v z => by rw [d] at z; cases z⟩
  | true => obtain ⟨o,e,c,d⟩ := x; exact ⟨o,e,fun v z => by rw [d] at z; cases z⟩
theorem src_item {b : Bool}{u l : Addr}{j : Nat}{xs : Array Value}{v : Value}{Q : Value -> Shared -> Prop}(a1 : ItAt b s.heap u l j)(a2 : SeqAt b s.heap l xs)(a3 : xs[j]? = some v)
    (q : ∀ h',ItAt b h' u l (j + 1) -> Heap.SameBut u s.heap h' -> Q v { s with heap := h' }) : wpAny (model prog w) A (Builtin.SmallTypes.nextOf (.ref u)) Q E s := by
  cases b with
  | false => exact wpAny_nextOf_list_item a1 a2 a3 q
  | true => exact nextT_item a1 a2 a3 q
theorem src_end {b : Bool}{u l : Addr}{j : Nat}{xs : Array Value}{Q : Value -> Shared -> Prop}(a0 : A.handled = none)(a1 : ItAt b s.heap u l j)(a2 : SeqAt b s.heap l xs)(a3 : xs[j]? = none)
    (q : ∀ h' e,Heap.ExtBut u s.heap h' -> (∃ o,h'.get? e = some o /\ o.cls = .type "StopIteration") -> E (.ref e) { s with heap := h' }) : wpAny (model prog w) A (Builtin.SmallTypes.nextOf (.ref u)) Q E s := by
  cases b with
  | false => exact wpAny_nextOf_list_end a0 a1 a2 a3 q
  | true => exact nextT_end a0 a1 a2 a3 q
abbrev TupAt (h : Heap)(T : Addr)(vs : Array Value) : Prop := h.get? T = some { cls := .type "tuple",data := .seq vs }
theorem upd_tupAt {T : Addr}{vs : Array Value}{v : Value}{k : Nat}{Q : Unit -> Shared -> Prop}(hv : vs.size <= 1000)(hT : TupAt s.heap T vs)
    (q : ∀ h',TupAt h' T (vs.setIfInBounds k v) -> Heap.SameBut T s.heap h' -> Q () { s with heap := h' }) : wpAny (model prog w) A (updateSeq T (·.setIfInBounds k v)) Q E s := by
  have z1 : vs.size <= sizeLine := Nat.le_trans hv le1000
  refine wpAny_updateSeq hT rfl (q _ ?_ (Heap.SameBut.update ..)) (hz := z1) (_hz' := by simp; omega)
  show Heap.get? _ T = _
  rw [Heap.get?_update_self _ hT rfl]; simp [Obj.mapSeq]
end
section
variable {X : Cx}{pins : List (Addr × Obj)}{σ : St}{H : Hp}{s : Shared}{h' : Heap}
theorem Inv.zipped {fp : List Addr}{T : Addr}{o : HO}{t' : Nat}(I : Inv X pins σ H s)(hf : ∀ b ∈ fp,FpOk X pins H b)(k : ∀ b o,b ∉ fp -> s.heap.get? b = some o -> h'.get? b = some o)(hT : s.heap.objs.size <= T)
    (new : ObjOk X.prog X.w (upd H T o) h' T o) : Inv X pins σ (upd H T o) { s with heap := h',toks := t' } := by
  have hn : H T = none := I.hok.fresh hT
  have ne : ∀ b u,s.heap.get? b = some u -> b ≠ T := fun b u e z => absurd (Heap.lt_size e) (by rw [z]; exact Nat.not_lt.mpr hT)
  have nfp : ∀ b u,H b = some u -> b ∉ fp := fun b u e hb => by rw [(hf b hb).1] at e; cases e
  refine I.step (g' := s.gens) (d' := s.drawn) (ch := fp) (fun b hb => ?_) (fun b o _ _ hc e _ => k b o hc e) (fun b o _ _ hc e _ => ⟨o.slots,k b o hc e⟩) (fun b u _ e n => by rw [upd_ne (ne b u e)]; exact n)
    (fun b o hc e => ⟨o,k b o hc e⟩) (fun b xs e => by rw [upd_ne (ne_of_none e hn)]; exact e) (fun b o u e => by rw [upd_ne (ne_of_none e hn)]; exact e) (fun b ps e => ⟨#[],by rw [upd_ne (ne_of_none e hn),e]; simp⟩) (fun m hm => ?_) (fun b u e => ?_) I.bare
  · obtain ⟨_,f1,_,f3,f4,f5⟩ := hf b hb
    exact ⟨f3,f1,f4,f5⟩
  · obtain ⟨o,es,ep,ho,r⟩ := hm
    exact ⟨o,es,ep,k _ o (fun hb => (hf _ hb).2.1 rfl) ho,r⟩
  · by_cases hb : b = T
    · subst hb
      rw [upd_same] at e
      cases e
      exact new
    · rw [upd_ne hb] at e
      refine (I.hok b u e).stay (fun c v hc q => k c v ?_ q) (fun c q => by rw [upd_ne (ne_of_none q hn)]; exact q) fun c xs q => by rw [upd_ne (ne_of_none q hn)]; exact q
      rcases hc with z | z
      · rw [z]; exact nfp b u e
      · exact nfp c _ z
theorem Inv.turnedL {fp : List Addr}{t' : Nat}(I : Inv X pins σ H s)(hf : ∀ b ∈ fp,FpOk X pins H b)(k : ∀ b o,b ∉ fp -> s.heap.get? b = some o -> h'.get? b = some o) : Inv X pins σ H { s with heap := h',toks := t' } := by
  have nfp : ∀ b u,H b = some u -> b ∉ fp := fun b u e hb => by rw [(hf b hb).1] at e; cases e
  refine I.step (g' := s.gens) (d' := s.drawn) (ch := fp) (fun b hb => ?_) (fun b o _ _ hc e _ => k b o hc e) (fun b o _ _ hc e _ => ⟨o.slots,k b o hc e⟩) (fun b u _ e n => n)
    (fun b o hc e => ⟨o,k b o hc e⟩) (fun b xs e => e) (fun b o u e => e) (fun b ps e => ⟨#[],by rw [e]; simp⟩) (fun m hm => ?_) (fun b u e => ?_) I.bare
  · obtain ⟨_,f1,_,f3,f4,f5⟩ := hf b hb
    exact ⟨f3,f1,f4,f5⟩
  · obtain ⟨o,es,ep,ho,r⟩ := hm
    exact ⟨o,es,ep,k _ o (fun hb => (hf _ hb).2.1 rfl) ho,r⟩
  · refine (I.hok b u e).stay (fun c v hc q => k c v ?_ q) (fun c q => q) fun c xs q => q
    rcases hc with z | z
    · rw [z]; exact nfp b u e
    · exact nfp c _ z
def SqX (K : PySem.W.Frag)(b : Bool)(H : Hp)(a : Addr)(xs : List V) : Prop := match b with | false => SqL K H a xs | true => SqT K H a xs
theorem Inv.seqX {b : Bool}{a : Addr}{xs : List V}(I : Inv X pins σ H s)(h : SqX X.K b H a xs) : ∃ its : List Value,Vals xs its /\ SeqAt b s.heap a its.toArray /\ xs.length <= sizeLine := by
  cases b with
  | false => obtain ⟨its,r,p,z⟩ := I.list h; exact ⟨its,r,p.isList,z⟩
  | true => obtain ⟨its,r,p,z⟩ := I.tuple h; exact ⟨its,r,p,z⟩
theorem Inv.seqX_inj {b : Bool}{a : Addr}{xs ys : List V}(I : Inv X pins σ H s)(h : SqX X.K b H a xs)(h' : SqX X.K b H a ys) : xs = ys := by
  cases b with
  | false => exact I.list_inj h h'
  | true => exact I.tuple_inj h h'
theorem Inv.seqX_ne {b : Bool}{a : Addr}{xs : List V}{c : Addr}(I : Inv X pins σ H s)(h : SqX X.K b H a xs)(f : FpOk X pins H c) : a ≠ c := by
  intro e
  subst e
  have base : ∀ {o : Obj},X.base.get? a = some o -> False := fun {o} q => by
    rcases f.2.2.2.1 with z | z
    · exact I.ok.noex a o q z
    · exact absurd (Heap.lt_size (I.ok.bs a o q).1) (Nat.not_lt.mpr z)
  cases b with
  | false =>
    rcases h with (h | ⟨o,h⟩) | ⟨o,_,_,h,_⟩
    · rw [f.1] at h; cases h
    · rw [f.1] at h; cases h
    · exact base (I.ok.mod.kin _ _ h)
  | true =>
    rcases h with (h | ⟨o,h⟩) | ⟨o,_,_,h,_⟩
    · rw [f.1] at h; cases h
    · rw [f.1] at h; cases h
    · exact base (I.ok.mod.kin _ _ h)
end
section
variable {prog : Program}{w : World}{A : Around}{E : Value -> Shared -> Prop}{s : Shared}
structure ZAp2 (z TI TO i1 i2 l1 l2 : Addr) : Prop where
  z_TI : z ≠ TI
  z_TO : z ≠ TO
  z_i1 : z ≠ i1
  z_i2 : z ≠ i2
  TI_z : TI ≠ z
  TI_TO : TI ≠ TO
  TI_i1 : TI ≠ i1
  TI_i2 : TI ≠ i2
  TO_z : TO ≠ z
  TO_TI : TO ≠ TI
  TO_i1 : TO ≠ i1
  TO_i2 : TO ≠ i2
  i1_z : i1 ≠ z
  i1_TI : i1 ≠ TI
  i1_TO : i1 ≠ TO
  i1_i2 : i1 ≠ i2
  i2_z : i2 ≠ z
  i2_TI : i2 ≠ TI
  i2_TO : i2 ≠ TO
  i2_i1 : i2 ≠ i1
  l1_z : l1 ≠ z
  l1_TI : l1 ≠ TI
  l1_TO : l1 ≠ TO
  l1_i1 : l1 ≠ i1
  l1_i2 : l1 ≠ i2
  l2_z : l2 ≠ z
  l2_TI : l2 ≠ TI
  l2_TO : l2 ≠ TO
  l2_i1 : l2 ≠ i1
  l2_i2 : l2 ≠ i2
theorem zip2_item {b1 b2 : Bool}{z TI TO i1 i2 l1 l2 : Addr}{k : Nat}{xs1 xs2 : Array Value}{x1 x2 a1 a2 : Value}{Q : Value -> Shared -> Prop}(D : ZAp2 z TI TO i1 i2 l1 l2)(hz : IsZip s.heap z TI TO .none)(hI : TupAt s.heap TI #[.ref i1,.ref i2])(hO : TupAt s.heap TO #[a1,a2])(d1 : ItAt b1 s.heap i1 l1 k)(g1 : SeqAt b1 s.heap l1 xs1)(d2 : ItAt b2 s.heap i2 l2 k)(g2 : SeqAt b2 s.heap l2 xs2)
    (e1 : xs1[k]? = some x1) (e2 : xs2[k]? = some x2)
    (q : ∀ h',IsZip h' z TI TO (rawInt s.heap.objs.size) -> TupAt h' TO #[x1,x2] -> ItAt b1 h' i1 l1 (k + 1) -> ItAt b2 h' i2 l2 (k + 1) -> TupAt h' s.heap.objs.size #[x1,x2] -> (∀ c o,c ≠ z -> c ≠ TO -> c ≠ i1 -> c ≠ i2 -> s.heap.get? c = some o -> h'.get? c = some o) -> Q (.ref s.heap.objs.size) { s with heap := h' }) :
    wpAny (model prog w) A (Builtin.«zip.__next__» ⟨[.ref z],[]⟩) (fun fin s' => ∃ v,fin = .done (.ret v) /\ Q v s') E s := by
  show wpAny _ _ (field (.ref z) 2 >>= _) _ _ _; refine wpAny_bind (wpAny_field hz rfl (x := .bool false) rfl ?_)
  show wpAny _ _ (field (.ref z) 3 >>= _) _ _ _; refine wpAny_bind (wpAny_field hz rfl (x := .ref TI) rfl ?_)
  refine wpAny_bind (wpAny_seqItems hI rfl ?_)
  show wpAny _ _ (Builtin.SmallTypes.ownedTupleIsFree (.ref z) >>= _) _ _ _; refine wpAny_bind ?_; unfold Builtin.SmallTypes.ownedTupleIsFree
  refine wpAny_bind (wpAny_field hz rfl (x := .none) rfl (wpAny_pure ?_)); simp only [if_true]; refine wpAny_bind (wpAny_rule ?_)
  refine wpAny_bind (wpAny_field hz rfl (x := .ref TO) rfl ?_); refine wpAny_bind (wpAny_setField_rec hz (by simp) fun p0 z0 m0 => ?_)
  replace z0 : IsZip p0 z TI TO .ellipsis := z0
  have y0 : TupAt p0 TO #[a1,a2] := m0.extBut _ _ D.TO_z hO
  have w0 : ∀ c o,c ≠ z -> c ≠ TO -> c ≠ i1 -> c ≠ i2 -> s.heap.get? c = some o -> p0.get? c = some o := fun c o c1 _ _ _ e => m0.extBut _ _ c1 e
  have r0 : p0.objs.size = s.heap.objs.size := m0.1
  have d1_0 : ItAt b1 p0 i1 l1 k := d1.at fun o e => m0.extBut _ _ D.i1_z e
  have g1_0 : SeqAt b1 p0 l1 xs1 := g1.at fun o e => m0.extBut _ _ D.l1_z e
  have d2_0 : ItAt b2 p0 i2 l2 k := d2.at fun o e => m0.extBut _ _ D.i2_z e
  have g2_0 : SeqAt b2 p0 l2 xs2 := g2.at fun o e => m0.extBut _ _ D.l2_z e
  refine wpAny_bind ?_; simp only [List.zipIdx_cons,List.zipIdx_nil,List.forIn_cons,List.forIn_nil]
  refine wpAny_bind (wpAny_bind (wpAny_onRaise ?_)); show wpAny _ _ (Builtin.SmallTypes.nextOf (.ref i1) >>= _) _ _ _
  refine wpAny_bind (src_item d1_0 g1_0 e1 fun u1 t1 n1 => wpAny_pure ?_)
  have v1 : TupAt u1 TO #[a1,a2] := n1.extBut _ _ D.TO_i1 y0
  refine wpAny_bind (wpAny_seqItems v1 rfl ?_); refine wpAny_bind (upd_tupAt (Nat.le_of_ble_eq_true rfl) v1 fun p1 y1 m1 => ?_)
  replace y1 : TupAt p1 TO #[x1,a2] := y1
  have z1 : IsZip p1 z TI TO .ellipsis := m1.extBut _ _ D.z_TO (n1.extBut _ _ D.z_i1 z0)
  have w1 : ∀ c o,c ≠ z -> c ≠ TO -> c ≠ i1 -> c ≠ i2 -> s.heap.get? c = some o -> p1.get? c = some o := fun c o c1 c2 c3 c4 e => m1.extBut _ _ c2 (n1.extBut _ _ c3 (w0 c o c1 c2 c3 c4 e))
  have r1 : p1.objs.size = s.heap.objs.size := by rw [m1.1,n1.1]; exact r0
  have d1_1 : ItAt b1 p1 i1 l1 (k + 1) := t1.at fun o e => m1.extBut _ _ D.i1_TO e
  have d2_1 : ItAt b2 p1 i2 l2 k := (d2_0.at fun o e => n1.extBut _ _ D.i2_i1 e).at fun o e => m1.extBut _ _ D.i2_TO e
  have g2_1 : SeqAt b2 p1 l2 xs2 := (g2_0.at fun o e => n1.extBut _ _ D.l2_i1 e).at fun o e => m1.extBut _ _ D.l2_TO e
  refine wpAny_bind (wpAny_letGo (wpAny_pure ?_))
  refine wpAny_bind (wpAny_bind (wpAny_onRaise ?_)); show wpAny _ _ (Builtin.SmallTypes.nextOf (.ref i2) >>= _) _ _ _
  refine wpAny_bind (src_item d2_1 g2_1 e2 fun u2 t2 n2 => wpAny_pure ?_)
  have v2 : TupAt u2 TO #[x1,a2] := n2.extBut _ _ D.TO_i2 y1
  refine wpAny_bind (wpAny_seqItems v2 rfl ?_); refine wpAny_bind (upd_tupAt (Nat.le_of_ble_eq_true rfl) v2 fun p2 y2 m2 => ?_)
  replace y2 : TupAt p2 TO #[x1,x2] := y2
  have z2 : IsZip p2 z TI TO .ellipsis := m2.extBut _ _ D.z_TO (n2.extBut _ _ D.z_i2 z1)
  have w2 : ∀ c o,c ≠ z -> c ≠ TO -> c ≠ i1 -> c ≠ i2 -> s.heap.get? c = some o -> p2.get? c = some o := fun c o c1 c2 c3 c4 e => m2.extBut _ _ c2 (n2.extBut _ _ c4 (w1 c o c1 c2 c3 c4 e))
  have r2 : p2.objs.size = s.heap.objs.size := by rw [m2.1,n2.1]; exact r1
  have d1_2 : ItAt b1 p2 i1 l1 (k + 1) := (d1_1.at fun o e => n2.extBut _ _ D.i1_i2 e).at fun o e => m2.extBut _ _ D.i1_TO e
  have d2_2 : ItAt b2 p2 i2 l2 (k + 1) := t2.at fun o e => m2.extBut _ _ D.i2_TO e
  refine wpAny_bind (wpAny_letGo (wpAny_pure (wpAny_pure ?_)))
  refine wpAny_bind (wpAny_seqItems y2 rfl ?_); refine wpAny_bind (wpAny_newTuple ?_)
  have zl : z < p2.objs.size := Heap.lt_size z2
  show wpAny _ _ (Builtin.SmallTypes.ownedTupleHandOut (.ref z) (.ref p2.objs.size) >>= _) _ _ _; refine wpAny_bind ?_; unfold Builtin.SmallTypes.ownedTupleHandOut
  have za : IsZip (p2.push { cls := .type "tuple",data := .seq #[x1,x2] }) z TI TO .ellipsis := Heap.get?_push_of_some _ z2
  refine wpAny_bind (wpAny_setField_rec za (by simp) fun pa zb ma => ?_)
  replace zb : IsZip pa z TI TO (rawInt p2.objs.size) := zb
  refine wpAny_setField_rec zb (by simp) fun pb zc mb => ?_
  replace zc : IsZip pb z TI TO (rawInt p2.objs.size) := zc
  have up : ∀ c o,c ≠ z -> p2.get? c = some o -> pb.get? c = some o := fun c o c1 e => mb.extBut _ _ c1 (ma.extBut _ _ c1 (Heap.get?_push_of_some _ e))
  have tt : TupAt pb p2.objs.size #[x1,x2] := mb.extBut _ _ (Nat.ne_of_gt zl) (ma.extBut _ _ (Nat.ne_of_gt zl) (Heap.get?_push_size _ rfl))
  rw [r2] at zc tt
  refine wpAny_pure ⟨_,rfl,?_⟩
  show Q (.ref p2.objs.size) _
  rw [r2]
  exact q pb zc (up _ _ D.TO_z y2) (d1_2.at fun o e => up _ o D.i1_z e) (d2_2.at fun o e => up _ o D.i2_z e) tt fun c o c1 c2 c3 c4 e => up c o c1 (w2 c o c1 c2 c3 c4 e)
theorem zip2_end {b1 b2 : Bool}{z TI TO i1 i2 l1 l2 : Addr}{k : Nat}{xs1 xs2 : Array Value}{a1 a2 : Value}{Q : Fin -> Shared -> Prop}(hh : A.handled = none)(D : ZAp2 z TI TO i1 i2 l1 l2)(hz : IsZip s.heap z TI TO .none)(hI : TupAt s.heap TI #[.ref i1,.ref i2])(hO : TupAt s.heap TO #[a1,a2])(d1 : ItAt b1 s.heap i1 l1 k)(g1 : SeqAt b1 s.heap l1 xs1)(d2 : ItAt b2 s.heap i2 l2 k)(g2 : SeqAt b2 s.heap l2 xs2)
    (e1 : xs1[k]? = none) (q : ∀ h' e,(∀ c o,c ≠ z -> c ≠ TO -> c ≠ i1 -> c ≠ i2 -> s.heap.get? c = some o -> h'.get? c = some o) -> (∃ o,h'.get? e = some o /\ o.cls = .type "StopIteration") -> E (.ref e) { s with heap := h' }) :
    wpAny (model prog w) A (Builtin.«zip.__next__» ⟨[.ref z],[]⟩) Q E s := by
  show wpAny _ _ (field (.ref z) 2 >>= _) _ _ _; refine wpAny_bind (wpAny_field hz rfl (x := .bool false) rfl ?_)
  show wpAny _ _ (field (.ref z) 3 >>= _) _ _ _; refine wpAny_bind (wpAny_field hz rfl (x := .ref TI) rfl ?_)
  refine wpAny_bind (wpAny_seqItems hI rfl ?_)
  show wpAny _ _ (Builtin.SmallTypes.ownedTupleIsFree (.ref z) >>= _) _ _ _; refine wpAny_bind ?_; unfold Builtin.SmallTypes.ownedTupleIsFree
  refine wpAny_bind (wpAny_field hz rfl (x := .none) rfl (wpAny_pure ?_)); simp only [if_true]; refine wpAny_bind (wpAny_rule ?_)
  refine wpAny_bind (wpAny_field hz rfl (x := .ref TO) rfl ?_); refine wpAny_bind (wpAny_setField_rec hz (by simp) fun p0 z0 m0 => ?_)
  replace z0 : IsZip p0 z TI TO .ellipsis := z0
  have y0 : TupAt p0 TO #[a1,a2] := m0.extBut _ _ D.TO_z hO
  have w0 : ∀ c o,c ≠ z -> c ≠ TO -> c ≠ i1 -> c ≠ i2 -> s.heap.get? c = some o -> p0.get? c = some o := fun c o c1 _ _ _ e => m0.extBut _ _ c1 e
  have r0 : p0.objs.size = s.heap.objs.size := m0.1
  have d1_0 : ItAt b1 p0 i1 l1 k := d1.at fun o e => m0.extBut _ _ D.i1_z e
  have g1_0 : SeqAt b1 p0 l1 xs1 := g1.at fun o e => m0.extBut _ _ D.l1_z e
  have d2_0 : ItAt b2 p0 i2 l2 k := d2.at fun o e => m0.extBut _ _ D.i2_z e
  have g2_0 : SeqAt b2 p0 l2 xs2 := g2.at fun o e => m0.extBut _ _ D.l2_z e
  refine wpAny_bind ?_; simp only [List.zipIdx_cons,List.zipIdx_nil,List.forIn_cons,List.forIn_nil]
  refine wpAny_bind (wpAny_bind (wpAny_onRaise ?_)); show wpAny _ _ (Builtin.SmallTypes.nextOf (.ref i1) >>= _) _ _ _
  refine wpAny_bind (src_end hh d1_0 g1_0 e1 fun u1 e n1 he => ?_)
  obtain ⟨oe,f1,f2⟩ := he
  have z1 : IsZip u1 z TI TO .ellipsis := n1 _ _ D.z_i1 z0
  have ez : e ≠ z := fun x => by subst x; rw [z1] at f1; cases f1; simp at f2
  refine wpAny_setField_rec z1 (by simp) fun p1 _ m1 => q p1 e (fun c o c1 c2 c3 c4 x => m1.extBut _ _ c1 (n1 _ _ c3 (w0 c o c1 c2 c3 c4 x))) ⟨oe,m1.extBut _ _ ez f1,f2⟩
end
section
variable {prog : Program}{w : World}{A : Around}{E : Value -> Shared -> Prop}{s : Shared}
end
end L2
set_option Elab.async false
set_option linter.all false
set_option maxRecDepth 100000
set_option maxHeartbeats 4000000
namespace L2
open PySem PySem.Spec PyProof.Rows
section
variable {prog : Program}{w : World}{A : Around}{E : Value -> Shared -> Prop}{s : Shared}
def itObj (b : Bool)(l : Addr) : Obj := match b with
  | false => { cls := .type "list_iterator",data := .fields #[.ref l,.int 0 0] }
  | true => { cls := .type "tuple_iterator",data := .fields #[.ref l,.int 0 0] }
theorem itObj_at {b : Bool}{h : Heap}{u l : Addr}(e : h.get? u = some (itObj b l)) : ItAt b h u l 0 := by
  cases b with
  | false => exact ⟨_,e,rfl,rfl⟩
  | true => exact ⟨_,e,rfl,rfl⟩
theorem itObj_live (b : Bool)(l : Addr) : (itObj b l).isFreed = false := by cases b <;> rfl
theorem src_iter {b : Bool}{l : Addr}{xs : Array Value}{Q : Value -> Shared -> Prop}(a : SeqAt b s.heap l xs)(q : Q (.ref s.heap.objs.size) { s with heap := s.heap.push (itObj b l) }) : wpAny (model prog w) A (pyIter (.ref l)) Q E s := by
  cases b with
  | false => exact wpAny_pyIter_list a q
  | true => exact wpAny_pyIter_tuple a q
end
section
variable {prog : Program}{w : World}{A : Around}{E : Value -> Shared -> Prop}{s : Shared}
abbrev zH2 (b1 b2 : Bool)(l1 l2 : Addr)(s : Shared) : Heap := (((((s.heap.push (itObj b1 l1)).push (itObj b2 l2)).push { cls := .type "tuple",data := .seq #[.ref s.heap.objs.size,.ref (s.heap.objs.size + 1)] }).push { cls := .type "tuple",data := .seq #[.none,.none] }).push { cls := .type "zip",data := .fields #[.none,.bool false,.bool false,.ref (s.heap.objs.size + 2),.ref (s.heap.objs.size + 3)] })
theorem meets_zip2 (b1 b2 : Bool)(l1 l2 : Addr)(xs1 xs2 : Array Value) :
    Meets (Builtin.«zip.__new__» ⟨[.type "zip",.ref l1,.ref l2],[]⟩) (fun _ R s => SeqAt b1 s.heap l1 xs1 /\ SeqAt b2 s.heap l2 xs2 /\ R (.ok (.ret (.ref (s.heap.objs.size + 4)))) { s with heap := zH2 b1 b2 l1 l2 s }) :=
  .of_wp fun prog w A R s h => by
    obtain ⟨hp,g,d,tk,os⟩ := s; obtain ⟨k1,k2,h⟩ := h
    have hs := sub_zip
    have K1 : SeqAt b1 (Shared.heap ⟨hp,g,d,tk,os⟩) l1 xs1 := k1.at fun o e => e
    have K2 : SeqAt b2 (Shared.heap ⟨(hp.push (itObj b1 l1)),g,d,tk,os⟩) l2 xs2 := k2.at fun o e => Heap.get?_push_of_some _ (e)
    wp_walk using src_iter K1,src_iter K2
    simp only [Heap.size_push] at *
    exact ⟨_,rfl,h⟩
theorem call_zip2 {b1 b2 : Bool}{l1 l2 : Addr}{xs1 xs2 : Array Value}{Q : Value -> Shared -> Prop}(k1 : SeqAt b1 s.heap l1 xs1)(k2 : SeqAt b2 s.heap l2 xs2)
    (q : ∀ h',IsZip h' (s.heap.objs.size + 4) (s.heap.objs.size + 2) (s.heap.objs.size + 3) .none -> TupAt h' (s.heap.objs.size + 2) #[.ref s.heap.objs.size,.ref (s.heap.objs.size + 1)] -> TupAt h' (s.heap.objs.size + 3) #[.none,.none] -> ItAt b1 h' (s.heap.objs.size) l1 0 -> ItAt b2 h' (s.heap.objs.size + 1) l2 0 -> (∀ c o,s.heap.get? c = some o -> h'.get? c = some o) -> Q (.ref (s.heap.objs.size + 4)) { s with heap := h' }) :
    wpAny (model prog w) A (call (.type "zip") [.ref l1,.ref l2]) Q E s := by
  refine callType_new F.called_zip (by decide) (F.typeCall_zip_2 _ _) (F.newCall_zip_2 _ _) (fun obj => F.args_object_init_3 obj _ _) F.entry_zip_new (meets_zip2 b1 b2 l1 l2 xs1 xs2) ⟨k1,k2,?_⟩
  have z1 : (s.heap.push (itObj b1 l1)).objs.size = s.heap.objs.size + 1 := by exact Heap.size_push ..
  have z2 : ((s.heap.push (itObj b1 l1)).push (itObj b2 l2)).objs.size = s.heap.objs.size + 2 := by rw [Heap.size_push,z1]
  have z3 : (((s.heap.push (itObj b1 l1)).push (itObj b2 l2)).push { cls := .type "tuple",data := .seq #[.ref s.heap.objs.size,.ref (s.heap.objs.size + 1)] }).objs.size = s.heap.objs.size + 3 := by rw [Heap.size_push,z2]
  have z4 : ((((s.heap.push (itObj b1 l1)).push (itObj b2 l2)).push { cls := .type "tuple",data := .seq #[.ref s.heap.objs.size,.ref (s.heap.objs.size + 1)] }).push { cls := .type "tuple",data := .seq #[.none,.none] }).objs.size = s.heap.objs.size + 4 := by rw [Heap.size_push,z3]
  have g0 : (zH2 b1 b2 l1 l2 s).get? s.heap.objs.size = some _ := Heap.get?_push_of_some _ (Heap.get?_push_of_some _ (Heap.get?_push_of_some _ (Heap.get?_push_of_some _ (Heap.get?_push_size _ (itObj_live _ _)))))
  have g1 : (zH2 b1 b2 l1 l2 s).get? (s.heap.push (itObj b1 l1)).objs.size = some _ := Heap.get?_push_of_some _ (Heap.get?_push_of_some _ (Heap.get?_push_of_some _ (Heap.get?_push_size _ (itObj_live _ _))))
  rw [z1] at g1
  have g2 : (zH2 b1 b2 l1 l2 s).get? ((s.heap.push (itObj b1 l1)).push (itObj b2 l2)).objs.size = some _ := Heap.get?_push_of_some _ (Heap.get?_push_of_some _ (Heap.get?_push_size _ rfl))
  rw [z2] at g2
  have g3 : (zH2 b1 b2 l1 l2 s).get? (((s.heap.push (itObj b1 l1)).push (itObj b2 l2)).push { cls := .type "tuple",data := .seq #[.ref s.heap.objs.size,.ref (s.heap.objs.size + 1)] }).objs.size = some _ := Heap.get?_push_of_some _ (Heap.get?_push_size _ rfl)
  rw [z3] at g3
  have g4 : (zH2 b1 b2 l1 l2 s).get? ((((s.heap.push (itObj b1 l1)).push (itObj b2 l2)).push { cls := .type "tuple",data := .seq #[.ref s.heap.objs.size,.ref (s.heap.objs.size + 1)] }).push { cls := .type "tuple",data := .seq #[.none,.none] }).objs.size = some _ := Heap.get?_push_size _ rfl
  rw [z4] at g4
  exact ⟨⟨_,g4,rfl⟩,q _ g4 g2 g3 (itObj_at g0) (itObj_at g1) fun c o x => Heap.get?_push_of_some _ (Heap.get?_push_of_some _ (Heap.get?_push_of_some _ (Heap.get?_push_of_some _ (Heap.get?_push_of_some _ x))))⟩
end
def Itz2 (K : PySem.W.Frag)(b1 b2 : Bool)(l1 l2 : Addr) : It :=
  ⟨fun i H => ∃ ys1 ys2 y1 y2,SqX K b1 H l1 ys1 /\ ys1[i]? = some y1 /\ SqX K b2 H l2 ys2 /\ ys2[i]? = some y2,
   fun i H v H' => ∃ t y1 y2,v = .ref t /\ H t = none /\ H' = upd H t (.tup [y1,y2]) /\ (∀ ys,SqX K b1 H l1 ys -> ys[i]? = some y1) /\ (∀ ys,SqX K b2 H l2 ys -> ys[i]? = some y2),
   fun i H => (∃ ys,SqX K b1 H l1 ys /\ ys.length <= i) /\ (∃ ys,SqX K b2 H l2 ys)⟩
structure ZFp2 (z TI TO i1 i2 : Addr) : Prop where
  z_TI : z ≠ TI
  z_TO : z ≠ TO
  z_i1 : z ≠ i1
  z_i2 : z ≠ i2
  TI_z : TI ≠ z
  TI_TO : TI ≠ TO
  TI_i1 : TI ≠ i1
  TI_i2 : TI ≠ i2
  TO_z : TO ≠ z
  TO_TI : TO ≠ TI
  TO_i1 : TO ≠ i1
  TO_i2 : TO ≠ i2
  i1_z : i1 ≠ z
  i1_TI : i1 ≠ TI
  i1_TO : i1 ≠ TO
  i1_i2 : i1 ≠ i2
  i2_z : i2 ≠ z
  i2_TI : i2 ≠ TI
  i2_TO : i2 ≠ TO
  i2_i1 : i2 ≠ i1
def ZTn2 (b1 b2 : Bool)(z TI TO i1 i2 l1 l2 : Addr)(i : Nat)(h : Heap) : Prop := IsZip h z TI TO .none /\ TupAt h TI #[.ref i1,.ref i2] /\ (∃ a1 a2,TupAt h TO #[a1,a2]) /\ ItAt b1 h i1 l1 i /\ ItAt b2 h i2 l2 i
theorem turn_zip2 {P : Program}{w : World}{K : PySem.W.Frag}{elts : List Expr}{c1}{tpos : Pos}{b1 b2 : Bool}{z TI TO i1 i2 l1 l2 : Addr}(Z : ZFp2 z TI TO i1 i2) : Turn P w K (.Tuple elts c1 tpos) (Itz2 K b1 b2 l1 l2) [z,TI,TO,i1,i2] z (ZTn2 b1 b2 z TI TO i1 i2 l1 l2) where
  mem := by simp
  obj := fun i h st b hb => by
    obtain ⟨s1,s2,⟨a1,a2,s3⟩,d1,d2⟩ := st
    simp only [List.mem_cons,List.not_mem_nil,or_false] at hb
    rcases hb with rfl | rfl | rfl | rfl | rfl
    · exact ⟨_,s1,fun v q => by cases q⟩
    · exact ⟨_,s2,fun v q => by cases q⟩
    · exact ⟨_,s3,fun v q => by cases q⟩
    · exact d1.obj
    · exact d2.obj
  keep := fun i h h' st k => by
    obtain ⟨s1,s2,⟨a1,a2,s3⟩,d1,d2⟩ := st
    exact ⟨k z (by simp) _ s1,k TI (by simp) _ s2,⟨a1,a2,k TO (by simp) _ s3⟩,d1.at fun o e => k i1 (by simp) o e,d2.at fun o e => k i2 (by simp) o e⟩
  item := by
    intro X hP hw hK hc i pins s σ H E I hf st hg
    subst hP hw hK
    obtain ⟨ys1,ys2,y1,y2,h1,q1,h2,q2⟩ := hg
    obtain ⟨s1,s2,⟨a1,a2,s3⟩,d1,d2⟩ := st
    obtain ⟨v1,r1,p1,_⟩ := I.seqX h1
    obtain ⟨u1,m1,t1⟩ := r1.get q1
    obtain ⟨v2,r2,p2,_⟩ := I.seqX h2
    obtain ⟨u2,m2,t2⟩ := r2.get q2
    have D : ZAp2 z TI TO i1 i2 l1 l2 := { z_TI := Z.z_TI,z_TO := Z.z_TO,z_i1 := Z.z_i1,z_i2 := Z.z_i2,TI_z := Z.TI_z,TI_TO := Z.TI_TO,TI_i1 := Z.TI_i1,TI_i2 := Z.TI_i2,TO_z := Z.TO_z,TO_TI := Z.TO_TI,TO_i1 := Z.TO_i1,TO_i2 := Z.TO_i2,i1_z := Z.i1_z,i1_TI := Z.i1_TI,i1_TO := Z.i1_TO,i1_i2 := Z.i1_i2,i2_z := Z.i2_z,i2_TI := Z.i2_TI,i2_TO := Z.i2_TO,i2_i1 := Z.i2_i1,l1_z := I.seqX_ne h1 (hf z (by simp)),l1_TI := I.seqX_ne h1 (hf TI (by simp)),l1_TO := I.seqX_ne h1 (hf TO (by simp)),l1_i1 := I.seqX_ne h1 (hf i1 (by simp)),l1_i2 := I.seqX_ne h1 (hf i2 (by simp)),l2_z := I.seqX_ne h2 (hf z (by simp)),l2_TI := I.seqX_ne h2 (hf TI (by simp)),l2_TO := I.seqX_ne h2 (hf TO (by simp)),l2_i1 := I.seqX_ne h2 (hf i1 (by simp)),l2_i2 := I.seqX_ne h2 (hf i2 (by simp)) }
    have hT : s.TypeIs (.ref z) "zip" := ⟨_,s1,rfl⟩
    have szn : ∀ b ∈ [z,TI,TO,i1,i2],b ≠ s.heap.objs.size := fun b hb e => by
      simp only [List.mem_cons,List.not_mem_nil,or_false] at hb
      rcases hb with rfl | rfl | rfl | rfl | rfl
      · exact Nat.lt_irrefl _ (e ▸ Heap.lt_size s1)
      · exact Nat.lt_irrefl _ (e ▸ Heap.lt_size s2)
      · exact Nat.lt_irrefl _ (e ▸ Heap.lt_size s3)
      · obtain ⟨_,w1,_⟩ := d1.obj; exact Nat.lt_irrefl _ (e ▸ Heap.lt_size w1)
      · obtain ⟨_,w1,_⟩ := d2.obj; exact Nat.lt_irrefl _ (e ▸ Heap.lt_size w1)
    unfold pyNext
    refine wpAny_bind (wpAny_attempt (wpAny_callSpecial?_slot (name := Str.ofString "__next__") hT F.slot_zip_next (wpAny_call_entry F.slot_zip_next hT F.entry_zip_next (zip2_item D s1 s2 s3 d1 p1 d2 p2 (x1 := u1) (by simpa using m1) (x2 := u2) (by simpa using m2) fun h' e1 e2 f1 f2 e3 kp => wpAny_pure ?_) (F.args_zip_next_1 _))))
    refine ⟨_,rfl,wpAny_letOwnedTupleGo_zip (s := { s with heap := h' }) e1 fun hq e4 sb => ?_⟩
    have up : ∀ b o,b ≠ z -> h'.get? b = some o -> hq.get? b = some o := fun b o hb e => sb.extBut _ _ hb e
    have I2 : Inv X pins σ (upd H s.heap.objs.size (.tup [y1,y2])) { s with heap := hq } := I.zipped (t' := s.toks) (fp := [z,TI,TO,i1,i2]) hf (fun b o hb e => up b o (fun x => hb (by simp [x])) (kp b o (fun x => hb (by simp [x])) (fun x => hb (by simp [x])) (fun x => hb (by simp [x])) (fun x => hb (by simp [x])) e)) (Nat.le_refl _)
      ⟨Nat.le_trans (Nat.le_of_ble_eq_true rfl) le1000,[u1,u2],.cons t1 (.cons t2 (.nil)),⟨_,up _ _ (Ne.symm (szn z (by simp))) e3,rfl,_,rfl⟩⟩
    refine ⟨.ref s.heap.objs.size,_,I2,rfl,⟨_,y1,y2,rfl,I.hok.fresh (Nat.le_refl _),rfl,fun ys hy => by rw [I.seqX_inj hy h1]; exact q1,fun ys hy => by rw [I.seqX_inj hy h2]; exact q2⟩,⟨e4,up _ _ D.TI_z (kp _ _ D.TI_z D.TI_TO D.TI_i1 D.TI_i2 s2),⟨_,_,up _ _ D.TO_z e2⟩,f1.at fun o e => up _ o D.i1_z e,f2.at fun o e => up _ o D.i2_z e⟩,fun b hb => ?_⟩
    rw [upd_ne (szn b hb)]
    exact (hf b hb).1
  done := by
    intro X hP hw hK hc i pins s σ H E I hf st hg
    subst hP hw hK
    obtain ⟨⟨ys1,h1,q1⟩,⟨ys2,h2⟩⟩ := hg
    obtain ⟨s1,s2,⟨a1,a2,s3⟩,d1,d2⟩ := st
    obtain ⟨v1,r1,p1,_⟩ := I.seqX h1
    obtain ⟨v2,r2,p2,_⟩ := I.seqX h2
    have D : ZAp2 z TI TO i1 i2 l1 l2 := { z_TI := Z.z_TI,z_TO := Z.z_TO,z_i1 := Z.z_i1,z_i2 := Z.z_i2,TI_z := Z.TI_z,TI_TO := Z.TI_TO,TI_i1 := Z.TI_i1,TI_i2 := Z.TI_i2,TO_z := Z.TO_z,TO_TI := Z.TO_TI,TO_i1 := Z.TO_i1,TO_i2 := Z.TO_i2,i1_z := Z.i1_z,i1_TI := Z.i1_TI,i1_TO := Z.i1_TO,i1_i2 := Z.i1_i2,i2_z := Z.i2_z,i2_TI := Z.i2_TI,i2_TO := Z.i2_TO,i2_i1 := Z.i2_i1,l1_z := I.seqX_ne h1 (hf z (by simp)),l1_TI := I.seqX_ne h1 (hf TI (by simp)),l1_TO := I.seqX_ne h1 (hf TO (by simp)),l1_i1 := I.seqX_ne h1 (hf i1 (by simp)),l1_i2 := I.seqX_ne h1 (hf i2 (by simp)),l2_z := I.seqX_ne h2 (hf z (by simp)),l2_TI := I.seqX_ne h2 (hf TI (by simp)),l2_TO := I.seqX_ne h2 (hf TO (by simp)),l2_i1 := I.seqX_ne h2 (hf i1 (by simp)),l2_i2 := I.seqX_ne h2 (hf i2 (by simp)) }
    have hT : s.TypeIs (.ref z) "zip" := ⟨_,s1,rfl⟩
    have hl := r1.length
    unfold pyNext
    refine wpAny_bind (wpAny_attempt (wpAny_callSpecial?_slot (name := Str.ofString "__next__") hT F.slot_zip_next (wpAny_call_entry F.slot_zip_next hT F.entry_zip_next (zip2_end (I.ok.hd hc) D s1 s2 s3 d1 p1 d2 p2 (by simp; omega) fun h' e kp he => ?_) (F.args_zip_next_1 _))))
    obtain ⟨oe,f1,f2⟩ := he
    refine wpAny_bind (wpAny_isInstance (T := "StopIteration") (b := true) ⟨oe,f1,f2⟩ isSubtype_stop (wpAny_pure ⟨rfl,?_⟩))
    exact I.turnedL (t' := s.toks) (fp := [z,TI,TO,i1,i2]) hf fun b o hb e => kp b o (fun x => hb (by simp [x])) (fun x => hb (by simp [x])) (fun x => hb (by simp [x])) (fun x => hb (by simp [x])) e
  self := fun _ _ _ _ _ st h => wpAny_pyIter_zip st.1 h
section
variable {prog : Program}{w : World}{A : Around}{E : Value -> Shared -> Prop}{s : Shared}
end
end L2
set_option Elab.async false
set_option linter.all false
set_option maxRecDepth 100000
set_option maxHeartbeats 4000000
namespace L2
open PySem PySem.Spec PyProof.Rows
def iZip2 (K : PySem.W.Frag)(b1 b2 : Bool)(ta : TA) : TI := fun σ H R => ta σ H fun vs H1 => ∃ l1 l2,vs = [.ref l1,.ref l2] /\ (∃ ys,SqX K b1 H1 l1 ys) /\ (∃ ys,SqX K b2 H1 l2 ys) /\ R (Itz2 K b1 b2 l1 l2) H1
theorem pi_zip2 {X : Cx}{elts : List Expr}{c1}{tpos : Pos}(K : PySem.W.Frag)(hK : X.K = K)(b1 b2 : Bool){e1 e2 : Expr}{ta : TA}{p pos : Pos}(hg : Gl X "zip") (hm : X.mg "zip" = none) (ha : PA X [e1,e2] ta)
    (hs : starEach [e1,e2] X.env = [(false,eval e1 X.env),(false,eval e2 X.env)] := by rfl) (hs2 : starEach [e2] X.env = [(false,eval e2 X.env)] := by rfl) :
    PI X (.Tuple elts c1 tpos) (.Call (.Name "zip" p) [e1,e2] [] pos) (iZip2 K b1 b2 ta) := by
  subst hK
  intro pins s σ H R I h
  refine Call_ (ld_blt I hg hm bt_zip (PyProof.Rows.callWith_type1 (thn (ha pos pins s σ H _ I h) fun us s1 ⟨vs,H1,I1,r1,q1⟩ => ?_) (by rw [hs,hs2]) (by rw [hs2]; rfl)))
  obtain ⟨l1,l2,e,⟨ys1,h1⟩,⟨ys2,h2⟩,q⟩ := q1
  subst e
  obtain ⟨u1,u2,rfl,t1,t2⟩ := vals2 r1
  cases t1
  cases t2
  obtain ⟨v1,r1,p1,_⟩ := I1.seqX h1
  obtain ⟨v2,r2,p2,_⟩ := I1.seqX h2
  refine call_zip2 p1 p2 fun h' f1 f2 f3 g1 g2 kp => ?_
  refine wpAny_pyIter_zip (s := { s1 with heap := h' }) f1 ?_
  refine ⟨s1.heap.objs.size + 4,[s1.heap.objs.size + 4,s1.heap.objs.size + 2,s1.heap.objs.size + 3,s1.heap.objs.size,s1.heap.objs.size + 1],_,_,H1,rfl,I1.kept (t' := s1.toks) kp,turn_zip2 (b1 := b1) (TI := s1.heap.objs.size + 2) (TO := s1.heap.objs.size + 3) (i1 := s1.heap.objs.size) (i2 := s1.heap.objs.size + 1) (l1 := l1) (l2 := l2) ⟨by show (_ : Nat) ≠ _; omega,by show (_ : Nat) ≠ _; omega,by show (_ : Nat) ≠ _; omega,by show (_ : Nat) ≠ _; omega,by show (_ : Nat) ≠ _; omega,by show (_ : Nat) ≠ _; omega,by show (_ : Nat) ≠ _; omega,by show (_ : Nat) ≠ _; omega,by show (_ : Nat) ≠ _; omega,by show (_ : Nat) ≠ _; omega,by show (_ : Nat) ≠ _; omega,by show (_ : Nat) ≠ _; omega,by show (_ : Nat) ≠ _; omega,by show (_ : Nat) ≠ _; omega,by show (_ : Nat) ≠ _; omega,by show (_ : Nat) ≠ _; omega,by show (_ : Nat) ≠ _; omega,by show (_ : Nat) ≠ _; omega,by show (_ : Nat) ≠ _; omega,by show (_ : Nat) ≠ _; omega⟩,⟨f1,f2,⟨_,_,f3⟩,g1,g2⟩,fun b hb => ?_,q⟩
  have hge : s1.heap.objs.size <= b := by
    simp only [List.mem_cons,List.not_mem_nil,or_false] at hb
    rcases hb with rfl | rfl | rfl | rfl | rfl <;> first | exact Nat.le_refl _ | exact Nat.le_add_right _ _
  exact I1.fpOk hge (I1.hok.fresh hge)
end L2
set_option Elab.async false
set_option linter.all false
set_option maxRecDepth 100000
set_option maxHeartbeats 4000000
namespace L2
open PySem PySem.Spec PyProof.Rows
section
variable {X : Cx}
theorem pa_ints : ∀ cs : List (Int × Nat × Pos),PA X (cs.map fun c => .Constant (.int c.1) c.2.1 c.2.2) (fun σ H Q => Q (cs.map fun c => V.int c.1) H)
  | [] => pa_nil
  | c :: cs => by
    intro pos pins s σ H Q I h
    exact pa_cons (e := .Constant (.int c.1) c.2.1 c.2.2) pe_int (pa_ints cs) (by rfl) pos pins s σ H Q I h
theorem pe_tupInts {es : List Expr}{x1}{pos : Pos}(cs : List (Int × Nat × Pos))(h : es = cs.map fun c => .Constant (.int c.1) c.2.1 c.2.2) : PE X (.Tuple es x1 pos) (tTup fun σ H Q => Q (cs.map fun c => V.int c.1) H) := by
  subst h
  exact pe_tup (pa_ints cs)
theorem pss_says {sts0 : List Stmt}{t : TS}(h : PSs X sts0 t) : ∀ {sts : List Stmt},PSs X sts (fun D σ H => sts = sts0 /\ t D σ H) := by
  intro sts pins s σ H D I q
  obtain ⟨e,q⟩ := q
  subst e
  exact h pins s σ H D I q
end
end L2
set_option Elab.async false
set_option linter.all false
set_option maxRecDepth 100000
set_option maxHeartbeats 4000000
namespace L2
open PySem PySem.Spec PyProof.Rows
section
variable {X : Cx}{pins : List (Addr × Obj)}{σ : St}{H : Hp}{s : Shared}
end
end L2
set_option Elab.async false
set_option linter.all false
set_option maxRecDepth 100000
set_option maxHeartbeats 4000000
namespace L2
open PySem PySem.Spec PyProof.Rows
theorem eqV_self {x : V}(h : flatV x = true) : eqV x x = true := by
  cases x <;> simp_all [flatV,eqV]
section
variable {X : Cx}{pins : List (Addr × Obj)}{σ : St}{H : Hp}{s : Shared}
end
theorem sl_listK' {X : Cx}(K : PySem.W.Frag)(h : X.K = K) : SlR X (rSlL K) := by subst h; exact sl_list
end L2
set_option Elab.async false
set_option linter.all false
set_option maxRecDepth 100000
set_option maxHeartbeats 4000000
namespace L2
open PySem PySem.Spec PyProof.Rows
section
variable {X : Cx}{x : Str}{C : Addr}{bm bmN : List Value}{newId Bn inN B nid initId : String}{e0 : Expr}{rest : List Expr}{t : TA}{np cpos pos : Pos}
theorem ps_raise (O : OwnCls x C bm newId X.mg X.base)(Fn : ExcBaseFacts Bn newId inN bmN)(hBn : bm.contains (.type Bn) = true)(FB : ExcBaseFacts B nid initId bm)(hc : X.calm = true)(hg : Gl X x)(E : XK)
    (hx : ∀ (pins : List (Addr × Obj)) (σ : St) (H : Hp) (s : Shared) (h' : Heap) (e : Addr) (us : List Value),Inv X pins σ H s -> Heap.MadeExcOf s.heap h' e (.ref C) us -> E (.ref C) none H -> X.xe (.ref e) { s with heap := h' })
    (ha : PA X (e0 :: rest) t) (hz : ∀ σ H Q,t σ H Q -> t σ H fun vs H1 => vs.length <= sizeLine /\ Q vs H1)
    (he : starEach (e0 :: rest) X.env = (false,eval e0 X.env) :: starEach rest X.env := by rfl) (hpl : (backTo cpos (starEach rest X.env)).any (·.1) = false := by rfl) (hd : (x == ("__debug__" : Str)) = false := by decide) :
    PS X (.Raise (some (.Call (.Name x np) (e0 :: rest) [] cpos)) none pos) (fun _ σ H => t σ H fun _ H1 => E (.ref C) none H1) := by
  intro pins s σ H D I q
  obtain ⟨tl,N,nm,qn,bs,hdct,sn,sub,ab,col,dd,k0,k1,k2,k3,k5,mN,hC,hN,hni,T⟩ := O.obj
  refine wpAny_Raise_call_subU (C := C) (nm := nm) (q := qn) (N := N) (bs := bs) (bm := tl) (hdct := hdct) (sn := sn) (sub := sub) (ab := ab) (col := col) (dd := dd) (k0 := k0) (k1 := k1) (k2 := k2) (k3 := k3) (k5 := k5)
    Fn hBn FB (mN := mN) (T.hasType FB.hasBase) (I.ok.hd hc) (by rw [he]; show (false || (backTo cpos (starEach rest X.env)).any (·.1)) = false; rw [hpl]; rfl) hni (ld_glob I hg O.bound ⟨rfl,?_⟩ hd)
  have h1 := ha cpos pins s σ H _ I (hz _ _ _ q)
  rw [he] at h1 ⊢
  refine Calls.evalArgs_plain (wpAny_mono h1 (fun us s2 ⟨vs,H1,I1,r,z,w⟩ => ⟨rfl,by rw [<- r.length]; exact z,I1.bk _ _ hC,hN.keeps I1.bk,T.keeps I1.bk,fun h' e hm => hx pins σ H1 s2 h' e us I1 hm w⟩) fun _ _ y => y)
end
end L2
set_option Elab.async false
set_option linter.all false
set_option maxRecDepth 100000
set_option maxHeartbeats 4000000
namespace L2
open PySem PySem.Spec PyProof.Rows
section
variable {M : Model}{A : Around}{E : Value -> Shared -> Prop}{s : Shared}
structure Gone (fs : List Addr)(x : Addr)(ox : Obj)(old : List Addr)(h h' : Heap)(T : Addr) : Prop where
  keep : ∀ b o,b ∉ fs -> b ≠ x -> b ∉ old -> h.get? b = some o -> h'.get? b = some o
  slot : ∀ b o,b ∈ fs -> h.get? b = some o -> ∃ sl,h'.get? b = some { o with slots := sl }
  new : h.objs.size <= T
  exc : h'.get? x = some (ox.mapFields (·.setIfInBounds 1 (.ref T)))
  tr : ∃ oT ts,h'.get? T = some oT /\ oT.data = .fields ts /\ ts[3]? = some .none
theorem entry_gone {base : Heap}{env : Env}{outer : List Env}{L x : Addr}{ox : Obj}{vs : Array Value}{hd : Value}{nx : Bool}{Q : Unit -> Shared -> Prop}(f1 : A.frames = some (env :: outer))(f2 : s.heap.FunFrames base (env :: outer))(f3 : env.frame = some L)
    (x1 : s.heap.get? x = some ox) (x2 : ox.data = .fields vs) (x3 : 1 < vs.size) (q : ∀ h' T,Gone ((env :: outer).filterMap (·.frame)) x ox [] s.heap h' T -> Q () { s with heap := h' }) :
    wpAny M A (do let a <- frameOf env; let pl <- entryPlaceOf L nx; let b <- EntryCells.newEntry hd a .none (rawInt L) .none pl; setField (.ref x) 1 b) (fun _ s' => wpAny M A (setFlight (.ref x) none) Q E s') E s := by
  have xf : x ∉ (env :: outer).filterMap (·.frame) := fun hm => by
    obtain ⟨_,o,e1,e2⟩ := f2.mem hm
    rw [x1] at e1
    cases e1
    exact e2 vs x2
  refine wpAny_bind (wpAny_frameOf_fun f1 f2 f3 fun g1 m1 => wpAny_bind (wpAny_entryPlaceOf fun pl hpl => ?_))
  unfold EntryCells.newEntry newFields
  refine wpAny_bind (wpAny_newObj_type ?_ (hpl.sizeOk5 _ _ _ _ _))
  generalize hob : ({ cls := .type "traceback",dict := none,data := .fields ([hd,.ref L,.none,rawInt L,.none] ++ (if pl.isEmpty then List.replicate 6 Value.none else pl)).toArray } : Obj) = ob
  have dob : ob.data = .fields ([hd,.ref L,.none,rawInt L,.none] ++ (if pl.isEmpty then List.replicate 6 Value.none else pl)).toArray := by rw [<- hob]
  have lob : ob.isFreed = false := Obj.isFreed_of_fields dob
  have xg1 : g1.get? x = some ox := (m1.2.1 x xf).trans x1
  have xg2 := Heap.get?_push_of_some (h := g1) ob xg1
  refine wpAny_setField xg2 x2 x3 ?_
  have nTx : g1.objs.size ≠ x := Nat.ne_of_gt (Heap.lt_size xg1)
  have dx := Obj.data_mapFields x2 (·.setIfInBounds 1 (Value.ref g1.objs.size))
  have xg3 := Heap.get?_update_self (Obj.mapFields (·.setIfInBounds 1 (Value.ref g1.objs.size))) xg2 (Obj.isFreed_of_fields dx)
  have tg3 := (Heap.get?_update_other (g1.push ob) (Obj.mapFields (·.setIfInBounds 1 (Value.ref g1.objs.size))) (Ne.symm nTx)).trans (Heap.get?_push_size g1 lob)
  unfold setFlight
  refine wpAny_bind (wpAny_field xg3 dx (x := .ref g1.objs.size) (by simp [x3]) ?_)
  rw [if_pos (show (Value.ref g1.objs.size != Value.none) = true from by simp)]
  refine wpAny_setField tg3 dob (by simp only [List.size_toArray,List.length_append,List.length_cons,List.length_nil] <;> omega) (q _ g1.objs.size ⟨?_,?_,?_,?_,?_⟩)
  · intro b o nf nx' _ e
    have e1 : g1.get? b = some o := (m1.2.1 b nf).trans e
    rw [Heap.get?_update_other _ _ (Nat.ne_of_gt (Heap.lt_size e1)),Heap.get?_update_other _ _ (Ne.symm nx')]
    exact Heap.get?_push_of_some _ e1
  · intro b o hb e
    obtain ⟨sl,e1⟩ := m1.2.2 b o e
    refine ⟨sl,?_⟩
    have nbx : b ≠ x := fun z => xf (z ▸ hb)
    rw [Heap.get?_update_other _ _ (Nat.ne_of_gt (Heap.lt_size e1)),Heap.get?_update_other _ _ (Ne.symm nbx)]
    exact Heap.get?_push_of_some _ e1
  · rw [m1.1]
    exact Nat.le_refl _
  · rw [Heap.get?_update_other _ _ nTx]
    exact xg3
  · refine ⟨_,_,Heap.get?_update_self _ tg3 (Obj.isFreed_of_fields (Obj.data_mapFields dob _)),Obj.data_mapFields dob _,?_⟩
    first | (simp; done) | (rcases hpl with rfl | ⟨_,_,_,_,_,_,_,rfl⟩ <;> simp)
theorem leave_first {base : Heap}{env : Env}{outer : List Env}{L x : Addr}{ox : Obj}{vs : Array Value}{Q : Unit -> Shared -> Prop}(f1 : A.frames = some (env :: outer))(f2 : s.heap.FunFrames base (env :: outer))(f3 : env.frame = some L)
    (x1 : s.heap.get? x = some ox) (x2 : ox.data = .fields vs) (x3 : vs[1]? = some .none) (q : ∀ h' T,Gone ((env :: outer).filterMap (·.frame)) x ox [] s.heap h' T -> Q () { s with heap := h' }) : wpAny M A (leaving env (.ref x)) Q E s := by
  unfold leaving noteFrame; simp only [f3]
  refine wpAny_bind (wpAny_bind (wpAny_field x1 x2 x3 ?_)); rw [if_neg (by decide)]
  exact entry_gone f1 f2 f3 x1 x2 (Array.getElem?_eq_some_iff.mp x3).1 q
theorem leave_next {base : Heap}{env : Env}{outer : List Env}{L x T0 : Addr}{ox oT : Obj}{vs ts : Array Value}{Q : Unit -> Shared -> Prop}(f1 : A.frames = some (env :: outer))(f2 : s.heap.FunFrames base (env :: outer))(f3 : env.frame = some L)
    (x1 : s.heap.get? x = some ox) (x2 : ox.data = .fields vs) (x3 : vs[1]? = some (.ref T0)) (t1 : s.heap.get? T0 = some oT) (t2 : oT.data = .fields ts) (t3 : ts[3]? = some .none) (tx : T0 ≠ x)
    (q : ∀ h' T,Gone ((env :: outer).filterMap (·.frame)) x ox [T0] s.heap h' T -> Q () { s with heap := h' }) : wpAny M A (leaving env (.ref x)) Q E s := by
  unfold leaving noteFrame; simp only [f3]
  refine wpAny_bind (wpAny_bind (wpAny_field x1 x2 x3 ?_)); rw [if_pos (show (Value.ref T0 != Value.none) = true from by simp)]
  refine wpAny_bind (wpAny_field t1 t2 t3 ?_); rw [if_neg (show ¬ ((Value.none == rawInt L) = true) from by simp [rawInt])]
  refine wpAny_bind (wpAny_setField t1 t2 (Array.getElem?_eq_some_iff.mp t3).1 ?_)
  have oth : ∀ b,b ≠ T0 -> (s.heap.update T0 (Obj.mapFields (·.setIfInBounds 3 Value.none))).get? b = s.heap.get? b := fun b hb => Heap.get?_update_other _ _ (Ne.symm hb)
  have nrec : ∀ b o,s.heap.get? b = some o -> (∀ vs,o.data ≠ .fields vs) -> b ≠ T0 := fun b o e n z => by
    rw [z,t1] at e
    cases e
    exact n ts t2
  have fT : ∀ b ∈ (env :: outer).filterMap (·.frame),b ≠ T0 := fun b hb => by
    obtain ⟨_,o,e1,e2⟩ := f2.mem hb
    exact nrec b o e1 e2
  refine entry_gone f1 (f2.of_keeps fun b o e n => ⟨o,(oth b (nrec b o e n)).trans e,rfl⟩) f3 ((oth x (Ne.symm tx)).trans x1) x2 (Array.getElem?_eq_some_iff.mp x3).1 fun h' T g => q h' T ⟨?_,?_,?_,g.exc,g.tr⟩
  · intro b o nf nx no e
    exact g.keep b o nf nx (by simp) ((oth b (by simpa using no)).trans e)
  · intro b o hb e
    exact g.slot b o hb ((oth b (fT b hb)).trans e)
  · have := g.new
    simpa using this
end
end L2
set_option Elab.async false
set_option linter.all false
set_option maxRecDepth 100000
set_option maxHeartbeats 4000000
namespace L2
open PySem PySem.Spec PyProof.Rows
theorem ObjOk.ex {P : Program}{w : World}{H : Hp}{h : Heap}{a : Addr}{o : HO}(x : ObjOk P w H h a o) : ∃ ob,h.get? a = some ob := by
  cases o with
  | lst xs => obtain ⟨_,_,_,_,e⟩ := x; exact ⟨_,e⟩
  | tup xs => obtain ⟨_,_,_,ob,e,_⟩ := x; exact ⟨_,e⟩
  | dK kvs => obtain ⟨_,_,_,_,o,_,_,e,_⟩ := x; exact ⟨_,e⟩
  | dT kvs => obtain ⟨_,_,_,_,o,_,_,e,_⟩ := x; exact ⟨_,e⟩
  | set S n => obtain ⟨o,_,_,_,e,_⟩ := x; exact ⟨_,e⟩
  | ins C dx fs => obtain ⟨_,_,_,e,_⟩ := x; exact ⟨_,e⟩
  | own y => exact x
  | xd fs => obtain ⟨_,⟨_,_,_,e,_⟩,_⟩ := x; exact ⟨_,e⟩
  | rng lo hi => obtain ⟨_,_,_,e⟩ := x; exact ⟨_,e⟩
  | frz ob u => obtain ⟨e,_⟩ := x; exact ⟨_,e⟩
  | tbl ps => exact ⟨_,(show h.get? a = some _ from x)⟩
  | cod q => obtain ⟨_,e,_⟩ := x; exact ⟨_,e⟩
  | met f y => exact ⟨_,(show h.get? a = some _ from x)⟩
  | ext φ => obtain ⟨_,e,_⟩ := x; exact e
theorem dict_mapF (o : Obj)(f : Array Value -> Array Value) : (o.mapFields f).dict = o.dict := by unfold Obj.mapFields; split <;> rfl
def Exd (H : Hp)(base g h : Heap)(x C : Addr) : Prop := H x = none /\ base.get? x = none /\ g.get? x = none /\ ∃ ox vs T oT ts,h.get? x = some ox /\ ox.cls = .ref C /\ ox.dict = none /\ ox.data = .fields vs /\ vs[1]? = some (.ref T) /\ vs[2]? = some .none /\
  T ≠ x /\ H T = none /\ base.get? T = none /\ g.get? T = none /\ h.get? T = some oT /\ oT.data = .fields ts /\ ts[3]? = some .none
def CX1 (P : Program)(w : World)(base : Heap) : CXT := fun outer H s E e s' => ∃ (x C : Addr) (H' : Hp),e = .ref x /\ s'.os = s.os /\ AllBare s'.gens /\ Un (frs outer) [] H H' s.heap s'.heap /\ HOk P w H' s'.heap /\ Exd H' base s.heap s'.heap x C /\ E (.ref C) none H'
theorem xe_raise {P : Program}{w : World}{K : PySem.W.Frag}{mg : Str -> Option Value}{base : Heap}{N : List Str}{qual : Str}{scope : Scope}{f : Addr}{cd : Value}{A : Around}{outer : List Env}{s : Shared}{H : Hp}{E : XK}{C : Addr}
    (pins : List (Addr × Obj)) (σ : St) (H1 : Hp) (s1 : Shared) (h' : Heap) (e : Addr) (us : List Value) (I : Inv (cxOf (CX1 P w base) P w K mg base N qual scope f cd A outer s H E) pins σ H1 s1) (hm : Heap.MadeExcOf s1.heap h' e (.ref C) us) (q : E (.ref C) none H1) :
    (cxOf (CX1 P w base) P w K mg base N qual scope f cd A outer s H E).xe (.ref e) { s1 with heap := h' } := by
  obtain ⟨t,e1,e2,e3⟩ := hm.there
  have nH : ∀ b,s1.heap.get? b = none -> H1 b = none := fun b hb => by
    cases z : H1 b with
    | none => rfl
    | some o =>
      obtain ⟨ob,eo⟩ : ∃ ob,s1.heap.get? b = some ob := (I.hok b o z).ex
      rw [hb] at eo
      cases eo
  have hst : s1.heap.FunFrames base (envOfC qual scope s.heap.objs.size f cd :: outer) := I.stack
  have hfree : ∀ b ∈ frs (envOfC qual scope s.heap.objs.size f cd :: outer),H1 b = none := I.stkFree
  show wpAny (model P w) (A.deeper (envOfC qual scope s.heap.objs.size f cd)) (leaving (envOfC qual scope s.heap.objs.size f cd) (.ref e)) _ _ { s1 with heap := h' }
  refine leave_first (s := { s1 with heap := h' }) (base := base) I.ok.frames (hst.of_keeps fun b o eb _ => ⟨o,hm.keeps b o eb,rfl⟩) rfl e1 rfl rfl fun h2 T g => ?_
  have lt1 : ∀ b o,s1.heap.get? b = some o -> b < h'.objs.size := fun b o eb => Heap.lt_size (hm.keeps b o eb)
  have neE : ∀ b o,s1.heap.get? b = some o -> b ≠ e := fun b o eb z => by rw [z,hm.new] at eb; cases eb
  have kp : ∀ b o,b ∉ frs (envOfC qual scope s.heap.objs.size f cd :: outer) -> s1.heap.get? b = some o -> h2.get? b = some o := fun b o nf eb => g.keep b o nf (neE b o eb) (by simp) (hm.keeps b o eb)
  have sl : ∀ b o,b ∈ frs (envOfC qual scope s.heap.objs.size f cd :: outer) -> s1.heap.get? b = some o -> ∃ z,h2.get? b = some { o with slots := z } := fun b o hb eb => g.slot b o hb (hm.keeps b o eb)
  have nTo : ∀ b o,s1.heap.get? b = some o -> b ≠ T := fun b o eb z => by
    have h1 := lt1 b o eb
    rw [z] at h1
    exact absurd (Nat.lt_of_lt_of_le h1 g.new) (Nat.lt_irrefl _)
  have baseK : ∀ b o,base.get? b = some o -> s1.heap.get? b = some o := I.bk
  have nf : ∀ b o,s.heap.get? b = some o -> b ∉ frs outer -> b ∉ frs (envOfC qual scope s.heap.objs.size f cd :: outer) := fun b o eb nb hb => by
    rcases List.mem_cons.mp (show b ∈ s.heap.objs.size :: frs outer from hb) with z | z
    · exact absurd (Heap.lt_size eb) (by rw [z]; exact Nat.lt_irrefl _)
    · exact nb z
  have tH : H1 T = none := by
    cases z : H1 T with
    | none => rfl
    | some o =>
      obtain ⟨ob,eo⟩ := (I.hok T o z).ex
      exact absurd rfl (nTo T ob eo)
  have U : Un (frs outer) [] H H1 s.heap s1.heap := I.base
  refine ⟨e,C,H1,rfl,I.os,I.bare,⟨fun b o eb n hb hx => kp b o (nf b o eb hb) (U.keep b o eb n hb hx),fun b o eb n hb hx => ?_,U.free,fun b o eb hx => ?_,U.tups,U.frzs,U.tbls⟩,fun b o eb => ?_,⟨nH e hm.new,?_,?_,?_⟩,q⟩
  · obtain ⟨z,e4⟩ := U.slot b o eb n hb hx
    obtain ⟨z',e5⟩ := sl b _ (List.mem_cons_of_mem _ hb) e4
    exact ⟨z',e5⟩
  · obtain ⟨o',e4⟩ := U.there b o eb hx
    by_cases hb : b ∈ frs (envOfC qual scope s.heap.objs.size f cd :: outer)
    · obtain ⟨z,e5⟩ := sl b o' hb e4
      exact ⟨_,e5⟩
    · exact ⟨o',kp b o' hb e4⟩
  · refine (I.hok b o eb).stay (fun c v hc ev => kp c v (fun hb => ?_) ev) (fun _ z => z) fun _ _ z => z
    have := hfree c hb
    rcases hc with z | z
    · rw [z,eb] at this
      cases this
    · rw [z] at this
      cases this
  · cases z : base.get? e with
    | none => rfl
    | some o => exact absurd rfl (neE e o (baseK e o z))
  · cases z : s.heap.get? e with
    | none => rfl
    | some o =>
      obtain ⟨o',e4⟩ := U.there e o z (by simp)
      exact absurd rfl (neE e o' e4)
  · obtain ⟨oT,ts,g1,g2,g3⟩ := g.tr
    refine ⟨_,_,T,oT,ts,g.exc,rfl,rfl,rfl,rfl,rfl,?_,tH,?_,?_,g1,g2,g3⟩
    · intro z
      have := Heap.lt_size e1
      rw [<- z] at this
      exact absurd (Nat.lt_of_lt_of_le this g.new) (Nat.lt_irrefl _)
    · cases z : base.get? T with
      | none => rfl
      | some o => exact absurd rfl (nTo T o (baseK T o z))
    · cases z : s.heap.get? T with
      | none => rfl
      | some o =>
        obtain ⟨o',e4⟩ := U.there T o z (by simp)
        exact absurd rfl (nTo T o' e4)
end L2
set_option Elab.async false
set_option linter.all false
set_option maxRecDepth 100000
set_option maxHeartbeats 4000000
namespace L2
open PySem PySem.Spec PyProof.Rows
theorem Inv.raised {X : Cx}{pins : List (Addr × Obj)}{σ : St}{H H2 : Hp}{s s' : Shared}(I : Inv X pins σ H s)(os : s'.os = s.os)(bare : AllBare s'.gens)(un : Un (frs X.stack) [] H H2 s.heap s'.heap)(hok : HOk X.prog X.w H2 s'.heap) : Inv X pins σ H2 s' := by
  obtain ⟨hh,g,d,t,os'⟩ := s'
  obtain rfl : os' = s.os := os
  exact I.call (h' := hh) (g' := g) (d' := d) (t' := t) (ch := []) un hok bare (fun b z => absurd z (by simp))
theorem xe_pass {P : Program}{w : World}{K : PySem.W.Frag}{mg : Str -> Option Value}{base : Heap}{N : List Str}{qual : Str}{scope : Scope}{f : Addr}{cd : Value}{A : Around}{outer : List Env}{s : Shared}{H : Hp}{E : XK} :
    Passes (CX1 P w base) (cxOf (CX1 P w base) P w K mg base N qual scope f cd A outer s H E) E := by
  intro pins σ H1 s1 e s' I h
  obtain ⟨x,C,H2,rfl,os,bare,U2,hok2,⟨hx0,hb0,hg0,ox,vs,T0,oT,ts,x1,xc,xn,xd,v1,v2,tx,hT0,bT0,gT0,t1,t2,t3⟩,q⟩ := h
  have I2 : Inv (cxOf (CX1 P w base) P w K mg base N qual scope f cd A outer s H E) pins σ H2 s' := I.raised os bare U2 hok2
  have hst : s'.heap.FunFrames base (envOfC qual scope s.heap.objs.size f cd :: outer) := I2.stack
  have hfree : ∀ b ∈ frs (envOfC qual scope s.heap.objs.size f cd :: outer),H2 b = none := I2.stkFree
  have U1 : Un (frs outer) [] H H1 s.heap s1.heap := I.base
  have U : Un (frs outer) [] H H2 s.heap s'.heap := I2.base
  show wpAny (model P w) (A.deeper (envOfC qual scope s.heap.objs.size f cd)) (leaving (envOfC qual scope s.heap.objs.size f cd) (.ref x)) _ _ s'
  refine leave_next (s := s') (base := base) I2.ok.frames hst rfl x1 xd v1 t1 t2 t3 tx fun h2 T g => ?_
  have ne1 : ∀ b o,s.heap.get? b = some o -> b ≠ x /\ b ≠ T0 := fun b o eb => by
    obtain ⟨o',e4⟩ := U1.there b o eb (by simp)
    refine ⟨fun z => ?_,fun z => ?_⟩
    · rw [z,hg0] at e4
      cases e4
    · rw [z,gT0] at e4
      cases e4
  have nf : ∀ b o,s.heap.get? b = some o -> b ∉ frs outer -> b ∉ frs (envOfC qual scope s.heap.objs.size f cd :: outer) := fun b o eb nb hb => by
    rcases List.mem_cons.mp (show b ∈ s.heap.objs.size :: frs outer from hb) with z | z
    · exact absurd (Heap.lt_size eb) (by rw [z]; exact Nat.lt_irrefl _)
    · exact nb z
  have nTo : ∀ b o,s'.heap.get? b = some o -> b ≠ T := fun b o eb z => by
    have h1 := Heap.lt_size eb
    rw [z] at h1
    exact absurd (Nat.lt_of_lt_of_le h1 g.new) (Nat.lt_irrefl _)
  have tH : H2 T = none := by
    cases z : H2 T with
    | none => rfl
    | some o =>
      obtain ⟨ob,eo⟩ := (hok2 T o z).ex
      exact absurd rfl (nTo T ob eo)
  have dx := Obj.data_mapFields xd (·.setIfInBounds 1 (Value.ref T))
  refine ⟨x,C,H2,rfl,I2.os,bare,⟨fun b o eb n hb hx => g.keep b o (nf b o eb hb) (ne1 b o eb).1 (by simpa using (ne1 b o eb).2) (U.keep b o eb n hb hx),fun b o eb n hb hx => ?_,U.free,fun b o eb hx => ?_,U.tups,U.frzs,U.tbls⟩,fun b o eb => ?_,⟨hx0,hb0,?_,?_⟩,q⟩
  · obtain ⟨z,e4⟩ := U.slot b o eb n hb hx
    obtain ⟨z',e5⟩ := g.slot b _ (List.mem_cons_of_mem _ hb) e4
    exact ⟨z',e5⟩
  · obtain ⟨o',e4⟩ := U.there b o eb hx
    by_cases hb : b ∈ frs (envOfC qual scope s.heap.objs.size f cd :: outer)
    · obtain ⟨z,e5⟩ := g.slot b o' hb e4
      exact ⟨_,e5⟩
    · exact ⟨o',g.keep b o' hb (ne1 b o eb).1 (by simpa using (ne1 b o eb).2) e4⟩
  · have nx : b ≠ x := fun z => by rw [z,hx0] at eb; cases eb
    refine (hok2 b o eb).stay (fun c v hc ev => g.keep c v (fun hb => ?_) (fun z => ?_) (fun z => ?_) ev) (fun _ z => z) fun _ _ z => z
    · have := hfree c hb
      rcases hc with y | y
      · rw [y,eb] at this; cases this
      · rw [y] at this; cases this
    · rcases hc with y | y
      · rw [<- y,z,hx0] at eb; cases eb
      · rw [z,hx0] at y; cases y
    · have z : c = T0 := by simpa using z
      rcases hc with y | y
      · rw [<- y,z,hT0] at eb; cases eb
      · rw [z,hT0] at y; cases y
  · cases z : s.heap.get? x with
    | none => rfl
    | some o => exact absurd rfl (ne1 x o z).1
  · obtain ⟨oT',ts',g1,g2,g3⟩ := g.tr
    refine ⟨_,_,T,oT',ts',g.exc,(Obj.cls_mapFields ..).trans xc,(dict_mapF ..).trans xn,dx,?_,?_,?_,tH,?_,?_,g1,g2,g3⟩
    · have := (Array.getElem?_eq_some_iff.mp v1).1
      simp [this]
    · rw [Array.getElem?_setIfInBounds_ne (by decide)]
      exact v2
    · intro z
      exact nTo x _ x1 z.symm
    · cases z : base.get? T with
      | none => rfl
      | some o => exact absurd rfl (nTo T o (I2.bk T o z))
    · cases z : s.heap.get? T with
      | none => rfl
      | some o =>
        obtain ⟨o',e4⟩ := U.there T o z (by simp)
        exact absurd rfl (nTo T o' e4)
theorem Fun.okX {P : Program}{w : World}{K : PySem.W.Frag}{mg : Str -> Option Value}{base : Heap}{CX : CXT}{x qual : Str}{st : Stmt}{f : Addr}{fd : FuncData}{N ps : List Str}{k : Nat}{sp : Sp}(F : Fun K x qual st f fd)(S : FnScope N ps (defScope st))(len : ∀ vs H Q E,sp vs H Q E -> vs.length = ps.length)
    (hbody : ∀ (cdv : Value) (A : Around) (outer : List Env) (s : Shared) (H : Hp) (vs : List V) (Q : VK) (E : XK),Room k (A.deeper (envOfC qual (defScope st) s.heap.objs.size f cdv)) -> sp vs H Q E ->
      ∃ t,PSs (cxOf CX P w K mg base N qual (defScope st) f cdv A outer s H E) (defBody st) t /\ t { nx := fun _ H' => Q .non H',rt := Q } (start N vs) H) : FnOk P w K mg base CX (k + 1) f fd ps sp := by
  obtain ⟨oc,od,kV,doc,pm,an,cdv,ct,osl,rfl,lk,hcd⟩ := F.ex
  exact fn_of lk hcd S len fun A outer s H vs Q E hr hsp => hbody cdv A outer s H vs Q E hr hsp
theorem pe_ownX {X : Cx}{CX : CXT}{k : Nat}{ps : List Str}{sp : Sp}{E : XK}{x : Str}{p pos : Pos}{e : Expr}{es : List Expr}{t : TA}(hp : Passes CX X E)(G : Callee X.prog X.w X.K X.mg X.base CX x k ps sp)(hr : Room k X.A)(hg : Gl X x)(ha : PA X (e :: es) t)
    (hdb : (x == ("__debug__" : Str)) = false := by decide) (he : starEach (e :: es) X.env = (false,eval e X.env) :: starEach es X.env := by rfl) (hpl : (backTo pos (starEach es X.env)).any (·.1) = false := by rfl) : PE X (.Call (.Name x p) (e :: es) [] pos) (tCall sp [] E t) := by
  obtain ⟨f,fd,F,hm,hk,hb⟩ := G.ex
  exact pe_call F hr hg hm hk hb .nil hp ha hdb he hpl
end L2
set_option Elab.async false
set_option linter.all false
set_option maxRecDepth 100000
set_option maxHeartbeats 4000000
namespace L2
open PySem PySem.Spec PyProof.Rows
theorem entry_unchain : entryFor table "proto.unchain" = some Builtin.«proto.unchain» := entryFor_of_fast (by kernel_rfl)
section
variable {prog : Program}{w : World}{A : Around}{E : Value -> Shared -> Prop}{s : Shared}
theorem raise_ctx {α : Type}{e x : Addr}{oe ox : Obj}{vs ve : Array Value}{Q : α -> Shared -> Prop}(hh : A.handled = some (.ref x))(hne : x ≠ e)(hx : s.heap.get? x = some ox)(xd : ox.data = .fields vs)(x2 : vs[2]? = some .none)
    (he : s.heap.get? e = some oe) (ed : oe.data = .fields ve) (e2 : 2 < ve.size) (h : E (.ref e) { s with heap := s.heap.update e (Obj.mapFields (·.setIfInBounds 2 (.ref x))) }) : wpAny (model prog w) A (raiseNew (.ref e) : Sem α) Q E s := by
  unfold raiseNew; refine wpAny_bind (wpAny_handled ?_); rw [hh]
  show wpAny _ _ (if (Value.ref x != Value.ref e) = true then _ else _) _ _ s
  rw [if_pos (by simpa using hne)]
  refine wpAny_bind (wpAny_holding (wpAny_runValue (codeAny_builtin entry_unchain ?_)))
  refine wpAny_bind (wpAny_field hx xd x2 ?_)
  rw [if_pos (by decide)]
  refine wpAny_pure ?_
  show wpAny _ _ (setField (.ref e) 2 (.ref x) >>= fun _ => throw (.ref e)) _ _ s
  exact wpAny_bind (wpAny_setField he ed e2 (wpAny_throw h))
theorem list_endM {it l x : Addr}{ox : Obj}{vs : Array Value}{i : Nat}{items : Array Value}{Q : Option Value -> Shared -> Prop}(hh : A.handled = some (.ref x))(hx : s.heap.get? x = some ox)(xd : ox.data = .fields vs)(x2 : vs[2]? = some .none)(hne : x ≠ it)
    (hit : s.heap.IsListIter it l i) (hl : s.heap.IsList l items) (hi : items[i]? = none) (hQ : ∀ h',(∀ b o,b ≠ it -> s.heap.get? b = some o -> h'.get? b = some o) -> Q none { s with heap := h' }) : wpAny (model prog w) A (pyNext (.ref it)) Q E s := by
  obtain ⟨o,ho,hc,hd⟩ := id hit; obtain ⟨ol,hol,_,nl,hdl⟩ := hl
  unfold pyNext; refine wpAny_bind (wpAny_attempt (wpAny_callSpecial?_slot (name := Str.ofString "__next__") hit.typeIs slot_listiter_next (wpAny_call_entry slot_listiter_next hit.typeIs entry_listiter_next ?_ (args_listiter_next _))))
  show wpAny _ _ (field (.ref it) 0 >>= _) _ _ s; refine wpAny_bind (wpAny_field ho hd (x := .ref l) rfl ?_)
  show wpAny _ _ (if (Value.ref l == Value.none) = true then _ else _) _ _ s; rw [if_neg (show ¬ ((Value.ref l == Value.none) = true) from Bool.false_ne_true)]
  show wpAny _ _ (field (.ref it) 1 >>= _) _ _ s; refine wpAny_bind (wpAny_field ho hd (x := .int i 0) rfl ?_)
  show wpAny _ _ (seqItems? (.ref l) >>= _) _ _ s; refine wpAny_bind (wpAny_seqItems hol hdl ?_)
  simp only [Int.toNat_natCast,hi]; refine wpAny_bind (wpAny_rule (wpAny_bind (wpAny_setField ho hd (by simp) ?_)))
  have hx' := (Heap.get?_update_other s.heap (Obj.mapFields (·.setIfInBounds 0 Value.none)) (Ne.symm hne)).trans hx
  have lx := Heap.lt_size hx'
  show wpAny _ _ (newExc (.type "StopIteration") [] >>= _) _ _ _; refine wpAny_bind ?_
  simp only [newExc,newTuple]; refine wpAny_bind (wpAny_newObj_type ?_ (by size_fits))
  refine wpAny_bind (m := firstArgMember _ _) (wpAny_of_eq (a := Value.none) (by first | rfl | (simp only [firstArgMember]; rfl)) ?_); refine wpAny_newObj_type ?_ (by size_fits)
  refine raise_ctx (x := x) (by first | exact hh) ?_ (Heap.get?_push_of_some _ (Heap.get?_push_of_some _ hx')) xd x2 (Heap.get?_push_size _ rfl) rfl (by rw [Array.size_append]; exact Nat.lt_of_lt_of_le (show 2 < 6 by decide) (Nat.le_add_right 6 _)) ?_
  · rw [Heap.size_push]; exact Nat.ne_of_lt (Nat.lt_succ_of_lt lx)
  refine wpAny_bind (wpAny_isInstance (T := "StopIteration") (b := true) ⟨_,Heap.get?_update_self _ (Heap.get?_push_size _ rfl) (Obj.isFreed_of_fields (Obj.data_mapFields rfl _)),rfl⟩ isSubtype_stop ?_)
  refine wpAny_pure (hQ _ fun b o' hb e => ?_)
  have e' := (Heap.get?_update_other s.heap (Obj.mapFields (·.setIfInBounds 0 Value.none)) (Ne.symm hb)).trans e
  have lb := Heap.lt_size e'
  rw [Heap.get?_update_other _ _ (by rw [Heap.size_push]; exact Nat.ne_of_gt (Nat.lt_succ_of_lt lb))]
  exact Heap.get?_push_of_some _ (Heap.get?_push_of_some _ e')
end
end L2
set_option Elab.async false
set_option linter.all false
set_option maxRecDepth 100000
set_option maxHeartbeats 4000000
namespace L2
open PySem PySem.Spec PyProof.Rows
def ExcO (x C : Addr) : HO := .ext fun h => ∃ (ox : Obj) (vs : Array Value),h.get? x = some ox /\ ox.cls = .ref C /\ ox.dict = none /\ ox.data = .fields vs /\ vs[2]? = some .none
theorem ExcO.ok {P : Program}{w : World}{H : Hp}{h : Heap}{x C : Addr}{ox : Obj}{vs : Array Value}(e : h.get? x = some ox)(c : ox.cls = .ref C)(d : ox.dict = none)(f : ox.data = .fields vs)(v : vs[2]? = some .none) : ObjOk P w H h x (ExcO x C) :=
  ⟨⟨ox,vs,e,c,d,f,v⟩,⟨ox,e⟩,fun h1 h2 ⟨ox',vs',e',c',d',f',v'⟩ k => ⟨ox',vs',k _ e',c',d',f',v'⟩⟩
theorem Inv.exc {X : Cx}{pins : List (Addr × Obj)}{σ : St}{H : Hp}{s : Shared}{x C : Addr}(I : Inv X pins σ H s)(hx : H x = some (ExcO x C)) : ∃ (ox : Obj) (vs : Array Value),s.heap.get? x = some ox /\ ox.cls = .ref C /\ ox.dict = none /\ ox.data = .fields vs /\ vs[2]? = some .none := (I.hok x _ hx).1
abbrev TurnM (P : Program)(w : World)(K : PySem.W.Frag)(A₀ : Around)(tg : Expr)(J : It)(fp : List Addr)(it : Addr)(tn : Nat -> Heap -> Prop) : Prop := TurnG (fun X => X.A = A₀) P w K tg J fp it tn
def PIEM (X : Cx)(pins : List (Addr × Obj))(σ : St)(tg : Expr)(R : It -> Hp -> Prop)(itv : Value)(s2 : Shared) : Prop :=
  ∃ (it : Addr) (fp : List Addr) (tn : Nat -> Heap -> Prop) (J : It) (H' : Hp),itv = .ref it /\ Inv X pins σ H' s2 /\ TurnM X.prog X.w X.K X.A tg J fp it tn /\ tn 0 s2.heap /\ (∀ b ∈ fp,FpOk X pins H' b) /\ R J H'
def PIM (X : Cx)(tg iter : Expr)(wi : TI) : Prop :=
  ∀ (pins : List (Addr × Obj)) (s : Shared) (σ : St) (H : Hp) (R : It -> Hp -> Prop),Inv X pins σ H s -> wi σ H R -> wpAny (model X.prog X.w) X.A (eval iter X.env) (fun v s1 => wpAny (model X.prog X.w) X.A (pyIter v) (PIEM X pins σ tg R) X.xe s1) X.xe s
def ItlM (K : PySem.W.Frag)(a x C : Addr) : It := ⟨(Itl K a).go,(Itl K a).yld,fun i H => (Itl K a).stop i H /\ H x = some (ExcO x C)⟩
theorem turnM_list {P : Program}{w : World}{K : PySem.W.Frag}{A₀ : Around}{tg : Expr}{x C : Addr}(hh : A₀.handled = some (.ref x))(a it : Addr) : TurnM P w K A₀ tg (ItlM K a x C) [it] it (fun i h => h.IsListIter it a i) where
  mem := (turn_list (P := P) (w := w) (K := K) (tg := tg) a it).mem
  obj := (turn_list (P := P) (w := w) (K := K) (tg := tg) a it).obj
  keep := (turn_list (P := P) (w := w) (K := K) (tg := tg) a it).keep
  item := by
    intro X hP hw hK hA i pins s σ H E I hf st ⟨xs,x,hq,hx⟩
    subst hP hw hK
    obtain ⟨its,rv,p,hz⟩ := I.list hq; obtain ⟨u,hu,ru⟩ := rv.get hx; obtain ⟨f0,f1,f2,f3,f4,f5⟩ := hf it (by simp)
    refine wpAny_pyNext_list_item st p.isList (x := u) (by simpa using hu) fun h' st' sb => ?_
    have I1 : Inv X pins σ H { s with heap := h' } := I.turned (t' := s.toks) (fun b o hb e => (sb.2 b hb).trans e) f0 f1 f3 f4 f5; obtain ⟨o,e,c,d⟩ := id st'
    refine ⟨u,rfl,go_of (s := { s with heap := h' }) e c d (by decide) ⟨x,H,I1,ru,⟨rfl,fun ys hy => by rw [I.list_inj hy hq]; exact hx⟩,st',fun b hb => (hf b hb).1⟩⟩
  done := by
    intro X hP hw hK hA i pins s σ H E I hf st ⟨⟨xs,hq,hx⟩,ht⟩
    subst hP hw hK hA
    obtain ⟨its,rv,p,hz⟩ := I.list hq; obtain ⟨f0,f1,f2,f3,f4,f5⟩ := hf it (by simp)
    obtain ⟨ox,vs,x1,_,_,x2,x3⟩ := I.exc ht
    have hl := rv.length
    have hne : x ≠ it := fun z => by rw [z,f0] at ht; cases ht
    exact list_endM hh x1 x2 x3 hne st p.isList (by simp; omega) fun h' eb => ⟨rfl,I.turned (t' := s.toks) (fun b o hb e => eb b o hb e) f0 f1 f3 f4 f5⟩
  self := (turn_list (P := P) (w := w) (K := K) (tg := tg) a it).self
section
variable {X : Cx}{tg : Expr}
def iListM (K : PySem.W.Frag)(x C : Addr)(tl : TE) : TI := fun σ H R => tl σ H fun v H1 => ∃ a,v = .ref a /\ (∃ xs,SqL K H1 a xs) /\ R (ItlM K a x C) H1
theorem pi_listM (K : PySem.W.Frag)(hK : X.K = K){l : Expr}{tl : TE}{x C : Addr}(hh : X.A.handled = some (.ref x))(hl : PE X l tl) : PIM X tg l (iListM K x C tl) := by
  intro pins s σ H R I h
  subst hK
  refine thn (hl pins s σ H _ I h) fun v s1 ⟨z,H1,I1,r1,a,e,⟨xs,hq⟩,q⟩ => ?_
  subst e; cases r1
  obtain ⟨its,rv,p,hz⟩ := I1.list hq
  refine wpAny_pyIter_list p.isList ⟨s1.heap.objs.size,[s1.heap.objs.size],_,_,H1,rfl,I1.kept (t' := s1.toks) fun b o e => Heap.get?_push_of_some _ e,turnM_list hh a _,⟨_,Heap.get?_push_size _ rfl,rfl,rfl⟩,fun b hb => ?_,q⟩
  have e : b = s1.heap.objs.size := by simpa using hb
  subst e
  refine I1.fpOk (Nat.le_refl _) (I1.hok.fresh (Nat.le_refl _))
end
section
variable {X : Cx}{elt iter tg : Expr}{ifs : List Expr}{scope : Scope}{pos : Pos}{N' : List Str}{map : List (Option Nat)}{wi : TI}{g : TG}{tt : TT}{te : TE}
theorem BlkM.clos {pins : List (Addr × Obj)}{σ : St}{H : Hp}{s : Shared}(B : BlkM X N' scope map tg elt ifs g tt te)(I : Inv X pins σ H s) :
    ∃ cl,closureFor scope X.env = pure cl /\ (∀ x c,cl.lookup x = some c -> X.env.cells.lookup x = some c) /\ ∀ x,(x,NameKind.free) ∈ scope.names -> (cl.lookup x).isSome = true :=
  closureFor_ok fun x hx => I.ok.has x (by
    have q := List.all_eq_true.mp B.free _ hx
    simpa using q)
theorem pe_compM (B : BlkM X N' scope map tg elt ifs g tt te)(hi : PIM X tg iter wi)(hs : ∀ x,foldedSetIterable iter X.env x = pure x := by intro _; rfl) : PE X (.ListComp elt [⟨tg,iter,ifs,0⟩] scope pos) (tComp wi map g tt te) := by
  intro pins s σ H Q I h
  obtain ⟨cl,hcl,hsub,hhas⟩ := B.clos I
  rw [eval_ListComp]
  refine wpAny_comprehension_free (use := none) rfl hs hcl B.kind B.loc (thn (hi pins s σ H _ I h) fun v s1 h1 => thn h1 fun itv s2 h2 => ?_)
  obtain ⟨it,fp,tn,J,H2,e,I2,T,st2,f2,W,⟨m0,w0⟩,turn⟩ := h2
  subst e
  refine blk_run (RR := fun acc C => compPost (model X.prog X.w) X.A X.xe none (EP X pins σ Q) acc C) I2 B hsub hhas (R := fun Y => Y.A = X.A) (fun _ _ _ _ _ => rfl) T st2 f2 w0 turn (fun D C acc H' s' m I' hD nsm fC c1 c2 c3 c4 fin => ?_) fun D C e s' z => z
  refine ⟨m,nsm,fun h' sb => ⟨.ref D,_,?_,rfl,fin D hD⟩⟩
  exact I'.turned (t' := s'.toks) (fun b o hb e => (sb.2 b hb).trans e) fC c1 (.inr c2) c3 c4
end
theorem comp_listM {K : PySem.W.Frag}{a x C : Addr}{xs : List V}{g : TG}{tt : TT}{te : TE}{σc : St}{H : Hp}{Fin : List V -> Hp -> Prop}(Pv : Nat -> List V -> Hp -> Prop)(hz : xs.length <= sizeLine)(h0 : Pv 0 [] H)(hn : ∀ i acc H,Pv i acc H -> acc.length <= i /\ SqL K H a xs /\ H x = some (ExcO x C))
    (hs : ∀ i y acc H,xs[i]? = some y -> Pv i acc H -> g y σc H fun σ4 H4 => tt σ4 H4 fun b H5 => if b = true then te σ4 H5 fun v H6 => Pv (i + 1) (acc ++ [v]) H6 else Pv (i + 1) acc H5)
    (hd : ∀ acc H,Pv xs.length acc H -> Fin acc H) : ∃ W : Nat -> Nat -> List V -> Hp -> Prop,(∃ m,W 0 m [] H) /\ Turns (ItlM K a x C) g tt te σc Fin W := by
  refine ⟨fun i m acc H => m = xs.length - i /\ i <= xs.length /\ Pv i acc H,⟨xs.length,by simp,Nat.zero_le _,h0⟩,?_⟩
  rintro i m acc H ⟨rfl,hi,p⟩
  obtain ⟨hacc,q,ht⟩ := hn i acc H p
  by_cases hlt : i < xs.length
  · refine .inr ⟨⟨xs,xs[i],q,by simp [hlt]⟩,by omega,Pv (i + 1),fun acc' H' p' => ⟨xs.length - (i + 1),by omega,rfl,hlt,p'⟩,fun y H' z => ?_⟩
    obtain ⟨e,z⟩ := z; subst e
    exact hs i y acc _ (z xs q) p
  · have e : i = xs.length := by omega
    subst e
    exact .inl ⟨⟨⟨xs,q,Nat.le_refl _⟩,ht⟩,by omega,hd acc H p⟩
end L2
set_option Elab.async false
set_option linter.all false
set_option maxRecDepth 100000
set_option maxHeartbeats 4000000
namespace L2
open PySem PySem.Spec PyProof.Rows
structure RoomM (k : Nat)(A : Around) : Prop where
  dp : A.depth + 3 * k + 5 < recursionLimit
  un : A.units + 16 * k + 200 < cLine
theorem RoomM.mono {j k : Nat}{A : Around}(r : RoomM k A)(h : j <= k) : RoomM j A := ⟨by have := r.dp; omega,by have := r.un; omega⟩
theorem RoomM.deeper {k : Nat}{A : Around}(r : RoomM (k + 1) A)(env : Env) : RoomM k (A.deeper env) := ⟨by have := r.dp; show A.depth + 1 + 3 * k + 5 < _; omega,by have := r.un; show A.units + 3 + 16 * k + 200 < _; omega⟩
theorem RoomM.depth {k : Nat}{A : Around}(r : RoomM k A) : A.depth < recursionLimit := by have := r.dp; omega
theorem RoomM.units0 {k : Nat}{A : Around}(r : RoomM k A) : A.units < cLine := by have := r.un; omega
theorem Room.mark {k : Nat}{A : Around}(r : Room k A)(h : Option Value) : RoomM k (A.mark h) := ⟨r.dp,r.un⟩
structure FnOkM (P : Program)(w : World)(K : PySem.W.Frag)(mg : Str -> Option Value)(base : Heap)(k : Nat)(f : Addr)(fd : FuncData)(ps : List Str)(sp : Addr -> Sp) : Prop where
  len : ∀ x vs H Q E,sp x vs H Q E -> vs.length = ps.length
  run : ∀ (A : Around) (outer : List Env) (s : Shared) (H : Hp) (args : Args) (us : List Value) (vs : List V) (Q : VK) (x : Addr),RoomM k A -> A.handled = some (.ref x) -> Env0 P w K mg base A outer s H -> BindsTo s fd args (ps.zip us) -> Vals vs us -> sp x vs H Q E0 -> codeAny (model P w) A (.call (.ref f) args) (CR CX0 outer P w H s Q E0) s
def cxOfM (P : Program)(w : World)(K : PySem.W.Frag)(mg : Str -> Option Value)(base : Heap)(N : List Str)(qual : Str)(scope : Scope)(f : Addr)(cd : Value)(A : Around)(outer : List Env)(s : Shared)(H : Hp) : Cx where
  prog := P
  w := w
  K := K
  mg := mg
  base := base
  A := A.deeper (envOfC qual scope s.heap.objs.size f cd)
  N := N
  s₀ := s
  H₀ := H
  env := envOfC qual scope s.heap.objs.size f cd
  outer := outer
  stack := envOfC qual scope s.heap.objs.size f cd :: outer
  ex := []
  calm := false
  fn := fun _ => true
  pn := []
  xe := fun _ _ => False
theorem inv_startM {P : Program}{w : World}{K : PySem.W.Frag}{mg : Str -> Option Value}{base : Heap}{N ps : List Str}{qual : Str}{scope : Scope}{f : Addr}{cd : Value}{A : Around}{outer : List Env}{s s1 : Shared}{H : Hp}{us : List Value}{vs : List V}
    (S : FnScope N ps scope) (e0 : Env0 P w K mg base A outer s H) (hl : vs.length = ps.length) (r : Vals vs us)
    (x : InCallC s s.heap.objs.size (bindL (envOfC qual scope s.heap.objs.size f cd).kindOf (ps.zip us) fun _ => none) (cellsFrom (s.heap.objs.size + 1) scope.names []) (bindC (envOfC qual scope s.heap.objs.size f cd).kindOf (ps.zip us) fun _ => none) s1) :
    Inv (cxOfM P w K mg base N qual scope f cd A outer s H) [] (start N vs) H s1 := by
  have hpl : ps.length <= N.length := by have := congrArg List.length S.pre; rw [List.length_take] at this; omega
  obtain ⟨h1,tk,rfl,hk⟩ := x.done
  have noA : ∀ b : Addr,b ∉ (cxOfM P w K mg base N qual scope f cd A outer s H).ex := fun b z => absurd (show b ∈ ([] : List Addr) from z) (by simp)
  refine ⟨⟨e0.mod,S.kind,rfl,rfl,Nat.le_refl _,fun y z c h1 h2 => ?_,fun y hy => ?_,fun y c _ h => ?_,fun z => (by cases z),Around.frames_deeper e0.frames,.inr ⟨rfl,rfl⟩,fun b z => absurd z (noA b),e0.bs,e0.bsz,fun b _ _ => noA b,fun b z => absurd z (noA b),e0.funs,e0.frf⟩,
    rfl,e0.bare,Un.kept hk,⟨_,x.toInCall.ns,fun i y v h1 h2 h3 => ?_⟩,fun y c h => ⟨_,x.cell y c h⟩,e0.hok.fresh (Nat.le_refl _),fun y c h => ?_,fun p hp => absurd (show p ∈ ([] : List (Addr × Obj)) from hp) (by simp),e0.hok.kept hk,?_⟩
  · exact name_of_addr x.apart (PySem.mem_of_lookup h1) (PySem.mem_of_lookup h2)
  · have hy : scope.names.lookup y = some .cell \/ scope.names.lookup y = some .free := hy
    rcases hy with hy | hy
    · exact cell_has hy
    · exact absurd rfl (S.nofree _ (PySem.mem_of_lookup hy))
  · exact Nat.le_of_lt (x.above y c (PySem.mem_of_lookup h))
  · have hi : i < vs.length := by
      unfold start at h2
      by_cases hi : i < vs.length
      · exact hi
      · rw [List.getElem?_append_right (by simpa using hi)] at h2
        rw [List.getElem?_replicate] at h2
        split at h2 <;> cases h2
    have ha : vs[i]? = some v := by
      unfold start at h2
      rw [List.getElem?_append_left (by simpa using hi),List.getElem?_map] at h2
      cases e : vs[i]? with
      | none => rw [e] at h2; cases h2
      | some a => rw [e] at h2; cases h2; rfl
    obtain ⟨u,hu,rv⟩ := r.get ha
    have hp : ps[i]? = some y := by
      rw [<- S.pre,List.getElem?_take_of_lt (by omega)]; exact h1
    have ndP : ps.Nodup := by rw [<- S.pre]; exact S.nd.sublist (List.take_sublist _ _)
    refine ⟨u,rv,?_⟩
    rcases S.par y (List.mem_of_getElem? hp) with k | k
    · exact .inl ⟨k,bindL_get ndP hp hu k⟩
    · obtain ⟨c,e⟩ := cell_has (n := s.heap.objs.size + 1) k
      refine .inr ⟨.inl k,c,e,?_⟩
      have q := x.cell y c e
      rw [bindC_get ndP hp hu (by show scope.names.lookup y ≠ _; rw [k]; decide)] at q
      exact q
  · exact e0.hok.fresh (Nat.le_of_lt (x.above y c (PySem.mem_of_lookup h)))
  · unfold start
    show _ = N.length
    rw [List.length_append,List.length_map,List.length_replicate]
    omega
theorem fn_ofM {P : Program}{w : World}{K : PySem.W.Frag}{mg : Str -> Option Value}{base : Heap}{k : Nat}{f : Addr}{name qual : Str}{params : Arguments}{body : List Stmt}{scope : Scope}{dV kV doc pm cdv ct oc : Value}{an od : Option Addr}
    {osl : Array (Option Value)} {N ps : List Str} {sp : Addr -> Sp} (lk : K.lookup f = some ⟨oc,od,.func (PySem.W.fnOf name qual params body scope dV kV doc pm an cdv ct),osl⟩) (hcd : PySem.W.codeIn K cdv qual = true) (S : FnScope N ps scope)
    (len : ∀ x vs H Q E,sp x vs H Q E -> vs.length = ps.length)
    (hbody : ∀ (A : Around) (outer : List Env) (s : Shared) (H : Hp) (vs : List V) (Q : VK) (x : Addr),RoomM k (A.deeper (envOfC qual scope s.heap.objs.size f cdv)) -> A.handled = some (.ref x) -> sp x vs H Q E0 ->
      ∃ t,PSs (cxOfM P w K mg base N qual scope f cdv A outer s H) body t /\ t { nx := fun _ H' => Q .non H',rt := Q } (start N vs) H) :
    FnOkM P w K mg base (k + 1) f (PySem.W.fnOf name qual params body scope dV kV doc pm an cdv ct) ps sp := by
  refine ⟨len,fun A outer s H args us vs Q x hr hh e0 hb r hsp => ?_⟩
  have hl := len _ _ _ _ _ hsp
  have KX : K.In s.heap := e0.mod.kin.keeps fun b o e => (e0.bs b o e).1
  have lim : s.heap.NoLimit := e0.mod.nolimit.keeps fun b o e => (e0.bs b o e).1
  have hkind : ∀ y ∈ ps.zip us,scope.names.lookup y.1 = some .local \/ (scope.names.lookup y.1 = some .cell /\ ((cellsFrom (s.heap.objs.size + 1) scope.names []).lookup y.1).isSome = true) := fun ⟨n,v⟩ hy => by
    rcases S.par n (List.of_mem_zip hy).1 with q | q
    · exact .inl q
    · exact .inr ⟨q,PySem.W.cellsFrom_some _ _ _ (.inl q)⟩
  refine codeAny_call_function hr.depth (KX _ _ lk) rfl S.co S.gen rfl (PySem.W.codeRec_of KX hcd) (hb _ _ _ _ ?_)
  refine wpAny_newFunctionEnv_cells S.kind hkind fun env he s1 xc => ?_
  subst he
  refine ⟨lim.keeps xc.toInCall.keep,codeAny_func ?_⟩
  obtain ⟨t,ht,hq⟩ := hbody A outer s H vs Q x (hr.deeper _) hh hsp
  have I : Inv (cxOfM P w K mg base N qual scope f cdv A outer s H) [] (start N vs) H s1 := inv_startM S e0 hl r xc
  refine wpAny_mono (ht [] s1 (start N vs) H _ I hq) (fun fl s' hs => ?_) fun e s' hs => hs.elim
  have fin : ∀ {σ' : St} {H' : Hp} {v : V} {u : Value},Inv (cxOfM P w K mg base N qual scope f cdv A outer s H) [] σ' H' s' -> RelV v u -> Q v H' -> CE outer P w H s Q u s' :=
    fun {σ' H' v u} J rv q => ⟨v,H',J.os,J.bare,J.base,J.hok,rv,q⟩
  cases fl with
  | ret u =>
    obtain ⟨v,σ',H',J,rv,q⟩ := hs
    exact fin J rv q
  | next =>
    obtain ⟨σ',H',J,q⟩ := hs
    exact fin (v := V.non) (u := Value.none) J rfl q
  | brk =>
    obtain ⟨_,_,_,q⟩ := hs
    exact False.elim q
  | cont =>
    obtain ⟨_,_,_,q⟩ := hs
    exact False.elim q
theorem Fun.okM {P : Program}{w : World}{K : PySem.W.Frag}{mg : Str -> Option Value}{base : Heap}{x qual : Str}{st : Stmt}{f : Addr}{fd : FuncData}{N ps : List Str}{k : Nat}{sp : Addr -> Sp}(F : Fun K x qual st f fd)(S : FnScope N ps (defScope st))(len : ∀ y vs H Q E,sp y vs H Q E -> vs.length = ps.length)
    (hbody : ∀ (cdv : Value) (A : Around) (outer : List Env) (s : Shared) (H : Hp) (vs : List V) (Q : VK) (y : Addr),RoomM k (A.deeper (envOfC qual (defScope st) s.heap.objs.size f cdv)) -> A.handled = some (.ref y) -> sp y vs H Q E0 ->
      ∃ t,PSs (cxOfM P w K mg base N qual (defScope st) f cdv A outer s H) (defBody st) t /\ t { nx := fun _ H' => Q .non H',rt := Q } (start N vs) H) : FnOkM P w K mg base (k + 1) f fd ps sp := by
  obtain ⟨oc,od,kV,doc,pm,an,cdv,ct,osl,rfl,lk,hcd⟩ := F.ex
  exact fn_ofM lk hcd S len fun A outer s H vs Q y hr hh hsp => hbody cdv A outer s H vs Q y hr hh hsp
structure CalleeM (P : Program)(w : World)(K : PySem.W.Frag)(mg : Str -> Option Value)(base : Heap)(x : Str)(k : Nat)(ps : List Str)(sp : Addr -> Sp) : Prop where
  ex : ∃ f fd,FnOkM P w K mg base k f fd ps sp /\ mg x = some (.ref f) /\ PySem.W.keepIn K (.ref f) = true /\ Binds K fd ps []
theorem CalleeM.mk' {P : Program}{w : World}{K : PySem.W.Frag}{mg : Str -> Option Value}{base : Heap}{x qual : Str}{st : Stmt}{f : Addr}{fd : FuncData}{k : Nat}{ps : List Str}{sp : Addr -> Sp}(F : Fun K x qual st f fd)(G : FnOkM P w K mg base k f fd ps sp)(hm : mg x = some (.ref f))(hb : Binds K fd ps []) :
    CalleeM P w K mg base x k ps sp := ⟨f,fd,G,hm,F.kp,hb⟩
theorem pe_ownM {X : Cx}{k : Nat}{ps : List Str}{sp : Addr -> Sp}{x : Str}{p pos : Pos}{e : Expr}{es : List Expr}{t : TA}{y : Addr}(hh : X.A.handled = some (.ref y))(G : CalleeM X.prog X.w X.K X.mg X.base x k ps sp)(hr : RoomM k X.A)(hg : Gl X x)(ha : PA X (e :: es) t)(hdb : (x == ("__debug__" : Str)) = false := by decide)
    (he : starEach (e :: es) X.env = (false,eval e X.env) :: starEach es X.env := by rfl) (hpl : (backTo pos (starEach es X.env)).any (·.1) = false := by rfl) : PE X (.Call (.Name x p) (e :: es) [] pos) (tCall (sp y) [] E0 t) := by
  obtain ⟨f,fd,F,hm,hk,hb⟩ := G.ex
  intro pins s σ H Q I h
  refine wpAny_Call_Name_kw (ld_glob I hg hm ?_ hdb)
  refine PySem.W.callWith_K (h₀ := X.base) I.ok.mod.kin hk (thn (ha pos pins s σ H _ I h) fun us s1 ⟨vs,H1,I1,r,q⟩ => ⟨I1.kIn,?_⟩) he hpl
  have q : sp y (vs ++ []) H1 Q E0 := q
  rw [List.append_nil] at q
  have hl : us.length = ps.length := by rw [<- r.length]; exact F.len _ _ _ _ _ q
  have hb' := hb s1 us I1.kIn (by simpa using hl)
  rw [List.append_nil] at hb'
  refine wpAny_call (codeAny_mono (F.run X.A X.stack s1 H1 ⟨us,[]⟩ us vs Q y hr hh I1.env0 hb' r q) fun r s' hq => ?_)
  cases r with
  | error e => exact hq.elim
  | ok fl =>
    cases fl with
    | ret u => exact I1.after hq
    | next => exact False.elim hq
    | brk => exact False.elim hq
    | cont => exact False.elim hq
end L2
set_option Elab.async false
set_option linter.all false
set_option maxRecDepth 100000
set_option maxHeartbeats 4000000
namespace L2
open PySem PySem.Spec PyProof.Rows
structure XCls (K : PySem.W.Frag)(D : Addr) : Prop where
  get : PySem.W.findIn K (.ref D) "__getattribute__" = some (some (.builtin "BaseException.__getattribute__"))
  hook : PySem.W.findIn K (.ref D) "__getattr__" = some none
  fnd : PySem.W.findObj K D none "__class__" = some (.bind (.builtin "getset_descriptor.__get__") (.builtin "object.__class__"))
  mro : PySem.W.mroIn K D (.type "object") = some true
  cls : (PySem.W.clsIn K D).isSome = true
  exc : PySem.W.subIn K (.ref D) (.type "BaseException") = some true
theorem chk_args {M : Model}{A : Around}{E : Value -> Shared -> Prop}{s : Shared}{id : String}{args : Args}{Q : Unit -> Shared -> Prop}(ha : argsOk id args)(h : Q () s) : wpAny M A (match Manifest.signature? id with | some sig => Bind.checkArgs id sig args | x => pure ()) Q E s := by
  cases hsig : Manifest.signature? id with
  | none => exact wpAny_pure h
  | some sig =>
    simp only [argsOk,hsig] at ha
    have h2 : Bind.checkArgs id sig args = pure () := ha
    dsimp only
    rw [h2]
    exact wpAny_pure h
theorem xbody {prog : Program}{w : World}{A : Around}{E : Value -> Shared -> Prop}{s : Shared}{K : PySem.W.Frag}{x D : Addr}{ox : Obj}{t : Tok}{Q : Fin -> Shared -> Prop}(X : K.In s.heap)(I : PySem.W.InstAt s.heap x ox D none)(F : XCls K D)(h : Q (.done (.ret (.ref D))) s) :
    wpAny (model prog w) A (Builtin.«object.__getattribute__» ⟨[.ref x,.str "__class__" t],[]⟩) Q E s := by
  obtain ⟨h0,g,d,tt,os⟩ := s
  have L0 := I.type (M := model prog w)
  have L3 := PySem.W.looks_find (M := model prog w) X I F.fnd
  unfold Builtin.«object.__getattribute__»
  refine wpAny_bind (wpAny_pure ?_)
  refine wpAny_bind (wpAny_pure ?_)
  refine wpAny_bind (L0.at ?_)
  refine wpAny_bind (L3.at ?_)
  dsimp only
  unfold Builtin.ObjectAttr.bindTo
  refine wpAny_bind (wpAny_holding (wpAny_call (PySem.W.class_get (s := ⟨h0,g,d,tt,os⟩) (ox := ox) (od := none) X I F.mro ?_)))
  exact wpAny_pure h
theorem xget {prog : Program}{w : World}{A : Around}{E : Value -> Shared -> Prop}{s : Shared}{K : PySem.W.Frag}{x D : Addr}{ox : Obj}{Q : Option Value -> Shared -> Prop}(X : K.In s.heap)(I : PySem.W.InstAt s.heap x ox D none)(F : XCls K D)(h : Q (some (.ref D)) { s with toks := s.toks + 1 }) :
    wpAny (model prog w) A (getAttr? (.ref x) "__class__") Q E s := by
  obtain ⟨h0,g,d,tt,os⟩ := s
  have L0 := I.type (M := model prog w)
  have L1 := PySem.W.looks_findIn (M := model prog w) X F.get
  have L2 := PySem.W.looks_findIn (M := model prog w) X F.hook
  have L3 := PySem.W.looks_find (M := model prog w) X I F.fnd
  have LB : PySem.W.Looks (model prog w) h0 (isInstance (.ref x) (.type "BaseException")) true := L0.andThen (PySem.W.looks_subIn X F.exc)
  have f3 := PySem.F.attr_ValueError.ga.bind (.ref x)
  have hx2 : (Value.builtin "BaseException.__getattribute__" == Value.builtin "object.__getattribute__") = false := by decide +kernel
  unfold getAttr? getAttrBy? getAttrBy; refine wpAny_bind (wpAny_mkText (wpAny_bind (wpAny_attempt (wpAny_holding (wpAny_bind (L0.at (wpAny_bind (L1.at ?_))))))))
  dsimp only; rw [if_neg (by rw [hx2]; simp)]
  unfold getAttrByItsOwn hookBefore; refine wpAny_bind ?_
  rw [if_pos (by rfl)]; refine L2.at ?_
  refine wpAny_bind (wpAny_attempt (wpAny_holding ?_))
  unfold callGetattribute; rw [if_neg (by simp)]
  unfold boundAndCalled; rw [f3]; refine wpAny_bind (wpAny_pure ?_)
  refine wpAny_call (codeAny_call_builtin PySem.F.attr_ValueError.ga.plain PySem.F.entry_bexc_ga ?_)
  have hk : builtinKind "BaseException.__getattribute__" = some .slot := by decide +kernel
  have hsplit : splitId "BaseException.__getattribute__" = some ("BaseException","__getattribute__") := by decide +kernel
  have ha := PySem.F.args_bexc_ga (.ref x) (.str "__class__" tt)
  simp only [checkBuiltinCall,hk,hsplit]
  refine wpAny_bind (LB.at ?_)
  simp only [if_true,Bool.not_true,Bool.false_eq_true,if_false]
  refine chk_args ha (xbody X I F ?_)
  dsimp only
  exact PySem.W.handed_on rfl (wpAny_pure h)
theorem looks_cls {K : PySem.W.Frag}{M : Model}{h : Heap}{C : Addr}(X : K.In h)(e1 : (PySem.W.clsIn K C).isSome = true) : PySem.W.Looks M h (isType (.ref C)) true := by
  unfold PySem.W.clsIn at e1
  split at e1
  · rename_i c' d' cd' sl' ho
    intro A' Q' E' s' k q
    unfold isType loadHead; exact wpAny_bind (wpAny_loadPart (k _ _ (X _ _ ho)) (wpAny_pure q))
  · cases e1
section
variable {prog : Program}{w : World}{A : Around}{E : Value -> Shared -> Prop}{s : Shared}{K : PySem.W.Frag}{x C D : Addr}{ox : Obj}{T : String}{Q : Value -> Shared -> Prop}
theorem isi_not (X : K.In s.heap)(I : PySem.W.InstAt s.heap x ox D none)(F : XCls K D)(e : PySem.W.kin_not K D C = true)(h : Q (.bool false) { s with toks := s.toks + 1 }) : wpAny (model prog w) A (call (.builtin "isinstance") [.ref x,.ref C]) Q E s := by
  unfold PySem.W.kin_not at e
  rw [Bool.and_eq_true,Bool.and_eq_true,Bool.and_eq_true] at e
  obtain ⟨⟨⟨e0,e1⟩,e2⟩,e3⟩ := e
  have hne : (Value.ref D == Value.ref C) = false := Bool.eq_false_iff.mpr fun q => of_decide_eq_true e0 (Value.ref.inj (beq_iff_eq.mp q))
  refine call_isinstance_of ?_ (by intro q; cases q)
  obtain ⟨h0,g,d,tt,os⟩ := s
  have L0 := I.type (M := model prog w)
  have hsub : PySem.W.Looks (model prog w) h0 (isSubtype (.ref D) (.ref C)) false := PySem.W.looks_subIn X (beq_iff_eq.mp e3)
  have hty : PySem.W.Looks (model prog w) h0 (typeOf (.ref C)) (.type "type") := PySem.W.looks_typeIn X (beq_iff_eq.mp e2)
  have LI : PySem.W.Looks (model prog w) h0 (isInstance (.ref x) (.ref C)) false := L0.andThen hsub
  unfold Builtin.«isinstance.nested»; refine wpAny_bind (L0.at ?_)
  rw [if_neg (fun q => by rw [hne] at q; exact Bool.noConfusion q)]; refine wpAny_bind (hty.at ?_)
  rw [if_pos (by decide)]; k_delta "plainIsInstance"
  refine wpAny_bind (wpAny_bind ((looks_cls X e1).at ?_)); simp only [Bool.not_true,Bool.false_eq_true,if_false]
  refine wpAny_bind (LI.at ?_); simp only [Bool.false_eq_true,if_false]
  refine wpAny_bind (xget (s := ⟨h0,g,d,tt,os⟩) X I F ?_)
  refine wpAny_bind ((looks_cls X F.cls).at ?_); simp only [Bool.not_true,Bool.false_eq_true,if_false]
  refine wpAny_bind (wpAny_rule ?_); refine hsub.at ?_
  first | exact wpAny_pure h | exact wpAny_pure (wpAny_pure h) | exact wpAny_bind (wpAny_pure (wpAny_pure h))
theorem isi_self (I : PySem.W.InstAt s.heap x ox D none)(h : Q (.bool true) s) : wpAny (model prog w) A (call (.builtin "isinstance") [.ref x,.ref D]) Q E s := by
  refine call_isinstance_of ?_ (by intro q; cases q)
  obtain ⟨h0,g,d,tt,os⟩ := s
  have L0 := I.type (M := model prog w)
  unfold Builtin.«isinstance.nested»; refine wpAny_bind (L0.at ?_)
  rw [if_pos (by simp)]
  repeat (first | refine wpAny_pure ?_ | refine wpAny_rule ?_ | refine wpAny_bind ?_)
  exact h
theorem isi_base (X : K.In s.heap)(I : PySem.W.InstAt s.heap x ox D none)(e : PySem.W.subIn K (.ref D) (.type T) = some true)(ht : typeOf (.type T) = pure (.type "type")) (h : Q (.bool true) s) : wpAny (model prog w) A (call (.builtin "isinstance") [.ref x,.type T]) Q E s := by
  refine call_isinstance_of ?_ (by intro q; cases q)
  obtain ⟨h0,g,d,tt,os⟩ := s
  have L0 := I.type (M := model prog w)
  have LI : PySem.W.Looks (model prog w) h0 (isInstance (.ref x) (.type T)) true := L0.andThen (PySem.W.looks_subIn X e)
  unfold Builtin.«isinstance.nested»; refine wpAny_bind (L0.at ?_)
  rw [if_neg (by intro q; cases eq_of_beq q)]; refine wpAny_bind (wpAny_of_eq ht ?_)
  rw [if_pos (by decide)]; k_delta "plainIsInstance"
  refine wpAny_bind (wpAny_bind (m := isType (.type T)) (wpAny_pure (a := true) ?_)); simp only [Bool.not_true,Bool.false_eq_true,if_false]
  refine wpAny_bind (LI.at ?_); simp only [if_true]
  first | exact wpAny_pure h | exact wpAny_pure (wpAny_pure h) | exact wpAny_bind (wpAny_pure (wpAny_pure h))
end
section
variable {X : Cx}
theorem Inv.instAt {pins : List (Addr × Obj)}{σ : St}{H : Hp}{s : Shared}{x C : Addr}(I : Inv X pins σ H s)(hx : H x = some (ExcO x C)) : ∃ ox,PySem.W.InstAt s.heap x ox C none := by
  obtain ⟨ox,vs,e1,e2,e3,e4,e5⟩ := I.exc hx
  exact ⟨ox,e1,e2,by unfold PySem.W.notCls; rw [e4],by rw [e3]; trivial⟩
theorem call_isinstX (K : PySem.W.Frag)(hK : X.K = K) : CallR X (.builtin "isinstance") (fun xs H Q => ∃ (x D C : Addr) (b : Bool),xs = [.ref x,.ref C] /\ H x = some (ExcO x D) /\ ((b = true /\ C = D) \/ (b = false /\ XCls K D /\ PySem.W.kin_not K D C = true)) /\ Q (.bl b) H) := by
  intro pins s σ H xs us Q I r h
  subst hK
  obtain ⟨x,D,C,b,rfl,hx,hb,q⟩ := h
  obtain ⟨u,w',rfl,r1,r2⟩ := vals2 r
  cases r1; cases r2
  obtain ⟨ox,hI⟩ := I.instAt hx
  rcases hb with ⟨rfl,rfl⟩ | ⟨rfl,F,e⟩
  · exact isi_self hI ⟨.bl true,H,I,rfl,q⟩
  · exact isi_not I.kIn hI F e ⟨.bl false,H,I.tok _,rfl,q⟩
theorem call_isinstXT (K : PySem.W.Frag)(hK : X.K = K) : CallR X (.builtin "isinstance") (fun xs H Q => ∃ (x D : Addr) (T : String),xs = [.ref x,.ty T] /\ H x = some (ExcO x D) /\ PySem.W.subIn K (.ref D) (.type T) = some true /\ typeOf (.type T) = pure (.type "type") /\ Q (.bl true) H) := by
  intro pins s σ H xs us Q I r h
  subst hK
  obtain ⟨x,D,T,rfl,hx,e,ht,q⟩ := h
  obtain ⟨u,w',rfl,r1,r2⟩ := vals2 r
  cases r1; cases (show w' = Value.type T from r2)
  obtain ⟨ox,hI⟩ := I.instAt hx
  exact isi_base I.kIn hI e ht ⟨.bl true,H,I,rfl,q⟩
theorem pe_globC {x : Str}{C : Addr}{pos : Pos}(hg : Gl X x)(hm : X.mg x = some (.ref C))(hd : (x == ("__debug__" : Str)) = false := by decide) : PE X (.Name x pos) (tC (.ref C)) := pe_glob hg hm rfl hd
end
theorem exm_own {M : Model}{A : Around}{E : Value -> Shared -> Prop}{s : Shared}{K : PySem.W.Frag}{x B C : Addr}{ox : Obj}{Q : Bool -> Shared -> Prop}(X : K.In s.heap)(I : PySem.W.InstAt s.heap x ox C none)(hB : (PySem.W.clsIn K B).isSome = true)(tB : PySem.W.typeIn K (.ref B) = some (.type "type"))
    (bB : PySem.W.subIn K (.ref B) (.type "BaseException") = some true) (cB : PySem.W.subIn K (.ref C) (.ref B) = some true) (h : Q true s) : wpAny M A (excMatches (.ref x) (.ref B)) Q E s := by
  obtain ⟨h0,g,d,tt,os⟩ := s
  have LT : PySem.W.Looks M h0 (isInstance (.ref B) (.type "tuple")) false := (PySem.W.looks_typeIn X tB).andThen (PySem.W.Looks.of_pure tc_notTuple)
  have LE : PySem.W.Looks M h0 (isExcClass (.ref B)) true := by
    unfold isExcClass
    exact (looks_cls X hB).andThen (PySem.W.looks_subIn X bB)
  unfold excMatches
  refine wpAny_bind (LT.at ?_)
  simp only [Bool.false_eq_true,if_false]
  refine wpAny_bind (wpAny_pure ?_)
  simp only [List.forIn_cons,List.forIn_nil]
  refine wpAny_bind (wpAny_bind (wpAny_bind (LE.at ?_)))
  simp only [Bool.not_true,Bool.false_eq_true,if_false]
  refine wpAny_pure (wpAny_pure ?_)
  refine wpAny_bind (I.type.at ?_)
  refine wpAny_bind (wpAny_bind (wpAny_bind ((PySem.W.looks_subIn X cB).at ?_)))
  simp only [if_true]
  exact wpAny_pure (wpAny_pure (wpAny_pure h))
end L2
set_option Elab.async false
set_option linter.all false
set_option maxRecDepth 100000
set_option maxHeartbeats 4000000
namespace L2
open PySem PySem.Spec PyProof.Rows
abbrev Cx.re (X : Cx)(E : Value -> Shared -> Prop)(pn : List (Addr × Obj)) : Cx := { X with xe := E,pn := pn }
abbrev Cx.marked (X : Cx)(x : Addr) : Cx := { X with A := X.A.mark (some (.ref x)),calm := false,xe := fun _ _ => False }
section
variable {X : Cx}{pins pl : List (Addr × Obj)}{σ : St}{H : Hp}{s : Shared}{E : Value -> Shared -> Prop}{x : Addr}
theorem Cx.Ok.re (ok : X.Ok)(E : Value -> Shared -> Prop)(pn : List (Addr × Obj)) : (X.re E pn).Ok := ⟨ok.mod,ok.kind,ok.glob,ok.blt,ok.above,ok.inj,ok.has,ok.cab,ok.hd,ok.frames,ok.stk,ok.exf,ok.bs,ok.bsz,ok.noex,ok.exfs,ok.funs,ok.frf⟩
theorem Cx.Ok.unre {pn : List (Addr × Obj)}(ok : (X.re E pn).Ok) : X.Ok := ⟨ok.mod,ok.kind,ok.glob,ok.blt,ok.above,ok.inj,ok.has,ok.cab,ok.hd,ok.frames,ok.stk,ok.exf,ok.bs,ok.bsz,ok.noex,ok.exfs,ok.funs,ok.frf⟩
theorem Cx.Ok.marked (ok : X.Ok)(x : Addr) : (X.marked x).Ok := ⟨ok.mod,ok.kind,ok.glob,ok.blt,ok.above,ok.inj,ok.has,ok.cab,fun z => (by cases z),ok.frames,ok.stk,ok.exf,ok.bs,ok.bsz,ok.noex,ok.exfs,ok.funs,ok.frf⟩
theorem Inv.re (I : Inv X pins σ H s)(E : Value -> Shared -> Prop) : Inv (X.re E (X.pn ++ pins)) [] σ H s := ⟨I.ok.re E _,I.os,I.bare,I.base,I.loc,I.cell,I.free,I.freeC,fun p hp => I.pin p (by simpa using hp),I.hok,I.len⟩
theorem Inv.unre (I : Inv (X.re E (X.pn ++ pins)) pl σ H s) : Inv X pins σ H s := ⟨I.ok.unre,I.os,I.bare,I.base,I.loc,I.cell,I.free,I.freeC,fun p hp => I.pin p (List.mem_append_left _ hp),I.hok,I.len⟩
theorem Inv.marked (I : Inv X pins σ H s)(x : Addr) : Inv (X.marked x) pins σ H s := ⟨I.ok.marked x,I.os,I.bare,I.base,I.loc,I.cell,I.free,I.freeC,I.pin,I.hok,I.len⟩
theorem Inv.unmarked (ok : X.Ok)(I : Inv (X.marked x) pins σ H s) : Inv X pins σ H s := ⟨ok,I.os,I.bare,I.base,I.loc,I.cell,I.free,I.freeC,I.pin,I.hok,I.len⟩
theorem Inv.forget {i : Nat}{n : Str}{m : Str -> Option Value}{u : Option Value}{h' : Heap}(I : Inv X pins σ H s)(hN : X.N.Nodup)(hi : X.N[i]? = some n)(hσ : σ[i]? = some none)(hn : s.heap.Ns X.env.locals m)(hn' : h'.Ns X.env.locals (fun y => if y = n then u else m y))(hs : Heap.SameBut X.env.locals s.heap h') :
    Inv X pins σ H { s with heap := h' } := by
  obtain ⟨m0,hn0,hl⟩ := id I.loc
  obtain ⟨oL,_,_,hoL,_⟩ := id hn
  have cne := I.cne
  have mm : m0 = m := by
    obtain ⟨o,es,ep,e1,d1,_,f1⟩ := hn0; obtain ⟨o',es',ep',e2,d2,_,f2⟩ := hn
    rw [e1] at e2; cases e2; rw [d1] at d2; cases d2; funext y; rw [<- f1,<- f2]
  subst mm
  refine ⟨I.ok,I.os,I.bare,⟨fun b o e n hb hx => ?_,fun b o e n hb hx => ?_,I.base.free,fun b o e hx => ?_,I.base.tups,I.base.frzs,I.base.tbls⟩,⟨_,hn',fun j y v' e1 e2 e3 => ?_⟩,fun y c e => ?_,I.free,I.freeC,fun p hp => ?_,fun b ob e => ?_,I.len⟩
  · exact (hs.2 b (Nat.ne_of_lt (Nat.lt_of_lt_of_le (Heap.lt_size e) I.ok.above))).trans (I.base.keep b o e n hb hx)
  · obtain ⟨sl,e1⟩ := I.base.slot b o e n hb hx
    exact ⟨sl,(hs.2 b (Nat.ne_of_lt (Nat.lt_of_lt_of_le (Heap.lt_size e) I.ok.above))).trans e1⟩
  · obtain ⟨o',e1⟩ := I.base.there b o e hx
    exact ⟨o',(hs.2 b (Nat.ne_of_lt (Nat.lt_of_lt_of_le (Heap.lt_size e) I.ok.above))).trans e1⟩
  · obtain ⟨u',r',q⟩ := hl j y v' e1 e2 e3
    refine ⟨u',r',?_⟩
    have hj : j ≠ i := fun z => by rw [z,hσ] at e2; cases e2
    rcases q with ⟨k,e⟩ | ⟨k,c,e,z⟩
    · refine .inl ⟨k,?_⟩
      have : y ≠ n := fun e => hj (nodup_ix hN e1 (e ▸ hi))
      simp [this,e]
    · exact .inr ⟨k,c,e,z.sameBut hs (cne y c e)⟩
  · obtain ⟨w',z⟩ := I.cell y c e
    exact ⟨w',z.sameBut hs (cne y c e)⟩
  · obtain ⟨e,n,ne,nf,d⟩ := I.pin p hp
    exact ⟨(hs.2 p.1 ne).trans e,n,ne,nf,d⟩
  · refine (I.hok b ob e).stay (fun c w' hc q => (hs.2 c ?_).trans q) (fun _ q => q) fun _ _ q => q
    rintro rfl
    rcases hc with rfl | hc
    · rw [I.free] at e; cases e
    · rw [I.free] at hc; cases hc
theorem unbind_ok {M : Model}{A : Around}{F : Value -> Shared -> Prop}{i : Nat}{n : Str}{pos : Pos}{Q : Unit -> Shared -> Prop}(I : Inv X pins σ H s)(hN : X.N.Nodup)(hi : X.N[i]? = some n)(hx : X.env.scope.names.lookup n = some .local)
    (h : ∀ s',Inv X pins (σ.set i none) H s' -> Q () s') : wpAny M A (do bindName X.env n .none; unbindBehindTheSuite X.env n pos) Q F s := by
  have hcls : (X.env.scope.kind == .class || (X.env.scope.kind == .module && X.env.locals != X.env.globals)) = false := by rw [I.ok.kind]; rfl
  have hiσ : i < σ.length := by rw [I.len]; exact (List.getElem?_eq_some_iff.mp hi).1
  refine wpAny_bind (wpAny_bindName (store_ok I hN hi (.inl hx) (v := V.non) (u := Value.none) rfl (fun s1 I1 => ?_) (.inr hx)))
  unfold unbindBehindTheSuite; refine wpAny_onRaise ?_
  obtain ⟨m,hn,hl⟩ := id I1.loc
  obtain ⟨u,r,q⟩ := hl i n .non hi (by simp [hiσ]) (.inl hx)
  have hv : m n = some u := by
    rcases q with ⟨_,e⟩ | ⟨k,_⟩
    · exact e
    · have hx' : X.env.kindOf n = some .local := hx
      rw [hx'] at k
      rcases k with z | z <;> cases z
  refine wpAny_unbindName_local hx hn hv hcls fun h' u' hn' hs => h _ ?_
  have I2 : Inv X pins (σ.set i none) H s1 := I1.weak (by simp) fun j v e => by
    by_cases hj : j = i
    · subst hj
      rw [List.getElem?_set_self hiσ] at e; cases e
    · rw [List.getElem?_set_ne (Ne.symm hj)] at e ⊢
      exact e
  exact I2.forget hN hi (by rw [List.getElem?_set_self hiσ]) hn hn' hs
end
theorem note_next {M : Model}{A : Around}{F : Value -> Shared -> Prop}{s : Shared}{base : Heap}{env : Env}{outer : List Env}{L x T0 : Addr}{ox oT : Obj}{vs ts : Array Value}{Q : Unit -> Shared -> Prop}(f1 : A.frames = some (env :: outer))(f2 : s.heap.FunFrames base (env :: outer))(f3 : env.frame = some L)
    (x1 : s.heap.get? x = some ox) (x2 : ox.data = .fields vs) (x3 : vs[1]? = some (.ref T0)) (t1 : s.heap.get? T0 = some oT) (t2 : oT.data = .fields ts) (t3 : ts[3]? = some .none) (tx : T0 ≠ x)
    (q : ∀ h' T,Gone ((env :: outer).filterMap (·.frame)) x ox [T0] s.heap h' T -> Q () { s with heap := h' }) : wpAny M A (noteFrame (.ref x) env) (fun _ s' => wpAny M A (setFlight (.ref x) none) Q F s') F s := by
  unfold noteFrame; simp only [f3]
  refine wpAny_bind (wpAny_field x1 x2 x3 ?_); rw [if_pos (show (Value.ref T0 != Value.none) = true from by simp)]
  refine wpAny_bind (wpAny_field t1 t2 t3 ?_); rw [if_neg (show ¬ ((Value.none == rawInt L) = true) from by simp [rawInt])]
  refine wpAny_bind (wpAny_setField t1 t2 (Array.getElem?_eq_some_iff.mp t3).1 ?_)
  have oth : ∀ b,b ≠ T0 -> (s.heap.update T0 (Obj.mapFields (·.setIfInBounds 3 Value.none))).get? b = s.heap.get? b := fun b hb => Heap.get?_update_other _ _ (Ne.symm hb)
  have nrec : ∀ b o,s.heap.get? b = some o -> (∀ vs,o.data ≠ .fields vs) -> b ≠ T0 := fun b o e n z => by
    rw [z,t1] at e
    cases e
    exact n ts t2
  have fT : ∀ b ∈ (env :: outer).filterMap (·.frame),b ≠ T0 := fun b hb => by
    obtain ⟨_,o,e1,e2⟩ := f2.mem hb
    exact nrec b o e1 e2
  refine entry_gone f1 (f2.of_keeps fun b o e n => ⟨o,(oth b (nrec b o e n)).trans e,rfl⟩) f3 ((oth x (Ne.symm tx)).trans x1) x2 (Array.getElem?_eq_some_iff.mp x3).1 fun h' T g => q h' T ⟨?_,?_,?_,g.exc,g.tr⟩
  · intro b o nf nx no e
    exact g.keep b o nf nx (by simp) ((oth b (by simpa using no)).trans e)
  · intro b o hb e
    exact g.slot b o hb ((oth b (fT b hb)).trans e)
  · have := g.new
    simpa using this
structure XBase (K : PySem.W.Frag)(B : Addr) : Prop where
  cls : (PySem.W.clsIn K B).isSome = true
  typ : PySem.W.typeIn K (.ref B) = some (.type "type")
  exc : PySem.W.subIn K (.ref B) (.type "BaseException") = some true
def tTry (N : List Str)(K : PySem.W.Frag)(Ba : Addr)(i : Nat)(tb : XK -> TS)(th : Addr -> TS) : TS := fun D σ H => ∃ E : XK,tb E D σ H /\ ∀ C H' x,E (.ref C) none H' -> H' x = none -> PySem.W.subIn K (.ref C) (.ref Ba) = some true /\
  th x { nx := fun σ' H'' => D.nx (σ'.set i none) H'',rt := D.rt,bk := fun σ' H'' => D.bk (σ'.set i none) H'',ct := fun σ' H'' => D.ct (σ'.set i none) H'' } ((List.replicate N.length none).set i (some (.ref x))) (upd H' x (ExcO x C))
theorem ps_try {X : Cx}{body : List Stmt}{B n : Str}{np hpos pos : Pos}{b₀ : Stmt}{suite : List Stmt}{i : Nat}{tb : XK -> TS}{th : Addr -> TS}{Ba : Addr}(K : PySem.W.Frag)(hK : X.K = K)(hst : X.stack = X.env :: X.outer)(hfr : X.env.frame = some X.env.locals)(hg : Gl X B)(hm : X.mg B = some (.ref Ba))(F : XBase K Ba)
    (hN : X.N.Nodup) (hi : X.N[i]? = some n) (hn : X.env.scope.names.lookup n = some .local)
    (hb : ∀ (xe : Value -> Shared -> Prop) (pn : List (Addr × Obj)) (E : XK),Passes (CX1 X.prog X.w X.base) (X.re xe pn) E -> PSs (X.re xe pn) body (tb E)) (hs : ∀ x,PSs (X.marked x) (b₀ :: suite) (th x)) (hd : (B == ("__debug__" : Str)) = false := by decide) :
    PS X (.Try body [.ExceptHandler (some (.Name B np)) (some n) (b₀ :: suite) hpos] [] [] pos) (tTry X.N K Ba i tb th) := by
  intro pins s σ H D I ⟨E,hbody,hcatch⟩
  subst hK
  refine wpAny_Try_except ?_
  have hp : Passes (CX1 X.prog X.w X.base) (X.re (fun e s' => ∃ σ0 H0 s0,Inv X pins σ0 H0 s0 /\ CX1 X.prog X.w X.base X.stack H0 s0 E e s') (X.pn ++ pins)) E := fun pins' σ' H1 s1 e s' I1 h => ⟨σ',H1,s1,I1.unre,h⟩
  refine wpAny_mono (hb _ _ E hp [] s σ H D (I.re _) hbody) (fun f s1 q => ?_) (fun e s1 hx => ?_)
  · cases f with
    | next => obtain ⟨σ',H',I',q⟩ := q; exact wpAny_execs_nil ⟨σ',H',I'.unre,q⟩
    | brk => obtain ⟨σ',H',I',q⟩ := q; exact ⟨σ',H',I'.unre,q⟩
    | cont => obtain ⟨σ',H',I',q⟩ := q; exact ⟨σ',H',I'.unre,q⟩
    | ret u => obtain ⟨v,σ',H',I',r,q⟩ := q; exact ⟨v,σ',H',I'.unre,r,q⟩
  obtain ⟨σ0,H0,s0,I0,x,C,H2,rfl,os,bare,U,hok,⟨hx0,hb0,hg0,ox,vs,T0,oT,ts',x1,xc,xn,xd,v1,v2,tx,hT0,bT0,gT0,t1,t2,t3⟩,q⟩ := hx
  obtain ⟨cB,hth⟩ := hcatch C H2 x q hx0
  have I2 : Inv X pins σ0 H2 s1 := I0.raised os bare U hok
  have hfrm : X.A.frames = some (X.env :: X.outer) := by rw [<- hst]; exact I2.ok.frames
  have hstk : s1.heap.FunFrames X.base (X.env :: X.outer) := by rw [<- hst]; exact I2.stack
  refine note_next (base := X.base) hfrm hstk hfr x1 xd v1 t1 t2 t3 tx fun h2 T g => ?_
  have hfs : (X.env :: X.outer).filterMap (·.frame) = frs X.stack := by rw [hst]; rfl
  rw [hfs] at g
  have ne1 : ∀ b o,s0.heap.get? b = some o -> b ≠ x /\ b ≠ T0 := fun b o eb => ⟨fun z => (by rw [z,hg0] at eb; cases eb),fun z => (by rw [z,gT0] at eb; cases eb)⟩
  have nTo : ∀ b o,s1.heap.get? b = some o -> b ≠ T := fun b o eb z => by
    have h1 := Heap.lt_size eb
    rw [z] at h1
    exact absurd (Nat.lt_of_lt_of_le h1 g.new) (Nat.lt_irrefl _)
  have tH : H2 T = none := by
    cases z : H2 T with
    | none => rfl
    | some o =>
      obtain ⟨ob,eo⟩ := (hok T o z).ex
      exact absurd rfl (nTo T ob eo)
  have hTx : T ≠ x := fun z => nTo x ox x1 z.symm
  have dx := Obj.data_mapFields xd (·.setIfInBounds 1 (Value.ref T))
  obtain ⟨oT',tv,g1,g2,g3⟩ := g.tr
  have mk : ∀ h3 : Heap,(∀ b o,b ≠ T -> h2.get? b = some o -> h3.get? b = some o) -> Inv X pins σ0 (upd H2 x (ExcO x C)) { s1 with heap := h3 } := fun h3 k3 => by
    have nT0 : ∀ b o,s0.heap.get? b = some o -> b ≠ T := fun b o eb => by
      obtain ⟨o',e'⟩ := U.there b o eb (by simp)
      exact nTo b o' e'
    have xg : h3.get? x = some (ox.mapFields (·.setIfInBounds 1 (Value.ref T))) := k3 _ _ (Ne.symm hTx) g.exc
    have hok3 : HOk X.prog X.w (upd H2 x (ExcO x C)) h3 := fun b o eb => by
      by_cases hbx : b = x
      · subst hbx
        rw [upd_same] at eb
        cases eb
        refine ExcO.ok xg ((Obj.cls_mapFields ..).trans xc) ((dict_mapF ..).trans xn) dx ?_
        rw [Array.getElem?_setIfInBounds_ne (by decide)]
        exact v2
      · rw [upd_ne hbx] at eb
        refine (hok b o eb).stay (fun c v hc ev => k3 c v (nTo c v ev) (g.keep c v (fun hb => ?_) (fun z => ?_) (fun z => ?_) ev)) (fun c z => ?_) fun c xs z => ?_
        · have := I2.stkFree c hb
          rcases hc with y | y
          · rw [y,eb] at this; cases this
          · rw [y] at this; cases this
        · rcases hc with y | y
          · exact hbx (y ▸ z)
          · rw [z,hx0] at y; cases y
        · have z : c = T0 := by simpa using z
          rcases hc with y | y
          · rw [<- y,z,hT0] at eb; cases eb
          · rw [z,hT0] at y; cases y
        · rw [upd_ne (ne_of_none z hx0)]; exact z
        · rw [upd_ne (ne_of_none z hx0)]; exact z
    refine I0.raised (s' := { s1 with heap := h3 }) os bare ⟨fun b o eb n hb hx => ?_,fun b o eb n hb hx => ?_,fun b o eb n hx => ?_,fun b o eb hx => ?_,fun b xs e => ?_,fun b o u e => ?_,fun b ps e => ?_⟩ hok3
    · exact k3 b o (nT0 b o eb) (g.keep b o hb (ne1 b o eb).1 (by simpa using (ne1 b o eb).2) (U.keep b o eb n hb hx))
    · obtain ⟨z,e4⟩ := U.slot b o eb n hb hx
      obtain ⟨z',e5⟩ := g.slot b _ hb e4
      exact ⟨z',k3 b _ (nT0 b o eb) e5⟩
    · rw [upd_ne (ne1 b o eb).1]
      exact U.free b o eb n hx
    · obtain ⟨o',e4⟩ := U.there b o eb hx
      by_cases hb : b ∈ frs X.stack
      · obtain ⟨z,e5⟩ := g.slot b o' hb e4
        exact ⟨_,k3 b _ (nT0 b o eb) e5⟩
      · exact ⟨o',k3 b _ (nT0 b o eb) (g.keep b o' hb (ne1 b o eb).1 (by simpa using (ne1 b o eb).2) e4)⟩
    · have := U.tups b xs e
      rw [upd_ne (ne_of_none this hx0)]; exact this
    · have := U.frzs b o u e
      rw [upd_ne (ne_of_none this hx0)]; exact this
    · obtain ⟨more,this⟩ := U.tbls b ps e
      exact ⟨more,by rw [upd_ne (ne_of_none this hx0)]; exact this⟩
  have I3 := mk h2 fun _ _ _ e => e
  obtain ⟨o3,hI3⟩ := I3.instAt (x := x) (C := C) upd_same
  refine wpAny_handleBy_cons (codeAny_handlers_test (ld_glob (X := X.marked x) (I3.marked x) hg hm ?_ hd)) (by intro z; cases z)
  refine exm_own I3.kIn hI3 F.cls F.typ F.exc cB ?_
  show codeAny _ _ (.handlers (.ref x) [.ExceptHandler none (some n) (b₀ :: suite) hpos] X.env) _ _
  refine codeAny_handlers_suite_as ?_
  unfold setFlight
  refine wpAny_bind (wpAny_field g.exc dx (x := .ref T) (by have := (Array.getElem?_eq_some_iff.mp v1).1; simp [this]) ?_); rw [if_pos (show (Value.ref T != Value.none) = true from by simp)]
  refine wpAny_setField g1 g2 (Array.getElem?_eq_some_iff.mp g3).1 ?_
  have I4 := (mk _ fun b o hb e => (Heap.get?_update_other h2 (Obj.mapFields (·.setIfInBounds 3 Value.none)) (Ne.symm hb)).trans e).marked x
  have hiN : i < X.N.length := (List.getElem?_eq_some_iff.mp hi).1
  have I5 : Inv (X.marked x) pins (List.replicate X.N.length none) _ _ := I4.weak (σ' := List.replicate X.N.length none) (by rw [List.length_replicate]; exact I4.len.symm) fun j v e => by
    rw [List.getElem?_replicate] at e
    split at e <;> cases e
  refine store_ok (X := X.marked x) I5 hN hi (.inl hn) (v := V.ref x) (u := .ref x) rfl (fun s5 I6 => ?_) (.inr hn)
  refine wpAny_mono (hs x pins s5 _ _ _ I6 hth) (fun f s6 q6 => ?_) fun _ _ z => False.elim z
  cases f with
  | next => obtain ⟨σ',H',I',q⟩ := q6; exact unbind_ok (I'.unmarked I.ok) hN hi hn fun s7 I7 => ⟨_,_,I7,q⟩
  | brk => obtain ⟨σ',H',I',q⟩ := q6; exact unbind_ok (I'.unmarked I.ok) hN hi hn fun s7 I7 => ⟨_,_,I7,q⟩
  | cont => obtain ⟨σ',H',I',q⟩ := q6; exact unbind_ok (I'.unmarked I.ok) hN hi hn fun s7 I7 => ⟨_,_,I7,q⟩
  | ret u => obtain ⟨v,σ',H',I',r,q⟩ := q6; exact unbind_ok (I'.unmarked I.ok) hN hi hn fun s7 I7 => ⟨v,_,_,I7,r,q⟩
end L2
set_option Elab.async false
set_option linter.all false
set_option maxRecDepth 100000
set_option maxHeartbeats 4000000
namespace L2
open PySem PySem.Spec PyProof.Rows
abbrev bmV : List Value := [.type "ValueError",.type "Exception",.type "BaseException",.type "object"]
theorem own_K {K : PySem.W.Frag}{base : Heap}{mg : Str -> Option Value}{x : Str}{C : Addr}{bmB : List Value}{newId : String}(X : K.In base)(G : base.Ns mainGlobals mg)(e : PySem.W.nsIn K mainGlobals x = some (some (.ref C)))(q : PySem.W.excIn K C bmB newId = true) : OwnCls x C bmB newId mg base := by
  refine ⟨PySem.W.mg_of X G e,?_⟩
  unfold PySem.W.excIn at q
  split at q
  · rename_i dd cd sl ho
    split at q
    · rename_i C' bm k0 k1 k2 k3 n k5 hm hs
      simp only [Bool.and_eq_true,beq_iff_eq,Bool.not_eq_true'] at q; obtain ⟨⟨⟨⟨⟨rfl,rfl⟩,hdel⟩,ht⟩,hok⟩,hni⟩ := q
      obtain ⟨nm,bs,mro,ns,qn,hd,sn,sub,ab,col,del⟩ := cd
      dsimp only at hm hdel hok hni; subst hm hdel
      have hsl : sl = #[k0,k1,k2,k3,some (.builtin n),k5] := by
        obtain ⟨l⟩ := sl
        simp only at hs; rw [hs]
      subst hsl
      refine ⟨bm,ns,nm,qn,bs,hd,sn,sub,ab,col,dd,k0,k1,k2,k3,k5,_,X _ _ ho,.of_isNs (PySem.W.isNs_of_in X hok),PySem.W.nsMap_none_of_in X hok hni,PySem.W.tail_of_in X ht⟩
    · cases q
  · cases q
theorem pass10 {P : Program}{w : World}{base : Heap}{X : Cx} : Passes (CX1 P w base) X E0 := fun _ _ _ _ _ _ _ h => by
  obtain ⟨_,_,_,_,_,_,_,_,_,q⟩ := h
  exact q.elim
theorem ty_ValueError : typeOf (.type "ValueError") = pure (.type "type") := by kernel_rfl
theorem ps_raise1 {P : Program}{w : World}{K : PySem.W.Frag}{mg : Str -> Option Value}{base : Heap}{N : List Str}{qual : Str}{scope : Scope}{f : Addr}{cd : Value}{A : Around}{outer : List Env}{s : Shared}{H : Hp}{E : XK}{x m : Str}{C : Addr}{j}{mp np cpos pos : Pos}(O : OwnCls x C bmV "ValueError.__new__" mg base)
    (hg : Gl (cxOf (CX1 P w base) P w K mg base N qual scope f cd A outer s H E) x) (hd : (x == ("__debug__" : Str)) = false := by decide) :
    PS (cxOf (CX1 P w base) P w K mg base N qual scope f cd A outer s H E) (.Raise (some (.Call (.Name x np) [.Constant (.str m) j mp] [] cpos)) none pos) (fun _ _ H1 => E (.ref C) none H1) :=
  ps_raise (X := cxOf (CX1 P w base) P w K mg base N qual scope f cd A outer s H E) O PySem.F.excBase_ValueError (by decide) PySem.F.excBase_ValueError rfl hg E (fun pins σ H1 s1 h' e us I hm q => xe_raise pins σ H1 s1 h' e us I hm q) (pa_cons pe_str pa_nil) (fun σ H Q q => ⟨Nat.le_trans (Nat.le_of_ble_eq_true rfl) le1000,q⟩) rfl rfl hd
section
variable {X : Cx}
theorem pa_strs : ∀ cs : List (Str × Nat × Pos),PA X (cs.map fun c => .Constant (.str c.1) c.2.1 c.2.2) (fun σ H Q => Q (cs.map fun c => V.str c.1) H)
  | [] => pa_nil
  | c :: cs => by
    intro pos pins s σ H Q I h
    exact pa_cons (e := .Constant (.str c.1) c.2.1 c.2.2) pe_str (pa_strs cs) (by rfl) pos pins s σ H Q I h
theorem pe_lstStrs {es : List Expr}{pos : Pos}(cs : List (Str × Nat × Pos))(h : es = cs.map fun c => .Constant (.str c.1) c.2.1 c.2.2) : PE X (.List es pos) (tLst fun σ H Q => Q (cs.map fun c => V.str c.1) H) := by
  subst h
  exact pe_lst (pa_strs cs)
end
end L2
set_option Elab.async false
set_option linter.all false
set_option maxRecDepth 100000
set_option maxHeartbeats 4000000
namespace L2
open PySem PySem.Spec PyProof.Rows
section
variable {prog : Program}{w : World}{A : Around}{E : Value -> Shared -> Prop}{s : Shared}
theorem draw_lst {it l : Addr}{items : Array Value}(hne : l ≠ it) : ∀ (n i : Nat) (s : Shared) (Q : List Value -> Shared -> Prop),s.heap.IsListIter it l i -> s.heap.IsList l items -> i + n <= items.size ->
    (∀ h',h'.IsListIter it l (i + n) -> Heap.SameBut it s.heap h' -> Q ((items.toList.drop i).take n) { s with heap := h' }) -> wpAny (model prog w) A (draw (.ref it) n) Q E s
  | 0,i,s,Q,hit,_,_,hQ => by
    show wpAny _ _ (pure []) Q E s; exact wpAny_pure (by simpa using hQ s.heap hit (Heap.SameBut.refl ..))
  | n + 1,i,s,Q,hit,ht,hle,hQ => by
    have hlt : i < items.size := by omega
    show wpAny _ _ (pyNext (.ref it) >>= _) Q E s; refine wpAny_bind (wpAny_pyNext_list_item hit ht (x := items[i]) (by simp [hlt]) fun h₁ hit₁ hs₁ => ?_)
    have ht1 : h₁.IsList l items := by
      obtain ⟨o,e,r⟩ := ht
      exact ⟨o,(hs₁.2 l hne).trans e,r⟩
    refine wpAny_bind (wpAny_holding (draw_lst hne n (i + 1) _ _ hit₁ ht1 (by omega) fun h₂ hit₂ hs₂ => wpAny_pure ?_))
    have hd : items.toList.drop i = items[i] :: items.toList.drop (i + 1) := by simp [List.drop_eq_getElem_cons,hlt]
    have := hQ h₂ (by rw [show i + (n + 1) = i + 1 + n by omega]; exact hit₂) (hs₁.trans hs₂)
    rw [hd,List.take_succ_cons] at this
    exact this
theorem unpackItems_lst {l : Addr}{items : Array Value}{Q : List Value -> Shared -> Prop}(hh : A.handled = none)(ht : s.heap.IsList l items)
    (hQ : ∀ h',Heap.ExtBut s.heap.objs.size s.heap h' -> Q items.toList { s with heap := h' }) : wpAny (model prog w) A (unpackItems (.ref l) items.size none) Q E s := by
  have hlt : l ≠ s.heap.objs.size := by obtain ⟨o,ho,_⟩ := ht; exact Nat.ne_of_lt (Heap.lt_size ho)
  have ty : s.TypeIs (.ref l) "list" := by obtain ⟨o,ho,hc,_⟩ := ht; exact ⟨o,ho,hc⟩
  unfold unpackItems; refine wpAny_bind ?_
  unfold notIterableAtAll; refine wpAny_bind (wpAny_specialOf ty slot_list_iter.lookup ?_)
  refine wpAny_pure ?_; simp only [Bool.false_eq_true,if_false]
  refine wpAny_bind (wpAny_holding (wpAny_pyIter_list ht ?_))
  have hp : ∀ ob : Obj,(s.heap.push ob).IsList l items := fun ob => by
    obtain ⟨o,e,r⟩ := ht
    exact ⟨o,Heap.get?_push_of_some _ e,r⟩
  refine wpAny_bind (wpAny_holding (draw_lst hlt items.size 0 _ _ ⟨_,Heap.get?_push_size _ rfl,rfl,rfl⟩ (hp _) (by omega) fun h₁ hit₁ hs₁ => ?_))
  have hall : List.take items.size (List.drop 0 items.toList) = items.toList := by rw [List.drop_zero]; exact List.take_of_length_le (by simp)
  rw [hall,if_neg (by simp)]
  have ht₁ : h₁.IsList l items := by
    obtain ⟨o,e,r⟩ := ht
    exact ⟨o,(hs₁.2 l hlt).trans (Heap.get?_push_of_some _ e),r⟩
  refine wpAny_bind (wpAny_holding (wpAny_pyNext_list_end hh hit₁ ht₁ (by simp) fun h₂ he₂ => ?_))
  simp only [Option.isSome_none,Bool.false_eq_true,if_false]
  refine wpAny_pure (hQ h₂ fun b o hb e => he₂ b o hb (hs₁.extBut b o hb (Heap.get?_push_of_some _ e)))
end
section
variable {X : Cx}
def gLst (K : PySem.W.Frag)(n : Nat)(t : TGs) : TG := fun v σ H Q => ∃ a xs,v = .ref a /\ SqL K H a xs /\ xs.length = n /\ t xs σ H Q
theorem pg_lstK {es : List Expr}{k : Nat}{t : TGs}{n : Nat}{pos : Pos}(K : PySem.W.Frag)(hK : X.K = K)(hc : X.calm = true)(h : PGs X es t)(hn : (assignEach es X.env).length = n := by rfl)(hst : (assignEach es X.env).findIdx? (·.1) = none := by rfl) : PG X (.Tuple es k pos) (gLst K n t) := by
  subst hK
  intro pins s σ H v u Q I r hw
  obtain ⟨a,xs,e1,hq,hl,hw⟩ := hw
  subst e1
  cases r
  obtain ⟨its,rv,p,hz⟩ := I.list hq
  have hl' : its.toArray.size = n := by simp [<- hl,rv.length]
  rw [assign_Tuple]; refine wpAny_bind (wpAny_standAt ?_)
  unfold unpack; rw [hn,hst,<- hl']
  refine wpAny_bind (wpAny_holding (unpackItems_lst (I.ok.hd hc) p.isList fun h' hx => ?_))
  have I1 : Inv X pins σ H { s with heap := h' } := I.kept (t' := s.toks) fun b o e => hx b o (Nat.ne_of_lt (Heap.lt_size e)) e
  exact h pins _ σ H xs _ Q I1 (by simpa using rv) hw
theorem op_eqL (K : PySem.W.Frag)(hK : X.K = K)(hu : X.A.units < cLine) : OpR X (compareOp .Eq) (fun x y H Q => ∃ (a b : Addr) (xs : List V),x = .ref a /\ y = .ref b /\ SqL K H a xs /\ SqL K H b xs /\ (∀ x ∈ xs,flatV x = true) /\ Q (.bl true) H) := by
  subst hK
  intro pins s σ H x y v u Q I rx ry h
  obtain ⟨a,b,xs,rfl,rfl,ha,hb,hf,q⟩ := h
  cases rx
  cases ry
  obtain ⟨its,r1,p1,_⟩ := I.list ha; obtain ⟨its2,r2,p2,_⟩ := I.list hb
  have l1 : its.length = xs.length := r1.length.symm
  have l2 : its2.length = xs.length := r2.length.symm
  refine SeqAt.eq_listAt (items := its.toArray) (items2 := its2.toArray) (e := fun _ => true) p1.isList p2.isList (by simp [l1,l2]) hu (fun j h1 h2 => ?_) ?_
  · have g1 : j < its.length := by simpa using h1
    have g2 : j < its2.length := by simpa using h2
    have hx : xs[j]? = some (xs[j]'(by omega)) := List.getElem?_eq_getElem (by omega)
    obtain ⟨u1,m1,t1⟩ := r1.get hx; obtain ⟨u2,m2,t2⟩ := r2.get hx
    have w1 : its[j] = u1 := by rw [List.getElem?_eq_getElem g1] at m1; exact Option.some.inj m1
    have w2 : its2[j] = u2 := by rw [List.getElem?_eq_getElem g2] at m2; exact Option.some.inj m2
    simp only [List.getElem_toArray,w1,w2]
    have fx := hf _ (List.getElem_mem (l := xs) (n := j) (by omega))
    have := eqAt_V (A := X.A.in1) (s := s) t1 t2 fx fx
    rw [eqV_self fx] at this
    exact this
  · have : (List.range its.toArray.size).all (fun _ => true) = true := by simp
    rw [this]
    exact ⟨.bl true,H,I,rfl,q⟩
end
end L2
set_option Elab.async false
set_option linter.all false
set_option maxRecDepth 100000
set_option maxHeartbeats 4000000
namespace L2
open PySem PySem.Spec PyProof.Rows
section
variable {X : Cx}{e : Expr}{es : List Expr}{te : TE}{t : TA}{pos : Pos}
end
end L2
set_option Elab.async false
set_option linter.all false
set_option maxRecDepth 100000
set_option maxHeartbeats 4000000
namespace L2
open PySem PySem.Spec PyProof.Rows
structure Frg where
  ads : List Addr
  R : (Addr -> Prop) -> Hp -> V -> Prop
  keep : ∀ M H H' v,(∀ c o,(¬ M c \/ c ∈ ads) -> H c = some o -> H' c = some o) -> R M H v -> R M H' v
  avoid : ∀ M M' H v,(∀ c,M' c -> M c \/ H c = none) -> R M H v -> R M' H v
  ref : ∀ M H v,R M H v -> ∃ a,v = .ref a
  nt : ∀ M H v,R M H v -> ∀ c ∈ ads,∃ o,H c = some o /\ ∀ vs,o ≠ .tup vs
abbrev Tg := List (List Int × Addr × Value) × Nat
inductive D where
  | non | bl (b : Bool) | int (i : Int) | str (x : Str) | ty (n : String) | adr (a : Addr)
  | tup (xs : List D) | lst (xs : List D) | own (xs : List D) | bag | scr (ns : List Int) | dct (t : Tg) (ks : List (List Int)) (xs : List D) | frg (f : Frg) (d : D)
structure BagT where
  ok : Addr -> Hp -> Prop
  st : ∀ p H H',ok p H -> (∀ o,H p = some o -> H' p = some o) -> ok p H'
  dm : ∀ p H,ok p H -> ∃ o,H p = some o
def KTp (K : PySem.W.Frag)(a : Addr)(xs : List V) : Prop := ∃ (o : Obj) (its : Array Value) (n : Nat),K.lookup a = some o /\ o.cls = .type "tuple" /\ o.data = .seq its n /\ its.size <= sizeLine /\ Vals xs its.toList
def TpA (K : PySem.W.Frag)(M : Addr -> Prop)(H : Hp)(a : Addr)(vs : List V) : Prop := (¬ M a /\ H a = some (.tup vs)) \/ KTp K a vs
theorem TpA.sq {K : PySem.W.Frag}{M : Addr -> Prop}{H : Hp}{a : Addr}{vs : List V}(h : TpA K M H a vs) : SqT K H a vs := h.elim (fun z => .inl (.inl z.2)) .inr
theorem TpA.keep {K : PySem.W.Frag}{M : Addr -> Prop}{H H' : Hp}{a : Addr}{vs : List V}(k : ∀ b o,¬ M b -> H b = some o -> H' b = some o)(h : TpA K M H a vs) : TpA K M H' a vs := h.imp (fun z => ⟨z.1,k _ _ z.1 z.2⟩) id
theorem TpA.avoid {K : PySem.W.Frag}{M M' : Addr -> Prop}{H : Hp}{a : Addr}{vs : List V}(k : ∀ b,M' b -> M b \/ H b = none)(h : TpA K M H a vs) : TpA K M' H a vs := by
  refine h.imp (fun z => ⟨fun m => ?_,z.2⟩) id
  rcases k a m with n | n
  · exact z.1 n
  · rw [n] at z; cases z.2
def KL (K : PySem.W.Frag)(a : Addr)(xs : List V) : Prop := ∃ (o : Obj) (its : Array Value) (n : Nat),K.lookup a = some o /\ o.cls = .type "list" /\ o.dict = none /\ o.data = .seq its n /\ its.size <= sizeLine /\ Vals xs its.toList
def tkH (ns : List Int) : Int := reduceHash (Builtin.Tuple.tupleHashOf (ns.map hashInt))
def dEnt (x : List Int × Addr × Value) : DictEntry := ⟨tkH x.1,.ref x.2.1,x.2.2⟩
def DOb (a : Addr)(es : List (List Int × Addr × Value))(ep : Nat) : HO := .ext fun h => ((a == sysModules) = false /\ es.length <= sizeLine /\ (es.map (·.1)).Nodup) /\ ∃ (o : Obj) (ds : Array DictEntry),h.get? a = some o /\ o.ExactDict /\ o.data = .dict ds ep /\ ds.toList = es.map dEnt
def DctE (K : PySem.W.Frag)(M : Addr -> Prop)(H : Hp)(es : List (List Int × Addr × Value))(ks : List (List Int))(vs : List V) : Prop := es.map (·.1) = ks /\ (∀ e ∈ es,TpA K M H e.2.1 (e.1.map V.int)) /\ Vals vs (es.map (·.2.2))
theorem DctE.keep {K : PySem.W.Frag}{M : Addr -> Prop}{H H' : Hp}{es : List (List Int × Addr × Value)}{ks : List (List Int)}{vs : List V}(k : ∀ b o,¬ M b -> H b = some o -> H' b = some o)(h : DctE K M H es ks vs) : DctE K M H' es ks vs := ⟨h.1,fun e m => (h.2.1 e m).keep k,h.2.2⟩
theorem DctE.avoid {K : PySem.W.Frag}{M M' : Addr -> Prop}{H : Hp}{es : List (List Int × Addr × Value)}{ks : List (List Int)}{vs : List V}(k : ∀ b,M' b -> M b \/ H b = none)(h : DctE K M H es ks vs) : DctE K M' H es ks vs := ⟨h.1,fun e m => (h.2.1 e m).avoid k,h.2.2⟩
mutual
def Rep (K : PySem.W.Frag)(M : Addr -> Prop)(H : Hp) : D -> V -> Prop
  | .non,v => v = .non
  | .bl b,v => v = .bl b
  | .int i,v => v = .int i
  | .str x,v => v = .str x
  | .ty n,v => v = .ty n
  | .adr a,v => v = .ref a
  | .tup xs,v => ∃ a vs,v = .ref a /\ TpA K M H a vs /\ Reps K M H xs vs
  | .lst xs,v => ∃ a vs,v = .ref a /\ (¬ M a /\ H a = some (.lst vs)) /\ Reps K M H xs vs
  | .own _,_ => False
  | .bag,_ => False
  | .frg _ _,_ => False
  | .scr ns,v => ∃ a,v = .ref a /\ ((¬ M a /\ Rd H a (.lst (ns.map V.int))) \/ KL K a (ns.map V.int))
  | .dct t ks xs,v => ∃ (a : Addr) (vs : List V),v = .ref a /\ (¬ M a /\ H a = some (DOb a t.1 t.2) /\ DctE K M H t.1 ks vs) /\ Reps K M H xs vs
def Reps (K : PySem.W.Frag)(M : Addr -> Prop)(H : Hp) : List D -> List V -> Prop
  | [],vs => vs = []
  | d :: ds,vs => ∃ v r,vs = v :: r /\ Rep K M H d v /\ Reps K M H ds r
end
theorem Rd.keep {H H' : Hp}{a : Addr}{u : HO}(k : ∀ o,H a = some o -> H' a = some o)(h : Rd H a u) : Rd H' a u := by
  rcases h with h | ⟨o,h⟩
  · exact .inl (k _ h)
  · exact .inr ⟨o,k _ h⟩
theorem Rd.some {H : Hp}{a : Addr}{u : HO}(h : Rd H a u) : H a ≠ none := by
  rcases h with h | ⟨o,h⟩ <;> rw [h] <;> simp
section
variable {K : PySem.W.Frag}{M M' : Addr -> Prop}{H H' : Hp}
mutual
theorem Rep.keep (k : ∀ b o,¬ M b -> H b = some o -> H' b = some o) : ∀ (d : D) (v : V),Rep K M H d v -> Rep K M H' d v
  | .non,_,h => h
  | .bl _,_,h => h
  | .int _,_,h => h
  | .str _,_,h => h
  | .ty _,_,h => h
  | .adr _,_,h => h
  | .tup xs,v,h => by
    obtain ⟨a,vs,e,z,r⟩ := h
    exact ⟨a,vs,e,z.keep k,Reps.keep k xs vs r⟩
  | .lst xs,v,h => by
    obtain ⟨a,vs,e,z,r⟩ := h
    exact ⟨a,vs,e,⟨z.1,k _ _ z.1 z.2⟩,Reps.keep k xs vs r⟩
  | .own _,_,h => h
  | .bag,_,h => h
  | .frg _ _,_,h => h
  | .scr ns,v,h => by
    obtain ⟨a,e,z⟩ := h
    exact ⟨a,e,z.imp (fun q => ⟨q.1,q.2.keep fun o => k a o q.1⟩) id⟩
  | .dct t ks xs,v,h => by
    obtain ⟨a,vs,e,z,r⟩ := h
    exact ⟨a,vs,e,⟨z.1,k _ _ z.1 z.2.1,z.2.2.keep k⟩,Reps.keep k xs _ r⟩
theorem Reps.keep (k : ∀ b o,¬ M b -> H b = some o -> H' b = some o) : ∀ (ds : List D) (vs : List V),Reps K M H ds vs -> Reps K M H' ds vs
  | [],_,h => h
  | d :: ds,vs,h => by
    obtain ⟨v,r,e,h1,h2⟩ := h
    exact ⟨v,r,e,Rep.keep k d v h1,Reps.keep k ds r h2⟩
end
mutual
theorem Rep.avoid (k : ∀ b,M' b -> M b \/ H b = none) : ∀ (d : D) (v : V),Rep K M H d v -> Rep K M' H d v
  | .non,_,h => h
  | .bl _,_,h => h
  | .int _,_,h => h
  | .str _,_,h => h
  | .ty _,_,h => h
  | .adr _,_,h => h
  | .tup xs,v,h => by
    obtain ⟨a,vs,e,z,r⟩ := h
    exact ⟨a,vs,e,z.avoid k,Reps.avoid k xs vs r⟩
  | .lst xs,v,h => by
    obtain ⟨a,vs,e,z,r⟩ := h
    refine ⟨a,vs,e,⟨fun m => ?_,z.2⟩,Reps.avoid k xs vs r⟩
    rcases k a m with n | n
    · exact z.1 n
    · rw [n] at z; cases z.2
  | .own _,_,h => h
  | .bag,_,h => h
  | .frg _ _,_,h => h
  | .scr ns,v,h => by
    obtain ⟨a,e,z⟩ := h
    refine ⟨a,e,z.imp (fun q => ⟨fun m => ?_,q.2⟩) id⟩
    rcases k a m with n | n
    · exact q.1 n
    · exact q.2.some n
  | .dct t ks xs,v,h => by
    obtain ⟨a,vs,e,z,r⟩ := h
    refine ⟨a,vs,e,⟨fun m => ?_,z.2.1,z.2.2.avoid k⟩,Reps.avoid k xs _ r⟩
    rcases k a m with n | n
    · exact z.1 n
    · rw [n] at z; cases z.2.1
theorem Reps.avoid (k : ∀ b,M' b -> M b \/ H b = none) : ∀ (ds : List D) (vs : List V),Reps K M H ds vs -> Reps K M' H ds vs
  | [],_,h => h
  | d :: ds,vs,h => by
    obtain ⟨v,r,e,h1,h2⟩ := h
    exact ⟨v,r,e,Rep.avoid k d v h1,Reps.avoid k ds r h2⟩
end
end
end L2
set_option Elab.async false
set_option linter.all false
set_option maxRecDepth 100000
set_option maxHeartbeats 4000000
namespace L2
open PySem PySem.Spec PyProof.Rows
abbrev Ev := List (Option D)
structure Wd where
  K : PySem.W.Frag
  B : BagT
  H0 : Hp
  M0 : Addr -> Prop
  b0 : Option Addr
def okB (B : BagT)(b : Option Addr)(H : Hp) : Prop := ∀ p,b = some p -> B.ok p H
def Kp (b : Option Addr)(H H' : Hp) : Prop := ∀ c o,b ≠ some c -> H c = some o -> H' c = some o
theorem Kp.refl (b : Option Addr)(H : Hp) : Kp b H H := fun _ _ _ h => h
theorem Kp.trans {b : Option Addr}{H H1 H2 : Hp}(x : Kp b H H1)(y : Kp b H1 H2) : Kp b H H2 := fun c o n h => y c o n (x c o n h)
theorem Kp.upd {b : Option Addr}{H : Hp}{p : Addr}{o : HO}(h : H p = none) : Kp b H (upd H p o) := fun c u _ e => Same.upd h c u e
theorem Kp.same {b : Option Addr}{H H' : Hp}(h : Same H H') : Kp b H H' := fun c o _ e => h c o e
def RepX (W : Wd)(M : Addr -> Prop)(b : Option Addr)(H : Hp) : D -> V -> Prop
  | .own xs,v => ∃ a vs,v = .ref a /\ M a /\ b ≠ some a /\ W.H0 a = none /\ ¬ W.M0 a /\ H a = some (.lst vs) /\ Reps W.K M H xs vs
  | .bag,v => ∃ p,b = some p /\ v = .ref p
  | .frg f d,v => (∀ c ∈ f.ads,M c /\ b ≠ some c /\ W.H0 c = none /\ ¬ W.M0 c) /\ f.R M H v /\ Rep W.K (fun c => M c /\ c ∉ f.ads) H d v
  | d,v => Rep W.K M H d v
def plain : D -> Bool
  | .own _ => false
  | .bag => false
  | .frg _ _ => false
  | _ => true
def notOwn : D -> Bool
  | .own _ => false
  | .frg _ _ => false
  | _ => true
theorem RepX.rep {W : Wd}{M : Addr -> Prop}{b : Option Addr}{H : Hp}{d : D}{v : V}(h : RepX W M b H d v)(p : plain d = true) : Rep W.K M H d v := by
  cases d <;> first | exact h | cases p
theorem Rep.x {W : Wd}{M : Addr -> Prop}{b : Option Addr}{H : Hp}{d : D}{v : V}(h : Rep W.K M H d v) : RepX W M b H d v := by
  cases d <;> first | exact h | exact h.elim
def RepXs (W : Wd)(M : Addr -> Prop)(b : Option Addr)(H : Hp) : List D -> List V -> Prop
  | [],vs => vs = []
  | d :: ds,vs => ∃ v r,vs = v :: r /\ RepX W M b H d v /\ RepXs W M b H ds r
structure Hs (W : Wd)(M : Addr -> Prop)(b : Option Addr)(H : Hp) : Prop where
  ok : okB W.B b H
  bagM : ∀ p,b = some p -> M p
  dom : ∀ c,M c -> ∃ o,H c = some o
  m0 : ∀ c,W.M0 c -> M c
theorem RepX.move {W : Wd}{M M' : Addr -> Prop}{b b' : Option Addr}{H H' : Hp}{f : Frg}{d : D}{v : V}(h : RepX W M b H (.frg f d) v)(ow : ∀ c ∈ f.ads,M c -> b ≠ some c -> M' c /\ b' ≠ some c)(k : ∀ c o,(¬ M' c \/ c ∈ f.ads) -> H c = some o -> H' c = some o)(a : ∀ c,M' c -> M c \/ H c = none) : RepX W M' b' H' (.frg f d) v := by
  refine ⟨fun c m => ?_,f.keep M' H H' v k (f.avoid M M' H v a h.2.1),Rep.keep (fun c o n e => k c o ?_ e) _ _ (Rep.avoid (fun c m => (a c m.1).imp (fun z => ⟨z,m.2⟩) id) _ _ h.2.2)⟩
  · obtain ⟨q1,q2,q3,q4⟩ := h.1 c m
    obtain ⟨z1,z2⟩ := ow c m q1 q2
    exact ⟨z1,z2,q3,q4⟩
  · by_cases z : c ∈ f.ads
    · exact .inr z
    · exact .inl fun m => n ⟨m,z⟩
theorem RepX.step {W : Wd}{M : Addr -> Prop}{b : Option Addr}{H H' : Hp}{d : D}{v : V}(hb : ∀ p,b = some p -> M p)(k : Kp b H H')(h : RepX W M b H d v) : RepX W M b H' d v := by
  have k' : ∀ c o,¬ M c -> H c = some o -> H' c = some o := fun c o n e => k c o (fun z => n (hb c z)) e
  cases d
  case own xs =>
    obtain ⟨a,vs,e,m,n,n0,m0,h1,h2⟩ := h
    exact ⟨a,vs,e,m,n,n0,m0,k _ _ n h1,Reps.keep k' _ _ h2⟩
  case bag => exact h
  case frg f d => exact RepX.move h (fun c m m1 n => ⟨m1,n⟩) (fun c o q e => q.elim (fun n => k' c o n e) fun m => k c o (h.1 c m).2.1 e) fun c m => .inl m
  all_goals exact Rep.keep k' _ _ h
theorem RepXs.reps {W : Wd}{M : Addr -> Prop}{b : Option Addr}{H : Hp} : ∀ (ds : List D) (vs : List V),RepXs W M b H ds vs -> ds.all plain = true -> Reps W.K M H ds vs
  | [],_,h,_ => h
  | d :: ds,vs,h,p => by
    obtain ⟨v,r,e,h1,h2⟩ := h
    simp only [List.all_cons,Bool.and_eq_true] at p
    exact ⟨v,r,e,h1.rep p.1,RepXs.reps ds r h2 p.2⟩
theorem Reps.length {K : PySem.W.Frag}{M : Addr -> Prop}{H : Hp} : ∀ (ds : List D) (vs : List V),Reps K M H ds vs -> vs.length = ds.length
  | [],_,h => by cases (show _ = _ from h); rfl
  | d :: ds,vs,h => by
    obtain ⟨v,r,rfl,h1,h2⟩ := h
    simp [Reps.length ds r h2]
theorem Reps.get {K : PySem.W.Frag}{M : Addr -> Prop}{H : Hp} : ∀ {ds : List D} {vs : List V} {i : Nat} {d : D},Reps K M H ds vs -> ds[i]? = some d -> ∃ v,vs[i]? = some v /\ Rep K M H d v
  | [],_,_,_,h,e => by simp at e
  | d :: ds,vs,0,_,h,e => by
    obtain ⟨v,r,rfl,h1,h2⟩ := h
    simp at e; subst e
    exact ⟨v,rfl,h1⟩
  | d :: ds,vs,i + 1,d',h,e => by
    obtain ⟨v,r,rfl,h1,h2⟩ := h
    obtain ⟨u,e1,e2⟩ := Reps.get (i := i) h2 (by simpa using e)
    exact ⟨u,by simpa using e1,e2⟩
theorem Reps.at {K : PySem.W.Frag}{M : Addr -> Prop}{H : Hp}{ds : List D}{vs : List V}{i : Int}{d : D}(h : Reps K M H ds vs)(e : atI ds i = some d) : ∃ v,atI vs i = some v /\ Rep K M H d v := by
  unfold atI at *
  rw [h.length]
  cases q : ixN ds.length i with
  | none => rw [q] at e; cases e
  | some j =>
    rw [q] at e
    exact Reps.get h e
theorem Reps.append {K : PySem.W.Frag}{M : Addr -> Prop}{H : Hp} : ∀ {ds es : List D} {vs us : List V},Reps K M H ds vs -> Reps K M H es us -> Reps K M H (ds ++ es) (vs ++ us)
  | [],_,_,_,h,h' => by cases (show _ = _ from h); exact h'
  | d :: ds,_,_,_,h,h' => by
    obtain ⟨v,r,rfl,h1,h2⟩ := h
    exact ⟨v,_,rfl,h1,Reps.append h2 h'⟩
theorem Reps.set {K : PySem.W.Frag}{M : Addr -> Prop}{H : Hp}{d : D}{v : V}(h0 : Rep K M H d v) : ∀ {ds : List D} {vs : List V} (j : Nat),Reps K M H ds vs -> Reps K M H (ds.set j d) (vs.set j v)
  | [],_,_,h => by cases (show _ = _ from h); exact rfl
  | e :: ds,_,0,h => by
    obtain ⟨v',r,rfl,h1,h2⟩ := h
    exact ⟨v,r,rfl,h0,h2⟩
  | e :: ds,_,j + 1,h => by
    obtain ⟨v',r,rfl,h1,h2⟩ := h
    exact ⟨v',_,rfl,h1,Reps.set h0 j h2⟩
theorem Reps.drop {K : PySem.W.Frag}{M : Addr -> Prop}{H : Hp} : ∀ {ds : List D} {vs : List V} (j : Nat),Reps K M H ds vs -> Reps K M H (ds.drop j) (vs.drop j)
  | _,_,0,h => h
  | [],_,_ + 1,h => by cases (show _ = _ from h); exact rfl
  | e :: ds,_,j + 1,h => by
    obtain ⟨v',r,rfl,h1,h2⟩ := h
    exact Reps.drop j h2
theorem Reps.take {K : PySem.W.Frag}{M : Addr -> Prop}{H : Hp} : ∀ {ds : List D} {vs : List V} (j : Nat),Reps K M H ds vs -> Reps K M H (ds.take j) (vs.take j)
  | _,_,0,h => rfl
  | [],_,_ + 1,h => by cases (show _ = _ from h); exact rfl
  | e :: ds,_,j + 1,h => by
    obtain ⟨v',r,rfl,h1,h2⟩ := h
    exact ⟨v',_,rfl,h1,Reps.take j h2⟩
def PinR (W : Wd)(M : Addr -> Prop)(b : Option Addr)(H : Hp) : D -> V -> Prop
  | .own xs,v => RepX W M b H (.own xs) v
  | d,v => Rep W.K M H d v
theorem PinR.x {W : Wd}{M : Addr -> Prop}{b : Option Addr}{H : Hp}{d : D}{v : V}(h : PinR W M b H d v) : RepX W M b H d v := by
  cases d <;> first | exact h | exact h.elim
theorem RepX.pin {W : Wd}{M : Addr -> Prop}{b : Option Addr}{H : Hp}{d : D}{v : V}(h : RepX W M b H d v)(p : plain d = true) : PinR W M b H d v := by
  cases d <;> first | exact h | cases p
theorem PinR.to {W : Wd}{M M' : Addr -> Prop}{b b' : Option Addr}{H H' : Hp}{d : D}{v : V}(h : PinR W M b H d v)(rep : ∀ d v,Rep W.K M H d v -> Rep W.K M' H' d v)(reps : ∀ ds vs,Reps W.K M H ds vs -> Reps W.K M' H' ds vs)(own : ∀ xs a vs,d = .own xs -> v = .ref a -> M a -> b ≠ some a -> H a = some (.lst vs) -> M' a /\ b' ≠ some a /\ H' a = some (.lst vs)) : PinR W M' b' H' d v := by
  cases d
  case own xs =>
    obtain ⟨a,vs,rfl,m1,m2,m3,m4,hh,r⟩ := h
    obtain ⟨q1,q2,q3⟩ := own xs a vs rfl rfl m1 m2 hh
    exact ⟨a,vs,rfl,q1,q2,m3,m4,q3,reps _ _ r⟩
  case bag => exact h.elim
  all_goals exact rep _ _ h
def mineA : D -> V -> Addr -> Prop
  | .own _,v,c => v = .ref c
  | .frg f _,_,c => c ∈ f.ads
  | _,_,_ => False
def mine : D -> Bool
  | .own _ => true
  | .frg _ _ => true
  | _ => false
theorem mineA.m {d : D}{v : V}{c : Addr}(h : mineA d v c) : mine d = true := by cases d <;> first | rfl | exact h.elim
theorem RepX.mine {W : Wd}{M : Addr -> Prop}{b : Option Addr}{H : Hp}{d : D}{v : V}{c : Addr}(h : RepX W M b H d v)(m : mineA d v c) : M c /\ b ≠ some c /\ W.H0 c = none /\ ¬ W.M0 c := by
  cases d
  case own xs =>
    obtain ⟨a,vs,e,m1,n,n0,m0,h1,h2⟩ := h
    cases (e.symm.trans (show v = .ref c from m))
    exact ⟨m1,n,n0,m0⟩
  case frg f d => exact h.1 c m
  all_goals exact m.elim
structure Sta (W : Wd)(pn : List (D × V))(M : Addr -> Prop)(b : Option Addr)(H : Hp)(σ : St)(ρ : Ev) : Prop extends Hs W M b H where
  kp : Kp W.b0 W.H0 H
  new : b = W.b0 \/ (W.b0 = none /\ ∀ p,b = some p -> W.H0 p = none)
  env : ∀ (i : Nat) d,ρ[i]? = some (some d) -> ∃ v,σ[i]? = some (some v) /\ RepX W M b H d v
  len : ρ.length = σ.length
  pin : ∀ q ∈ pn,PinR W M b H q.1 q.2
theorem Sta.step {W : Wd}{pn : List (D × V)}{M : Addr -> Prop}{b : Option Addr}{H H' : Hp}{σ : St}{ρ : Ev}(s : Sta W pn M b H σ ρ)(k : Kp b H H')(o : okB W.B b H') : Sta W pn M b H' σ ρ where
  ok := o
  bagM := s.bagM
  dom := fun c m => by
    by_cases z : b = some c
    · exact W.B.dm c H' (o c z)
    · obtain ⟨u,e⟩ := s.dom c m
      exact ⟨u,k c u z e⟩
  m0 := s.m0
  kp := fun c u n e => by
    refine k c u (fun z => ?_) (s.kp c u n e)
    rcases s.new with q | ⟨_,q⟩
    · exact n (q ▸ z)
    · rw [q c z] at e; cases e
  new := s.new
  env := fun i d e => by
    obtain ⟨v,e1,r⟩ := s.env i d e
    exact ⟨v,e1,r.step s.bagM k⟩
  len := s.len
  pin := fun q hq => (s.pin q hq).to (fun _ _ r => Rep.keep (fun c o n e => k c o (fun z => n (s.bagM c z)) e) _ _ r) (fun _ _ r => Reps.keep (fun c o n e => k c o (fun z => n (s.bagM c z)) e) _ _ r) fun xs a vs _ _ m n hh => ⟨m,n,k _ _ n hh⟩
theorem Hs.new {W : Wd}{M : Addr -> Prop}{b : Option Addr}{H : Hp}(s : Hs W M b H){p : Addr}(h : H p = none) : ¬ M p := fun m => by
  obtain ⟨o,e⟩ := s.dom p m
  rw [h] at e; cases e
theorem Hs.okU {W : Wd}{M : Addr -> Prop}{b : Option Addr}{H : Hp}(s : Hs W M b H){p : Addr}{o : HO}(h : H p = none) : okB W.B b (upd H p o) := fun q e => W.B.st q H _ (s.ok q e) fun u e' => Same.upd h q u e'
abbrev DE := Ev -> (D -> Prop) -> Prop
abbrev DT := Ev -> (Bool -> Prop) -> Prop
abbrev DA := Ev -> (List D -> Prop) -> Prop
def dn (W : Wd)(d : DE) : TE := fun σ H Q => ∃ pn M b ρ P,Sta W pn M b H σ ρ /\ d ρ P /\ ∀ x v H',P x -> RepX W M b H' x v -> Kp b H H' -> okB W.B b H' -> Q v H'
def dnT (W : Wd)(d : DT) : TT := fun σ H Q => ∃ pn M b ρ P,Sta W pn M b H σ ρ /\ d ρ P /\ ∀ x H',P x -> Kp b H H' -> okB W.B b H' -> Q x H'
def dnA (W : Wd)(d : DA) : TA := fun σ H Q => ∃ pn M b ρ P,Sta W pn M b H σ ρ /\ d ρ P /\ ∀ xs vs H',P xs -> RepXs W M b H' xs vs -> Kp b H H' -> okB W.B b H' -> Q vs H'
theorem dn.elim {W : Wd}{d : DE}{σ : St}{H : Hp}{Q : VK}{R : Prop}(h : dn W d σ H Q)(f : ∀ pn M b ρ P,Sta W pn M b H σ ρ -> d ρ P -> (∀ x v H',P x -> RepX W M b H' x v -> Kp b H H' -> okB W.B b H' -> Q v H') -> R) : R := by
  obtain ⟨pn,M,b,ρ,P,st,h,k⟩ := h
  exact f pn M b ρ P st h k
theorem dnT.elim {W : Wd}{d : DT}{σ : St}{H : Hp}{Q : Bool -> Hp -> Prop}{R : Prop}(h : dnT W d σ H Q)(f : ∀ pn M b ρ P,Sta W pn M b H σ ρ -> d ρ P -> (∀ x H',P x -> Kp b H H' -> okB W.B b H' -> Q x H') -> R) : R := by
  obtain ⟨pn,M,b,ρ,P,st,h,k⟩ := h
  exact f pn M b ρ P st h k
theorem dnA.elim {W : Wd}{d : DA}{σ : St}{H : Hp}{Q : List V -> Hp -> Prop}{R : Prop}(h : dnA W d σ H Q)(f : ∀ pn M b ρ P,Sta W pn M b H σ ρ -> d ρ P -> (∀ xs vs H',P xs -> RepXs W M b H' xs vs -> Kp b H H' -> okB W.B b H' -> Q vs H') -> R) : R := by
  obtain ⟨pn,M,b,ρ,P,st,h,k⟩ := h
  exact f pn M b ρ P st h k
section
variable {X : Cx}{W : Wd}{e a b c : Expr}{es : List Expr}{pos : Pos}{d da db dc : DE}{dA : DA}{t : TE}
theorem PE.mono {t' : TE}(h : PE X e t)(m : ∀ σ H Q,t' σ H Q -> t σ H Q) : PE X e t' := fun pins s σ H Q I q => h pins s σ H Q I (m σ H Q q)
theorem PT.mono {t t' : TT}(h : PT X e t)(m : ∀ σ H Q,t' σ H Q -> t σ H Q) : PT X e t' := fun pins s σ H Q I q => h pins s σ H Q I (m σ H Q q)
theorem PA.mono {t t' : TA}(h : PA X es t)(m : ∀ σ H Q,t' σ H Q -> t σ H Q) : PA X es t' := fun pos pins s σ H Q I q => h pos pins s σ H Q I (m σ H Q q)
def dVar (i : Nat) : DE := fun ρ P => match ρ[i]? with | some (some d) => P d | _ => False
theorem dv (i : Nat) {x : Str} {pos : Pos} (hN : X.N[i]? = some x := by rfl) (hv : Vis X.env.scope x := by first | exact Or.inl rfl | exact Or.inr (Or.inl rfl) | exact Or.inr (Or.inr rfl)) (hd : (x == ("__debug__" : Str)) = false := by decide)
    (hcd : (x == ("__classdict__" : Str)) = false := by decide) : PE X (.Name x pos) (dn W (dVar i)) := (pe_var hN hv hd hcd).mono fun σ H Q hh => hh.elim fun pn M b ρ P st h k => by
  unfold dVar at h
  split at h
  case h_1 d e =>
    obtain ⟨v,e1,r⟩ := st.env i d e
    exact ⟨v,e1,k d v H h r (Kp.refl _ _) st.ok⟩
  case h_2 => exact h.elim
def dC (d : D) : DE := fun _ P => P d
theorem de_c {d : D}{v : V}(h : PE X e (tC v))(hr : ∀ M H,Rep W.K M H d v) : PE X e (dn W (dC d)) := h.mono fun σ H Q hh => hh.elim fun pn M b ρ P st h k => k d v H h (Rep.x (hr M H)) (Kp.refl _ _) st.ok
theorem de_int {i j pos} : PE X (.Constant (.int i) j pos) (dn W (dC (.int i))) := de_c pe_int fun _ _ => rfl
theorem de_bl {i j pos} : PE X (.Constant (.bool i) j pos) (dn W (dC (.bl i))) := de_c pe_bl fun _ _ => rfl
theorem de_non {j pos} : PE X (.Constant .none j pos) (dn W (dC .non)) := de_c pe_non fun _ _ => rfl
theorem de_str {i j pos} : PE X (.Constant (.str i) j pos) (dn W (dC (.str i))) := de_c pe_str fun _ _ => rfl
theorem de_bltn {x : Str}{T : String}{pos : Pos}(hg : Gl X x)(hm : X.mg x = none)(hv : bootBuiltins x = some (.type T))(hn : x ≠ "__name__" := by decide) (hd : (x == ("__debug__" : Str)) = false := by decide) : PE X (.Name x pos) (dn W (dC (.ty T))) := de_c (pe_bltn (v := .ty T) hg hm hv rfl hn hd) fun _ _ => rfl
def OpD (W : Wd)(r : R2)(o : D -> D -> (D -> Prop) -> Prop) : Prop := ∀ M b H x y v u P Q,Hs W M b H -> RepX W M b H x v -> RepX W M b H y u -> o x y P -> (∀ z w H',P z -> RepX W M b H' z w -> Kp b H H' -> okB W.B b H' -> Q w H') -> r v u H Q
def dOp (o : D -> D -> (D -> Prop) -> Prop)(da db : DE) : DE := fun ρ P => da ρ fun x => db ρ fun y => o x y P
theorem up_op {r : R2}{o : D -> D -> (D -> Prop) -> Prop}(hd : OpD W r o) : ∀ σ H Q,dn W (dOp o da db) σ H Q -> tOp r (dn W da) (dn W db) σ H Q := by
  intro σ H Q hh
  refine hh.elim fun pn M b ρ P st h k => ?_
  refine ⟨pn,M,b,ρ,_,st,h,fun x v H1 hx rx k1 o1 => ?_⟩
  refine ⟨pn,M,b,ρ,_,st.step k1 o1,hx,fun y u H2 hy ry k2 o2 => ?_⟩
  exact hd M b H2 x y v u P Q ((st.step k1 o1).step k2 o2).toHs (rx.step st.bagM k2) ry hy fun z w H' hz rz k3 o3 => k z w H' hz rz ((k1.trans k2).trans k3) o3
theorem de_op {op : Operator}{r : R2}{o : D -> D -> (D -> Prop) -> Prop}(ho : OpR X (binaryOp op) r)(hd : OpD W r o)(ha : PE X a (dn W da))(hb : PE X b (dn W db)) : PE X (.BinOp a op b pos) (dn W (dOp o da db)) := (pe_op ho ha hb).mono (up_op hd)
theorem de_cmp {op : CmpOp}{r : R2}{o : D -> D -> (D -> Prop) -> Prop}(ho : OpR X (compareOp op) r)(hd : OpD W r o)(ha : PE X a (dn W da))(hb : PE X b (dn W db))(hm : behindInMarks op b = false) : PE X (.Compare a [op] [b] pos) (dn W (dOp o da db)) := (pe_cmpR ho ha hb hm).mono (up_op hd)
theorem de_ix {r : R2}{o : D -> D -> (D -> Prop) -> Prop}(hr : IxR X r)(hd : OpD W r o)(ha : PE X a (dn W da))(hb : PE X b (dn W db))(hs : PlainIx b) : PE X (.Subscript a b pos) (dn W (dOp o da db)) := (pe_ix hr ha hb hs).mono (up_op hd)
def oI (C : Int -> Int -> Prop)(g : Int -> Int -> Int) : D -> D -> (D -> Prop) -> Prop
  | .int i,.int j,P => C i j /\ P (.int (g i j))
  | _,_,_ => False
def oI0 (g : Int -> Int -> Int) : D -> D -> (D -> Prop) -> Prop
  | .int i,.int j,P => P (.int (g i j))
  | _,_,_ => False
def oB0 (g : Int -> Int -> Bool) : D -> D -> (D -> Prop) -> Prop
  | .int i,.int j,P => P (.bl (g i j))
  | _,_,_ => False
theorem od_I {C : Int -> Int -> Prop}{g : Int -> Int -> Int} : OpD W (rI C fun i j => .int (g i j)) (oI C g) := by
  intro M b H x y v u P Q hs rx ry ho k
  cases x <;> first | exact ho.elim | skip
  cases y <;> first | exact ho.elim | skip
  cases (show _ = _ from rx)
  cases (show _ = _ from ry)
  exact ⟨_,_,rfl,rfl,ho.1,k _ _ H ho.2 (show _ = _ from rfl) (Kp.refl _ _) hs.ok⟩
theorem od_I0 {g : Int -> Int -> Int} : OpD W (rI0 fun i j => .int (g i j)) (oI0 g) := by
  intro M b H x y v u P Q hs rx ry ho k
  cases x <;> first | exact ho.elim | skip
  cases y <;> first | exact ho.elim | skip
  cases (show _ = _ from rx)
  cases (show _ = _ from ry)
  exact ⟨_,_,rfl,rfl,k _ _ H ho (show _ = _ from rfl) (Kp.refl _ _) hs.ok⟩
theorem od_B0 {g : Int -> Int -> Bool} : OpD W (rI0 fun i j => .bl (g i j)) (oB0 g) := by
  intro M b H x y v u P Q hs rx ry ho k
  cases x <;> first | exact ho.elim | skip
  cases y <;> first | exact ho.elim | skip
  cases (show _ = _ from rx)
  cases (show _ = _ from ry)
  exact ⟨_,_,rfl,rfl,k _ _ H ho (show _ = _ from rfl) (Kp.refl _ _) hs.ok⟩
def oEqS (neg : Bool) : D -> D -> (D -> Prop) -> Prop
  | .int i,.int j,P => P (.bl (decide (i = j) != neg))
  | .bl i,.bl j,P => P (.bl (decide (i = j) != neg))
  | .str i,.str j,P => P (.bl (decide (i = j) != neg))
  | .non,.non,P => P (.bl (true != neg))
  | .non,.int _,P => P (.bl (false != neg))
  | .int _,.non,P => P (.bl (false != neg))
  | .str _,.int _,P => P (.bl (false != neg))
  | .int _,.str _,P => P (.bl (false != neg))
  | _,_,_ => False
theorem od_eqS : OpD W rEq (oEqS false) := by
  intro M b H x y v u P Q hs rx ry ho k
  cases x <;> cases y <;> first | exact ho.elim | skip
  all_goals (cases (show _ = _ from rx); cases (show _ = _ from ry); refine ⟨rfl,?_⟩; refine k _ _ H ho ?_ (Kp.refl _ _) hs.ok)
  all_goals (show V.bl _ = V.bl _; simp)
theorem od_neS : OpD W rNe (oEqS true) := by
  intro M b H x y v u P Q hs rx ry ho k
  cases x <;> cases y <;> first | exact ho.elim | skip
  all_goals (cases (show _ = _ from rx); cases (show _ = _ from ry); refine ⟨rfl,?_⟩; refine k _ _ H ho ?_ (Kp.refl _ _) hs.ok)
  all_goals (show V.bl _ = V.bl _; simp)
def oIx : D -> D -> (D -> Prop) -> Prop
  | .tup xs,.int i,P => (atI xs i).elim False P
  | .lst xs,.int i,P => (atI xs i).elim False P
  | .own xs,.int i,P => (atI xs i).elim False P
  | _,_,_ => False
theorem ix_any (K : PySem.W.Frag)(h : X.K = K) : IxR X (fun x y H Q => rIxT K x y H Q \/ rIxL K x y H Q) := (ix_tupK K h).or (ix_listK K h)
theorem od_ix : OpD W (fun x y H Q => rIxT W.K x y H Q \/ rIxL W.K x y H Q) oIx := by
  intro M b H x y v u P Q hs rx ry ho k
  cases x <;> first | exact ho.elim | skip
  all_goals (cases y <;> first | exact ho.elim | skip)
  all_goals cases (show _ = _ from ry)
  case tup.int xs i =>
    obtain ⟨a,vs,rfl,hh,r⟩ := rx
    simp only [oIx] at ho
    cases e : atI xs i with
    | none => rw [e] at ho; exact ho.elim
    | some d =>
      rw [e] at ho
      obtain ⟨w,e1,r1⟩ := r.at e
      exact .inl ⟨a,vs,i,w,rfl,rfl,hh.sq,e1,k d w H ho r1.x (Kp.refl _ _) hs.ok⟩
  case lst.int xs i =>
    obtain ⟨a,vs,rfl,hh,r⟩ := rx
    simp only [oIx] at ho
    cases e : atI xs i with
    | none => rw [e] at ho; exact ho.elim
    | some d =>
      rw [e] at ho
      obtain ⟨w,e1,r1⟩ := r.at e
      exact .inr ⟨a,vs,i,w,rfl,rfl,SqL.of hh.2,e1,k d w H ho r1.x (Kp.refl _ _) hs.ok⟩
  case own.int xs i =>
    obtain ⟨a,vs,rfl,_,_,_,_,hh,r⟩ := rx
    simp only [oIx] at ho
    cases e : atI xs i with
    | none => rw [e] at ho; exact ho.elim
    | some d =>
      rw [e] at ho
      obtain ⟨w,e1,r1⟩ := r.at e
      exact .inr ⟨a,vs,i,w,rfl,rfl,SqL.of hh,e1,k d w H ho r1.x (Kp.refl _ _) hs.ok⟩
def dUn (o : D -> (D -> Prop) -> Prop)(da : DE) : DE := fun ρ P => da ρ fun x => o x P
def oNeg : D -> (D -> Prop) -> Prop
  | .int i,P => P (.int (-i))
  | _,_ => False
theorem de_neg (ha : PE X a (dn W da)) : PE X (.UnaryOp .USub a pos) (dn W (dUn oNeg da)) := (pe_un un_neg ha).mono fun σ H Q hh => hh.elim fun pn M b ρ P st h k => by
  refine ⟨pn,M,b,ρ,_,st,h,fun x v H1 hx rx k1 o1 => ?_⟩
  cases x <;> first | exact hx.elim | skip
  cases (show _ = _ from rx)
  exact ⟨_,rfl,k _ _ H1 hx (show _ = _ from rfl) k1 o1⟩
inductive IfP (c : Bool)(A B : Prop) : Prop
  | t (e : c = true) (h : A) : IfP c A B
  | f (e : c = false) (h : B) : IfP c A B
theorem IfP.of {c : Bool}{A B : Prop}(h1 : c = true -> A)(h2 : c = false -> B) : IfP c A B := by
  cases c
  · exact .f rfl (h2 rfl)
  · exact .t rfl (h1 rfl)
theorem IfP.true_of {A B : Prop}(h : IfP true A B) : A := by
  cases h with
  | t _ h => exact h
  | f e _ => cases e
theorem IfP_true {A B : Prop} : IfP true A B = A := propext ⟨IfP.true_of,fun h => .t rfl h⟩
def dAnd (da db : DE) : DE := fun ρ P => da ρ fun x => match x with | .bl k => IfP k (db ρ P) (P (.bl false)) | _ => False
def dNot (da : DE) : DE := fun ρ P => da ρ fun x => match x with | .bl k => P (.bl (!k)) | _ => False
variable {rest : List Expr}
theorem de_one {op}(h : PE X a (dn W da)) : PE X (.BoolOp op [a] pos) (dn W da) := pe_one h
theorem de_and (ha : PE X a (dn W da))(hb : PE X (.BoolOp .And (b :: rest) pos) (dn W db)) : PE X (.BoolOp .And (a :: b :: rest) pos) (dn W (dAnd da db)) := (pe_and ha hb).mono fun σ H Q hh => hh.elim fun pn M b ρ P st h k => by
  refine ⟨pn,M,b,ρ,_,st,h,fun x v H1 hx rx k1 o1 => ?_⟩
  cases x <;> first | exact hx.elim | skip
  case bl c =>
    cases (show _ = _ from rx)
    refine ⟨c,rfl,?_⟩
    cases hx with
    | f e hx => subst e; rw [if_neg Bool.false_ne_true]; exact k _ _ H1 hx (show _ = _ from rfl) k1 o1
    | t e hx => subst e; rw [if_pos rfl]; exact ⟨pn,M,b,ρ,P,st.step k1 o1,hx,fun x v H' hp r k2 o2 => k x v H' hp r (k1.trans k2) o2⟩
theorem de_not (ha : PE X a (dn W da)) : PE X (.UnaryOp .Not a pos) (dn W (dNot da)) := (pe_not ha).mono fun σ H Q hh => hh.elim fun pn M b ρ P st h k => by
  refine ⟨pn,M,b,ρ,_,st,h,fun x v H1 hx rx k1 o1 => ?_⟩
  cases x <;> first | exact hx.elim | skip
  case bl c =>
    cases (show _ = _ from rx)
    exact ⟨c,rfl,k _ _ H1 hx (show _ = _ from rfl) k1 o1⟩
def dTest (da : DE) : DT := fun ρ P => da ρ fun x => match x with | .bl k => P k | _ => False
theorem dt_cmp {op : CmpOp}{r : R2}{o : D -> D -> (D -> Prop) -> Prop}(ho : OpR X (compareOp op) r)(hd : OpD W r o)(ha : PE X a (dn W da))(hb : PE X b (dn W db))(hm : behindInMarks op b = false) : PT X (.Compare a [op] [b] pos) (dnT W (dTest (dOp o da db))) := (pt_cmpR ho ha hb hm).mono fun σ H Q hh => hh.elim fun pn M b ρ P st h k => by
  refine up_op hd σ H _ ⟨pn,M,b,ρ,_,st,h,fun x v H1 hx rx k1 o1 => ?_⟩
  cases x <;> first | exact hx.elim | skip
  case bl c =>
    cases (show _ = _ from rx)
    exact ⟨c,rfl,k _ H1 hx k1 o1⟩
def dTru (da : DE) : DT := fun ρ P => da ρ fun x => match x with
  | .bl k => P k
  | .int i => P (i != 0)
  | .non => P false
  | .tup xs => P (!xs.isEmpty)
  | .lst xs => P (!xs.isEmpty)
  | .own xs => P (!xs.isEmpty)
  | _ => False
theorem Reps.empty {K : PySem.W.Frag}{M : Addr -> Prop}{H : Hp}{ds : List D}{vs : List V}(h : Reps K M H ds vs) : (!ds.isEmpty) = !vs.isEmpty := by
  cases ds with
  | nil => cases (show _ = _ from h); rfl
  | cons d ds => obtain ⟨v,r,rfl,_⟩ := h; rfl
theorem dt_truth (hK : X.K = W.K)(ha : PE X a (dn W da))(he : ∀ whole,isTrue a X.env whole = (do let v <- whole; standAt a.pos; holding [v] (truthy v))) : PT X a (dnT W (dTru da)) := (pt_truthK W.K hK ha he).mono fun σ H Q hh => hh.elim fun pn M b ρ P st h k => by
  refine ⟨pn,M,b,ρ,_,st,h,fun x v H1 hx rx k1 o1 => ?_⟩
  cases x <;> first | exact hx.elim | skip
  case bl c => cases (show _ = _ from rx); exact ⟨_,rfl,k _ H1 hx k1 o1⟩
  case int c => cases (show _ = _ from rx); exact ⟨_,rfl,k _ H1 hx k1 o1⟩
  case non => cases (show _ = _ from rx); exact ⟨_,rfl,k _ H1 hx k1 o1⟩
  case tup xs => obtain ⟨a,vs,rfl,hh,r⟩ := rx; exact ⟨_,.inr (.inl ⟨vs,hh.sq,r.empty⟩),k _ H1 hx k1 o1⟩
  case lst xs => obtain ⟨a,vs,rfl,hh,r⟩ := rx; exact ⟨_,.inl ⟨vs,SqL.of hh.2,r.empty⟩,k _ H1 hx k1 o1⟩
  case own xs => obtain ⟨a,vs,rfl,_,_,_,_,hh,r⟩ := rx; exact ⟨_,.inl ⟨vs,SqL.of hh,r.empty⟩,k _ H1 hx k1 o1⟩
def dTOr (t u : DT) : DT := fun ρ P => t ρ fun c => IfP c (P true) (u ρ P)
def dTNot (t : DT) : DT := fun ρ P => t ρ fun c => P (!c)
variable {ta tb : DT}
theorem up_or : ∀ σ H Q,dnT W (dTOr ta tb) σ H Q -> tOr (dnT W ta) (dnT W tb) σ H Q := by
  intro σ H Q hh
  refine hh.elim fun pn M b ρ P st h k => ?_
  refine ⟨pn,M,b,ρ,_,st,h,fun x H1 hx k1 o1 => ?_⟩
  cases hx with
  | t e hx => rw [if_pos e]; exact k _ H1 hx k1 o1
  | f e hx => rw [if_neg (by rw [e]; exact Bool.false_ne_true)]; exact ⟨pn,M,b,ρ,P,st.step k1 o1,hx,fun x H' hp k2 o2 => k x H' hp (k1.trans k2) o2⟩
theorem PW.mono {t t' : TT}(h : PW X e t)(m : ∀ σ H Q,t' σ H Q -> t σ H Q) : PW X e t' := fun wh pins s σ H Q I q => h wh pins s σ H Q I (m σ H Q q)
theorem dw_or1 (ha : PT X a (dnT W ta)) : PW X (.BoolOp .Or [a] pos) (dnT W ta) := pw_or1 ha
theorem dw_or (ha : PT X a (dnT W ta))(hb : PW X (.BoolOp .Or (b :: rest) pos) (dnT W tb)) : PW X (.BoolOp .Or (a :: b :: rest) pos) (dnT W (dTOr ta tb)) := (pw_or ha hb).mono up_or
theorem dt_not (ha : PT X a (dnT W ta)) : PT X (.UnaryOp .Not a pos) (dnT W (dTNot ta)) := (pt_not ha).mono fun σ H Q hh => hh.elim fun pn M b ρ P st h k => ⟨pn,M,b,ρ,_,st,h,fun x H1 hx k1 o1 => k _ H1 hx k1 o1⟩
def aNil : DA := fun _ P => P []
def aCons (da : DE)(dr : DA) : DA := fun ρ P => da ρ fun x => dr ρ fun xs => P (x :: xs)
theorem da_nil : PA X [] (dnA W aNil) := pa_nil.mono fun σ H Q hh => hh.elim fun pn M b ρ P st h k => k [] [] H h rfl (Kp.refl _ _) st.ok
theorem da_cons {dr : DA}(ha : PE X e (dn W da))(hr : PA X es (dnA W dr))(hs : starEach (e :: es) X.env = (false,eval e X.env) :: starEach es X.env := by rfl) : PA X (e :: es) (dnA W (aCons da dr)) := (pa_cons ha hr hs).mono fun σ H Q hh => hh.elim fun pn M b ρ P st h k => by
  refine ⟨pn,M,b,ρ,_,st,h,fun x v H1 hx rx k1 o1 => ?_⟩
  refine ⟨pn,M,b,ρ,_,st.step k1 o1,hx,fun xs vs H2 hy ry k2 o2 => ?_⟩
  exact k _ _ H2 hy ⟨v,vs,rfl,rx.step st.bagM k2,ry⟩ (k1.trans k2) o2
def okIt (xs : List D) : Bool := xs.all plain && decide (xs.length <= 1000)
def dTup (dA : DA) : DE := fun ρ P => dA ρ fun xs => okIt xs = true /\ P (.tup xs)
def dLst (dA : DA) : DE := fun ρ P => dA ρ fun xs => okIt xs = true /\ P (.lst xs)
theorem okIt.len {xs : List D}(h : okIt xs = true) : xs.length <= sizeLine := by
  unfold okIt at h
  simp only [Bool.and_eq_true,decide_eq_true_eq] at h
  exact Nat.le_trans h.2 le1000
theorem okIt.pl {xs : List D}(h : okIt xs = true) : xs.all plain = true := by
  unfold okIt at h
  simp only [Bool.and_eq_true,decide_eq_true_eq] at h
  exact h.1
theorem new_tup {M : Addr -> Prop}{bg : Option Addr}{H : Hp}{xs : List D}{vs : List V}{p : Addr}(hs : Hs W M bg H)(r : Reps W.K M H xs vs)(h : H p = none) : RepX W M bg (upd H p (.tup vs)) (.tup xs) (.ref p) :=
  ⟨p,vs,rfl,.inl ⟨hs.new h,upd_same⟩,Reps.keep (fun c o _ e => Same.upd h c o e) _ _ r⟩
theorem new_lst {M : Addr -> Prop}{bg : Option Addr}{H : Hp}{xs : List D}{vs : List V}{p : Addr}(hs : Hs W M bg H)(r : Reps W.K M H xs vs)(h : H p = none) : RepX W M bg (upd H p (.lst vs)) (.lst xs) (.ref p) :=
  ⟨p,vs,rfl,⟨hs.new h,upd_same⟩,Reps.keep (fun c o _ e => Same.upd h c o e) _ _ r⟩
theorem de_tup {x1}(h : PA X es (dnA W dA)) : PE X (.Tuple es x1 pos) (dn W (dTup dA)) := (pe_tup h).mono fun σ H Q hh => hh.elim fun pn M b ρ P st h k => by
  refine ⟨pn,M,b,ρ,_,st,h,fun xs vs H1 hx rx k1 o1 => ?_⟩
  have rr := rx.reps _ _ (okIt.pl hx.1)
  refine ⟨by rw [rr.length]; exact okIt.len hx.1,fun p hp => k _ _ _ hx.2 (new_tup (st.step k1 o1).toHs rr hp) (k1.trans (Kp.upd hp)) ((st.step k1 o1).okU hp)⟩
theorem de_lst (h : PA X es (dnA W dA)) : PE X (.List es pos) (dn W (dLst dA)) := (pe_lst h).mono fun σ H Q hh => hh.elim fun pn M b ρ P st h k => by
  refine ⟨pn,M,b,ρ,_,st,h,fun xs vs H1 hx rx k1 o1 => ?_⟩
  have rr := rx.reps _ _ (okIt.pl hx.1)
  refine ⟨by rw [rr.length]; exact okIt.len hx.1,fun p hp => k _ _ _ hx.2 (new_lst (st.step k1 o1).toHs rr hp) (k1.trans (Kp.upd hp)) ((st.step k1 o1).okU hp)⟩
end
end L2
set_option Elab.async false
set_option linter.all false
set_option maxRecDepth 100000
set_option maxHeartbeats 4000000
namespace L2
open PySem PySem.Spec PyProof.Rows
abbrev DSp := List D -> (D -> Prop) -> (Addr -> Prop) -> Prop
def RepA (K : PySem.W.Frag)(M : Addr -> Prop)(b : Option Addr)(H : Hp) : D -> V -> Prop
  | .own _,_ => False
  | .bag,v => ∃ p,b = some p /\ v = .ref p
  | d,v => Rep K M H d v
def RepAs (K : PySem.W.Frag)(M : Addr -> Prop)(b : Option Addr)(H : Hp) : List D -> List V -> Prop
  | [],vs => vs = []
  | d :: ds,vs => ∃ v r,vs = v :: r /\ RepA K M b H d v /\ RepAs K M b H ds r
def liftSp (K : PySem.W.Frag)(B : BagT)(S : DSp) : Sp := fun vs H Q E => ∃ (M : Addr -> Prop) (b : Option Addr) (ds : List D) (P : D -> Prop) (Ed : Addr -> Prop),S ds P Ed /\ RepAs K M b H ds vs /\ okB B b H /\ (∀ p,b = some p -> M p) /\ (∀ c,M c -> ∃ o,H c = some o) /\
  (∀ d v H',P d -> Rep K M H' d v -> Kp b H H' -> okB B b H' -> Q v H') /\ ∀ C H',Ed C -> Kp b H H' -> okB B b H' -> E (.ref C) none H'
theorem RepXs.args {W : Wd}{M : Addr -> Prop}{b : Option Addr}{H : Hp} : ∀ (ds : List D) (vs : List V),RepXs W M b H ds vs -> ds.all notOwn = true -> RepAs W.K M b H ds vs
  | [],_,h,_ => h
  | d :: ds,vs,h,p => by
    obtain ⟨v,r,e,h1,h2⟩ := h
    simp only [List.all_cons,Bool.and_eq_true] at p
    refine ⟨v,r,e,?_,RepXs.args ds r h2 p.2⟩
    cases d <;> first | exact h1 | cases p.1
theorem RepAs.length {K : PySem.W.Frag}{M : Addr -> Prop}{b : Option Addr}{H : Hp} : ∀ {ds : List D} {vs : List V},RepAs K M b H ds vs -> vs.length = ds.length
  | [],_,h => by cases (show _ = _ from h); rfl
  | d :: ds,vs,h => by
    obtain ⟨v,r,rfl,h1,h2⟩ := h
    simp [RepAs.length h2]
def ELink (W : Wd)(E : XK)(Ed : Addr -> Prop) : Prop := ∀ C H',Ed C -> Kp W.b0 W.H0 H' -> okB W.B W.b0 H' -> E (.ref C) none H'
theorem Sta.ok0 {W : Wd}{pn : List (D × V)}{M : Addr -> Prop}{b : Option Addr}{H : Hp}{σ : St}{ρ : Ev}(s : Sta W pn M b H σ ρ) : okB W.B W.b0 H := by
  rcases s.new with q | ⟨q,_⟩
  · rw [<- q]; exact s.ok
  · intro p e; rw [q] at e; cases e
section
variable {X : Cx}{W : Wd}{e a b c : Expr}{es : List Expr}{pos p : Pos}{d da db dc : DE}{dA : DA}{x : Str}{k : Nat}{ps : List Str}{S : DSp}
def dCall (S : DSp)(Ed : Addr -> Prop)(dA : DA) : DE := fun ρ P => dA ρ fun ds => ds.all notOwn = true /\ S ds P Ed
theorem up_call {E : XK}{Ed : Addr -> Prop}(hE : ELink W E Ed) : ∀ σ H Q,dn W (dCall S Ed dA) σ H Q -> tCall (liftSp W.K W.B S) [] E (dnA W dA) σ H Q := by
  intro σ H Q hh
  refine hh.elim fun pn M b ρ P st h k => ?_
  refine ⟨pn,M,b,ρ,_,st,h,fun xs vs H1 hx rx k1 o1 => ?_⟩
  have st1 := st.step k1 o1
  refine ⟨M,b,xs,P,Ed,hx.2,?_,o1,st.bagM,st1.dom,fun d v H' hd rd k2 o2 => k d v H' hd rd.x (k1.trans k2) o2,fun C H' hC k2 o2 => ?_⟩
  · rw [List.append_nil]; exact rx.args _ _ hx.1
  · have st2 := st1.step k2 o2
    exact hE C H' hC st2.kp st2.ok0
theorem elink0 : ELink W E0 (fun _ => False) := fun _ _ h => h.elim
theorem de_own (G : Callee X.prog X.w X.K X.mg X.base CX0 x k ps (liftSp W.K W.B S))(hr : Room k X.A)(hg : Gl X x)(ha : PA X (e :: es) (dnA W dA))(hdb : (x == ("__debug__" : Str)) = false := by decide) (he : starEach (e :: es) X.env = (false,eval e X.env) :: starEach es X.env := by rfl) (hpl : (backTo pos (starEach es X.env)).any (·.1) = false := by rfl) :
    PE X (.Call (.Name x p) (e :: es) [] pos) (dn W (dCall S (fun _ => False) dA)) := (pe_own G hr hg ha hdb he hpl).mono (up_call elink0)
theorem de_ownX {CX : CXT}{E : XK}{Ed : Addr -> Prop}(hE : ELink W E Ed)(hp : Passes CX X E)(G : Callee X.prog X.w X.K X.mg X.base CX x k ps (liftSp W.K W.B S))(hr : Room k X.A)(hg : Gl X x)(ha : PA X (e :: es) (dnA W dA))(hdb : (x == ("__debug__" : Str)) = false := by decide) (he : starEach (e :: es) X.env = (false,eval e X.env) :: starEach es X.env := by rfl) (hpl : (backTo pos (starEach es X.env)).any (·.1) = false := by rfl) :
    PE X (.Call (.Name x p) (e :: es) [] pos) (dn W (dCall S Ed dA)) := (pe_ownX hp G hr hg ha hdb he hpl).mono (up_call hE)
def CallD (W : Wd)(r : List V -> Hp -> VK -> Prop)(o : List D -> (D -> Prop) -> Prop) : Prop := ∀ M b H xs vs P Q,Hs W M b H -> RepXs W M b H xs vs -> o xs P -> (∀ z w H',P z -> RepX W M b H' z w -> Kp b H H' -> okB W.B b H' -> Q w H') -> r vs H Q
def dCB (o : List D -> (D -> Prop) -> Prop)(dA : DA) : DE := fun ρ P => dA ρ fun xs => o xs P
variable {r : List V -> Hp -> VK -> Prop}{o : List D -> (D -> Prop) -> Prop}{id T : String}
theorem up_cb (hd : CallD W r o) : ∀ σ H Q,dn W (dCB o dA) σ H Q -> tCB r (dnA W dA) σ H Q := by
  intro σ H Q hh
  refine hh.elim fun pn M b ρ P st h k => ?_
  refine ⟨pn,M,b,ρ,_,st,h,fun xs vs H1 hx rx k1 o1 => ?_⟩
  exact hd M b H1 xs vs P Q (st.step k1 o1).toHs rx hx fun z w H' hz rz k2 o2 => k z w H' hz rz (k1.trans k2) o2
theorem de_callB (hc : CallR X (.builtin id) r)(hd : CallD W r o)(hg : Gl X x)(hm : X.mg x = none)(hv : bootBuiltins x = some (.builtin id))(ha : PA X (e :: es) (dnA W dA))(hn : x ≠ "__name__" := by decide) (hdb : (x == ("__debug__" : Str)) = false := by decide)
    (he : starEach (e :: es) X.env = (false,eval e X.env) :: starEach es X.env := by rfl) (hpl : (backTo pos (starEach es X.env)).any (·.1) = false := by rfl) : PE X (.Call (.Name x p) (e :: es) [] pos) (dn W (dCB o dA)) := (pe_callB hc hg hm hv ha hn hdb he hpl).mono (up_cb hd)
theorem de_callTy (hc : CallR X (.type T) r)(hd : CallD W r o)(hg : Gl X x)(hm : X.mg x = none)(hv : bootBuiltins x = some (.type T))(ha : PA X (e :: es) (dnA W dA))(hn : x ≠ "__name__" := by decide) (hdb : (x == ("__debug__" : Str)) = false := by decide)
    (he : starEach (e :: es) X.env = (false,eval e X.env) :: starEach es X.env := by rfl) (hpl : (backTo pos (starEach es X.env)).any (·.1) = false := by rfl) : PE X (.Call (.Name x p) (e :: es) [] pos) (dn W (dCB o dA)) := (pe_callTy hc hg hm hv ha hn hdb he hpl).mono (up_cb hd)
theorem rx1 {M : Addr -> Prop}{b : Option Addr}{H : Hp}{x : D}{vs : List V}(h : RepXs W M b H [x] vs) : ∃ v,vs = [v] /\ RepX W M b H x v := by
  obtain ⟨v,r,rfl,h1,h2⟩ := h
  cases (show _ = _ from h2)
  exact ⟨v,rfl,h1⟩
theorem rx2 {M : Addr -> Prop}{b : Option Addr}{H : Hp}{x y : D}{vs : List V}(h : RepXs W M b H [x,y] vs) : ∃ v u,vs = [v,u] /\ RepX W M b H x v /\ RepX W M b H y u := by
  obtain ⟨v,r,rfl,h1,h2⟩ := h
  obtain ⟨u,rfl,h3⟩ := rx1 h2
  exact ⟨v,u,rfl,h1,h3⟩
def intsOf : List D -> Option (List Int)
  | [] => some []
  | .int i :: r => (intsOf r).map (i :: ·)
  | _ => none
def blsOf : List D -> Option (List Bool)
  | [] => some []
  | .bl i :: r => (blsOf r).map (i :: ·)
  | _ => none
theorem intsOf.eq : ∀ {ds : List D} {ns : List Int},intsOf ds = some ns -> ds = ns.map D.int
  | [],ns,h => by cases h; rfl
  | d :: r,ns,h => by
    cases d <;> first | cases h | skip
    case int i =>
      simp only [intsOf,Option.map_eq_some_iff] at h
      obtain ⟨m,e,rfl⟩ := h
      rw [intsOf.eq e]; rfl
theorem blsOf.eq : ∀ {ds : List D} {ns : List Bool},blsOf ds = some ns -> ds = ns.map D.bl
  | [],ns,h => by cases h; rfl
  | d :: r,ns,h => by
    cases d <;> first | cases h | skip
    case bl i =>
      simp only [blsOf,Option.map_eq_some_iff] at h
      obtain ⟨m,e,rfl⟩ := h
      rw [blsOf.eq e]; rfl
theorem blsOf_map (ns : List Bool) : blsOf (ns.map D.bl) = some ns := by
  induction ns with
  | nil => rfl
  | cons n ns ih => simp [blsOf,ih]
theorem Reps.ints {K : PySem.W.Frag}{M : Addr -> Prop}{H : Hp} : ∀ {ns : List Int} {vs : List V},Reps K M H (ns.map D.int) vs -> vs = ns.map V.int
  | [],_,h => by cases (show _ = _ from h); rfl
  | n :: ns,_,h => by
    obtain ⟨v,r,rfl,h1,h2⟩ := h
    cases (show _ = _ from h1)
    rw [Reps.ints h2]; rfl
theorem Reps.bls {K : PySem.W.Frag}{M : Addr -> Prop}{H : Hp} : ∀ {ns : List Bool} {vs : List V},Reps K M H (ns.map D.bl) vs -> vs = ns.map V.bl
  | [],_,h => by cases (show _ = _ from h); rfl
  | n :: ns,_,h => by
    obtain ⟨v,r,rfl,h1,h2⟩ := h
    cases (show _ = _ from h1)
    rw [Reps.bls h2]; rfl
def asL : D -> Option (List D)
  | .lst xs => some xs
  | .own xs => some xs
  | _ => none
theorem asL.rep {M : Addr -> Prop}{b : Option Addr}{H : Hp}{x : D}{v : V}{xs : List D}(h : RepX W M b H x v)(e : asL x = some xs) : ∃ a vs,v = .ref a /\ H a = some (.lst vs) /\ Reps W.K M H xs vs := by
  cases x <;> first | cases e | skip
  case lst => obtain ⟨a,vs,rfl,hh,r⟩ := h; exact ⟨a,vs,rfl,hh.2,r⟩
  case own => obtain ⟨a,vs,rfl,_,_,_,_,hh,r⟩ := h; exact ⟨a,vs,rfl,hh,r⟩
def oLen : List D -> (D -> Prop) -> Prop
  | [.lst xs],P => P (.int xs.length)
  | [.own xs],P => P (.int xs.length)
  | [.tup xs],P => P (.int xs.length)
  | [.scr ns],P => P (.int ns.length)
  | _,_ => False
theorem cd_len : CallD W (fun xs H Q => ∃ p ys,xs = [.ref p] /\ (SqL W.K H p ys \/ SqT W.K H p ys) /\ Q (.int ys.length) H) oLen := by
  intro M b H xs vs P Q hs rx ho k
  match xs,ho with
  | [.lst xs],ho =>
    obtain ⟨v,rfl,r⟩ := rx1 rx
    obtain ⟨a,us,rfl,hh,r'⟩ := r
    exact ⟨a,us,rfl,.inl (SqL.of hh.2),k _ _ H ho (by show _ = _; rw [r'.length]) (Kp.refl _ _) hs.ok⟩
  | [.own xs],ho =>
    obtain ⟨v,rfl,r⟩ := rx1 rx
    obtain ⟨a,us,rfl,_,_,_,_,hh,r'⟩ := r
    exact ⟨a,us,rfl,.inl (SqL.of hh),k _ _ H ho (by show _ = _; rw [r'.length]) (Kp.refl _ _) hs.ok⟩
  | [.tup xs],ho =>
    obtain ⟨v,rfl,r⟩ := rx1 rx
    obtain ⟨a,us,rfl,hh,r'⟩ := r
    exact ⟨a,us,rfl,.inr (hh.sq),k _ _ H ho (by show _ = _; rw [r'.length]) (Kp.refl _ _) hs.ok⟩
  | [.scr ns],ho =>
    obtain ⟨v,rfl,r⟩ := rx1 rx
    obtain ⟨a,rfl,hh⟩ := r
    refine ⟨a,ns.map V.int,rfl,.inl (hh.imp (·.2) id),k _ _ H ho (by show _ = _; rw [List.length_map]) (Kp.refl _ _) hs.ok⟩
def oTuple : List D -> (D -> Prop) -> Prop
  | [.lst xs],P => P (.tup xs)
  | [.own xs],P => P (.tup xs)
  | [.tup xs],P => P (.tup xs)
  | _,_ => False
theorem cd_tuple : CallD W (fun xs H Q => ∃ p ys,xs = [.ref p] /\ ((SqL W.K H p ys /\ ∀ l,H l = none -> Q (.ref l) (upd H l (.tup ys))) \/ (SqT W.K H p ys /\ Q (.ref p) H))) oTuple := by
  intro M b H xs vs P Q hs rx ho k
  match xs,ho with
  | [.lst xs],ho =>
    obtain ⟨v,rfl,r⟩ := rx1 rx
    obtain ⟨a,us,rfl,hh,r'⟩ := r
    exact ⟨a,us,rfl,.inl ⟨SqL.of hh.2,fun l hl => k _ _ _ ho (new_tup hs r' hl) (Kp.upd hl) (hs.okU hl)⟩⟩
  | [.own xs],ho =>
    obtain ⟨v,rfl,r⟩ := rx1 rx
    obtain ⟨a,us,rfl,_,_,_,_,hh,r'⟩ := r
    exact ⟨a,us,rfl,.inl ⟨SqL.of hh,fun l hl => k _ _ _ ho (new_tup hs r' hl) (Kp.upd hl) (hs.okU hl)⟩⟩
  | [.tup xs],ho =>
    obtain ⟨v,rfl,r⟩ := rx1 rx
    obtain ⟨a,us,rfl,hh,r'⟩ := r
    exact ⟨a,us,rfl,.inr ⟨hh.sq,k _ _ H ho ⟨a,us,rfl,hh,r'⟩ (Kp.refl _ _) hs.ok⟩⟩
def oList : List D -> (D -> Prop) -> Prop
  | [.lst xs],P => P (.lst xs)
  | [.own xs],P => P (.lst xs)
  | [.tup xs],P => P (.lst xs)
  | _,_ => False
theorem cd_list : CallD W (fun xs H Q => ∃ p ys,xs = [.ref p] /\ (SqL W.K H p ys \/ SqT W.K H p ys) /\ ∀ l,H l = none -> Q (.ref l) (upd H l (.lst ys))) oList := by
  intro M b H xs vs P Q hs rx ho k
  match xs,ho with
  | [.lst xs],ho =>
    obtain ⟨v,rfl,r⟩ := rx1 rx
    obtain ⟨a,us,rfl,hh,r'⟩ := r
    exact ⟨a,us,rfl,.inl (SqL.of hh.2),fun l hl => k _ _ _ ho (new_lst hs r' hl) (Kp.upd hl) (hs.okU hl)⟩
  | [.own xs],ho =>
    obtain ⟨v,rfl,r⟩ := rx1 rx
    obtain ⟨a,us,rfl,_,_,_,_,hh,r'⟩ := r
    exact ⟨a,us,rfl,.inl (SqL.of hh),fun l hl => k _ _ _ ho (new_lst hs r' hl) (Kp.upd hl) (hs.okU hl)⟩
  | [.tup xs],ho =>
    obtain ⟨v,rfl,r⟩ := rx1 rx
    obtain ⟨a,us,rfl,hh,r'⟩ := r
    exact ⟨a,us,rfl,.inr (hh.sq),fun l hl => k _ _ _ ho (new_lst hs r' hl) (Kp.upd hl) (hs.okU hl)⟩
def oAbs : List D -> (D -> Prop) -> Prop
  | [.int i],P => P (.int (if i < 0 then -i else i))
  | _,_ => False
theorem cd_abs : CallD W (fun xs H Q => ∃ i,xs = [.int i] /\ Q (.int (if i < 0 then -i else i)) H) oAbs := by
  intro M b H xs vs P Q hs rx ho k
  match xs,ho with
  | [.int i],ho =>
    obtain ⟨v,rfl,r⟩ := rx1 rx
    cases (show _ = _ from r)
    exact ⟨i,rfl,k _ _ H ho (show _ = _ from rfl) (Kp.refl _ _) hs.ok⟩
def o2I (g : Int -> Int -> Int) : List D -> (D -> Prop) -> Prop
  | [.int i,.int j],P => P (.int (g i j))
  | _,_ => False
theorem cd_2I {g : Int -> Int -> Int} : CallD W (fun xs H Q => ∃ i j,xs = [.int i,.int j] /\ Q (.int (g i j)) H) (o2I g) := by
  intro M b H xs vs P Q hs rx ho k
  match xs,ho with
  | [.int i,.int j],ho =>
    obtain ⟨v,u,rfl,r,r'⟩ := rx2 rx
    cases (show _ = _ from r)
    cases (show _ = _ from r')
    exact ⟨i,j,rfl,k _ _ H ho (show _ = _ from rfl) (Kp.refl _ _) hs.ok⟩
def oSum : List D -> (D -> Prop) -> Prop
  | [x],P => (asL x).elim False fun xs => (intsOf xs).elim False fun ns => P (.int ns.sum)
  | _,_ => False
theorem cd_sum : CallD W (fun xs H Q => ∃ (p : Addr) (ns : List Int),xs = [.ref p] /\ SqL W.K H p (ns.map V.int) /\ Q (.int ns.sum) H) oSum := by
  intro M b H xs vs P Q hs rx ho k
  match xs,ho with
  | [x],ho =>
    obtain ⟨v,rfl,r⟩ := rx1 rx
    simp only [oSum] at ho
    cases ex : asL x with
    | none => rw [ex] at ho; exact ho.elim
    | some xs =>
      rw [ex] at ho
      simp only [Option.elim] at ho
      cases en : intsOf xs with
      | none => rw [en] at ho; exact ho.elim
      | some ns =>
        rw [en] at ho
        cases intsOf.eq en
        obtain ⟨a,us,rfl,hh,r'⟩ := asL.rep r ex
        cases r'.ints
        exact ⟨a,ns,rfl,SqL.of hh,k _ _ H ho (show _ = _ from rfl) (Kp.refl _ _) hs.ok⟩
def oBls (g : List Bool -> Bool) : List D -> (D -> Prop) -> Prop
  | [x],P => (asL x).elim False fun xs => (blsOf xs).elim False fun ns => P (.bl (g ns))
  | _,_ => False
theorem cd_bls {g : List Bool -> Bool} : CallD W (fun xs H Q => ∃ (p : Addr) (bs : List Bool),xs = [.ref p] /\ SqL W.K H p (bs.map V.bl) /\ Q (.bl (g bs)) H) (oBls g) := by
  intro M b H xs vs P Q hs rx ho k
  match xs,ho with
  | [x],ho =>
    obtain ⟨v,rfl,r⟩ := rx1 rx
    simp only [oBls] at ho
    cases ex : asL x with
    | none => rw [ex] at ho; exact ho.elim
    | some xs =>
      rw [ex] at ho
      simp only [Option.elim] at ho
      cases en : blsOf xs with
      | none => rw [en] at ho; exact ho.elim
      | some ns =>
        rw [en] at ho
        cases blsOf.eq en
        obtain ⟨a,us,rfl,hh,r'⟩ := asL.rep r ex
        cases r'.bls
        exact ⟨a,ns,rfl,SqL.of hh,k _ _ H ho (show _ = _ from rfl) (Kp.refl _ _) hs.ok⟩
theorem call_isinstA (K : PySem.W.Frag)(h : X.K = K) : CallR X (.builtin "isinstance") (fun xs H Q => ∃ y c t b,xs = [y,.ty c] /\ (TyOf K H y t \/ ∃ a vs,y = .ref a /\ KTp K a vs /\ t = .type "tuple") /\ PySem.W.kitOne K t (.type c) = some b /\ Q (.bl b) H) := by
  subst h
  intro pins s σ H xs us Q I rs q
  obtain ⟨y,c,t,b,rfl,ty,e,q⟩ := q
  rcases ty with ty | ⟨a,vs,rfl,⟨o,its,n,hk,hc,hs,hz,r⟩,rfl⟩
  · exact call_isinst pins s σ H _ us Q I rs ⟨y,c,t,b,rfl,ty,e,q⟩
  · obtain ⟨u1,u2,rfl,r1,r2⟩ := vals2 rs
    cases (show u2 = Value.type c from r2)
    cases (show u1 = Value.ref a from r1)
    refine PySem.W.kia_one PySem.W.kitx_tuple I.kIn ⟨o,I.kIn a o hk,hc⟩ e (fun z => nomatch z) fun tk => ?_
    exact ⟨.bl b,H,I.tok _,rfl,q⟩
def tyName : D -> Option String
  | .non => some "NoneType"
  | .bl _ => some "bool"
  | .int _ => some "int"
  | .str _ => some "str"
  | .lst _ => some "list"
  | .own _ => some "list"
  | .tup _ => some "tuple"
  | .frg _ (.lst _) => some "list"
  | _ => none
def isTy (K : PySem.W.Frag)(t c : String)(b : Bool) : Prop := PySem.W.kitOne K (.type t) (.type c) = some b
def oIsI (K : PySem.W.Frag) : List D -> (D -> Prop) -> Prop
  | [x,.ty c],P => match tyName x with | some t => ∃ b,isTy K t c b /\ P (.bl b) | none => False
  | _,_ => False
theorem cd_isinst : CallD W (fun xs H Q => ∃ y c t b,xs = [y,.ty c] /\ (TyOf W.K H y t \/ ∃ a vs,y = .ref a /\ KTp W.K a vs /\ t = .type "tuple") /\ PySem.W.kitOne W.K t (.type c) = some b /\ Q (.bl b) H) (oIsI W.K) := by
  intro M b H xs vs P Q hs rx ho k
  match xs,ho with
  | [x,.ty c],ho =>
    obtain ⟨v,u,rfl,r,r'⟩ := rx2 rx
    cases (show _ = _ from r')
    simp only [oIsI] at ho
    split at ho
    case h_2 => exact ho.elim
    case h_1 t et =>
      obtain ⟨q,hq,hp⟩ := ho
      refine ⟨v,c,.type t,q,rfl,?_,hq,k _ _ H hp (show _ = _ from rfl) (Kp.refl _ _) hs.ok⟩
      cases x <;> first | cases et | skip
      case non => cases (show _ = _ from r); exact .inl (.non)
      case bl => cases (show _ = _ from r); exact .inl (.bl _)
      case int => cases (show _ = _ from r); exact .inl (.int _)
      case str => cases (show _ = _ from r); exact .inl (.str _)
      case lst => obtain ⟨a,us,rfl,hh,r'⟩ := r; exact .inl (.lst hh.2)
      case own => obtain ⟨a,us,rfl,_,_,_,_,hh,r'⟩ := r; exact .inl (.lst hh)
      case frg f d =>
        cases d <;> first | cases et | skip
        case lst => obtain ⟨a,us,rfl,hh,r'⟩ := r.2.2; exact .inl (.lst hh.2)
      case tup =>
        obtain ⟨a,us,rfl,hh,r'⟩ := r
        exact hh.elim (fun z => .inl (.tup z.2)) fun z => .inr ⟨a,us,rfl,z,rfl⟩
end
end L2
set_option Elab.async false
set_option linter.all false
set_option maxRecDepth 100000
set_option maxHeartbeats 4000000
namespace L2
open PySem PySem.Spec PyProof.Rows
theorem Reps.plain {K : PySem.W.Frag}{M : Addr -> Prop}{H : Hp} : ∀ {ds : List D} {vs : List V},Reps K M H ds vs -> ds.all plain = true
  | [],_,_ => rfl
  | d :: ds,_,h => by
    obtain ⟨v,r,rfl,h1,h2⟩ := h
    rw [List.all_cons,Reps.plain h2,Bool.and_true]
    cases d <;> first | rfl | exact h1.elim
theorem Reps.xs {W : Wd}{M : Addr -> Prop}{b : Option Addr}{H : Hp} : ∀ {ds : List D} {vs : List V},Reps W.K M H ds vs -> RepXs W M b H ds vs
  | [],_,h => h
  | d :: ds,_,h => by
    obtain ⟨v,r,rfl,h1,h2⟩ := h
    exact ⟨v,r,rfl,h1.x,Reps.xs h2⟩
def ItOk (W : Wd)(J : It)(need : List (D × V))(items : List D) : Prop := ∀ M b H,Hs W M b H -> (∀ q ∈ need,RepX W M b H q.1 q.2) ->
  (∀ (i : Nat) d,items[i]? = some d -> J.go i H /\ ∀ x H3,J.yld i H x H3 -> Same H H3 /\ RepX W M b H3 d x) /\ ∀ i,items.length <= i -> J.stop i H
def dnI (W : Wd)(fz : Bool)(di : DA) : TI := fun σ H R => ∃ pn M b ρ P,Sta W pn M b H σ ρ /\ di ρ P /\ ∀ items J need H',P items -> items.all plain = true -> ItOk W J need items -> (∀ q ∈ need,RepX W M b H' q.1 q.2 /\ (fz = true -> plain q.1 = true)) -> Kp b H H' -> okB W.B b H' -> R J H'
theorem dnI.elim {W : Wd}{fz : Bool}{d : DA}{σ : St}{H : Hp}{R : It -> Hp -> Prop}{Z : Prop}(h : dnI W fz d σ H R)(f : ∀ pn M b ρ P,Sta W pn M b H σ ρ -> d ρ P -> (∀ items J need H',P items -> items.all plain = true -> ItOk W J need items -> (∀ q ∈ need,RepX W M b H' q.1 q.2 /\ (fz = true -> plain q.1 = true)) -> Kp b H H' -> okB W.B b H' -> R J H') -> Z) : Z := by
  obtain ⟨pn,M,b,ρ,P,st,h,k⟩ := h
  exact f pn M b ρ P st h k
section
variable {X : Cx}{W : Wd}{tg l e a b c : Expr}{es : List Expr}{pos p : Pos}{d da db dc dl : DE}{dA di : DA}{fz : Bool}
theorem PI.mono {t t' : TI}(h : PI X tg l t)(m : ∀ σ H R,t' σ H R -> t σ H R) : PI X tg l t' := fun pins s σ H R I q => h pins s σ H R I (m σ H R q)
theorem pi_any {tl : TE}(K : PySem.W.Frag)(h : X.K = K)(hl : PE X l tl) : PI X tg l (fun σ H R => tl σ H fun x H1 => (∃ a,x = .ref a /\ (∃ xs,SqL K H1 a xs) /\ R (Itl K a) H1) \/ (∃ a,x = .ref a /\ (∃ xs,SqT K H1 a xs) /\ R (Itt K a) H1)) := by
  subst h
  intro pins s σ H R I h
  refine thn (hl pins s σ H _ I h) fun v s1 ⟨x,H1,I1,r1,q1⟩ => ?_
  rcases q1 with ⟨a,e,⟨xs,hq⟩,q⟩ | ⟨a,e,⟨xs,hq⟩,q⟩
  · subst e
    cases r1
    obtain ⟨its,rv,p,hz⟩ := I1.list hq
    refine wpAny_pyIter_list p.isList ?_
    refine ⟨s1.heap.objs.size,[s1.heap.objs.size],_,_,H1,rfl,I1.kept (t' := s1.toks) fun b o e => Heap.get?_push_of_some _ e,turn_list a _,⟨_,Heap.get?_push_size _ rfl,rfl,rfl⟩,fun b hb => ?_,q⟩
    have e : b = s1.heap.objs.size := by simpa using hb
    subst e
    exact I1.fpOk (Nat.le_refl _) (I1.hok.fresh (Nat.le_refl _))
  · subst e
    cases r1
    obtain ⟨its,rv,p,hz⟩ := I1.tuple hq
    refine wpAny_pyIter_tuple (show s1.heap.IsTuple a its.toArray from p) ?_
    refine ⟨s1.heap.objs.size,[s1.heap.objs.size],_,_,H1,rfl,I1.kept (t' := s1.toks) fun b o e => Heap.get?_push_of_some _ e,turn_tuple a _,⟨_,Heap.get?_push_size _ rfl,rfl,rfl⟩,fun b hb => ?_,q⟩
    have e : b = s1.heap.objs.size := by simpa using hb
    subst e
    exact I1.fpOk (Nat.le_refl _) (I1.hok.fresh (Nat.le_refl _))
def iSeq (fz : Bool)(dl : DE) : DA := fun ρ P => dl ρ fun x => match x with
  | .lst xs => P xs
  | .tup xs => P xs
  | .own xs => fz = false /\ P xs
  | _ => False
theorem it_lst {x : D}{xs : List D}{a : Addr}(hx : asL x = some xs) : ItOk W (Itl W.K a) [(x,.ref a)] xs := by
  intro M b H hs hn
  obtain ⟨a',vs,e,hh,r⟩ := asL.rep (hn _ (List.mem_singleton.mpr rfl)) hx
  cases e
  refine ⟨fun i d e => ?_,fun i hi => ⟨vs,SqL.of hh,by rw [r.length]; exact hi⟩⟩
  obtain ⟨v,e1,r1⟩ := r.get e
  refine ⟨⟨vs,v,SqL.of hh,e1⟩,fun y H3 ⟨eH,hy⟩ => ?_⟩
  subst eH
  have := hy vs (SqL.of hh)
  rw [e1] at this; cases this
  exact ⟨Same.refl _,r1.x⟩
theorem it_tup {xs : List D}{a : Addr} : ItOk W (Itt W.K a) [(.tup xs,.ref a)] xs := by
  intro M b H hs hn
  obtain ⟨a',vs,e,hh,r⟩ := hn _ (List.mem_singleton.mpr rfl)
  cases e
  refine ⟨fun i d e => ?_,fun i hi => ⟨vs,hh.sq,by rw [r.length]; exact hi⟩⟩
  obtain ⟨v,e1,r1⟩ := r.get e
  refine ⟨⟨vs,v,hh.sq,e1⟩,fun y H3 ⟨eH,hy⟩ => ?_⟩
  subst eH
  have := hy vs (hh.sq)
  rw [e1] at this; cases this
  exact ⟨Same.refl _,r1.x⟩
theorem need1 {M : Addr -> Prop}{b : Option Addr}{H : Hp}{x : D}{v : V}(r : RepX W M b H x v)(h : fz = true -> plain x = true) : ∀ q ∈ [(x,v)],RepX W M b H q.1 q.2 /\ (fz = true -> plain q.1 = true) := fun q hq => by
  have e := List.mem_singleton.mp hq
  subst e
  exact ⟨r,h⟩
theorem di_seq (hK : X.K = W.K)(hl : PE X l (dn W dl)) : PI X tg l (dnI W fz (iSeq fz dl)) := (pi_any W.K hK hl).mono fun σ H R hh => hh.elim fun pn M b ρ P st h k => by
  refine ⟨pn,M,b,ρ,_,st,h,fun x v H1 hx rx k1 o1 => ?_⟩
  cases x <;> first | exact hx.elim | skip
  case lst xs =>
    obtain ⟨a,vs,rfl,hh,r⟩ := (show RepX W M b H1 (.lst xs) v from rx)
    exact .inl ⟨a,rfl,⟨vs,SqL.of hh.2⟩,k xs _ _ H1 hx r.plain (it_lst (x := .lst xs) rfl) (need1 rx fun _ => rfl) k1 o1⟩
  case tup xs =>
    obtain ⟨a,vs,rfl,hh,r⟩ := (show RepX W M b H1 (.tup xs) v from rx)
    exact .inr ⟨a,rfl,⟨vs,hh.sq⟩,k xs _ _ H1 hx r.plain it_tup (need1 rx fun _ => rfl) k1 o1⟩
  case own xs =>
    obtain ⟨a,vs,rfl,m1,m2,m3,m4,hh,r⟩ := (show RepX W M b H1 (.own xs) v from rx)
    exact .inl ⟨a,rfl,⟨vs,SqL.of hh⟩,k xs _ _ H1 hx.2 r.plain (it_lst (x := .own xs) rfl) (need1 rx fun z => by rw [hx.1] at z; cases z) k1 o1⟩
def rangeD (lo : Int)(n : Nat) : List D := (List.range n).map fun (i : Nat) => .int (lo + i)
theorem rangeD_plain (lo : Int)(n : Nat) : (rangeD lo n).all plain = true := by
  simp [rangeD,plain]
theorem it_range {lo : Int}{n : Nat} : ItOk W (Itr lo n) [] (rangeD lo n) := by
  intro M b H hs _
  refine ⟨fun i d e => ?_,fun i hi => by show n <= i; simpa [rangeD] using hi⟩
  have hi : i < n := by
    have := (List.getElem?_eq_some_iff.mp e).1
    simpa [rangeD] using this
  refine ⟨hi,fun x H3 ⟨eH,ex⟩ => ?_⟩
  subst eH ex
  refine ⟨Same.refl _,?_⟩
  simp [rangeD,hi] at e
  subst e
  exact (show _ = _ from rfl)
def iRange1 (dA : DA) : DA := fun ρ P => dA ρ fun xs => match xs with
  | [.int j] => (-(2 ^ 62) <= j /\ j < 2 ^ 62) /\ P (rangeD 0 j.toNat)
  | _ => False
theorem di_range1 (hg : Gl X "range") (hm : X.mg "range" = none) (ha : PA X [a] (dnA W dA)) (hs : starEach [a] X.env = [(false,eval a X.env)] := by rfl) : PI X tg (.Call (.Name "range" p) [a] [] pos) (dnI W fz (iRange1 dA)) := (pi_range1 hg hm ha hs).mono fun σ H R hh => hh.elim fun pn M b ρ P st h k => by
  refine ⟨pn,M,b,ρ,_,st,h,fun xs vs H1 hx rx k1 o1 => ?_⟩
  match xs,hx with
  | [.int j],hx =>
    obtain ⟨v,rfl,r⟩ := rx1 rx
    cases (show _ = _ from r)
    exact ⟨j,rfl,hx.1.1,hx.1.2,k _ _ _ H1 hx.2 (rangeD_plain _ _) it_range (fun q hq => by cases hq) k1 o1⟩
def asK (fz t : Bool) : D -> Option (List D)
  | .tup xs => if t then some xs else none
  | .lst xs => if t then none else some xs
  | .own xs => if t || fz then none else some xs
  | _ => none
theorem asK.rep {M : Addr -> Prop}{b : Option Addr}{H : Hp}{t : Bool}{x : D}{v : V}{xs : List D}(h : RepX W M b H x v)(e : asK fz t x = some xs) : (∃ a vs,v = .ref a /\ SqX W.K t H a vs /\ Reps W.K M H xs vs) /\ (fz = true -> plain x = true) := by
  cases x <;> first | cases e | skip
  case lst =>
    obtain ⟨a,vs,rfl,hh,r⟩ := h
    cases t <;> cases e
    exact ⟨⟨a,vs,rfl,SqL.of hh.2,r⟩,fun _ => rfl⟩
  case own =>
    obtain ⟨a,vs,rfl,_,_,_,_,hh,r⟩ := h
    cases t <;> cases fz <;> cases e
    exact ⟨⟨a,vs,rfl,SqL.of hh,r⟩,fun z => by cases z⟩
  case tup =>
    obtain ⟨a,vs,rfl,hh,r⟩ := h
    cases t <;> cases e
    exact ⟨⟨a,vs,rfl,hh.sq,r⟩,fun _ => rfl⟩
def zipD (xs ys : List D) : List D := List.zipWith (fun x y => .tup [x,y]) xs ys
def iZipD (fz t1 t2 : Bool)(dA : DA) : DA := fun ρ P => dA ρ fun zs => match zs with
  | [x,y] => (match asK fz t1 x,asK fz t2 y with | some xs,some ys => xs.length <= ys.length /\ P (zipD xs ys) | _,_ => False)
  | _ => False
theorem zipD_plain : ∀ (xs ys : List D),(zipD xs ys).all plain = true
  | [],_ => rfl
  | _ :: _,[] => rfl
  | x :: xs,y :: ys => by
    show (plain (.tup [x,y]) && (zipD xs ys).all plain) = true
    rw [zipD_plain xs ys]; rfl
theorem it_zip {t1 t2 : Bool}{x y : D}{xs ys : List D}{l1 l2 : Addr}(h1 : asK fz t1 x = some xs)(h2 : asK fz t2 y = some ys)(hl : xs.length <= ys.length) : ItOk W (Itz2 W.K t1 t2 l1 l2) [(x,.ref l1),(y,.ref l2)] (zipD xs ys) := by
  intro M b H hs hn
  obtain ⟨⟨a1,us,e1,q1,r1⟩,_⟩ := asK.rep (hn _ (.head _)) h1
  obtain ⟨⟨a2,ws,e2,q2,r2⟩,_⟩ := asK.rep (hn _ (.tail _ (.head _))) h2
  cases e1
  cases e2
  have hlen : (zipD xs ys).length = xs.length := by simp [zipD]; omega
  refine ⟨fun i d e => ?_,fun i hi => ⟨⟨us,q1,by rw [r1.length,<- hlen]; exact hi⟩,⟨ws,q2⟩⟩⟩
  have hi : i < xs.length := by rw [<- hlen]; exact (List.getElem?_eq_some_iff.mp e).1
  obtain ⟨u,eu,ru⟩ := r1.get (List.getElem?_eq_getElem hi)
  obtain ⟨w,ew,rw'⟩ := r2.get (List.getElem?_eq_getElem (Nat.lt_of_lt_of_le hi hl))
  refine ⟨⟨us,ws,u,w,q1,eu,q2,ew⟩,fun v H3 ⟨t,y1,y2,ev,ht,eH,k1,k2⟩ => ?_⟩
  subst ev eH
  have z1 := k1 us q1
  have z2 := k2 ws q2
  rw [eu] at z1; cases z1
  rw [ew] at z2; cases z2
  refine ⟨Same.upd ht,?_⟩
  have ed : d = .tup [xs[i],ys[i]'(Nat.lt_of_lt_of_le hi hl)] := by
    have : (zipD xs ys)[i]? = some (.tup [xs[i],ys[i]'(Nat.lt_of_lt_of_le hi hl)]) := by
      simp [zipD,List.getElem?_zipWith,hi,Nat.lt_of_lt_of_le hi hl]
    rw [this] at e; exact (Option.some.inj e).symm
  subst ed
  exact new_tup hs ⟨u,[w],rfl,ru,w,[],rfl,rw',rfl⟩ ht
theorem di_zip {elts : List Expr}{c1}{tpos : Pos}(hK : X.K = W.K)(t1 t2 : Bool)(hg : Gl X "zip") (hm : X.mg "zip" = none) (ha : PA X [a,b] (dnA W dA))
    (h : PI X (.Tuple elts c1 tpos) (.Call (.Name "zip" p) [a,b] [] pos) (iZip2 W.K t1 t2 (dnA W dA))) : PI X (.Tuple elts c1 tpos) (.Call (.Name "zip" p) [a,b] [] pos) (dnI W fz (iZipD fz t1 t2 dA)) := h.mono fun σ H R hh => hh.elim fun pn M b ρ P st h k => by
  refine ⟨pn,M,b,ρ,_,st,h,fun zs vs H1 hx rx k1 o1 => ?_⟩
  match zs,hx with
  | [x,y],hx =>
    obtain ⟨v,u,rfl,r,r'⟩ := rx2 rx
    dsimp only at hx
    split at hx
    case h_2 => exact hx.elim
    case h_1 xs ys e1 e2 =>
      obtain ⟨⟨a1,us,z1,q1,r1⟩,f1⟩ := asK.rep r e1
      obtain ⟨⟨a2,ws,z2,q2,r2⟩,f2⟩ := asK.rep r' e2
      subst z1 z2
      refine ⟨a1,a2,rfl,⟨us,q1⟩,⟨ws,q2⟩,k _ _ _ H1 hx.2 (zipD_plain _ _) (it_zip e1 e2 hx.1) (fun q hq => ?_) k1 o1⟩
      rcases List.mem_cons.mp hq with z | z
      · subst z; exact ⟨r,f1⟩
      · have z := List.mem_singleton.mp z
        subst z; exact ⟨r',f2⟩
end
def GD (W : Wd)(g : TG)(gd : D -> Ev -> (Ev -> Prop) -> Prop) : Prop := ∀ pn M b H σ ρ x v Q P,Sta W pn M b H σ ρ -> RepX W M b H x v -> plain x = true -> gd x ρ P -> (∀ ρ' σ',P ρ' -> Sta W pn M b H σ' ρ' -> (∀ (i : Nat) d,mine d = true -> ρ'[i]? = some (some d) -> ρ[i]? = some (some d) /\ σ'[i]? = σ[i]?) -> Q σ' H) -> g v σ H Q
theorem Sta.set {W : Wd}{pn : List (D × V)}{M : Addr -> Prop}{b : Option Addr}{H : Hp}{σ : St}{ρ : Ev}{x : D}{v : V}(s : Sta W pn M b H σ ρ)(j : Nat)(r : RepX W M b H x v) : Sta W pn M b H (σ.set j (some v)) (ρ.set j (some x)) where
  toHs := s.toHs
  kp := s.kp
  new := s.new
  len := by simp [s.len]
  pin := s.pin
  env := fun i d e => by
    by_cases z : j = i
    · subst z
      rw [List.getElem?_set] at e
      simp at e
      obtain ⟨hl,rfl⟩ := e
      exact ⟨v,by rw [List.getElem?_set]; simp [<- s.len,hl],r⟩
    · rw [List.getElem?_set_ne z] at e
      obtain ⟨w,e1,r1⟩ := s.env i d e
      exact ⟨w,by rw [List.getElem?_set_ne z]; exact e1,r1⟩
theorem own_set {ρ : Ev}{σ : St}{j : Nat}{x : D}{v : V}(p : plain x = true) : ∀ (i : Nat) d,mine d = true -> (ρ.set j (some x))[i]? = some (some d) -> ρ[i]? = some (some d) /\ (σ.set j (some v))[i]? = σ[i]? := fun i d hm e => by
  by_cases z : j = i
  · subst z
    rw [List.getElem?_set] at e
    simp at e
    obtain ⟨hl,rfl⟩ := e
    cases x <;> first | (cases hm; done) | (cases p; done)
  · rw [List.getElem?_set_ne z] at e
    exact ⟨e,by rw [List.getElem?_set_ne z]⟩
def gdN (j : Nat) : D -> Ev -> (Ev -> Prop) -> Prop := fun x ρ P => P (ρ.set j (some x))
theorem gd_name {W : Wd}(j : Nat) : GD W (gName j) (gdN j) := fun pn M b H σ ρ x v Q P st r p h k => k _ _ h (st.set j r) (own_set p)
def setAll : List Nat -> List D -> Ev -> Ev
  | j :: js,x :: xs,ρ => setAll js xs (ρ.set j (some x))
  | _,_,ρ => ρ
def gNames : List Nat -> TGs
  | [] => gNil
  | j :: js => gCons (gName j) (gNames js)
def gSeq (K : PySem.W.Frag)(n : Nat)(t : TGs) : TG := fun v σ H Q => gTup K n t v σ H Q \/ gLst K n t v σ H Q
def gdU (js : List Nat) : D -> Ev -> (Ev -> Prop) -> Prop := fun x ρ P => match x with
  | .tup xs => xs.length = js.length /\ P (setAll js xs ρ)
  | .lst xs => xs.length = js.length /\ P (setAll js xs ρ)
  | _ => False
theorem gd_names {W : Wd}{pn : List (D × V)}{M : Addr -> Prop}{b : Option Addr}{H : Hp}{Q : St -> Hp -> Prop}{P : Ev -> Prop} : ∀ (js : List Nat) (xs : List D) (vs : List V) (σ : St) (ρ : Ev),Sta W pn M b H σ ρ -> Reps W.K M H xs vs -> xs.length = js.length -> P (setAll js xs ρ) -> (∀ ρ' σ',P ρ' -> Sta W pn M b H σ' ρ' -> (∀ (i : Nat) d,mine d = true -> ρ'[i]? = some (some d) -> ρ[i]? = some (some d) /\ σ'[i]? = σ[i]?) -> Q σ' H) -> gNames js vs σ H Q
  | [],[],vs,σ,ρ,st,r,hl,h,k => ⟨r,k _ _ h st fun _ _ _ e => ⟨e,rfl⟩⟩
  | j :: js,x :: xs,vs,σ,ρ,st,r,hl,h,k => by
    obtain ⟨v,us,rfl,r1,r2⟩ := r
    refine ⟨v,us,rfl,?_⟩
    have p : plain x = true := by cases x <;> first | rfl | exact r1.elim
    refine gd_names js xs us _ (ρ.set j (some x)) (st.set j r1.x) r2 (by simpa using hl) h fun ρ' σ' hp st' ho => k ρ' σ' hp st' fun i xs hm e => ?_
    obtain ⟨z1,z2⟩ := ho i xs hm e
    obtain ⟨z3,z4⟩ := own_set (v := v) (σ := σ) p i xs hm z1
    exact ⟨z3,z2.trans z4⟩
theorem gd_seq {W : Wd}(js : List Nat) : GD W (gSeq W.K js.length (gNames js)) (gdU js) := fun pn M b H σ ρ x v Q P st r p h k => by
  cases x <;> first | exact h.elim | skip
  case tup xs =>
    obtain ⟨a,vs,rfl,hh,r⟩ := r
    exact .inl ⟨a,vs,rfl,hh.sq,by rw [r.length]; exact h.1,gd_names js xs vs σ ρ st r h.1 h.2 k⟩
  case lst xs =>
    obtain ⟨a,vs,rfl,hh,r⟩ := r
    exact .inr ⟨a,vs,rfl,SqL.of hh.2,by rw [r.length]; exact h.1,gd_names js xs vs σ ρ st r h.1 h.2 k⟩
theorem PG.or {X : Cx}{tg : Expr}{t u : TG}(h : PG X tg t)(h' : PG X tg u) : PG X tg (fun v σ H Q => t v σ H Q \/ u v σ H Q) := by
  intro pins s σ H v u' Q I r q
  rcases q with q | q
  · exact h pins s σ H v u' Q I r q
  · exact h' pins s σ H v u' Q I r q
theorem gkeep_seq {K : PySem.W.Frag}{js : List Nat}{n : Nat}{map : List (Option Nat)}(hj : ∀ j ∈ js,map[j]? = some none) : GKeep (gSeq K n (gNames js)) map := by
  have key : ∀ (js : List Nat),(∀ j ∈ js,map[j]? = some none) -> ∀ vs σ H Q,gNames js vs σ H Q -> gNames js vs σ H fun σ' H' => (σ'.length = σ.length /\ ∀ j i : Nat,map[j]? = some (some i) -> σ'[j]? = σ[j]?) /\ Q σ' H' := by
    intro js
    induction js with
    | nil => intro _ vs σ H Q h; exact ⟨h.1,⟨rfl,fun _ _ _ => rfl⟩,h.2⟩
    | cons j js ih =>
      intro hj vs σ H Q h
      obtain ⟨v,r,e,h⟩ := h
      refine ⟨v,r,e,?_⟩
      have q := ih (fun j' m => hj j' (.tail _ m)) r _ H _ h
      have mono : ∀ (js : List Nat) vs σ H (Q Q' : St -> Hp -> Prop),(∀ s h,Q s h -> Q' s h) -> gNames js vs σ H Q -> gNames js vs σ H Q' := by
        intro js
        induction js with
        | nil => intro vs σ H Q Q' m h; exact ⟨h.1,m _ _ h.2⟩
        | cons j js ih => intro vs σ H Q Q' m ⟨v,r,e,h⟩; exact ⟨v,r,e,ih _ _ _ _ _ m h⟩
      refine mono js r _ H _ _ (fun s h ⟨⟨l,z⟩,w⟩ => ⟨⟨by rw [l]; simp,fun j' i hm => ?_⟩,w⟩) q
      rw [z j' i hm]
      have n1 : j ≠ j' := fun z => by
        have := hj j (.head _)
        rw [z,hm] at this; cases this
      rw [List.getElem?_set_ne n1]
  intro v σ H Q h
  rcases h with ⟨a,xs,e,s,l,h⟩ | ⟨a,xs,e,s,l,h⟩
  · exact .inl ⟨a,xs,e,s,l,key js hj _ _ _ _ h⟩
  · exact .inr ⟨a,xs,e,s,l,key js hj _ _ _ _ h⟩
def captD (ρ : Ev)(map : List (Option Nat)) : Ev := map.map fun o => o.bind fun i => (ρ[i]?).join
def dCompL (gd : D -> Ev -> (Ev -> Prop) -> Prop)(dt : DT)(de : DE)(ρc : Ev) : List D -> List D -> (List D -> Prop) -> Prop
  | [],acc,P => P acc
  | x :: xs,acc,P => gd x ρc fun ρ1 => dt ρ1 fun c => IfP c (de ρ1 fun y => plain y = true /\ dCompL gd dt de ρc xs (acc ++ [y]) P) (dCompL gd dt de ρc xs acc P)
inductive compI (gd : D -> Ev -> (Ev -> Prop) -> Prop)(dt : DT)(de : DE)(ρc : Ev)(items : List D)(P : List D -> Prop) : Prop
  | mk (I : Nat -> List D -> Prop) (h0 : I 0 []) (hs : ∀ (i : Nat) x acc,items[i]? = some x -> I i acc -> gd x ρc fun ρ1 => dt ρ1 fun c => IfP c (de ρ1 fun y => plain y = true /\ I (i + 1) (acc ++ [y])) (I (i + 1) acc)) (hd : ∀ acc,I items.length acc -> P acc) : compI gd dt de ρc items P
theorem comp_rec {gd : D -> Ev -> (Ev -> Prop) -> Prop}{dt : DT}{de : DE}{ρc : Ev}{items : List D}{P : List D -> Prop}(h : dCompL gd dt de ρc items [] P) : compI gd dt de ρc items P := by
  refine ⟨fun i acc => dCompL gd dt de ρc (items.drop i) acc P,h,fun i x acc e q => ?_,fun acc q => ?_⟩
  · obtain ⟨hlt,rfl⟩ := List.getElem?_eq_some_iff.mp e
    try dsimp only at q
    rw [List.drop_eq_getElem_cons hlt] at q
    exact q
  · (try dsimp only at q); rw [List.drop_length] at q; exact q
def dComp (map : List (Option Nat))(gd : D -> Ev -> (Ev -> Prop) -> Prop)(di : DA)(dt : DT)(de : DE) : DE := fun ρ P => di ρ fun items => items.length <= 1000 /\ compI gd dt de (captD ρ map) items fun acc => P (.lst acc)
theorem Sta.capt {W : Wd}{pn : List (D × V)}{M : Addr -> Prop}{b : Option Addr}{H : Hp}{σ : St}{ρ : Ev}(s : Sta W pn M b H σ ρ)(map : List (Option Nat)) : Sta W pn M b H (capt σ map) (captD ρ map) where
  toHs := s.toHs
  kp := s.kp
  new := s.new
  len := by simp [L2.capt,captD]
  pin := s.pin
  env := fun j d e => by
    unfold captD at e
    rw [List.getElem?_map] at e
    simp only [Option.map_eq_some_iff] at e
    obtain ⟨o,e1,e2⟩ := e
    simp only [Option.bind_eq_some_iff] at e2
    obtain ⟨i,rfl,e3⟩ := e2
    have e4 : ρ[i]? = some (some d) := by
      cases q : ρ[i]? with
      | none => rw [q] at e3; cases e3
      | some z => rw [q] at e3; exact congrArg some e3
    obtain ⟨v,e5,r⟩ := s.env i d e4
    exact ⟨v,by unfold L2.capt; rw [List.getElem?_map,e1]; simp [e5],r⟩
theorem comp_turns {W : Wd}{pn : List (D × V)}{M : Addr -> Prop}{b : Option Addr}{H : Hp}{σ : St}{ρ : Ev}{J : It}{need : List (D × V)}{items : List D}{g : TG}{gd : D -> Ev -> (Ev -> Prop) -> Prop}{dt : DT}{de : DE}{P : List D -> Prop}{Fin : List V -> Hp -> Prop}
    (hG : GD W g gd) (st : Sta W pn M b H σ ρ) (hp : items.all plain = true) (hI : ItOk W J need items) (hn : ∀ q ∈ need,RepX W M b H q.1 q.2) (hl : items.length <= 1000) (h : compI gd dt de ρ items P)
    (fin : ∀ ds acc H',P ds -> Reps W.K M H' ds acc -> acc.length <= sizeLine -> Kp b H H' -> okB W.B b H' -> Fin acc H') : ∃ Wf : Nat -> Nat -> List V -> Hp -> Prop,(∃ m,Wf 0 m [] H) /\ Turns J g (dnT W dt) (dn W de) σ Fin Wf := by
  obtain ⟨I,i0,istep,idone⟩ := h
  refine ⟨fun i m acc H2 => m = items.length - i /\ i <= items.length /\ acc.length <= i /\ Kp b H H2 /\ okB W.B b H2 /\ ∃ ds,Reps W.K M H2 ds acc /\ I i ds,⟨items.length,by simp,Nat.zero_le _,Nat.le_refl _,Kp.refl _ _,st.ok,[],rfl,i0⟩,?_⟩
  rintro i m acc H2 ⟨rfl,hi,ha,k2,o2,ds,r,q⟩
  have st2 := st.step k2 o2
  obtain ⟨hgo,hstop⟩ := hI M b H2 st2.toHs fun q hq => (hn q hq).step st.bagM k2
  by_cases hlt : i < items.length
  · have ei : items[i]? = some items[i] := List.getElem?_eq_getElem hlt
    replace q := istep i _ ds ei q
    refine .inr ⟨(hgo i _ ei).1,by have := le1000; omega,fun acc' H' => acc'.length <= i + 1 /\ Kp b H H' /\ okB W.B b H' /\ ∃ ds,Reps W.K M H' ds acc' /\ I (i + 1) ds,fun acc' H' n => ⟨items.length - (i + 1),by omega,rfl,hlt,n⟩,fun x H3 y => ?_⟩
    obtain ⟨S3,rx⟩ := (hgo i _ ei).2 x H3 y
    have o3 : okB W.B b H3 := fun p e => W.B.st p H2 H3 (o2 p e) fun o e' => S3 p o e'
    have k3 : Kp b H2 H3 := Kp.same S3
    have st3 := st2.step k3 o3
    refine hG pn M b H3 σ ρ items[i] x _ _ st3 rx (List.all_eq_true.mp hp _ (List.getElem_mem hlt)) q fun ρ1 σ1 h1 st4 _ => ?_
    refine ⟨pn,M,b,ρ1,_,st4,h1,fun c H5 h5 k5 o5 => ?_⟩
    cases h5 with
    | t e h5 =>
      rw [if_pos e]
      refine ⟨pn,M,b,ρ1,_,st4.step k5 o5,h5,fun y v H6 h6 ry k6 o6 => ?_⟩
      have kk := ((k3.trans k5).trans k6)
      refine ⟨by simp; omega,k2.trans kk,o6,ds ++ [y],Reps.append (Reps.keep (fun c o n e => kk c o (fun z => n (st.bagM c z)) e) _ _ r) ⟨v,[],rfl,ry.rep h6.1,rfl⟩,h6.2⟩
    | f e h5 =>
      rw [if_neg (by rw [e]; exact Bool.false_ne_true)]
      have kk := k3.trans k5
      exact ⟨by omega,k2.trans kk,o5,ds,Reps.keep (fun c o n e => kk c o (fun z => n (st.bagM c z)) e) _ _ r,h5⟩
  · have e : i = items.length := by omega
    subst e
    exact .inl ⟨hstop _ (Nat.le_refl _),by have := le1000; omega,fin ds acc H2 (idone _ q) r (by have := le1000; omega) k2 o2⟩
section
variable {X : Cx}{W : Wd}{elt iter tg : Expr}{ifs : List Expr}{scope : Scope}{pos : Pos}{N' : List Str}{map : List (Option Nat)}{g : TG}{gd : D -> Ev -> (Ev -> Prop) -> Prop}{di : DA}{dt : DT}{de : DE}
theorem de_comp (hG : GD W g gd)(B : Blk X N' scope map tg elt ifs g (dnT W dt) (dn W de))(hi : PI X tg iter (dnI W false di))(hs : ∀ x,foldedSetIterable iter X.env x = pure x := by intro _; rfl) : PE X (.ListComp elt [⟨tg,iter,ifs,0⟩] scope pos) (dn W (dComp map gd di dt de)) := (pe_comp B hi hs).mono fun σ H Q hh => hh.elim fun pn M b ρ P st h k => by
  refine ⟨pn,M,b,ρ,_,st,h,fun items J need H1 hx hp hI hn k1 o1 => ?_⟩
  have st1 := st.step k1 o1
  refine comp_turns hG (st1.capt map) hp hI (fun q hq => (hn q hq).1) hx.1 hx.2 fun ds acc H' hP r hl k2 o2 D hD => ?_
  exact k _ _ _ hP (new_lst (st1.step k2 o2).toHs r hD) ((k1.trans k2).trans (Kp.upd hD)) ((st1.step k2 o2).okU hD)
def dTrue : DT := fun _ P => P true
theorem dif_nil : PIf X [] (dnT W dTrue) := fun pins s σ H Q I hh => hh.elim fun pn M b ρ P st h k => pif_nil pins s σ H Q I (k true H h (Kp.refl _ _) st.ok)
end
end L2
set_option Elab.async false
set_option linter.all false
set_option maxRecDepth 100000
set_option maxHeartbeats 4000000
namespace L2
open PySem PySem.Spec PyProof.Rows
structure StS (W : Wd)(pn : List (D × V))(M : Addr -> Prop)(b : Option Addr)(H : Hp)(σ : St)(ρ : Ev) : Prop extends Sta W pn M b H σ ρ where
  dj : ∀ (i j : Nat) d e v u c,ρ[i]? = some (some d) -> ρ[j]? = some (some e) -> σ[i]? = some (some v) -> σ[j]? = some (some u) -> mineA d v c -> mineA e u c -> i = j
  lj : ∀ ys a,(D.own ys,V.ref a) ∈ pn -> ∀ (i : Nat) d v,ρ[i]? = some (some d) -> σ[i]? = some (some v) -> ¬ mineA d v a
theorem StS.own {W : Wd}{pn : List (D × V)}{M : Addr -> Prop}{b : Option Addr}{H : Hp}{σ : St}{ρ : Ev}(s : StS W pn M b H σ ρ) : ∀ (i j : Nat) xs ys a,ρ[i]? = some (some (.own xs)) -> ρ[j]? = some (some (.own ys)) -> σ[i]? = some (some (.ref a)) -> σ[j]? = some (some (.ref a)) -> i = j := fun i j xs ys a e1 e2 e3 e4 => s.dj i j _ _ _ _ a e1 e2 e3 e4 rfl rfl
theorem StS.lk {W : Wd}{pn : List (D × V)}{M : Addr -> Prop}{b : Option Addr}{H : Hp}{σ : St}{ρ : Ev}(s : StS W pn M b H σ ρ) : ∀ ys a,(D.own ys,V.ref a) ∈ pn -> ∀ (i : Nat) xs,ρ[i]? = some (some (.own xs)) -> σ[i]? ≠ some (some (.ref a)) := fun ys a hq i xs e y => s.lj ys a hq i _ _ e y rfl
theorem StS.step {W : Wd}{pn : List (D × V)}{M : Addr -> Prop}{b : Option Addr}{H H' : Hp}{σ : St}{ρ : Ev}(s : StS W pn M b H σ ρ)(k : Kp b H H')(o : okB W.B b H') : StS W pn M b H' σ ρ := ⟨s.toSta.step k o,s.dj,s.lj⟩
theorem StS.of2 {W : Wd}{pn pn' : List (D × V)}{M M' : Addr -> Prop}{b b' : Option Addr}{H H' : Hp}{σ σ' : St}{ρ ρ' : Ev}(s : StS W pn M b H σ ρ)(t : Sta W pn' M' b' H' σ' ρ')(hp : ∀ ys a,(D.own ys,V.ref a) ∈ pn' -> (D.own ys,V.ref a) ∈ pn)(h : ∀ (i : Nat) d v c,ρ'[i]? = some (some d) -> σ'[i]? = some (some v) -> mineA d v c -> ∃ d0,ρ[i]? = some (some d0) /\ σ[i]? = some (some v) /\ mineA d0 v c) : StS W pn' M' b' H' σ' ρ' :=
  ⟨t,fun i j d e v u c e1 e2 e3 e4 m1 m2 => by
    obtain ⟨d0,z1,z2,z3⟩ := h i d v c e1 e3 m1
    obtain ⟨d1,y1,y2,y3⟩ := h j e u c e2 e4 m2
    exact s.dj i j d0 d1 v u c z1 y1 z2 y2 z3 y3,fun ys a hq i d v e1 e2 m => by
    obtain ⟨d0,z1,z2,z3⟩ := h i d v a e1 e2 m
    exact s.lj ys a (hp ys a hq) i d0 v z1 z2 z3⟩
theorem StS.of {W : Wd}{pn : List (D × V)}{M M' : Addr -> Prop}{b b' : Option Addr}{H H' : Hp}{σ σ' : St}{ρ ρ' : Ev}(s : StS W pn M b H σ ρ)(t : Sta W pn M' b' H' σ' ρ')(h : ∀ (i : Nat) d,mine d = true -> ρ'[i]? = some (some d) -> ρ[i]? = some (some d) /\ σ'[i]? = σ[i]?) : StS W pn M' b' H' σ' ρ' :=
  s.of2 t (fun _ _ q => q) fun i d v c e1 e2 m => by
    obtain ⟨z1,z2⟩ := h i d m.m e1
    exact ⟨d,z1,z2 ▸ e2,m⟩
theorem StS.add {W : Wd}{pn : List (D × V)}{M M' : Addr -> Prop}{b b' : Option Addr}{H H' : Hp}{σ : St}{ρ : Ev}(s : StS W pn M b H σ ρ)(i : Nat){d : D}{v : V}(t : Sta W pn M' b' H' (σ.set i (some v)) (ρ.set i (some d)))(h : ∀ c,mineA d v c -> ¬ M c) : StS W pn M' b' H' (σ.set i (some v)) (ρ.set i (some d)) := by
  have slot : ∀ (j : Nat) e u,(ρ.set i (some d))[j]? = some (some e) -> (σ.set i (some v))[j]? = some (some u) -> (j = i /\ e = d /\ u = v) \/ (j ≠ i /\ ρ[j]? = some (some e) /\ σ[j]? = some (some u)) := fun j e u e1 e2 => by
    by_cases z : i = j
    · subst z
      rw [List.getElem?_set] at e1 e2
      simp at e1 e2
      exact .inl ⟨rfl,e1.2.symm,e2.2.symm⟩
    · rw [List.getElem?_set_ne z] at e1 e2
      exact .inr ⟨fun y => z y.symm,e1,e2⟩
  have old : ∀ (j : Nat) e u c,ρ[j]? = some (some e) -> σ[j]? = some (some u) -> mineA e u c -> M c := fun j e u c e1 e2 m => by
    obtain ⟨w,e3,r⟩ := s.env j e e1
    rw [e2] at e3; cases e3
    exact (r.mine m).1
  refine ⟨t,fun j k e f u w c e1 e2 e3 e4 m1 m2 => ?_,fun ys a hq j e u e1 e2 m => ?_⟩
  · rcases slot j e u e1 e3 with ⟨z1,z2,z3⟩ | ⟨z1,z2,z3⟩ <;> rcases slot k f w e2 e4 with ⟨y1,y2,y3⟩ | ⟨y1,y2,y3⟩
    · rw [z1,y1]
    · subst z2 z3; exact absurd (old k f w c y2 y3 m2) (h c m1)
    · subst y2 y3; exact absurd (old j e u c z2 z3 m1) (h c m2)
    · exact s.dj j k e f u w c z2 y2 z3 y3 m1 m2
  · rcases slot j e u e1 e2 with ⟨z1,z2,z3⟩ | ⟨z1,z2,z3⟩
    · subst z2 z3
      obtain ⟨a2,us2,ev,n1,_⟩ := (s.pin _ hq)
      cases ev
      exact absurd n1 (h a m)
    · exact s.lj ys a hq j e u z2 z3 m
structure DEnds where
  nx : Ev -> Prop
  rt : D -> Prop
  bk : Ev -> Prop := fun _ => False
  ct : Ev -> Prop := fun _ => False
  ro : List D -> Prop := fun _ => False
abbrev DS := DEnds -> Ev -> Prop
structure Link (W : Wd)(pn : List (D × V))(E : Ends)(F : DEnds) : Prop where
  nx : ∀ M b ρ σ H,StS W pn M b H σ ρ -> F.nx ρ -> E.nx σ H
  rt : ∀ d v H,F.rt d -> Rep W.K W.M0 H d v -> Kp W.b0 W.H0 H -> okB W.B W.b0 H -> E.rt v H
  bk : ∀ M b ρ σ H,StS W pn M b H σ ρ -> F.bk ρ -> E.bk σ H
  ct : ∀ M b ρ σ H,StS W pn M b H σ ρ -> F.ct ρ -> E.ct σ H
  ro : ∀ xs a vs H,F.ro xs -> W.H0 a = none -> ¬ W.M0 a -> H a = some (.lst vs) -> Reps W.K (fun c => W.M0 c \/ c = a) H xs vs -> Kp W.b0 W.H0 H -> okB W.B W.b0 H -> E.rt (.ref a) H
def sn (W : Wd)(d : DS) : TS := fun E σ H => ∃ pn M b ρ F,StS W pn M b H σ ρ /\ Link W pn E F /\ d F ρ
theorem sn.elim {W : Wd}{d : DS}{E : Ends}{σ : St}{H : Hp}{Z : Prop}(h : sn W d E σ H)(f : ∀ pn M b ρ F,StS W pn M b H σ ρ -> Link W pn E F -> d F ρ -> Z) : Z := by
  obtain ⟨pn,M,b,ρ,F,s,l,h⟩ := h
  exact f pn M b ρ F s l h
section
variable {X : Cx}{W : Wd}{e a b c tg iter l : Expr}{es : List Expr}{pos p : Pos}{d da db dc dl de : DE}{dA di : DA}{dt : DT}{st : Stmt}{rest sts : List Stmt}{d1 d2 : DS}{t : TS}
theorem PS.mono {t' : TS}(h : PS X st t)(m : ∀ E σ H,t' E σ H -> t E σ H) : PS X st t' := fun pins s σ H D I q => h pins s σ H D I (m D σ H q)
theorem PSs.mono {t' : TS}(h : PSs X sts t)(m : ∀ E σ H,t' E σ H -> t E σ H) : PSs X sts t' := fun pins s σ H D I q => h pins s σ H D I (m D σ H q)
def dNext : DS := fun F ρ => F.nx ρ
def dSeq (d1 d2 : DS) : DS := fun F ρ => d1 { F with nx := d2 F } ρ
theorem dss_nil : PSs X [] (sn W dNext) := pss_nil.mono fun E σ H hh => hh.elim fun pn M b ρ F s l h => l.nx _ _ _ _ _ s h
theorem dss_one (h : PS X st (sn W d1)) : PSs X [st] (sn W d1) := pss_one h
theorem dss_cons (h1 : PS X st (sn W d1))(h2 : PSs X rest (sn W d2)) : PSs X (st :: rest) (sn W (dSeq d1 d2)) := (pss_cons h1 h2).mono fun E σ H hh => hh.elim fun pn M b ρ F s l h => ⟨pn,M,b,ρ,{ F with nx := d2 F },s,⟨fun M b ρ σ H s' h' => ⟨pn,M,b,ρ,F,s',l,h'⟩,l.rt,l.bk,l.ct,l.ro⟩,h⟩
def dRet (de : DE) : DS := fun F ρ => de ρ fun x => match x with | .own xs => F.rt (.lst xs) | .bag => False | .frg _ _ => False | x => F.rt x
theorem ret_rep {M : Addr -> Prop}{b : Option Addr}{H : Hp}{x : D}{v : V}(hs : Hs W M b H)(r : Rep W.K M H x v) : Rep W.K W.M0 H x v := Rep.avoid (fun c m => .inl (hs.m0 c m)) _ _ r
theorem ds_ret (he : PE X e (dn W de)) : PS X (.Return (some e) pos) (sn W (dRet de)) := (ps_ret he).mono fun E σ H hh => hh.elim fun pn M b ρ F s l h => by
  refine ⟨pn,M,b,ρ,_,s.toSta,h,fun x v H' hx rx k o => ?_⟩
  have s' := s.toSta.step k o
  cases x
  case own xs =>
    obtain ⟨a,vs,rfl,m,n,n0,m0,hh,r⟩ := rx
    exact l.rt _ _ H' hx ⟨a,vs,rfl,⟨m0,hh⟩,Reps.avoid (fun c m => .inl (s'.m0 c m)) _ _ r⟩ s'.kp s'.ok0
  case bag => exact hx.elim
  case frg => exact hx.elim
  all_goals exact l.rt _ _ H' hx (ret_rep s'.toHs (RepX.rep rx rfl)) s'.kp s'.ok0
def dDrop (de : DE) : DS := fun F ρ => de ρ fun _ => F.nx ρ
theorem ds_expr (he : PE X e (dn W de))(hs : swapsWith e none pos.line X.env = pure false := by rfl) : PS X (.Expr e pos) (sn W (dDrop de)) := (ps_expr he hs).mono fun E σ H hh => hh.elim fun pn M b ρ F s l h => ⟨pn,M,b,ρ,_,s.toSta,h,fun x v H' hx rx k o => l.nx _ _ _ _ _ (s.step k o) hx⟩
def dIfS (dt : DT)(d1 d2 : DS) : DS := fun F ρ => dt ρ fun c => IfP c (d1 F ρ) (d2 F ρ)
theorem ds_if {s1 s2 : List Stmt}(hc : PT X c (dnT W dt))(ha : PSs X s1 (sn W d1))(hb : PSs X s2 (sn W d2)) : PS X (.If c s1 s2 pos) (sn W (dIfS dt d1 d2)) := (ps_if hc ha hb).mono fun E σ H hh => hh.elim fun pn M b ρ F s l h => by
  refine ⟨pn,M,b,ρ,_,s.toSta,h,fun x H' hx k o => ?_⟩
  cases hx with
  | t e hx => rw [if_pos e]; exact ⟨pn,M,b,ρ,F,s.step k o,l,hx⟩
  | f e hx => rw [if_neg (by rw [e]; exact Bool.false_ne_true)]; exact ⟨pn,M,b,ρ,F,s.step k o,l,hx⟩
def dAsg (de : DE)(gd : D -> Ev -> (Ev -> Prop) -> Prop) : DS := fun F ρ => de ρ fun x => plain x = true /\ gd x ρ F.nx
theorem up_asg {g : TG}{gd : D -> Ev -> (Ev -> Prop) -> Prop}(hG : GD W g gd) : ∀ E σ H,sn W (dAsg de gd) E σ H -> tAsg (dn W de) g E σ H := fun E σ H hh => hh.elim fun pn M b ρ F s l h => by
  refine ⟨pn,M,b,ρ,_,s.toSta,h,fun x v H' hx rx k o => ?_⟩
  exact hG pn M b H' σ ρ x v E.nx F.nx (s.toSta.step k o) rx hx.1 hx.2 fun ρ' σ' hp st' ho => l.nx _ _ _ _ _ (s.of st' ho) hp
theorem ds_set {i : Nat} {x : Str} {pos' : Pos} (hN : X.N.Nodup) (hi : X.N[i]? = some x) (hx : Loc X.env.scope x) (he : PE X e (dn W de)) (hs : swapsWith e (some (.Name x pos')) pos.line X.env = pure false := by rfl) (hf : X.fn x = true \/ X.env.scope.names.lookup x = some .local := by first | exact .inl rfl | exact .inr rfl | assumption) :
    PS X (.Assign [.Name x pos'] e pos) (sn W (dAsg de (gdN i))) := (ps_set hN hi hx he hs hf).mono (up_asg (gd_name i))
theorem ds_asg {g : TG}{gd : D -> Ev -> (Ev -> Prop) -> Prop}(hG : GD W g gd)(he : PE X e (dn W de))(hg : PG X tg g)(hs : swapsWithSole [tg] e pos.line X.env = pure false := by rfl)(hw : swappedStores [tg] e X.env = pure none := by rfl)
    (h1 : (assignEach [tg] X.env).map (·.2) = [assign tg X.env] := by rfl) : PS X (.Assign [tg] e pos) (sn W (dAsg de gd)) := (ps_asg he hg hs hw h1).mono (up_asg hG)
theorem StS.newOwn {pn : List (D × V)}{M : Addr -> Prop}{b : Option Addr}{H : Hp}{σ : St}{ρ : Ev}{xs : List D}{vs : List V}{p : Addr}(s : StS W pn M b H σ ρ)(i : Nat)(r : Reps W.K M H xs vs)(h : H p = none) :
    StS W pn (fun c => M c \/ c = p) b (upd H p (.lst vs)) (σ.set i (some (.ref p))) (ρ.set i (some (.own xs))) := by
  have hM : ∀ c,(M c \/ c = p) -> M c \/ H c = none := fun c hc => hc.imp id (fun z => by rw [z]; exact h)
  have kk : ∀ c o,H c = some o -> upd H p (.lst vs) c = some o := fun c o e => Same.upd h c o e
  have rep : ∀ d v,Rep W.K M H d v -> Rep W.K (fun c => M c \/ c = p) (upd H p (.lst vs)) d v := fun d v r => Rep.keep (fun c o _ e => kk c o e) _ _ (Rep.avoid hM _ _ r)
  have reps : ∀ d v,Reps W.K M H d v -> Reps W.K (fun c => M c \/ c = p) (upd H p (.lst vs)) d v := fun d v r => Reps.keep (fun c o _ e => kk c o e) _ _ (Reps.avoid hM _ _ r)
  have hbp : b ≠ some p := fun z => by
    obtain ⟨o,e⟩ := W.B.dm p H (s.ok p z)
    rw [h] at e; cases e
  have h0 : W.H0 p = none := by
    cases q : W.H0 p with
    | none => rfl
    | some o =>
      by_cases z : W.b0 = some p
      · rcases s.new with y | ⟨y,_⟩
        · exact absurd (y.trans z) hbp
        · rw [y] at z; cases z
      · have := s.kp p o z q
        rw [h] at this; cases this
  have hm0 : ¬ W.M0 p := fun z => s.toHs.new h (s.m0 p z)
  refine s.add i ⟨⟨s.toHs.okU h,fun q e => .inl (s.bagM q e),fun c hc => ?_,fun c m => .inl (s.m0 c m)⟩,fun c o n e => kk c o (s.kp c o n e),s.new,fun j d e => ?_,by simp [s.len],fun q hq => (s.pin q hq).to rep reps fun xs a vs _ _ m n hh => ⟨.inl m,n,kk _ _ hh⟩⟩ fun c m => by
    cases (show V.ref p = V.ref c from m)
    exact s.toHs.new h
  · rcases hc with hc | hc
    · obtain ⟨o,e⟩ := s.dom c hc; exact ⟨o,kk c o e⟩
    · rw [hc]; exact ⟨_,upd_same⟩
  · by_cases z : i = j
    · subst z
      rw [List.getElem?_set] at e
      simp at e
      obtain ⟨hl,rfl⟩ := e
      exact ⟨.ref p,by rw [List.getElem?_set]; simp [<- s.len,hl],p,vs,rfl,.inr rfl,hbp,h0,hm0,upd_same,reps _ _ r⟩
    · rw [List.getElem?_set_ne z] at e
      obtain ⟨w,e1,r1⟩ := s.env j d e
      refine ⟨w,by rw [List.getElem?_set_ne z]; exact e1,?_⟩
      cases d
      case own ys =>
        obtain ⟨a,us,rfl,m1,m2,m3,m4,hh,r'⟩ := r1
        exact ⟨a,us,rfl,.inl m1,m2,m3,m4,kk _ _ hh,reps _ _ r'⟩
      case bag => exact r1
      case frg f _ => exact RepX.move r1 (fun c _ m n => ⟨.inl m,n⟩) (fun c o _ e => kk c o e) hM
      all_goals exact rep _ _ r1
theorem StS.setOwn {pn : List (D × V)}{M : Addr -> Prop}{b : Option Addr}{H : Hp}{σ : St}{ρ : Ev}{xs ys : List D}{vs : List V}{a : Addr}(s : StS W pn M b H σ ρ)(i : Nat)(e : ρ[i]? = some (some (.own xs)))(ea : σ[i]? = some (some (.ref a)))(r : Reps W.K M H ys vs) :
    StS W pn M b (upd H a (.lst vs)) σ (ρ.set i (some (.own ys))) := by
  obtain ⟨v,e1,a',us,ev,m1,m2,m3,m4,hh,r'⟩ := s.env i _ e
  rw [ea] at e1; cases e1; cases ev
  have kk : ∀ c o,¬ M c -> H c = some o -> upd H a (.lst vs) c = some o := fun c o n q => by rw [upd_ne (show c ≠ a from fun z => n (by rw [z]; exact m1))]; exact q
  have kb : ∀ c o,c ≠ a -> H c = some o -> upd H a (.lst vs) c = some o := fun c o n q => by rw [upd_ne n]; exact q
  refine s.of2 ⟨⟨fun q z => W.B.st q H _ (s.ok q z) fun o h => kb q o (fun w => m2 (w ▸ z)) h,s.bagM,fun c hc => ?_,s.m0⟩,fun c o n q => kb c o (fun z => by rw [z,m3] at q; cases q) (s.kp c o n q),s.new,fun j d e' => ?_,by simp [s.len],fun q hq => (s.pin q hq).to (fun _ _ r => Rep.keep kk _ _ r) (fun _ _ r => Reps.keep kk _ _ r) fun zs a2 us ed ev m n hh2 => ⟨m,n,kb _ _ (fun y => s.lk zs a2 (by rw [<- ed,<- ev]; exact hq) i xs e (by rw [y]; exact ea)) hh2⟩⟩ (fun _ _ q => q) fun j d v c e' e2 m => ?_
  · by_cases z : c = a
    · rw [z]; exact ⟨_,upd_same⟩
    · obtain ⟨o,q⟩ := s.dom c hc; exact ⟨o,kb c o z q⟩
  · by_cases z : i = j
    · subst z
      rw [List.getElem?_set] at e'
      simp at e'
      obtain ⟨hl,rfl⟩ := e'
      exact ⟨.ref a,ea,a,vs,rfl,m1,m2,m3,m4,upd_same,Reps.keep kk _ _ r⟩
    · rw [List.getElem?_set_ne z] at e'
      obtain ⟨w,e1,r1⟩ := s.env j d e'
      refine ⟨w,e1,?_⟩
      cases d
      case own zs =>
        obtain ⟨a2,us2,rfl,n1,n2,n3,n4,hh2,r2⟩ := r1
        have na : a2 ≠ a := fun y => z (s.own i j xs zs a e e' ea (y ▸ e1))
        exact ⟨a2,us2,rfl,n1,n2,n3,n4,kb _ _ na hh2,Reps.keep kk _ _ r2⟩
      case bag => exact r1
      case frg f _ =>
        have na : a ∉ f.ads := fun y => z (s.dj i j _ _ _ _ a e e' ea e1 rfl y)
        exact RepX.move r1 (fun c _ m n => ⟨m,n⟩) (fun c o q h => kb c o (fun y => q.elim (fun n => n (by rw [y]; exact m1)) (fun n => na (by rw [<- y]; exact n))) h) fun c m => .inl m
      all_goals exact Rep.keep kk _ _ r1
  · by_cases z : i = j
    · subst z
      rw [List.getElem?_set] at e'
      simp at e'
      obtain ⟨_,rfl⟩ := e'
      exact ⟨_,e,e2,m⟩
    · rw [List.getElem?_set_ne z] at e'
      exact ⟨d,e',e2,m⟩
def dSetC (own : Bool)(i : Nat)(map : List (Option Nat))(gd : D -> Ev -> (Ev -> Prop) -> Prop)(di : DA)(dt : DT)(de : DE) : DS := fun F ρ => di ρ fun items => items.length <= 1000 /\ compI gd dt de (captD ρ map) items fun acc => F.nx (ρ.set i (some (if own then .own acc else .lst acc)))
theorem ds_setC {elt iter tg : Expr}{ifs : List Expr}{scope : Scope}{N' : List Str}{map : List (Option Nat)}{g : TG}{gd : D -> Ev -> (Ev -> Prop) -> Prop}(own : Bool){i : Nat}{y : Str}{py spos : Pos}(hN : X.N.Nodup)(hiN : X.N[i]? = some y)(hy : Loc X.env.scope y)(hG : GD W g gd)(B : Blk X N' scope map tg elt ifs g (dnT W dt) (dn W de))(hi : PI X tg iter (dnI W false di))
    (hsw : swapsWith (.ListComp elt [⟨tg,iter,ifs,0⟩] scope pos) (some (.Name y py)) spos.line X.env = pure true := by rfl) (hfn : X.fn y = true \/ X.env.scope.names.lookup y = some .local := by first | exact .inl rfl | exact .inr rfl)
    (hs : ∀ x,foldedSetIterable iter X.env x = pure x := by intro _; rfl) : PS X (.Assign [.Name y py] (.ListComp elt [⟨tg,iter,ifs,0⟩] scope pos) spos) (sn W (dSetC own i map gd di dt de)) := (ps_setComp hN hiN hy B hi hsw hfn hs).mono fun E σ H hh => hh.elim fun pn M b ρ F s l h => by
  refine ⟨pn,M,b,ρ,_,s.toSta,h,fun items J need H1 hx hp hI hn k1 o1 => ?_⟩
  have s1 := s.step k1 o1
  refine comp_turns hG (s1.toSta.capt map) hp hI (fun q hq => (hn q hq).1) hx.1 hx.2 fun ds acc H' hP r hl k2 o2 q hq => ?_
  have s2 := s1.step k2 o2
  cases own
  · have s3 := (s2.step (Kp.upd (o := .lst acc) hq) (s2.toHs.okU hq))
    exact l.nx _ _ _ _ _ (s3.of (s3.toSta.set i (new_lst s2.toHs r hq)) (own_set rfl)) hP
  · exact l.nx _ _ _ _ _ (s2.newOwn i r hq) hP
theorem own_at {pn : List (D × V)}{M : Addr -> Prop}{b : Option Addr}{H : Hp}{σ : St}{ρ : Ev}{i : Nat}{ys : List D}(s : Sta W pn M b H σ ρ)(e : ρ[i]? = some (some (.own ys))) : ∃ a vs,σ[i]? = some (some (.ref a)) /\ b ≠ some a /\ H a = some (.lst vs) /\ Reps W.K M H ys vs := by
  obtain ⟨v,e1,a,us,rfl,m1,m2,m3,m4,hh,r⟩ := s.env i _ e
  exact ⟨a,us,e1,m2,hh,r⟩
def dSetI (i : Nat)(de dk : DE) : DS := fun F ρ => match ρ[i]? with
  | some (some (.own ys)) => de ρ fun x => dk ρ fun k => (match k with | .int k => plain x = true /\ (ixN ys.length k).elim False fun j => F.nx (ρ.set i (some (.own (ys.set j x)))) | _ => False)
  | _ => False
theorem up_setI {i : Nat}{dk : DE} : ∀ E σ H,sn W (dSetI i de dk) E σ H -> tAsg (dn W de) (gSub (tVar i) (dn W dk) rSetL) E σ H := fun E σ H hh => hh.elim fun pn M b ρ F s l h => by
  unfold dSetI at h
  split at h
  case h_2 => exact h.elim
  case h_1 ys e =>
    obtain ⟨a,vs,ea,nb,hh,r⟩ := own_at s.toSta e
    refine ⟨pn,M,b,ρ,_,s.toSta,h,fun x v H1 hx rx k1 o1 => ⟨.ref a,ea,pn,M,b,ρ,_,s.toSta.step k1 o1,hx,fun y u H2 hy ry k2 o2 => ?_⟩⟩
    cases y <;> first | exact hy.elim | skip
    case int k =>
      cases (show _ = _ from ry)
      have s' := (s.step k1 o1).step k2 o2
      obtain ⟨a',vs',ea',nb',hh',r'⟩ := own_at s'.toSta e
      rw [ea] at ea'; cases ea'
      obtain ⟨hp,hy⟩ := hy
      cases q : ixN ys.length k with
      | none => rw [q] at hy; exact hy.elim
      | some j =>
        rw [q] at hy
        exact ⟨a,vs',k,j,rfl,rfl,hh',by rw [r'.length]; exact q,l.nx _ _ _ _ _ (s'.setOwn i e ea (Reps.set ((rx.step s.bagM k2).rep hp) j r')) hy⟩
theorem ds_setI {i : Nat}{x : Str}{n : Expr}{dk : DE}{npos tpos : Pos}(hN : X.N[i]? = some x)(hv : Vis X.env.scope x)(he : PE X e (dn W de))(hk : PE X n (dn W dk))(hg : PG X (.Subscript (.Name x npos) n tpos) (gSub (tVar i) (dn W dk) rSetL))
    (hs : swapsWithSole [.Subscript (.Name x npos) n tpos] e pos.line X.env = pure false := by rfl) (hw : swappedStores [.Subscript (.Name x npos) n tpos] e X.env = pure none := by rfl)
    (h1 : (assignEach [.Subscript (.Name x npos) n tpos] X.env).map (·.2) = [assign (.Subscript (.Name x npos) n tpos) X.env] := by rfl) : PS X (.Assign [.Subscript (.Name x npos) n tpos] e pos) (sn W (dSetI i de dk)) := (ps_asg he hg hs hw h1).mono up_setI
inductive forI (gd : D -> Ev -> (Ev -> Prop) -> Prop)(db : DS)(F : DEnds)(items : List D)(ρ : Ev) : Prop
  | mk (I : Nat -> Ev -> Prop) (h0 : I 0 ρ) (hs : ∀ (i : Nat) x ρ,items[i]? = some x -> I i ρ -> gd x ρ fun ρ1 => db { F with nx := I (i + 1),ct := I (i + 1),bk := F.nx } ρ1) (hd : ∀ ρ,I items.length ρ -> F.nx ρ) : forI gd db F items ρ
def dFor (gd : D -> Ev -> (Ev -> Prop) -> Prop)(di : DA)(db : DS) : DS := fun F ρ => di ρ fun items => forI gd db F items ρ
theorem Sta.pins {pn pn' : List (D × V)}{M : Addr -> Prop}{b : Option Addr}{H : Hp}{σ : St}{ρ : Ev}(s : Sta W pn M b H σ ρ)(h : ∀ q ∈ pn',PinR W M b H q.1 q.2) : Sta W pn' M b H σ ρ := ⟨s.toHs,s.kp,s.new,s.env,s.len,h⟩
theorem up_for {g : TG}{gd : D -> Ev -> (Ev -> Prop) -> Prop}{db : DS}(hG : GD W g gd) : ∀ E σ H,sn W (dFor gd di db) E σ H -> tFor (dnI W true di) g (sn W db) E σ H := fun E σ H hh => hh.elim fun pn M b ρ F s l h => by
  refine ⟨pn,M,b,ρ,_,s.toSta,h,fun items J need H1 hx hp hI hn k1 o1 => ?_⟩
  have s1 := s.step k1 o1
  have pins : ∀ q ∈ need ++ pn,PinR W M b H1 q.1 q.2 := fun q hq => (List.mem_append.mp hq).elim (fun z => (hn q z).1.pin ((hn q z).2 rfl)) fun z => s1.pin q z
  obtain ⟨I,i0,istep,idone⟩ := hx
  refine ⟨fun i m σ H => m = items.length - i /\ i <= items.length /\ ∃ M b ρ,StS W (need ++ pn) M b H σ ρ /\ I i ρ,⟨items.length,by simp,Nat.zero_le _,M,b,ρ,⟨s1.toSta.pins pins,s1.dj,fun ys a hq => (List.mem_append.mp hq).elim (fun z => by have := (hn _ z).2 rfl; cases this) fun z => s1.lj ys a z⟩,i0⟩,?_⟩
  rintro i m σ2 H2 ⟨rfl,hi,M2,b2,ρ2,s2,q⟩
  have unp : ∀ {M b ρ σ H},StS W (need ++ pn) M b H σ ρ -> StS W pn M b H σ ρ := fun s => ⟨s.toSta.pins fun q hq => s.pin q (List.mem_append_right _ hq),s.dj,fun ys a hq => s.lj ys a (List.mem_append_right _ hq)⟩
  obtain ⟨hgo,hstop⟩ := hI M2 b2 H2 s2.toHs fun q hq => (s2.pin q (List.mem_append_left _ hq)).x
  by_cases hlt : i < items.length
  · have ei : items[i]? = some items[i] := List.getElem?_eq_getElem hlt
    replace q := istep i _ ρ2 ei q
    refine .inr ⟨(hgo i _ ei).1,fun σ' H' => ∃ M b ρ,StS W (need ++ pn) M b H' σ' ρ /\ I (i + 1) ρ,fun σ' H' n => ⟨items.length - (i + 1),by omega,rfl,hlt,n⟩,fun x H3 y => ?_⟩
    obtain ⟨S3,rx⟩ := (hgo i _ ei).2 x H3 y
    have o3 : okB W.B b2 H3 := fun p e => W.B.st p H2 H3 (s2.ok p e) fun o e' => S3 p o e'
    have s3 := s2.step (Kp.same S3) o3
    refine hG (need ++ pn) M2 b2 H3 σ2 ρ2 items[i] x _ _ s3.toSta rx (List.all_eq_true.mp hp _ (List.getElem_mem hlt)) q fun ρ1 σ1 h1 st4 ho => ?_
    exact ⟨need ++ pn,M2,b2,ρ1,{ F with nx := I (i + 1),ct := I (i + 1),bk := F.nx },s3.of st4 ho,⟨fun M b ρ σ H s' h' => ⟨M,b,ρ,s',h'⟩,l.rt,fun M b ρ σ H s' h' => l.nx _ _ _ _ _ (unp s') h',fun M b ρ σ H s' h' => ⟨M,b,ρ,s',h'⟩,l.ro⟩,h1⟩
  · have e : i = items.length := by omega
    subst e
    exact .inl ⟨hstop _ (Nat.le_refl _),l.nx _ _ _ _ _ (unp s2) (idone _ q)⟩
theorem ds_for {g : TG}{gd : D -> Ev -> (Ev -> Prop) -> Prop}{db : DS}{body : List Stmt}(hG : GD W g gd)(hp : PassesOwn (model X.prog X.w) X.A X.env X.xe)(hc : X.calm = true)(hi : PI X tg iter (dnI W true di))(hg : PG X tg g)(hb : PSs X body (sn W db))
    (hs : ∀ x,foldedSetIterable iter X.env x = pure x := by intro _; rfl) : PS X (.For tg iter body [] pos) (sn W (dFor gd di db)) := (ps_for hp hc hi hg hb hs).mono (up_for hG)
def dRaise (Ed : Addr -> Prop)(C : Addr) : DS := fun _ _ => Ed C
theorem ds_raise {E : XK}{Ed : Addr -> Prop}{C : Addr}(hE : ELink W E Ed)(h : PS X st (fun _ _ H1 => E (.ref C) none H1)) : PS X st (sn W (dRaise Ed C)) := h.mono fun E' σ H hh => hh.elim fun pn M b ρ F s l h => hE C H h s.kp s.ok0
def dNever : DS := fun _ _ => False
theorem ds_never : PS X st (sn W dNever) := ps_never.mono fun E σ H hh => hh.elim fun pn M b ρ F s l h => h.elim
end
def startD (N : List Str)(ds : List D) : Ev := ds.map some ++ List.replicate (N.length - ds.length) none
theorem RepAs.get {K : PySem.W.Frag}{M : Addr -> Prop}{b : Option Addr}{H : Hp} : ∀ {ds : List D} {vs : List V} {i : Nat} {d : D},RepAs K M b H ds vs -> ds[i]? = some d -> ∃ v,vs[i]? = some v /\ RepA K M b H d v
  | [],_,_,_,h,e => by simp at e
  | d :: ds,vs,0,_,h,e => by
    obtain ⟨v,r,rfl,h1,h2⟩ := h
    simp at e; subst e
    exact ⟨v,rfl,h1⟩
  | d :: ds,vs,i + 1,d',h,e => by
    obtain ⟨v,r,rfl,h1,h2⟩ := h
    obtain ⟨u,e1,e2⟩ := RepAs.get (i := i) h2 (by simpa using e)
    exact ⟨u,by simpa using e1,e2⟩
theorem startD_get {N : List Str}{ds : List D}{i : Nat}{d : D}(h : (startD N ds)[i]? = some (some d)) : ds[i]? = some d := by
  unfold startD at h
  by_cases hi : i < ds.length
  · rw [List.getElem?_append_left (by simpa using hi),List.getElem?_map] at h
    simpa using h
  · rw [List.getElem?_append_right (by simpa using hi)] at h
    have := List.mem_of_getElem? h
    simp at this
theorem enter {K : PySem.W.Frag}{B : BagT}{M : Addr -> Prop}{b : Option Addr}{N : List Str}{ds : List D}{vs : List V}{H : Hp}(hr : RepAs K M b H ds vs)(ho : okB B b H)(hb : ∀ p,b = some p -> M p)(hd : ∀ c,M c -> ∃ o,H c = some o) : StS ⟨K,B,H,M,b⟩ [] M b H (start N vs) (startD N ds) := by
  refine ⟨⟨⟨ho,hb,hd,fun _ m => m⟩,Kp.refl _ _,.inl rfl,fun i d e => ?_,by simp [start,startD,hr.length],fun _ hq => by cases hq⟩,fun i j d e v u c e0 _ _ _ m _ => ?_,fun _ _ hq => by cases hq⟩
  · obtain ⟨v,e1,r⟩ := hr.get (startD_get e)
    refine ⟨v,?_,?_⟩
    · unfold start
      rw [List.getElem?_append_left (by simpa using (List.getElem?_eq_some_iff.mp e1).1),List.getElem?_map,e1]; rfl
    · cases d <;> first | exact r | exact r.elim
  · obtain ⟨v',e1,r⟩ := hr.get (startD_get e0)
    cases d <;> first | exact m.elim | exact r.elim
theorem leave {K : PySem.W.Frag}{B : BagT}{M : Addr -> Prop}{b : Option Addr}{H : Hp}{Q : VK}{P : D -> Prop}(hq : ∀ d v H',P d -> Rep K M H' d v -> Kp b H H' -> okB B b H' -> Q v H') : Link ⟨K,B,H,M,b⟩ [] { nx := fun _ H' => Q .non H',rt := Q } { nx := fun _ => P .non,rt := P } :=
  ⟨fun M b ρ σ H s h => hq _ _ _ h rfl s.kp s.ok0,fun d v H h r k o => hq d v H h r k o,fun _ _ _ _ _ _ h => h.elim,fun _ _ _ _ _ _ h => h.elim,fun _ _ _ _ h => h.elim⟩
theorem run {K : PySem.W.Frag}{B : BagT}{M : Addr -> Prop}{b : Option Addr}{N : List Str}{ds : List D}{vs : List V}{H : Hp}{Q : VK}{P : D -> Prop}{d : DS}(hr : RepAs K M b H ds vs)(ho : okB B b H)(hb : ∀ p,b = some p -> M p)(hd : ∀ c,M c -> ∃ o,H c = some o)(hq : ∀ d v H',P d -> Rep K M H' d v -> Kp b H H' -> okB B b H' -> Q v H')
    (h : d { nx := fun _ => P .non,rt := P } (startD N ds)) : sn ⟨K,B,H,M,b⟩ d { nx := fun _ H' => Q .non H',rt := Q } (start N vs) H :=
  ⟨[],M,b,startD N ds,_,enter hr ho hb hd,leave hq,h⟩
theorem liftSp.len {K : PySem.W.Frag}{B : BagT}{S : DSp}{n : Nat}(h : ∀ ds P Ed,S ds P Ed -> ds.length = n) : ∀ vs H Q E,liftSp K B S vs H Q E -> vs.length = n := fun vs H Q E ⟨M,b,ds,P,Ed,hS,hr,_⟩ => by rw [hr.length]; exact h _ _ _ hS
theorem Callee.imp {P : Program}{w : World}{K : PySem.W.Frag}{mg : Str -> Option Value}{base : Heap}{CX : CXT}{x : Str}{k : Nat}{ps : List Str}{sp sp' : Sp}(G : Callee P w K mg base CX x k ps sp)(h : ∀ vs H Q E,sp' vs H Q E -> sp vs H Q E) : Callee P w K mg base CX x k ps sp' := by
  obtain ⟨f,fd,F,r⟩ := G.ex
  exact ⟨f,fd,⟨fun vs H Q E q => F.len vs H Q E (h _ _ _ _ q),fun A outer s H args us vs Q E r0 e0 b0 v0 q => F.run A outer s H args us vs Q E r0 e0 b0 v0 (h _ _ _ _ q)⟩,r⟩
end L2
set_option Elab.async false
set_option linter.all false
set_option maxRecDepth 100000
set_option maxHeartbeats 4000000
namespace L2
open PySem PySem.Spec PyProof.Rows
section
variable {X : Cx}{W : Wd}{e a b c tg iter l : Expr}{es : List Expr}{pos p : Pos}{d da db dc dl de : DE}{dA di : DA}{dt : DT}{st : Stmt}{rest sts : List Stmt}{d1 d2 : DS}{t : TS}
abbrev DO := Ev -> (Option Int -> Prop) -> Prop
def dnO (W : Wd)(d : DO) : TO := fun σ H Q => ∃ pn M b ρ P,Sta W pn M b H σ ρ /\ d ρ P /\ ∀ x H',P x -> Kp b H H' -> okB W.B b H' -> Q x H'
theorem dnO.elim {W : Wd}{d : DO}{σ : St}{H : Hp}{Q : Option Int -> Hp -> Prop}{R : Prop}(h : dnO W d σ H Q)(f : ∀ pn M b ρ P,Sta W pn M b H σ ρ -> d ρ P -> (∀ x H',P x -> Kp b H H' -> okB W.B b H' -> Q x H') -> R) : R := by
  obtain ⟨pn,M,b,ρ,P,st,h,k⟩ := h
  exact f pn M b ρ P st h k
def oNo : DO := fun _ P => P none
def oPt (de : DE) : DO := fun ρ P => de ρ fun x => match x with | .int i => P (some i) | _ => False
theorem do_none : PO X none (dnO W oNo) := fun pins s σ H Q I hh => hh.elim fun pn M b ρ P st h k => po_none pins s σ H Q I (k _ H h (Kp.refl _ _) st.ok)
theorem do_some (h : PE X e (dn W de)) : PO X (some e) (dnO W (oPt de)) := fun pins s σ H Q I hh => hh.elim fun pn M b ρ P st q k => po_some h pins s σ H Q I (by
  refine ⟨pn,M,b,ρ,_,st,q,fun x v H1 hx rx k1 o1 => ?_⟩
  cases x <;> first | exact hx.elim | skip
  cases (show _ = _ from rx)
  exact ⟨_,rfl,k _ H1 hx k1 o1⟩)
def cutD (xs : List D)(lo hi : Option Int) : List D := (xs.drop (HT.sIx xs.length 0 lo)).take (HT.sIx xs.length xs.length hi - HT.sIx xs.length 0 lo)
theorem Reps.cut {K : PySem.W.Frag}{M : Addr -> Prop}{H : Hp}{ds : List D}{vs : List V}(h : Reps K M H ds vs)(lo hi : Option Int) : Reps K M H (cutD ds lo hi) (cutV vs lo hi) := by
  unfold cutD cutV
  rw [h.length]
  exact Reps.take _ (Reps.drop _ h)
def oSl (x : D)(lo hi : Option Int)(P : D -> Prop) : Prop := match x with
  | .tup xs => ¬ (HT.sIx xs.length 0 lo = 0 /\ HT.sIx xs.length xs.length hi = xs.length) /\ P (.tup (cutD xs lo hi))
  | .lst xs => P (.lst (cutD xs lo hi))
  | .own xs => P (.lst (cutD xs lo hi))
  | _ => False
def dSl (de : DE)(dl dh : DO) : DE := fun ρ P => de ρ fun x => dl ρ fun lo => dh ρ fun hi => oSl x lo hi P
theorem sl_tupK (K : PySem.W.Frag)(h : X.K = K) : SlR X (rSlT K) := by subst h; exact sl_tup
theorem sl_any (K : PySem.W.Frag)(h : X.K = K) : SlR X (fun x lo hi H Q => rSlT K x lo hi H Q \/ rSlL K x lo hi H Q) := (sl_tupK K h).or (sl_listK' K h)
theorem de_slice {lo hi : Option Expr}{dl dh : DO}{p2 : Pos}(hr : SlR X (fun x lo hi H Q => rSlT W.K x lo hi H Q \/ rSlL W.K x lo hi H Q))(he : PE X e (dn W de))(hl : PO X lo (dnO W dl))(hu : PO X hi (dnO W dh)) : PE X (.Subscript e (.Slice lo hi none p2) pos) (dn W (dSl de dl dh)) := (pe_slice hr he hl hu).mono fun σ H Q hh => hh.elim fun pn M b ρ P st h k => by
  refine ⟨pn,M,b,ρ,_,st,h,fun x v H1 hx rx k1 o1 => ?_⟩
  refine ⟨pn,M,b,ρ,_,st.step k1 o1,hx,fun lo H2 hy k2 o2 => ?_⟩
  refine ⟨pn,M,b,ρ,_,(st.step k1 o1).step k2 o2,hy,fun hi H3 hz k3 o3 => ?_⟩
  have s3 := ((st.step k1 o1).step k2 o2).step k3 o3
  have rx := (rx.step st.bagM k2).step st.bagM k3
  have kk := (k1.trans k2).trans k3
  cases x <;> first | exact hz.elim | skip
  case tup xs =>
    obtain ⟨a,vs,rfl,hh,r⟩ := rx
    refine .inl ⟨a,vs,rfl,hh.sq,by rw [r.length]; exact hz.1,fun p hp => k _ _ _ hz.2 (new_tup s3.toHs (r.cut lo hi) hp) (kk.trans (Kp.upd hp)) (s3.okU hp)⟩
  case lst xs =>
    obtain ⟨a,vs,rfl,hh,r⟩ := rx
    refine .inr ⟨a,vs,rfl,SqL.of hh.2,fun p hp => k _ _ _ hz (new_lst s3.toHs (r.cut lo hi) hp) (kk.trans (Kp.upd hp)) (s3.okU hp)⟩
  case own xs =>
    obtain ⟨a,vs,rfl,_,_,_,_,hh,r⟩ := rx
    refine .inr ⟨a,vs,rfl,SqL.of hh,fun p hp => k _ _ _ hz (new_lst s3.toHs (r.cut lo hi) hp) (kk.trans (Kp.upd hp)) (s3.okU hp)⟩
theorem Reps.ne {K : PySem.W.Frag}{M : Addr -> Prop}{H : Hp}{ds : List D}{vs : List V}(h : Reps K M H ds vs)(n : ds ≠ []) : vs ≠ [] := fun z => by
  have := h.length
  rw [z] at this
  exact n (List.length_eq_zero_iff.mp this.symm)
def bagSp (K : PySem.W.Frag)(B : BagT)(pre : List D -> Prop) : Sp := fun vs H Q _ => ∃ (M : Addr -> Prop) (b : Option Addr) (ds : List D),RepAs K M b H ds vs /\ pre ds /\ ∀ p H1,H p = none -> Same H H1 -> B.ok p H1 -> Q (.ref p) H1
def dropB (ρ : Ev) : Ev := ρ.map fun o => match o with | some .bag => none | o => o
def dBag (i : Nat)(pre : List D -> Prop)(dA : DA) : DS := fun F ρ => dA ρ fun ds => ds.all notOwn = true /\ pre ds /\ F.nx ((dropB ρ).set i (some .bag))
theorem dropB_get {ρ : Ev}{i : Nat}{d : D}(h : (dropB ρ)[i]? = some (some d)) : ρ[i]? = some (some d) /\ d ≠ .bag := by
  unfold dropB at h
  rw [List.getElem?_map] at h
  cases q : ρ[i]? with
  | none => rw [q] at h; cases h
  | some o =>
    rw [q] at h
    cases o with
    | none => cases h
    | some d' => cases d' <;> simp at h <;> subst h <;> exact ⟨rfl,by intro z; cases z⟩
theorem ds_bag {spos : Pos}{x f : Str}{k : Nat}{ps : List Str}{pre : List D -> Prop}{i : Nat}{pos' : Pos}(hb0 : W.b0 = none)(hN : X.N.Nodup)(hi : X.N[i]? = some x)(hx : Loc X.env.scope x)(G : Callee X.prog X.w X.K X.mg X.base CX0 f k ps (bagSp W.K W.B pre))(hr : Room k X.A)(hg : Gl X f)(ha : PA X (e :: es) (dnA W dA))
    (hdb : (f == ("__debug__" : Str)) = false := by decide) (he : starEach (e :: es) X.env = (false,eval e X.env) :: starEach es X.env := by rfl) (hpl : (backTo pos (starEach es X.env)).any (·.1) = false := by rfl)
    (hs : swapsWith (.Call (.Name f p) (e :: es) [] pos) (some (.Name x pos')) spos.line X.env = pure false := by rfl) (hf : X.fn x = true \/ X.env.scope.names.lookup x = some .local := by first | exact .inl rfl | exact .inr rfl | assumption) :
    PS X (.Assign [.Name x pos'] (.Call (.Name f p) (e :: es) [] pos) spos) (sn W (dBag i pre dA)) := (ps_set hN hi hx (pe_own G hr hg ha hdb he hpl) hs hf).mono fun E σ H hh => hh.elim fun pn M b ρ F s l h => by
  refine ⟨pn,M,b,ρ,_,s.toSta,h,fun ds vs H' hx rx k o => ?_⟩
  have s1 := s.step k o
  refine ⟨M,b,ds,by rw [List.append_nil]; exact rx.args _ _ hx.1,hx.2.1,fun q H1 hq S ok => ?_⟩
  have rep : ∀ d v,Rep W.K M H' d v -> Rep W.K (fun c => M c \/ c = q) H1 d v := fun d v r => Rep.keep (fun c o _ e => S c o e) _ _ (Rep.avoid (fun c hc => hc.imp id fun z => by rw [z]; exact hq) _ _ r)
  have reps : ∀ d v,Reps W.K M H' d v -> Reps W.K (fun c => M c \/ c = q) H1 d v := fun d v r => Reps.keep (fun c o _ e => S c o e) _ _ (Reps.avoid (fun c hc => hc.imp id fun z => by rw [z]; exact hq) _ _ r)
  have h0 : W.H0 q = none := by
    cases z : W.H0 q with
    | none => rfl
    | some o =>
      have := s1.kp q o (by rw [hb0]; intro y; cases y) z
      rw [hq] at this; cases this
  have st1 : Sta W pn (fun c => M c \/ c = q) (some q) H1 σ (dropB ρ) := by
    refine ⟨⟨fun p e => by cases e; exact ok,fun p e => by cases e; exact .inr rfl,fun c hc => ?_,fun c m => .inl (s1.m0 c m)⟩,fun c o n e => S c o (s1.kp c o n e),.inr ⟨hb0,fun p e => by cases e; exact h0⟩,fun j d e => ?_,by simp [dropB,s.len],fun q' hq' => (s1.pin q' hq').to rep reps fun xs a vs _ _ m n hh => ⟨.inl m,(fun z => by cases z; rw [hq] at hh; cases hh),S _ _ hh⟩⟩
    · rcases hc with hc | hc
      · obtain ⟨o,e⟩ := s1.dom c hc; exact ⟨o,S c o e⟩
      · rw [hc]; exact W.B.dm q H1 ok
    · obtain ⟨e1,nb⟩ := dropB_get e
      obtain ⟨v,e2,r⟩ := s1.env j d e1
      refine ⟨v,e2,?_⟩
      cases d
      case own xs =>
        obtain ⟨a,us,rfl,m1,m2,m3,m4,hh,r'⟩ := r
        have nq : some q ≠ some a := fun z => by
          cases z
          rw [hq] at hh
          cases hh
        exact ⟨a,us,rfl,.inl m1,nq,m3,m4,S _ _ hh,reps _ _ r'⟩
      case bag => exact absurd rfl nb
      case frg f _ => exact RepX.move r (fun c _ m n => ⟨.inl m,fun z => by cases z; exact s1.toHs.new hq m⟩) (fun c o _ e => S c o e) fun c hc => hc.imp id fun z => by rw [z]; exact hq
      all_goals exact rep _ _ r
  refine l.nx _ _ _ _ _ (s1.of (st1.set (x := .bag) (v := .ref q) i ⟨q,rfl,rfl⟩) fun j xs hm e => ?_) hx.2.2
  by_cases z : i = j
  · subst z
    rw [List.getElem?_set] at e
    simp at e
    rw [<- e.2] at hm; cases hm
  · rw [List.getElem?_set_ne z] at e
    exact ⟨(dropB_get e).1,by rw [List.getElem?_set_ne z]⟩
theorem PSs.withE {A : Prop}(h : A -> PSs X sts t) : PSs X sts (fun E σ H => A /\ t E σ H) := fun pins s σ H D I q => h q.1 pins s σ H D I q.2
def HD (W : Wd)(N : List Str)(K : PySem.W.Frag)(Ba : Addr)(i : Nat)(th : Addr -> TS)(hd : Addr -> DEnds -> Prop) : Prop := ∀ C x H' E F pn,Link W pn E F -> hd C F -> Kp W.b0 W.H0 H' -> okB W.B W.b0 H' -> H' x = none -> PySem.W.subIn K (.ref C) (.ref Ba) = some true /\
  th x { nx := fun σ' H'' => E.nx (σ'.set i none) H'',rt := E.rt,bk := fun σ' H'' => E.bk (σ'.set i none) H'',ct := fun σ' H'' => E.ct (σ'.set i none) H'' } ((List.replicate N.length none).set i (some (.ref x))) (upd H' x (ExcO x C))
def dTry (db : DS)(Ed : Addr -> Prop)(hd : Addr -> DEnds -> Prop) : DS := fun F ρ => db F ρ /\ ∀ C,Ed C -> hd C F
theorem ds_try {N : List Str}{K : PySem.W.Frag}{Ba : Addr}{i : Nat}{th : Addr -> TS}{hd : Addr -> DEnds -> Prop}{db : DS}(Ed : Addr -> Prop)(hHD : HD W N K Ba i th hd)(h : PS X st (tTry N K Ba i (fun E D σ H => ELink W E Ed /\ sn W db D σ H) th)) : PS X st (sn W (dTry db Ed hd)) := h.mono fun E σ H hh => hh.elim fun pn M b ρ F s l q => by
  refine ⟨fun Cv _ H' => ∃ C,Cv = .ref C /\ Ed C /\ Kp W.b0 W.H0 H' /\ okB W.B W.b0 H',⟨fun C H' e k o => ⟨C,rfl,e,k,o⟩,pn,M,b,ρ,F,s,l,q.1⟩,fun C H' x hC hx => ?_⟩
  obtain ⟨C',e,hE,k,o⟩ := hC
  cases e
  exact hHD C x H' E F pn l (q.2 C hE) k o hx
end
end L2
set_option linter.all false
namespace K
open PySem L2
theorem fm_lt {a b : Int}(hb : b ≠ 0) : (a.fmod b).natAbs < b.natAbs := by
  by_cases h : 0 < b
  · rw [Int.fmod_eq_emod_of_nonneg a (by omega)]
    have := Int.emod_nonneg a hb
    have := Int.emod_lt_of_pos a h
    omega
  · have e : a.fmod b = -((-a).fmod (-b)) := by grind [Int.neg_fmod_neg]
    rw [e,Int.fmod_eq_emod_of_nonneg (-a) (show 0 <= -b by omega)]
    have := Int.emod_nonneg (-a) (show -b ≠ 0 by omega)
    have := Int.emod_lt_of_pos (-a) (show 0 < -b by omega)
    omega
theorem gcd_fmod {a b : Int} : Int.gcd b (a.fmod b) = Int.gcd a b := by
  rw [Int.gcd_comm a b,Int.fmod_def]
  apply Nat.dvd_antisymm
  · apply Int.dvd_gcd
    · exact Int.gcd_dvd_left ..
    · have h1 : ((Int.gcd b (a - b * a.fdiv b) : Nat) : Int) ∣ b := Int.gcd_dvd_left ..
      have h2 : ((Int.gcd b (a - b * a.fdiv b) : Nat) : Int) ∣ a - b * a.fdiv b := Int.gcd_dvd_right ..
      have h3 := Int.dvd_add h2 (Int.dvd_trans h1 (Int.dvd_mul_right b (a.fdiv b)))
      have e3 : a - b * a.fdiv b + b * a.fdiv b = a := by omega
      rw [e3] at h3
      exact h3
  · apply Int.dvd_gcd
    · exact Int.gcd_dvd_left ..
    · have h1 : ((Int.gcd b a : Nat) : Int) ∣ b := Int.gcd_dvd_left ..
      have h2 : ((Int.gcd b a : Nat) : Int) ∣ a := Int.gcd_dvd_right ..
      exact Int.dvd_sub h2 (Int.dvd_trans h1 (Int.dvd_mul_right b (a.fdiv b)))
def gcdL (ns : List Int) : Int := ns.foldl (fun g n => ((Int.gcd g n : Nat) : Int)) 0
theorem gcdL_snoc (ns : List Int)(n : Int) : gcdL (ns ++ [n]) = ((Int.gcd (gcdL ns) n : Nat) : Int) := by unfold gcdL; rw [List.foldl_append]; rfl
theorem gcdL_last {ns : List Int}{n : Int}(h : n ≠ 0) : 0 < gcdL (ns ++ [n]) /\ gcdL (ns ++ [n]) <= n.natAbs := by
  rw [gcdL_snoc]
  have h1 : 0 < Int.gcd (gcdL ns) n := Int.gcd_pos_of_ne_zero_right _ h
  have h2 : Int.gcd (gcdL ns) n ∣ n.natAbs := Int.gcd_dvd_natAbs_right ..
  have h3 := Nat.le_of_dvd (by omega) h2
  omega
def low (ns : List Int)(last : Int) : Int := if last < 0 then -gcdL (ns ++ [last]) else gcdL (ns ++ [last])
theorem low_ne {ns : List Int}{n : Int}(h : n ≠ 0) : low ns n ≠ 0 := by
  have := gcdL_last (ns := ns) h
  unfold low
  split <;> omega
theorem low_le {ns : List Int}{n : Int}(h : n ≠ 0) : (low ns n).natAbs <= n.natAbs := by
  have := gcdL_last (ns := ns) h
  unfold low
  split <;> omega
end K
set_option linter.all false
namespace K
open PySem L2
end K
namespace K
open PySem L2
end K
set_option linter.all false
namespace K
open PySem L2
theorem gcdL4 (x y z w : Int) : gcdL ([x,y,z] ++ [w]) = ((Nat.gcd (Int.gcd x y) (Int.gcd z w) : Nat) : Int) := by
  unfold gcdL Int.gcd
  show ((Nat.gcd (Int.natAbs ((Nat.gcd (Int.natAbs ((Nat.gcd (Int.natAbs ((Nat.gcd (Int.natAbs 0) x.natAbs : Nat) : Int)) y.natAbs : Nat) : Int)) z.natAbs : Nat) : Int)) w.natAbs : Nat) : Int) = _
  simp only [Int.natAbs_natCast,Int.natAbs_zero,Nat.gcd_zero_left,Nat.gcd_assoc]
theorem low_abs4 (x y z w : Int) : (low [x,y,z] w).natAbs = Nat.gcd (Int.gcd x y) (Int.gcd z w) := by
  unfold low
  split <;> rw [gcdL4] <;> omega
theorem low_sgn {ns : List Int}{n : Int}(h : n ≠ 0) : (n < 0 -> low ns n < 0) /\ (0 < n -> 0 < low ns n) := by
  have := gcdL_last (ns := ns) h
  unfold low
  refine ⟨fun h1 => ?_,fun h1 => ?_⟩
  · rw [if_pos h1]; omega
  · rw [if_neg (by omega)]; omega
theorem low_quad {x y z w : Int}(h : w ≠ 0) : ∃ a b c d,x.fdiv (low [x,y,z] w) = a /\ y.fdiv (low [x,y,z] w) = b /\ z.fdiv (low [x,y,z] w) = c /\ w.fdiv (low [x,y,z] w) = d /\ 0 < d /\ Nat.gcd (Int.gcd a b) (Int.gcd c d) = 1 /\ (a * w = x * d /\ b * w = y * d /\ c * w = z * d) /\
    (a.natAbs <= x.natAbs /\ b.natAbs <= y.natAbs /\ c.natAbs <= z.natAbs /\ d.natAbs <= w.natAbs) := by
  have hne := low_ne (ns := [x,y,z]) h
  have habs := low_abs4 x y z w
  obtain ⟨s1,s2⟩ := low_sgn (ns := [x,y,z]) h
  generalize low [x,y,z] w = L at *
  have g1 : Nat.gcd (Int.gcd x y) (Int.gcd z w) ∣ Int.gcd x y := Nat.gcd_dvd_left ..
  have g2 : Nat.gcd (Int.gcd x y) (Int.gcd z w) ∣ Int.gcd z w := Nat.gcd_dvd_right ..
  have dv : ∀ n : Int,L.natAbs ∣ n.natAbs -> L ∣ n := fun n h => Int.natAbs_dvd_natAbs.mp h
  have d1 : L ∣ x := dv x (by rw [habs]; exact Nat.dvd_trans g1 (Nat.gcd_dvd_left ..))
  have d2 : L ∣ y := dv y (by rw [habs]; exact Nat.dvd_trans g1 (Nat.gcd_dvd_right ..))
  have d3 : L ∣ z := dv z (by rw [habs]; exact Nat.dvd_trans g2 (Nat.gcd_dvd_left ..))
  have d4 : L ∣ w := dv w (by rw [habs]; exact Nat.dvd_trans g2 (Nat.gcd_dvd_right ..))
  have e1 := Int.fdiv_mul_cancel d1
  have e2 := Int.fdiv_mul_cancel d2
  have e3 := Int.fdiv_mul_cancel d3
  have e4 := Int.fdiv_mul_cancel d4
  generalize x.fdiv L = a at *
  generalize y.fdiv L = b at *
  generalize z.fdiv L = c at *
  generalize w.fdiv L = d at *
  have bnd : ∀ n m : Int,n * L = m -> n.natAbs <= m.natAbs := fun n m e => by
    rw [<- e,Int.natAbs_mul]
    exact Nat.le_mul_of_pos_right _ (by omega)
  refine ⟨a,b,c,d,rfl,rfl,rfl,rfl,?_,?_,⟨?_,?_,?_⟩,⟨bnd _ _ e1,bnd _ _ e2,bnd _ _ e3,bnd _ _ e4⟩⟩
  · by_cases hd : 0 < d
    · exact hd
    · rcases Int.lt_or_gt_of_ne h with hw | hw
      · have := Int.mul_nonneg_of_nonpos_of_nonpos (show d <= 0 by omega) (Int.le_of_lt (s1 hw)); omega
      · have := Int.mul_nonpos_of_nonpos_of_nonneg (show d <= 0 by omega) (Int.le_of_lt (s2 hw)); omega
  · have q1 : Int.gcd (a * L) (b * L) = Int.gcd a b * L.natAbs := Int.gcd_mul_right ..
    have q2 : Int.gcd (c * L) (d * L) = Int.gcd c d * L.natAbs := Int.gcd_mul_right ..
    rw [<- e1,<- e2,<- e3,<- e4,q1,q2,Nat.gcd_mul_right] at habs
    have hp : 0 < L.natAbs := by omega
    have : 1 * L.natAbs = Nat.gcd (Int.gcd a b) (Int.gcd c d) * L.natAbs := by rw [Nat.one_mul]; exact habs
    exact (Nat.eq_of_mul_eq_mul_right hp this).symm
  · rw [<- e1,<- e4]; grind
  · rw [<- e2,<- e4]; grind
  · rw [<- e3,<- e4]; grind
end K
set_option linter.all false
namespace K
open PySem L2
def Mv (n : Nat)(H : Hp)(m : Addr)(M : List (List Int)) : Prop := ∃ ps : List Addr,H m = some (.tup (ps.map V.ref)) /\ ps.length = 4 /\ M.length = 4 /\ ∀ (i : Nat) p r,ps[i]? = some p -> M[i]? = some r -> H p = some (.tup (r.map V.int)) /\ r.length = 4 /\ ∀ x ∈ r,Bd n x
theorem Mv.of {n : Nat}{H : Hp}{m p0 p1 p2 p3 : Addr}{r0 r1 r2 r3 : List Int}(e : H m = some (.tup [.ref p0,.ref p1,.ref p2,.ref p3]))(e0 : H p0 = some (.tup (r0.map V.int)))(e1 : H p1 = some (.tup (r1.map V.int)))(e2 : H p2 = some (.tup (r2.map V.int)))(e3 : H p3 = some (.tup (r3.map V.int)))
    (l : r0.length = 4 /\ r1.length = 4 /\ r2.length = 4 /\ r3.length = 4) (b : ∀ x ∈ r0 ++ r1 ++ r2 ++ r3,Bd n x) : Mv n H m [r0,r1,r2,r3] := by
  refine ⟨[p0,p1,p2,p3],e,rfl,rfl,fun i p r h1 h2 => ?_⟩
  match i with
  | 0 => cases h1; cases h2; exact ⟨e0,l.1,fun x hx => b x (by simp [hx])⟩
  | 1 => cases h1; cases h2; exact ⟨e1,l.2.1,fun x hx => b x (by simp [hx])⟩
  | 2 => cases h1; cases h2; exact ⟨e2,l.2.2.1,fun x hx => b x (by simp [hx])⟩
  | 3 => cases h1; cases h2; exact ⟨e3,l.2.2.2,fun x hx => b x (by simp [hx])⟩
  | i + 4 => simp at h1
end K
set_option Elab.async false
set_option linter.all false
set_option maxRecDepth 100000
set_option maxHeartbeats 4000000
namespace L2
open PySem PySem.Spec PyProof.Rows
theorem oIx_mem {xs : List D}{i : Int}{P : D -> Prop}(h0 : 0 <= i)(h1 : i < xs.length)(h : ∀ d ∈ xs,P d) : oIx (.lst xs) (.int i) P := by
  obtain ⟨j,rfl⟩ : ∃ j : Nat,i = j := ⟨i.toNat,by omega⟩
  have hj : j < xs.length := by omega
  have e : atI xs (j : Int) = some xs[j] := atI_nat (List.getElem?_eq_getElem hj)
  simp only [oIx,e]
  exact h _ (List.getElem_mem hj)
theorem ixm {xs : List D}{i : Int}{P : D -> Prop}(h0 : 0 <= i)(h1 : i < xs.length)(h : ∀ d ∈ xs,P d) : (atI xs i).elim False P := oIx_mem (P := P) h0 h1 h
theorem rangeD_get {lo : Int}{n i : Nat}{d : D}(h : (rangeD lo n)[i]? = some d) : d = .int (lo + i) /\ i < n := by
  have hi : i < n := by
    have := (List.getElem?_eq_some_iff.mp h).1
    simpa [rangeD] using this
  simp [rangeD,hi] at h
  exact ⟨h.symm,hi⟩
theorem rangeD_len (lo : Int)(n : Nat) : (rangeD lo n).length = n := by simp [rangeD]
abbrev sp4 (x y z w : Int) : D := .tup [.int x,.int y,.int z,.int w]
abbrev t3 (x y z : Int) : D := .tup [.int x,.int y,.int z]
abbrev t2 (x y : Int) : D := .tup [.int x,.int y]
theorem comp_all {gd : D -> Ev -> (Ev -> Prop) -> Prop}{de : DE}{ρc : Ev}{items : List D}{P : List D -> Prop}(Pv : Nat -> D -> Prop)
    (hs : ∀ (i : Nat) x (Q : D -> Prop),items[i]? = some x -> (∀ y,Pv i y -> Q y) -> gd x ρc fun ρ1 => de ρ1 Q) (hp : ∀ i y,Pv i y -> plain y = true)
    (hd : ∀ acc : List D,acc.length = items.length -> (∀ i y,acc[i]? = some y -> Pv i y) -> P acc) : compI gd dTrue de ρc items P := by
  refine ⟨fun i acc => acc.length = i /\ ∀ j y,acc[j]? = some y -> Pv j y,⟨rfl,fun j y e => by simp at e⟩,fun i x acc e ⟨hl,ha⟩ => ?_,fun acc ⟨hl,ha⟩ => hd acc hl ha⟩
  have := hs i x (fun y => plain y = true /\ ((acc ++ [y]).length = i + 1 /\ ∀ j z,(acc ++ [y])[j]? = some z -> Pv j z)) e fun y hy => ⟨hp i y hy,by simp [hl],fun j z ez => ?_⟩
  · simpa only [dTrue,IfP_true] using this
  · by_cases hj : j < acc.length
    · rw [List.getElem?_append_left hj] at ez
      exact ha j z ez
    · rw [List.getElem?_append_right (by omega)] at ez
      have : j - acc.length = 0 := by
        cases q : j - acc.length with
        | zero => rfl
        | succ m => rw [q] at ez; simp at ez
      rw [this] at ez
      simp at ez
      subst ez
      have : j = i := by omega
      subst this
      exact hy
theorem comp_map {gd : D -> Ev -> (Ev -> Prop) -> Prop}{de : DE}{ρc : Ev}{items : List D}{P : List D -> Prop}(f : D -> D)
    (hs : ∀ x (Q : D -> Prop),x ∈ items -> Q (f x) -> gd x ρc fun ρ1 => de ρ1 Q) (hp : ∀ x ∈ items,plain (f x) = true) (hd : P (items.map f)) : compI gd dTrue de ρc items P := by
  refine comp_all (fun i y => ∃ x,items[i]? = some x /\ y = f x) (fun i x Q e h => hs x Q (List.mem_of_getElem? e) (h _ ⟨x,e,rfl⟩)) (fun i y ⟨x,e,h⟩ => by rw [h]; exact hp x (List.mem_of_getElem? e)) fun acc hl ha => ?_
  have : acc = items.map f := by
    apply List.ext_getElem?
    intro i
    rw [List.getElem?_map]
    cases q : acc[i]? with
    | none =>
      have : items.length <= i := by rw [<- hl]; exact List.getElem?_eq_none_iff.mp q
      rw [List.getElem?_eq_none_iff.mpr this]; rfl
    | some y =>
      obtain ⟨x,e,rfl⟩ := ha i y q
      rw [e]; rfl
  rw [this]; exact hd
theorem okB.same {B : BagT}{b : Option Addr}{H H' : Hp}(o : okB B b H)(S : Same H H') : okB B b H' := fun p e => B.st p H H' (o p e) fun u h => S p u h
end L2
set_option Elab.async false
set_option linter.all false
set_option maxRecDepth 100000
set_option maxHeartbeats 4000000
namespace L2
open PySem PySem.Spec PyProof.Rows
structure JE (X : Cx)(W : Wd)(e : Expr)(d : DE) : Prop where
  h : PE X e (dn W d)
structure JT (X : Cx)(W : Wd)(e : Expr)(d : DT) : Prop where
  h : PT X e (dnT W d)
structure JW (X : Cx)(W : Wd)(e : Expr)(d : DT) : Prop where
  h : PW X e (dnT W d)
structure JA (X : Cx)(W : Wd)(es : List Expr)(d : DA) : Prop where
  h : PA X es (dnA W d)
structure JO (X : Cx)(W : Wd)(e : Option Expr)(d : DO) : Prop where
  h : PO X e (dnO W d)
structure JIf (X : Cx)(W : Wd)(es : List Expr)(d : DT) : Prop where
  h : PIf X es (dnT W d)
structure JI (X : Cx)(W : Wd)(fz : Bool)(tg l : Expr)(d : DA) : Prop where
  h : PI X tg l (dnI W fz d)
structure JS (X : Cx)(W : Wd)(st : Stmt)(d : DS) : Prop where
  h : PS X st (sn W d)
structure JSs (X : Cx)(W : Wd)(st : List Stmt)(d : DS) : Prop where
  h : PSs X st (sn W d)
section
variable {X : Cx}{W : Wd}{e a b c : Expr}{es : List Expr}{pos : Pos}{d da db dc : DE}{dA : DA}{t : TE}
theorem jdv (i : Nat) {x : Str} {pos : Pos} (hN : X.N[i]? = some x := by rfl) (hv : Vis X.env.scope x := by first | exact Or.inl rfl | exact Or.inr (Or.inl rfl) | exact Or.inr (Or.inr rfl)) (hd : (x == ("__debug__" : Str)) = false := by decide)
    (hcd : (x == ("__classdict__" : Str)) = false := by decide) : JE X W (.Name x pos) (dVar i) := ⟨dv i hN hv hd hcd⟩
theorem jde_int {i j pos} : JE X W (.Constant (.int i) j pos) (dC (.int i)) := ⟨de_int ⟩
theorem jde_bl {i j pos} : JE X W (.Constant (.bool i) j pos) (dC (.bl i)) := ⟨de_bl ⟩
theorem jde_non {j pos} : JE X W (.Constant .none j pos) (dC .non) := ⟨de_non ⟩
theorem jde_str {i j pos} : JE X W (.Constant (.str i) j pos) (dC (.str i)) := ⟨de_str ⟩
theorem jde_bltn {x : Str}{T : String}{pos : Pos}(hg : Gl X x)(hm : X.mg x = none)(hv : bootBuiltins x = some (.type T))(hn : x ≠ "__name__" := by decide) (hd : (x == ("__debug__" : Str)) = false := by decide) : JE X W (.Name x pos) (dC (.ty T)) := ⟨de_bltn hg hm hv hn hd⟩
theorem jde_op {op : Operator}{r : R2}{o : D -> D -> (D -> Prop) -> Prop}(ho : OpR X (binaryOp op) r)(hd : OpD W r o)(ha : JE X W a da)(hb : JE X W b db) : JE X W (.BinOp a op b pos) (dOp o da db) := ⟨de_op ho hd ha.h hb.h⟩
theorem jde_cmp {op : CmpOp}{r : R2}{o : D -> D -> (D -> Prop) -> Prop}(ho : OpR X (compareOp op) r)(hd : OpD W r o)(ha : JE X W a da)(hb : JE X W b db)(hm : behindInMarks op b = false) : JE X W (.Compare a [op] [b] pos) (dOp o da db) := ⟨de_cmp ho hd ha.h hb.h hm⟩
theorem jde_ix {r : R2}{o : D -> D -> (D -> Prop) -> Prop}(hr : IxR X r)(hd : OpD W r o)(ha : JE X W a da)(hb : JE X W b db)(hs : PlainIx b) : JE X W (.Subscript a b pos) (dOp o da db) := ⟨de_ix hr hd ha.h hb.h hs⟩
theorem jde_neg (ha : JE X W a da) : JE X W (.UnaryOp .USub a pos) (dUn oNeg da) := ⟨de_neg ha.h⟩
variable {rest : List Expr}
theorem jde_one {op}(h : JE X W a da) : JE X W (.BoolOp op [a] pos) da := ⟨de_one h.h⟩
theorem jde_and (ha : JE X W a da)(hb : JE X W (.BoolOp .And (b :: rest) pos) db) : JE X W (.BoolOp .And (a :: b :: rest) pos) (dAnd da db) := ⟨de_and ha.h hb.h⟩
theorem jde_not (ha : JE X W a da) : JE X W (.UnaryOp .Not a pos) (dNot da) := ⟨de_not ha.h⟩
theorem jdt_cmp {op : CmpOp}{r : R2}{o : D -> D -> (D -> Prop) -> Prop}(ho : OpR X (compareOp op) r)(hd : OpD W r o)(ha : JE X W a da)(hb : JE X W b db)(hm : behindInMarks op b = false) : JT X W (.Compare a [op] [b] pos) (dTest (dOp o da db)) := ⟨dt_cmp ho hd ha.h hb.h hm⟩
theorem jdt_truth (hK : X.K = W.K)(ha : JE X W a da)(he : ∀ whole,isTrue a X.env whole = (do let v <- whole; standAt a.pos; holding [v] (truthy v))) : JT X W a (dTru da) := ⟨dt_truth hK ha.h he⟩
variable {ta tb : DT}
theorem jdw_or1 (ha : JT X W a ta) : JW X W (.BoolOp .Or [a] pos) ta := ⟨dw_or1 ha.h⟩
theorem jdw_or (ha : JT X W a ta)(hb : JW X W (.BoolOp .Or (b :: rest) pos) tb) : JW X W (.BoolOp .Or (a :: b :: rest) pos) (dTOr ta tb) := ⟨dw_or ha.h hb.h⟩
theorem jdt_not (ha : JT X W a ta) : JT X W (.UnaryOp .Not a pos) (dTNot ta) := ⟨dt_not ha.h⟩
theorem jda_nil : JA X W [] aNil := ⟨da_nil ⟩
theorem jda_cons {dr : DA}(ha : JE X W e da)(hr : JA X W es dr)(hs : starEach (e :: es) X.env = (false,eval e X.env) :: starEach es X.env := by rfl) : JA X W (e :: es) (aCons da dr) := ⟨da_cons ha.h hr.h hs⟩
theorem jde_tup {x1}(h : JA X W es dA) : JE X W (.Tuple es x1 pos) (dTup dA) := ⟨de_tup h.h⟩
theorem jde_lst (h : JA X W es dA) : JE X W (.List es pos) (dLst dA) := ⟨de_lst h.h⟩
end
section
variable {X : Cx}{W : Wd}{e a b c : Expr}{es : List Expr}{pos p : Pos}{d da db dc : DE}{dA : DA}{x : Str}{k : Nat}{ps : List Str}{S : DSp}
theorem jde_own (G : Callee X.prog X.w X.K X.mg X.base CX0 x k ps (liftSp W.K W.B S))(hr : Room k X.A)(hg : Gl X x)(ha : JA X W (e :: es) dA)(hdb : (x == ("__debug__" : Str)) = false := by decide) (he : starEach (e :: es) X.env = (false,eval e X.env) :: starEach es X.env := by rfl) (hpl : (backTo pos (starEach es X.env)).any (·.1) = false := by rfl) :
    JE X W (.Call (.Name x p) (e :: es) [] pos) (dCall S (fun _ => False) dA) := ⟨de_own G hr hg ha.h hdb he hpl⟩
theorem jde_ownX {CX : CXT}{E : XK}{Ed : Addr -> Prop}(hE : ELink W E Ed)(hp : Passes CX X E)(G : Callee X.prog X.w X.K X.mg X.base CX x k ps (liftSp W.K W.B S))(hr : Room k X.A)(hg : Gl X x)(ha : JA X W (e :: es) dA)(hdb : (x == ("__debug__" : Str)) = false := by decide) (he : starEach (e :: es) X.env = (false,eval e X.env) :: starEach es X.env := by rfl) (hpl : (backTo pos (starEach es X.env)).any (·.1) = false := by rfl) :
    JE X W (.Call (.Name x p) (e :: es) [] pos) (dCall S Ed dA) := ⟨de_ownX hE hp G hr hg ha.h hdb he hpl⟩
variable {r : List V -> Hp -> VK -> Prop}{o : List D -> (D -> Prop) -> Prop}{id T : String}
theorem jde_callB (hc : CallR X (.builtin id) r)(hd : CallD W r o)(hg : Gl X x)(hm : X.mg x = none)(hv : bootBuiltins x = some (.builtin id))(ha : JA X W (e :: es) dA)(hn : x ≠ "__name__" := by decide) (hdb : (x == ("__debug__" : Str)) = false := by decide)
    (he : starEach (e :: es) X.env = (false,eval e X.env) :: starEach es X.env := by rfl) (hpl : (backTo pos (starEach es X.env)).any (·.1) = false := by rfl) : JE X W (.Call (.Name x p) (e :: es) [] pos) (dCB o dA) := ⟨de_callB hc hd hg hm hv ha.h hn hdb he hpl⟩
theorem jde_callTy (hc : CallR X (.type T) r)(hd : CallD W r o)(hg : Gl X x)(hm : X.mg x = none)(hv : bootBuiltins x = some (.type T))(ha : JA X W (e :: es) dA)(hn : x ≠ "__name__" := by decide) (hdb : (x == ("__debug__" : Str)) = false := by decide)
    (he : starEach (e :: es) X.env = (false,eval e X.env) :: starEach es X.env := by rfl) (hpl : (backTo pos (starEach es X.env)).any (·.1) = false := by rfl) : JE X W (.Call (.Name x p) (e :: es) [] pos) (dCB o dA) := ⟨de_callTy hc hd hg hm hv ha.h hn hdb he hpl⟩
end
section
variable {X : Cx}{W : Wd}{tg l e a b c : Expr}{es : List Expr}{pos p : Pos}{d da db dc dl : DE}{dA di : DA}{fz : Bool}
theorem jdi_seq (hK : X.K = W.K)(hl : JE X W l dl) : JI X W fz tg l (iSeq fz dl) := ⟨di_seq hK hl.h⟩
theorem jdi_range1 (hg : Gl X "range") (hm : X.mg "range" = none) (ha : JA X W [a] dA) (hs : starEach [a] X.env = [(false,eval a X.env)] := by rfl) : JI X W fz tg (.Call (.Name "range" p) [a] [] pos) (iRange1 dA) := ⟨di_range1 hg hm ha.h hs⟩
theorem jdi_zip {elts : List Expr}{c1}{tpos : Pos}(hK : X.K = W.K)(t1 t2 : Bool)(hg : Gl X "zip") (hm : X.mg "zip" = none) (ha : JA X W [a,b] dA)
    (h : PI X (.Tuple elts c1 tpos) (.Call (.Name "zip" p) [a,b] [] pos) (iZip2 W.K t1 t2 (dnA W dA))) : JI X W fz (.Tuple elts c1 tpos) (.Call (.Name "zip" p) [a,b] [] pos) (iZipD fz t1 t2 dA) := ⟨di_zip hK t1 t2 hg hm ha.h h⟩
end
section
variable {X : Cx}{W : Wd}{elt iter tg : Expr}{ifs : List Expr}{scope : Scope}{pos : Pos}{N' : List Str}{map : List (Option Nat)}{g : TG}{gd : D -> Ev -> (Ev -> Prop) -> Prop}{di : DA}{dt : DT}{de : DE}
theorem jde_comp (hG : GD W g gd)(B : Blk X N' scope map tg elt ifs g (dnT W dt) (dn W de))(hi : JI X W false tg iter di)(hs : ∀ x,foldedSetIterable iter X.env x = pure x := by intro _; rfl) : JE X W (.ListComp elt [⟨tg,iter,ifs,0⟩] scope pos) (dComp map gd di dt de) := ⟨de_comp hG B hi.h hs⟩
theorem jdif_nil : JIf X W [] dTrue := ⟨dif_nil ⟩
end
section
variable {X : Cx}{W : Wd}{e a b c tg iter l : Expr}{es : List Expr}{pos p : Pos}{d da db dc dl de : DE}{dA di : DA}{dt : DT}{st : Stmt}{rest sts : List Stmt}{d1 d2 : DS}{t : TS}
theorem jdss_nil : JSs X W [] dNext := ⟨dss_nil ⟩
theorem jdss_one (h : JS X W st d1) : JSs X W [st] d1 := ⟨dss_one h.h⟩
theorem jdss_cons (h1 : JS X W st d1)(h2 : JSs X W rest d2) : JSs X W (st :: rest) (dSeq d1 d2) := ⟨dss_cons h1.h h2.h⟩
theorem jds_ret (he : JE X W e de) : JS X W (.Return (some e) pos) (dRet de) := ⟨ds_ret he.h⟩
theorem jds_expr (he : JE X W e de)(hs : swapsWith e none pos.line X.env = pure false := by rfl) : JS X W (.Expr e pos) (dDrop de) := ⟨ds_expr he.h hs⟩
theorem jds_if {s1 s2 : List Stmt}(hc : JT X W c dt)(ha : JSs X W s1 d1)(hb : JSs X W s2 d2) : JS X W (.If c s1 s2 pos) (dIfS dt d1 d2) := ⟨ds_if hc.h ha.h hb.h⟩
theorem jds_set {i : Nat} {x : Str} {pos' : Pos} (hN : X.N.Nodup) (hi : X.N[i]? = some x) (hx : Loc X.env.scope x) (he : JE X W e de) (hs : swapsWith e (some (.Name x pos')) pos.line X.env = pure false := by rfl) (hf : X.fn x = true \/ X.env.scope.names.lookup x = some .local := by first | exact .inl rfl | exact .inr rfl | assumption) :
    JS X W (.Assign [.Name x pos'] e pos) (dAsg de (gdN i)) := ⟨ds_set hN hi hx he.h hs hf⟩
theorem jds_asg {g : TG}{gd : D -> Ev -> (Ev -> Prop) -> Prop}(hG : GD W g gd)(he : JE X W e de)(hg : PG X tg g)(hs : swapsWithSole [tg] e pos.line X.env = pure false := by rfl)(hw : swappedStores [tg] e X.env = pure none := by rfl)
    (h1 : (assignEach [tg] X.env).map (·.2) = [assign tg X.env] := by rfl) : JS X W (.Assign [tg] e pos) (dAsg de gd) := ⟨ds_asg hG he.h hg hs hw h1⟩
theorem jds_setC {elt iter tg : Expr}{ifs : List Expr}{scope : Scope}{N' : List Str}{map : List (Option Nat)}{g : TG}{gd : D -> Ev -> (Ev -> Prop) -> Prop}(own : Bool){i : Nat}{y : Str}{py spos : Pos}(hN : X.N.Nodup)(hiN : X.N[i]? = some y)(hy : Loc X.env.scope y)(hG : GD W g gd)(B : Blk X N' scope map tg elt ifs g (dnT W dt) (dn W de))(hi : JI X W false tg iter di)
    (hsw : swapsWith (.ListComp elt [⟨tg,iter,ifs,0⟩] scope pos) (some (.Name y py)) spos.line X.env = pure true := by rfl) (hfn : X.fn y = true \/ X.env.scope.names.lookup y = some .local := by first | exact .inl rfl | exact .inr rfl)
    (hs : ∀ x,foldedSetIterable iter X.env x = pure x := by intro _; rfl) : JS X W (.Assign [.Name y py] (.ListComp elt [⟨tg,iter,ifs,0⟩] scope pos) spos) (dSetC own i map gd di dt de) := ⟨ds_setC own hN hiN hy hG B hi.h hsw hfn hs⟩
theorem jds_setI {i : Nat}{x : Str}{n : Expr}{dk : DE}{npos tpos : Pos}(hN : X.N[i]? = some x)(hv : Vis X.env.scope x)(he : JE X W e de)(hk : JE X W n dk)(hg : PG X (.Subscript (.Name x npos) n tpos) (gSub (tVar i) (dn W dk) rSetL))
    (hs : swapsWithSole [.Subscript (.Name x npos) n tpos] e pos.line X.env = pure false := by rfl) (hw : swappedStores [.Subscript (.Name x npos) n tpos] e X.env = pure none := by rfl)
    (h1 : (assignEach [.Subscript (.Name x npos) n tpos] X.env).map (·.2) = [assign (.Subscript (.Name x npos) n tpos) X.env] := by rfl) : JS X W (.Assign [.Subscript (.Name x npos) n tpos] e pos) (dSetI i de dk) := ⟨ds_setI hN hv he.h hk.h hg hs hw h1⟩
theorem jds_for {g : TG}{gd : D -> Ev -> (Ev -> Prop) -> Prop}{db : DS}{body : List Stmt}(hG : GD W g gd)(hp : PassesOwn (model X.prog X.w) X.A X.env X.xe)(hc : X.calm = true)(hi : JI X W true tg iter di)(hg : PG X tg g)(hb : JSs X W body db)
    (hs : ∀ x,foldedSetIterable iter X.env x = pure x := by intro _; rfl) : JS X W (.For tg iter body [] pos) (dFor gd di db) := ⟨ds_for hG hp hc hi.h hg hb.h hs⟩
theorem jds_raise {E : XK}{Ed : Addr -> Prop}{C : Addr}(hE : ELink W E Ed)(h : PS X st (fun _ _ H1 => E (.ref C) none H1)) : JS X W st (dRaise Ed C) := ⟨ds_raise hE h⟩
theorem jds_never : JS X W st dNever := ⟨ds_never ⟩
end
section
variable {X : Cx}{W : Wd}{e a b c tg iter l : Expr}{es : List Expr}{pos p : Pos}{d da db dc dl de : DE}{dA di : DA}{dt : DT}{st : Stmt}{rest sts : List Stmt}{d1 d2 : DS}{t : TS}
theorem jdo_none : JO X W none oNo := ⟨do_none ⟩
theorem jdo_some (h : JE X W e de) : JO X W (some e) (oPt de) := ⟨do_some h.h⟩
theorem jde_slice {lo hi : Option Expr}{dl dh : DO}{p2 : Pos}(hr : SlR X (fun x lo hi H Q => rSlT W.K x lo hi H Q \/ rSlL W.K x lo hi H Q))(he : JE X W e de)(hl : JO X W lo dl)(hu : JO X W hi dh) : JE X W (.Subscript e (.Slice lo hi none p2) pos) (dSl de dl dh) := ⟨de_slice hr he.h hl.h hu.h⟩
theorem jds_bag {spos : Pos}{x f : Str}{k : Nat}{ps : List Str}{pre : List D -> Prop}{i : Nat}{pos' : Pos}(hb0 : W.b0 = none)(hN : X.N.Nodup)(hi : X.N[i]? = some x)(hx : Loc X.env.scope x)(G : Callee X.prog X.w X.K X.mg X.base CX0 f k ps (bagSp W.K W.B pre))(hr : Room k X.A)(hg : Gl X f)(ha : JA X W (e :: es) dA)
    (hdb : (f == ("__debug__" : Str)) = false := by decide) (he : starEach (e :: es) X.env = (false,eval e X.env) :: starEach es X.env := by rfl) (hpl : (backTo pos (starEach es X.env)).any (·.1) = false := by rfl)
    (hs : swapsWith (.Call (.Name f p) (e :: es) [] pos) (some (.Name x pos')) spos.line X.env = pure false := by rfl) (hf : X.fn x = true \/ X.env.scope.names.lookup x = some .local := by first | exact .inl rfl | exact .inr rfl | assumption) :
    JS X W (.Assign [.Name x pos'] (.Call (.Name f p) (e :: es) [] pos) spos) (dBag i pre dA) := ⟨ds_bag hb0 hN hi hx G hr hg ha.h hdb he hpl hs hf⟩
theorem jds_try {N : List Str}{K : PySem.W.Frag}{Ba : Addr}{i : Nat}{th : Addr -> TS}{hd : Addr -> DEnds -> Prop}{db : DS}(Ed : Addr -> Prop)(hHD : HD W N K Ba i th hd)(h : PS X st (tTry N K Ba i (fun E D σ H => ELink W E Ed /\ sn W db D σ H) th)) : JS X W st (dTry db Ed hd) := ⟨ds_try Ed hHD h⟩
end
section
variable {X : Cx}{W : Wd}{a b : Expr}{rest : List Expr}{pos : Pos}{ta tb : DT}
theorem jdt_or (ha : JT X W a ta)(hb : JW X W (.BoolOp .Or (b :: rest) pos) tb) : JT X W (.BoolOp .Or (a :: b :: rest) pos) (dTOr ta tb) := ⟨(dw_or ha.h hb.h).pt⟩
end
theorem blkJ {X : Cx} {W : Wd} {N' : List Str} {scope : Scope} {map : List (Option Nat)} {tg elt : Expr} {ifs : List Expr} {g : TG} {dt : DT} {de : DE} (calm : X.calm = true) (kind : scope.kind = .function) (loc : ∀ x ∈ scope.names,x.2 = .local -> scope.names.lookup x.1 = some .local) (free : (scope.names.all fun p => !(p.2 == NameKind.free) || (X.env.kindOf p.1 == some .cell || X.env.kindOf p.1 == some .free)) = true) (cap : CapOk X scope map N') (keep : GKeep g map)
    (run : ∀ cells C fp s H,PG (cxComp X N' scope cells C fp s H) tg g /\ JIf (cxComp X N' scope cells C fp s H) W ifs dt /\ JE (cxComp X N' scope cells C fp s H) W elt de) : Blk X N' scope map tg elt ifs g (dnT W dt) (dn W de) :=
  ⟨calm,kind,loc,free,cap,keep,fun cells C fp s H _ => ⟨(run cells C fp s H).1,(run cells C fp s H).2.1.h,(run cells C fp s H).2.2.h⟩⟩
theorem Fun.okD {P : Program}{w : World}{K : PySem.W.Frag}{mg : Str -> Option Value}{base : Heap}{x qual : Str}{st : Stmt}{f : Addr}{fd : FuncData}{N ps : List Str}{k : Nat}{B : BagT}{Sd : DSp}(F : Fun K x qual st f fd)(S : FnScope N ps (defScope st))(len : ∀ ds PP Ed,Sd ds PP Ed -> ds.length = ps.length)
    (hbody : ∀ (cdv : Value) (A : Around) (outer : List Env) (s : Shared) (H : Hp) (E : XK) (M : Addr -> Prop) (bg : Option Addr) (ds : List D) (PP : D -> Prop) (Ed : Addr -> Prop),Room k (A.deeper (envOfC qual (defScope st) s.heap.objs.size f cdv)) -> Sd ds PP Ed ->
      ∃ d,JSs (cxOf CX0 P w K mg base N qual (defScope st) f cdv A outer s H E).nox ⟨K,B,H,M,bg⟩ (defBody st) d /\ d { nx := fun _ => PP .non,rt := PP } (startD N ds)) : FnOk P w K mg base CX0 (k + 1) f fd ps (liftSp K B Sd) :=
  F.ok S (liftSp.len len) fun cdv A outer s H vs Q E hr h => by
    obtain ⟨M,bg,ds,PP,Ed,hS,hR,ho,hb,hd,hq,hx⟩ := h
    obtain ⟨d,J,q⟩ := hbody cdv A outer s H E M bg ds PP Ed hr hS
    exact ⟨_,J.h,run hR ho hb hd hq q⟩
theorem Fun.okDX {P : Program}{w : World}{K : PySem.W.Frag}{mg : Str -> Option Value}{base : Heap}{CX : CXT}{x qual : Str}{st : Stmt}{f : Addr}{fd : FuncData}{N ps : List Str}{k : Nat}{B : BagT}{Sd : DSp}(F : Fun K x qual st f fd)(S : FnScope N ps (defScope st))(len : ∀ ds PP Ed,Sd ds PP Ed -> ds.length = ps.length)
    (hbody : ∀ (cdv : Value) (A : Around) (outer : List Env) (s : Shared) (H : Hp) (E : XK) (M : Addr -> Prop) (bg : Option Addr) (ds : List D) (PP : D -> Prop) (Ed : Addr -> Prop),Room k (A.deeper (envOfC qual (defScope st) s.heap.objs.size f cdv)) -> ELink ⟨K,B,H,M,bg⟩ E Ed -> Sd ds PP Ed ->
      ∃ d,JSs (cxOf CX P w K mg base N qual (defScope st) f cdv A outer s H E) ⟨K,B,H,M,bg⟩ (defBody st) d /\ d { nx := fun _ => PP .non,rt := PP } (startD N ds)) : FnOk P w K mg base CX (k + 1) f fd ps (liftSp K B Sd) :=
  F.okX S (liftSp.len len) fun cdv A outer s H vs Q E hr h => by
    obtain ⟨M,bg,ds,PP,Ed,hS,hR,ho,hb,hd,hq,hx⟩ := h
    obtain ⟨d,J,q⟩ := hbody cdv A outer s H E M bg ds PP Ed hr (fun C H' e k o => hx C H' e k o) hS
    exact ⟨_,J.h,run hR ho hb hd hq q⟩
end L2
set_option Elab.async false
set_option linter.all false
set_option maxRecDepth 100000
set_option maxHeartbeats 4000000
namespace L2
open PySem PySem.Spec PyProof.Rows
mutual
def pyOf : D -> Option PyData
  | .non => some .none
  | .bl b => some (.bool b)
  | .int i => some (.int i)
  | .str x => if PyData.strOk x then some (.str x) else none
  | .tup xs => (pysOf xs).map .tuple
  | .lst xs => (pysOf xs).map .list
  | .own xs => (pysOf xs).map .list
  | .ty _ => none
  | .adr _ => none
  | .bag => none
  | .frg _ d => pyOf d
  | .scr _ => none
  | .dct _ _ _ => none
def pysOf : List D -> Option (List PyData)
  | [] => some []
  | d :: ds => (pyOf d).bind fun p => (pysOf ds).map (p :: ·)
end
mutual
theorem pyOf.lay : ∀ (d : D) (p : PyData),pyOf d = some p -> p.canLay0 = true
  | .non,p,h => by cases h; rfl
  | .bl b,p,h => by cases h; rfl
  | .int i,p,h => by cases h; rfl
  | .str x,p,h => by
    unfold pyOf at h
    split at h
    · cases h; unfold PyData.canLay0; assumption
    · cases h
  | .tup xs,p,h => by
    unfold pyOf at h
    obtain ⟨ps,e,rfl⟩ := Option.map_eq_some_iff.mp h
    unfold PyData.canLay0
    exact pysOf.lay xs ps e
  | .lst xs,p,h => by
    unfold pyOf at h
    obtain ⟨ps,e,rfl⟩ := Option.map_eq_some_iff.mp h
    unfold PyData.canLay0
    exact pysOf.lay xs ps e
  | .own xs,p,h => by
    unfold pyOf at h
    obtain ⟨ps,e,rfl⟩ := Option.map_eq_some_iff.mp h
    unfold PyData.canLay0
    exact pysOf.lay xs ps e
  | .ty _,p,h => by unfold pyOf at h; cases h
  | .adr _,p,h => by unfold pyOf at h; cases h
  | .bag,p,h => by unfold pyOf at h; cases h
  | .frg _ d,p,h => by unfold pyOf at h; exact pyOf.lay d p h
  | .scr _,p,h => by unfold pyOf at h; cases h
  | .dct _ _ _,p,h => by unfold pyOf at h; cases h
theorem pysOf.lay : ∀ (ds : List D) (ps : List PyData),pysOf ds = some ps -> PyData.canLayAll0 ps = true
  | [],ps,h => by cases h; rfl
  | d :: ds,ps,h => by
    unfold pysOf at h
    obtain ⟨p,e1,h⟩ := Option.bind_eq_some_iff.mp h
    obtain ⟨qs,e2,rfl⟩ := Option.map_eq_some_iff.mp h
    unfold PyData.canLayAll0
    rw [pyOf.lay d p e1,pysOf.lay ds qs e2]; rfl
end
section
variable {X : Cx}{pins : List (Addr × Obj)}{σ : St}{H : Hp}{s : Shared}{M : Addr -> Prop}
mutual
theorem rep_reads (I : Inv X pins σ H s) : ∀ (d : D) (v : V) (u : Value) (p : PyData),Rep X.K M H d v -> RelV v u -> pyOf d = some p -> ∃ as,Reads s.heap u p as
  | .non,v,u,p,r,q,h => by cases h; cases (show _ = _ from r); cases (show u = Value.none from q); exact ⟨_,.none⟩
  | .bl b,v,u,p,r,q,h => by cases h; cases (show _ = _ from r); cases (show u = Value.bool b from q); exact ⟨_,.bool _⟩
  | .int i,v,u,p,r,q,h => by
    cases h; cases (show _ = _ from r)
    obtain ⟨t,rfl⟩ := (show ∃ t,u = Value.int i t from q)
    exact ⟨_,.int _ _⟩
  | .str x,v,u,p,r,q,h => by
    unfold pyOf at h
    split at h
    · cases h; cases (show _ = _ from r)
      obtain ⟨t,rfl⟩ := (show ∃ t,u = Value.str x t from q)
      exact ⟨_,.str _ _⟩
    · cases h
  | .tup xs,v,u,p,r,q,h => by
    unfold pyOf at h
    obtain ⟨ps,e,rfl⟩ := Option.map_eq_some_iff.mp h
    obtain ⟨a,vs,rfl,z,rs⟩ := r
    cases (show u = Value.ref a from q)
    obtain ⟨its,r1,⟨o,h1,h2,n,h3⟩,_⟩ := I.tuple z.sq
    obtain ⟨as,ra⟩ := reps_reads I xs vs its ps rs r1 e
    exact ⟨as,.tuple h1 h2 h3 (by simpa using ra)⟩
  | .lst xs,v,u,p,r,q,h => by
    unfold pyOf at h
    obtain ⟨ps,e,rfl⟩ := Option.map_eq_some_iff.mp h
    obtain ⟨a,vs,rfl,z,rs⟩ := r
    cases (show u = Value.ref a from q)
    obtain ⟨its,r1,⟨o,n,h1,h2,_,h3⟩,_⟩ := I.list (SqL.of z.2)
    obtain ⟨as,ra⟩ := reps_reads I xs vs its ps rs r1 e
    exact ⟨a :: as,.list h1 h2 h3 (by simpa using ra)⟩
  | .own xs,v,u,p,r,q,h => r.elim
  | .ty _,_,_,p,_,_,h => by unfold pyOf at h; cases h
  | .adr _,_,_,p,_,_,h => by unfold pyOf at h; cases h
  | .bag,_,_,p,_,_,h => by unfold pyOf at h; cases h
  | .frg _ _,_,_,p,r,_,h => r.elim
  | .scr _,_,_,p,_,_,h => by unfold pyOf at h; cases h
  | .dct _ _ _,_,_,p,_,_,h => by unfold pyOf at h; cases h
theorem reps_reads (I : Inv X pins σ H s) : ∀ (ds : List D) (vs : List V) (us : List Value) (ps : List PyData),Reps X.K M H ds vs -> Vals vs us -> pysOf ds = some ps -> ∃ as,ReadsAll s.heap us ps as
  | [],vs,us,ps,r,q,h => by
    cases h
    cases (show vs = [] from r)
    cases q
    exact ⟨[],.nil⟩
  | d :: ds,vs,us,ps,r,q,h => by
    unfold pysOf at h
    obtain ⟨p,e1,h⟩ := Option.bind_eq_some_iff.mp h
    obtain ⟨qs,e2,rfl⟩ := Option.map_eq_some_iff.mp h
    obtain ⟨v,rv,rfl,r1,r2⟩ := r
    cases q with
    | cons q1 q2 =>
      obtain ⟨as,a1⟩ := rep_reads I d v _ p r1 q1 e1
      obtain ⟨bs,a2⟩ := reps_reads I ds rv _ qs r2 q2 e2
      exact ⟨as ++ bs,.cons a1 a2⟩
end
end
def RepG (K : PySem.W.Frag)(M : Addr -> Prop)(H : Hp) : D -> V -> Prop
  | .own xs,v => ∃ a vs,v = .ref a /\ H a = some (.lst vs) /\ Reps K M H xs vs
  | .frg _ d,v => ∃ M',Rep K M' H d v
  | d,v => Rep K M H d v
theorem RepX.g {W : Wd}{M : Addr -> Prop}{b : Option Addr}{H : Hp}{d : D}{v : V}{p : PyData}(h : RepX W M b H d v)(e : pyOf d = some p) : RepG W.K M H d v := by
  cases d
  case own xs => obtain ⟨a,vs,rfl,_,_,_,_,hh,r⟩ := h; exact ⟨a,vs,rfl,hh,r⟩
  case bag => unfold pyOf at e; cases e
  case frg f d => exact ⟨_,h.2.2⟩
  all_goals exact h
theorem repG_reads {X : Cx}{pins : List (Addr × Obj)}{σ : St}{H : Hp}{s : Shared}{M : Addr -> Prop}(I : Inv X pins σ H s){d : D}{v : V}{u : Value}{p : PyData}(r : RepG X.K M H d v)(q : RelV v u)(h : pyOf d = some p) : ∃ as,Reads s.heap u p as := by
  cases d
  case own xs =>
    obtain ⟨a,vs,rfl,hh,r⟩ := r
    unfold pyOf at h
    obtain ⟨ps,e,rfl⟩ := Option.map_eq_some_iff.mp h
    cases (show u = Value.ref a from q)
    obtain ⟨its,r1,⟨o,n,h1,h2,_,h3⟩,_⟩ := I.list (SqL.of hh)
    obtain ⟨as,ra⟩ := reps_reads I xs vs its ps r r1 e
    exact ⟨a :: as,.list h1 h2 h3 (by simpa using ra)⟩
  case frg f d =>
    obtain ⟨M',r⟩ := r
    exact rep_reads (M := M') I d _ _ _ r q (by unfold pyOf at h; exact h)
  all_goals exact rep_reads I _ _ _ _ r q h
def rEqG (K : PySem.W.Frag)(neg : Bool) : R2 := fun x y H Q => ∃ M dx dy p q,RepG K M H dx x /\ RepG K M H dy y /\ pyOf dx = some p /\ pyOf dy = some q /\ min p.depth q.depth <= 60 /\ Q (.bl (PyData.eqv p q != neg)) H
theorem op_eqG {X : Cx}(K : PySem.W.Frag)(hK : X.K = K)(hu : X.A.units + 64 < cLine) : OpR X (compareOp .Eq) (rEqG K false) := by
  subst hK
  intro pins s σ H x y v u Q I rx ry h
  obtain ⟨M,dx,dy,p,q,r1,r2,e1,e2,hd,hq⟩ := h
  obtain ⟨as,a1⟩ := repG_reads I r1 rx e1
  obtain ⟨bs,a2⟩ := repG_reads I r2 ry e2
  refine SeqAt.compareEq_reads a1 a2 (pyOf.lay _ _ e1) (pyOf.lay _ _ e2) (by omega) ?_
  exact ⟨.bl _,H,I,rfl,by simpa using hq⟩
theorem op_neG {X : Cx}(K : PySem.W.Frag)(hK : X.K = K)(hu : X.A.units + 64 < cLine) : OpR X (compareOp .NotEq) (rEqG K true) := by
  subst hK
  intro pins s σ H x y v u Q I rx ry h
  obtain ⟨M,dx,dy,p,q,r1,r2,e1,e2,hd,hq⟩ := h
  obtain ⟨as,a1⟩ := repG_reads I r1 rx e1
  obtain ⟨bs,a2⟩ := repG_reads I r2 ry e2
  refine SeqAt.compareNe_reads a1 a2 (pyOf.lay _ _ e1) (pyOf.lay _ _ e2) (by omega) ?_
  exact ⟨.bl _,H,I,rfl,by simpa using hq⟩
inductive EqG (neg : Bool)(x y : D)(P : D -> Prop) : Prop
  | mk (p q : PyData) (e1 : pyOf x = some p) (e2 : pyOf y = some q) (hd : min p.depth q.depth <= 60) (h : P (.bl (PyData.eqv p q != neg))) : EqG neg x y P
def oEqG (neg : Bool) : D -> D -> (D -> Prop) -> Prop := fun x y P => EqG neg x y P
theorem od_eqG {W : Wd}{neg : Bool} : OpD W (rEqG W.K neg) (oEqG neg) := by
  intro M b H x y v u P Q hs rx ry ho k
  obtain ⟨p,q,e1,e2,hd,hp⟩ := ho
  exact ⟨M,x,y,p,q,rx.g e1,ry.g e2,e1,e2,hd,k _ _ H hp (show _ = _ from rfl) (Kp.refl _ _) hs.ok⟩
end L2
set_option Elab.async false
set_option linter.all false
set_option maxRecDepth 100000
set_option maxHeartbeats 4000000
namespace L2
open PySem PySem.Spec PyProof.Rows
end L2
set_option Elab.async false
set_option linter.all false
set_option maxRecDepth 100000
set_option maxHeartbeats 4000000
namespace L2
open PySem PySem.Spec PyProof.Rows
section
variable {X : Cx}{W : Wd}{e a b c tg iter l : Expr}{es : List Expr}{pos p : Pos}{d da db dc dl de : DE}{dA di : DA}{dt : DT}{fz : Bool}{x : Str}{k : Nat}{ps : List Str}{S : DSp}
def flatD : D -> Bool
  | .non => true
  | .bl _ => true
  | .int _ => true
  | .str _ => true
  | _ => false
end
end L2
set_option Elab.async false
set_option linter.all false
set_option maxRecDepth 100000
set_option maxHeartbeats 4000000
namespace L2
open PySem PySem.Spec PyProof.Rows
abbrev DSO := List D -> (List D -> Prop) -> (Addr -> Prop) -> Prop
def liftSpO (K : PySem.W.Frag)(B : BagT)(S : DSO) : Sp := fun vs H Q E => ∃ (M : Addr -> Prop) (b : Option Addr) (ds : List D) (P : List D -> Prop) (Ed : Addr -> Prop),S ds P Ed /\ RepAs K M b H ds vs /\ okB B b H /\ (∀ p,b = some p -> M p) /\ (∀ c,M c -> ∃ o,H c = some o) /\
  (∀ xs a us H',P xs -> H a = none -> H' a = some (.lst us) -> Reps K (fun c => M c \/ c = a) H' xs us -> Kp b H H' -> okB B b H' -> Q (.ref a) H') /\ ∀ C H',Ed C -> Kp b H H' -> okB B b H' -> E (.ref C) none H'
theorem liftSpO.len {K : PySem.W.Frag}{B : BagT}{S : DSO}{n : Nat}(h : ∀ ds P Ed,S ds P Ed -> ds.length = n) : ∀ vs H Q E,liftSpO K B S vs H Q E -> vs.length = n := fun vs H Q E ⟨M,b,ds,P,Ed,hS,hr,_⟩ => by rw [hr.length]; exact h _ _ _ hS
section
variable {X : Cx}{W : Wd}{e a b c tg iter l : Expr}{es : List Expr}{pos p : Pos}{d da db dc dl de : DE}{dA di : DA}{dt : DT}{fz : Bool}{x : Str}{k : Nat}{ps : List Str}{S : DSO}
section
variable {K : PySem.W.Frag}{M M' : Addr -> Prop}{H : Hp}
end
def BorAt : List D -> List V -> Addr -> Prop
  | .own _ :: ds,v :: vs,c => v = .ref c \/ BorAt ds vs c
  | .frg f _ :: ds,_ :: vs,c => c ∈ f.ads \/ BorAt ds vs c
  | _ :: ds,_ :: vs,c => BorAt ds vs c
  | _,_,_ => False
theorem BorAt.lst {M : Addr -> Prop}{b : Option Addr}{H : Hp}{c : Addr} : ∀ (ds : List D) (vs : List V),RepXs W M b H ds vs -> BorAt ds vs c -> b ≠ some c /\ ∃ o,H c = some o /\ ∀ vs,o ≠ .tup vs
  | [],vs,h,q => by cases (show vs = [] from h); exact q.elim
  | d :: ds,vs,h,q => by
    obtain ⟨v,r,rfl,h1,h2⟩ := h
    cases d
    case own xs =>
      rcases q with z | z
      · obtain ⟨a,us,e,m1,m2,m3,m4,hh,r'⟩ := h1
        rw [z] at e; cases e
        exact ⟨m2,_,hh,fun _ y => by cases y⟩
      · exact BorAt.lst ds r h2 z
    case frg f d =>
      rcases q with z | z
      · exact ⟨(h1.1 c z).2.1,f.nt _ _ _ h1.2.1 c z⟩
      · exact BorAt.lst ds r h2 z
    all_goals exact BorAt.lst ds r h2 q
end
end L2
set_option Elab.async false
set_option linter.all false
set_option maxRecDepth 100000
set_option maxHeartbeats 4000000
namespace L2
open PySem PySem.Spec PyProof.Rows
end L2
set_option Elab.async false
set_option linter.all false
set_option maxRecDepth 100000
set_option maxHeartbeats 4000000
namespace L2
open PySem PySem.Spec PyProof.Rows
section
variable {X : Cx}{W : Wd}{e a b st : Expr}{pos : Pos}{d da db de ds : DE}{dA : DA}
end
end L2
set_option Elab.async false
set_option linter.all false
set_option maxRecDepth 100000
set_option maxHeartbeats 4000000
namespace L2
open PySem PySem.Spec PyProof.Rows
theorem HT.cat_tup0 {prog : Program}{w : World}{A : Around}{E : Value -> Shared -> Prop}{s : Shared}{t b : Addr}{ws : List Value}{Q : Value -> Shared -> Prop}(ht : IsTup s.heap t ([] : List Value).toArray)(hb : IsTup s.heap b ws.toArray)(h1 : Q (.ref b) s) : wpAny (model prog w) A (binaryOp .Add (.ref t) (.ref b)) Q E s := by
  obtain ⟨⟨cls,dd,data,sl⟩,ho,hc,n,hd⟩ := id ht
  obtain ⟨⟨cls2,dd2,data2,sl2⟩,ho2,hc2,n2,hd2⟩ := id hb
  simp only at hc hd hc2 hd2
  subst hc hd hc2 hd2
  exact concat_meets ⟨_,ho,rfl⟩ ⟨_,ho2,rfl⟩ noFill_tuple_add seq_tuple_add PySem.F.slot_tuple_add PySem.F.entry_tuple_add (PySem.F.args_tuple_add_2 _ _)
    (tuple_addW0 t b _ ws.toArray n n2 dd dd2 sl sl2 rfl) ⟨ho,ho2,h1⟩
def rCatTA (K : PySem.W.Frag) : R2 := fun x y H Q => (∃ a b ys,x = .ref a /\ y = .ref b /\ SqT K H a [] /\ SqT K H b ys /\ Q (.ref b) H) \/ rCatT K x y H Q
theorem op_catTA {X : Cx}(K : PySem.W.Frag)(h : X.K = K) : OpR X (binaryOp .Add) (rCatTA K) := by
  subst h
  intro pins s σ H x y v u Q I rx ry h
  rcases h with ⟨a,b,ys,rfl,rfl,ha,hb,q⟩ | h
  · cases rx
    cases ry
    obtain ⟨its,r1,p1,_⟩ := I.tuple ha
    obtain ⟨its2,r2,p2,_⟩ := I.tuple hb
    cases r1
    exact HT.cat_tup0 p1 p2 ⟨.ref b,H,I,rfl,q⟩
  · exact op_catT pins s σ H x y v u Q I rx ry h
def oCatTA : D -> D -> (D -> Prop) -> Prop
  | .tup xs,.tup ys,P => xs.length + ys.length <= 1000 /\ P (.tup (xs ++ ys))
  | _,_,_ => False
theorem od_catTA {W : Wd} : OpD W (rCatTA W.K) oCatTA := by
  intro M b H x y v u P Q hs rx ry ho k
  cases x <;> first | exact ho.elim | skip
  cases y <;> first | exact ho.elim | skip
  rename_i xs ys
  have rx0 := rx
  have ry0 := ry
  obtain ⟨a1,vs,rfl,h1,r1⟩ := rx
  obtain ⟨a2,us,rfl,h2,r2⟩ := ry
  obtain ⟨hl,hp⟩ := ho
  by_cases n1 : xs = []
  · subst n1
    cases (show vs = [] from r1)
    exact .inl ⟨a1,a2,us,rfl,rfl,h1.sq,h2.sq,k _ _ H hp ry0 (Kp.refl _ _) hs.ok⟩
  · refine .inr ⟨a1,a2,vs,us,rfl,rfl,h1.sq,h2.sq,r1.ne n1,by rw [r1.length,r2.length]; exact Nat.le_trans hl le1000,fun z => ?_,fun _ p hp' => k _ _ _ hp (new_tup hs (Reps.append r1 r2) hp') (Kp.upd hp') (hs.okU hp')⟩
    have : ys = [] := by
      have := r2.length
      rw [z] at this
      exact List.length_eq_zero_iff.mp this.symm
    subst this
    rw [List.append_nil] at hp
    exact k _ _ H hp rx0 (Kp.refl _ _) hs.ok
section
variable {X : Cx}{W : Wd}{pos : Pos}{de : DE}{di : DA}{dt : DT}
end
end L2
set_option Elab.async false
set_option linter.all false
set_option maxRecDepth 100000
set_option maxHeartbeats 4000000
namespace L2
open PySem PySem.Spec PyProof.Rows
section
variable {X : Cx}{W : Wd}{e a b c tg iter l : Expr}{es : List Expr}{pos p : Pos}{d da db dc dl de : DE}{dA di : DA}{dt : DT}{fz : Bool}{x : Str}{k : Nat}{ps : List Str}{S : DSO}
end
section
variable {X : Cx}{W : Wd}{tg : Expr}{pos npos : Pos}
end
end L2
set_option Elab.async false
set_option linter.all false
set_option maxRecDepth 100000
set_option maxHeartbeats 4000000
namespace L2
open PySem PySem.Spec PyProof.Rows
section
variable {prog : Program}{w : World}{A : Around}{E : Value -> Shared -> Prop}{s : Shared}{l : Addr}{xs : Array (Int × Tok)}
end
section
variable {X : Cx}
end
section
variable {W : Wd}
end
end L2
set_option Elab.async false
set_option linter.all false
set_option maxRecDepth 100000
set_option maxHeartbeats 4000000
namespace L2
open PySem PySem.Spec PyProof.Rows
section
variable {X : Cx}{W : Wd}{pos : Pos}{dA : DA}
end
section
variable {X : Cx}{W : Wd}{a b : Expr}{pos : Pos}{da db : DE}
def dOwnCat (i : Nat)(da db : DE) : DS := fun F ρ => da ρ fun x => db ρ fun y => match asL x,asL y with
  | some xs,some ys => xs.length + ys.length <= 1000 /\ F.nx (ρ.set i (some (.own (xs ++ ys))))
  | _,_ => False
theorem jds_ownCat {i : Nat} {x : Str} {pos' opos : Pos} (hN : X.N.Nodup) (hi : X.N[i]? = some x) (hx : Loc X.env.scope x) (ha : JE X W a da) (hb : JE X W b db) (h : PE X (.BinOp a .Add b opos) (tOp rCat (dn W da) (dn W db))) (hs : swapsWith (.BinOp a .Add b opos) (some (.Name x pos')) pos.line X.env = pure false := by rfl) (hf : X.fn x = true \/ X.env.scope.names.lookup x = some .local := by first | exact .inl rfl | exact .inr rfl | assumption) :
    JS X W (.Assign [.Name x pos'] (.BinOp a .Add b opos) pos) (dOwnCat i da db) := ⟨(ps_set hN hi hx h hs hf).mono fun E σ H hh => hh.elim fun pn M b ρ F s l h => by
  refine ⟨pn,M,b,ρ,_,s.toSta,h,fun x v H1 hx rx k1 o1 => ?_⟩
  refine ⟨pn,M,b,ρ,_,s.toSta.step k1 o1,hx,fun y u H2 hy ry k2 o2 => ?_⟩
  have s2 := (s.step k1 o1).step k2 o2
  have rx := rx.step s.bagM k2
  split at hy
  case h_2 => exact hy.elim
  case h_1 xs ys e1 e2 =>
    obtain ⟨a1,vs,rfl,h1,r1⟩ := asL.rep rx e1
    obtain ⟨a2,us,rfl,h2,r2⟩ := asL.rep ry e2
    exact ⟨a1,a2,vs,us,rfl,rfl,h1,h2,by rw [r1.length,r2.length]; exact Nat.le_trans hy.1 le1000,fun p hp => l.nx _ _ _ _ _ (s2.newOwn i (Reps.append r1 r2) hp) hy.2⟩⟩
end
end L2
set_option Elab.async false
set_option linter.all false
set_option maxRecDepth 100000
set_option maxHeartbeats 4000000
namespace L2
open PySem PySem.Spec PyProof.Rows
section
variable {κ : Type}[DecidableEq κ]
def valV (kvs : List (κ × V))(k : κ) : Option V := (kvs.find? fun kv => decide (kv.1 = k)).map (·.2)
def putK (kvs : List (κ × V))(k : κ)(v : V) : List (κ × V) :=
  if (kvs.any fun kv => decide (kv.1 = k)) = true then kvs.map (fun kv => if kv.1 = k then (kv.1,v) else kv) else kvs ++ [(k,v)]
theorem KV.any {kvs : List (κ × V)}{vs : List (κ × Value)}(r : KV kvs vs)(k : κ) : (kvs.any fun kv => decide (kv.1 = k)) = vs.any fun kv => decide (kv.1 = k) := by
  unfold KV at r
  induction r with
  | nil => rfl
  | cons h t ih => rw [List.any_cons,List.any_cons,ih,h.1]
theorem KV.length {kvs : List (κ × V)}{vs : List (κ × Value)}(r : KV kvs vs) : kvs.length = vs.length := Paired.length r
end
abbrev KT (H : Hp) : List (List Key × V) -> List (List Key × Addr × Value) -> Prop := Paired fun p q => p.1 = q.1 /\ H q.2.1 = some (.tup (p.1.map kV)) /\ RelV p.2 q.2.2
section
variable {P : Program}{w : World}{H : Hp}{h : Heap}{a : Addr}
end
def DGet (H : Hp)(a : Addr)(y : V)(r : Option V) : Prop :=
  (∃ kvs k,Rd H a (.dK kvs) /\ y = kV k /\ r = valV kvs k) \/ ∃ kvs k b,Rd H a (.dT kvs) /\ y = .ref b /\ H b = some (.tup (k.map kV)) /\ r = valV kvs k
def DPut (H : Hp)(a : Addr)(y v : V)(H' : Hp) : Prop :=
  (∃ kvs k,H a = some (.dK kvs) /\ y = kV k /\ kvs.length < sizeLine /\ H' = upd H a (.dK (putK kvs k v))) \/
  ∃ kvs k b,H a = some (.dT kvs) /\ y = .ref b /\ H b = some (.tup (k.map kV)) /\ kvs.length < sizeLine /\ H' = upd H a (.dT (putK kvs k v))
theorem DGet.k {H : Hp}{a : Addr}{kvs : List (Key × V)}{k : Key}(e : H a = some (.dK kvs)) : DGet H a (kV k) (valV kvs k) := .inl ⟨kvs,k,.inl e,rfl,rfl⟩
theorem DGet.t {H : Hp}{a b : Addr}{kvs : List (List Key × V)}{k : List Key}(e : H a = some (.dT kvs))(eb : H b = some (.tup (k.map kV))) : DGet H a (.ref b) (valV kvs k) := .inr ⟨kvs,k,b,.inl e,rfl,eb,rfl⟩
theorem DPut.k {H : Hp}{a : Addr}{kvs : List (Key × V)}{k : Key}{v : V}(e : H a = some (.dK kvs))(hl : kvs.length < sizeLine) : DPut H a (kV k) v (upd H a (.dK (putK kvs k v))) := .inl ⟨kvs,k,e,rfl,hl,rfl⟩
theorem DPut.t {H : Hp}{a b : Addr}{kvs : List (List Key × V)}{k : List Key}{v : V}(e : H a = some (.dT kvs))(eb : H b = some (.tup (k.map kV)))(hl : kvs.length < sizeLine) :
    DPut H a (.ref b) v (upd H a (.dT (putK kvs k v))) := .inr ⟨kvs,k,b,e,rfl,eb,hl,rfl⟩
section
variable {X : Cx}{pins : List (Addr × Obj)}{σ : St}{H : Hp}{s : Shared}{a : Addr}{y v : V}{u r : Value}{o : Option V}{A : Around}{E : Value -> Shared -> Prop}
end
section
variable {X : Cx}{pins : List (Addr × Obj)}{σ : St}{H : Hp}{s : Shared}{a : Addr}{kvs : List (Key × V)}{k : Key}{u : Value}{A : Around}{E : Value -> Shared -> Prop}
end
section
variable {X : Cx}{o i e value : Expr}{pos pos' tpos : Pos}{td ty tv : TE}
end
section
variable {X : Cx}{pos : Pos}
end
structure M2 (X : Cx)(o : Expr)(m : Str)(apos : Pos)(e f : Expr)(cpos : Pos) : Prop where
  base : attributeBase o m X.env (eval o X.env) = eval o X.env
  few : ((backTo cpos (starEach [e,f] X.env)).all (fun x => !x.1) && (backToKw cpos (keywordEach [] X.env)).all (fun x => x.1.isSome)
    && decide (([e,f] : List Expr).length + ([] : List Keyword).length + (if ([] : List Keyword).isEmpty then 0 else 1) < 30)) = true
  line : (apos.endLine == cpos.line) = true
  trees : backTo cpos (starEach [e,f] X.env) = [(false,eval e X.env),(false,eval f X.env)]
section
variable {X : Cx}{pins : List (Addr × Obj)}{σ : St}{H : Hp}{s : Shared}{a : Addr}{y d : V}{u r : Value}{o : Option V}{A : Around}{E : Value -> Shared -> Prop}
end
section
variable {X : Cx}{o e f : Expr}{apos cpos : Pos}{td ty tx : TE}
end
section
variable {X : Cx}{pins : List (Addr × Obj)}{σ : St}{H : Hp}{s : Shared}{a : Addr}{kvs : List (Key × V)}{A : Around}{E : Value -> Shared -> Prop}
end
section
variable {X : Cx}{pins : List (Addr × Obj)}{σ : St}{H : Hp}{s : Shared}{a : Addr}{y : V}{u : Value}{A : Around}{E : Value -> Shared -> Prop}
end
end L2
set_option Elab.async false
set_option linter.all false
set_option maxRecDepth 100000
set_option maxHeartbeats 4000000
namespace L2
open PySem PySem.Spec PyProof.Rows
section
variable {X : Cx}{pins : List (Addr × Obj)}{σ : St}{H : Hp}{s : Shared}{a b : Addr}{v : V}{u r : Value}{A : Around}{E : Value -> Shared -> Prop}
end
end L2
set_option Elab.async false
set_option linter.all false
set_option maxRecDepth 100000
set_option maxHeartbeats 4000000
namespace L2
open PySem PySem.Spec PyProof.Rows
abbrev Ens := List (List Int × Addr × Value)
section
variable {X : Cx}{pins : List (Addr × Obj)}{σ : St}{H : Hp}{s : Shared}{a b : Addr}{es : Ens}{ep : Nat}{ns : List Int}
end
section
variable {X : Cx}{pins : List (Addr × Obj)}{σ : St}{H : Hp}{s : Shared}{a b : Addr}{es : Ens}{ep : Nat}{ns : List Int}{A : Around}{E : Value -> Shared -> Prop}{r : Value}
end
end L2
set_option Elab.async false
set_option linter.all false
set_option maxRecDepth 100000
set_option maxHeartbeats 4000000
namespace L2
open PySem PySem.Spec PyProof.Rows
section
variable {X : Cx}{W : Wd}{e f : Expr}{es : List Expr}{pos : Pos}{dA : DA}{df : DE}
end
end L2
set_option Elab.async false
set_option linter.all false
set_option maxRecDepth 100000
set_option maxHeartbeats 4000000
namespace L2
open PySem PySem.Spec PyProof.Rows
section
variable {X : Cx}{W : Wd}{tg e : Expr}{pos : Pos}{dA : DA}
end
section
variable {X : Cx}{W : Wd}{e : Expr}{pos : Pos}{dA : DA}
end
end L2
set_option Elab.async false
set_option linter.all false
set_option maxRecDepth 100000
set_option maxHeartbeats 4000000
namespace L2
open PySem PySem.Spec PyProof.Rows
def idMap : Nat -> List (Option Nat) -> Bool
  | _,[] => true
  | n,none :: m => idMap (n + 1) m
  | n,some i :: m => (i == n) && idMap (n + 1) m
def subMap : List (Option Nat) -> List (Option Nat) -> Bool
  | [],[] => true
  | none :: m,_ :: n => subMap m n
  | some _ :: m,some _ :: n => subMap m n
  | _,_ => false
structure Blk2 (X : Cx)(N' : List Str)(scope : Scope)(map mp2 : List (Option Nat))(tg tg2 iter2 elt : Expr)(ifs : List Expr)(g : TG)(wi2 : TI)(g2 : TG)(tt : TT)(te : TE) : Prop where
  calm : X.calm = true
  kind : scope.kind = .function
  loc : ∀ x ∈ scope.names,x.2 = .local -> scope.names.lookup x.1 = some .local
  free : (scope.names.all fun p => !(p.2 == NameKind.free) || (X.env.kindOf p.1 == some .cell || X.env.kindOf p.1 == some .free)) = true
  cap : CapOk X scope map N'
  keep : GKeep g map
  keep2 : GKeep g2 mp2
  ids : idMap 0 mp2 = true
  sub : subMap map mp2 = true
  fold : ∀ env x,foldedSetIterable iter2 env x = pure x
  run : ∀ cells C fp s H,PG (cxComp X N' scope cells C fp s H).nox tg g /\ PI (cxComp X N' scope cells C fp s H).nox tg2 iter2 wi2 /\ PG (cxComp X N' scope cells C fp s H).nox tg2 g2 /\ PIf (cxComp X N' scope cells C fp s H).nox ifs tt /\ PE (cxComp X N' scope cells C fp s H).nox elt te
section
variable {X : Cx}{elt iter tg tg2 iter2 : Expr}{ifs : List Expr}{scope : Scope}{pos : Pos}{N' : List Str}{map mp2 : List (Option Nat)}{wi wi2 : TI}{g g2 : TG}{tt : TT}{te : TE}
theorem Blk2.one (B : Blk2 X N' scope map mp2 tg tg2 iter2 elt ifs g wi2 g2 tt te) : Blk X N' scope map tg elt ifs (fun _ _ _ _ => False) (fun _ _ _ => False) (fun _ _ _ => False) :=
  ⟨B.calm,B.kind,B.loc,B.free,B.cap,fun _ _ _ _ z => z.elim,fun _ _ _ _ _ _ => ⟨fun _ _ _ _ _ _ _ _ _ z => z.elim,fun _ _ _ _ _ _ z => z.elim,fun _ _ _ _ _ _ z => z.elim⟩⟩
end
end L2
set_option Elab.async false
set_option linter.all false
set_option maxRecDepth 100000
set_option maxHeartbeats 4000000
namespace L2
open PySem PySem.Spec PyProof.Rows
section
variable {X : Cx}{W : Wd}{elt iter tg tg2 iter2 : Expr}{ifs : List Expr}{scope : Scope}{pos : Pos}{N' : List Str}{map mp2 : List (Option Nat)}{g g2 : TG}{gd gd2 : D -> Ev -> (Ev -> Prop) -> Prop}{di di2 : DA}{dt : DT}{de : DE}
end
end L2
set_option Elab.async false
set_option linter.all false
set_option maxRecDepth 100000
set_option maxHeartbeats 4000000
namespace L2
open PySem PySem.Spec PyProof.Rows
section
variable {X : Cx}{W : Wd}{c : Expr}{dc : DT}{db : DS}{body : List Stmt}{pos : Pos}
end
end L2
set_option Elab.async false
set_option linter.all false
set_option maxRecDepth 100000
set_option maxHeartbeats 4000000
namespace L2
open PySem PySem.Spec PyProof.Rows
section
variable {X : Cx}{W : Wd}{c : Expr}{cs es : List Expr}{pos p pos' p' : Pos}{dC dA : DA}{x f : Str}{k k' : Nat}{ps ps' : List Str}{S : DSp}{pre : List D -> Prop}
end
end L2
set_option Elab.async false
set_option linter.all false
set_option maxRecDepth 100000
set_option maxHeartbeats 4000000
namespace L2
open PySem PySem.Spec PyProof.Rows
section
variable {X : Cx}{W : Wd}{a tg : Expr}{pos p : Pos}{dA : DA}{fz : Bool}
end
end L2
set_option Elab.async false
set_option linter.all false
set_option maxRecDepth 100000
set_option maxHeartbeats 4000000
namespace L2
open PySem PySem.Spec PyProof.Rows
abbrev Om := Nat -> Prop
def cntA (p : Addr)(H : Hp) : Nat := match H p with | some (.lst [_,_,.int st]) => st.toNat | _ => 0
def cnt (b : Option Addr)(H : Hp) : Nat := match b with | none => 0 | some p => cntA p H
abbrev DE3 := Ev -> (D -> Om) -> Om
abbrev DT3 := Ev -> (Bool -> Om) -> Om
abbrev DA3 := Ev -> (List D -> Om) -> Om
def cn (W : Wd)(d : DE3) : TE := fun σ H Q => ∃ pn M b ρ P,Sta W pn M b H σ ρ /\ d ρ P (cnt b H) /\ ∀ x v H',P x (cnt b H') -> RepX W M b H' x v -> Kp b H H' -> okB W.B b H' -> Q v H'
def cnT (W : Wd)(d : DT3) : TT := fun σ H Q => ∃ pn M b ρ P,Sta W pn M b H σ ρ /\ d ρ P (cnt b H) /\ ∀ x H',P x (cnt b H') -> Kp b H H' -> okB W.B b H' -> Q x H'
def cnA (W : Wd)(d : DA3) : TA := fun σ H Q => ∃ pn M b ρ P,Sta W pn M b H σ ρ /\ d ρ P (cnt b H) /\ ∀ xs vs H',P xs (cnt b H') -> RepXs W M b H' xs vs -> Kp b H H' -> okB W.B b H' -> Q vs H'
def cnI (W : Wd)(fz : Bool)(di : DA3) : TI := fun σ H R => ∃ pn M b ρ P,Sta W pn M b H σ ρ /\ di ρ P (cnt b H) /\ ∀ items J need H',P items (cnt b H') -> items.all plain = true -> ItOk W J need items -> (∀ q ∈ need,RepX W M b H' q.1 q.2 /\ (fz = true -> plain q.1 = true)) -> Kp b H H' -> okB W.B b H' -> R J H'
theorem cn.elim {W : Wd}{d : DE3}{σ : St}{H : Hp}{Q : VK}{R : Prop}(h : cn W d σ H Q)(f : ∀ pn M b ρ P,Sta W pn M b H σ ρ -> d ρ P (cnt b H) -> (∀ x v H',P x (cnt b H') -> RepX W M b H' x v -> Kp b H H' -> okB W.B b H' -> Q v H') -> R) : R := by
  obtain ⟨pn,M,b,ρ,P,st,h,k⟩ := h
  exact f pn M b ρ P st h k
theorem cnT.elim {W : Wd}{d : DT3}{σ : St}{H : Hp}{Q : Bool -> Hp -> Prop}{R : Prop}(h : cnT W d σ H Q)(f : ∀ pn M b ρ P,Sta W pn M b H σ ρ -> d ρ P (cnt b H) -> (∀ x H',P x (cnt b H') -> Kp b H H' -> okB W.B b H' -> Q x H') -> R) : R := by
  obtain ⟨pn,M,b,ρ,P,st,h,k⟩ := h
  exact f pn M b ρ P st h k
theorem cnA.elim {W : Wd}{d : DA3}{σ : St}{H : Hp}{Q : List V -> Hp -> Prop}{R : Prop}(h : cnA W d σ H Q)(f : ∀ pn M b ρ P,Sta W pn M b H σ ρ -> d ρ P (cnt b H) -> (∀ xs vs H',P xs (cnt b H') -> RepXs W M b H' xs vs -> Kp b H H' -> okB W.B b H' -> Q vs H') -> R) : R := by
  obtain ⟨pn,M,b,ρ,P,st,h,k⟩ := h
  exact f pn M b ρ P st h k
theorem cnI.elim {W : Wd}{fz : Bool}{d : DA3}{σ : St}{H : Hp}{R : It -> Hp -> Prop}{Z : Prop}(h : cnI W fz d σ H R)(f : ∀ pn M b ρ P,Sta W pn M b H σ ρ -> d ρ P (cnt b H) -> (∀ items J need H',P items (cnt b H') -> items.all plain = true -> ItOk W J need items -> (∀ q ∈ need,RepX W M b H' q.1 q.2 /\ (fz = true -> plain q.1 = true)) -> Kp b H H' -> okB W.B b H' -> R J H') -> Z) : Z := by
  obtain ⟨pn,M,b,ρ,P,st,h,k⟩ := h
  exact f pn M b ρ P st h k
section
variable {X : Cx}{W : Wd}{e a b c l tg : Expr}{es : List Expr}{pos p : Pos}{fz : Bool}
end
end L2
set_option Elab.async false
set_option linter.all false
set_option maxRecDepth 100000
set_option maxHeartbeats 4000000
namespace L2
open PySem PySem.Spec PyProof.Rows
section
variable {X : Cx}{W : Wd}{e a b c l tg : Expr}{es : List Expr}{pos p : Pos}{d da db dc dl : DE3}{dA : DA3}{x : Str}{k : Nat}{ps : List Str}
variable {ta tb : DT3}{rest : List Expr}
abbrev DSp3 := List D -> (D -> Om) -> Om
def liftSp3 (K : PySem.W.Frag)(B : BagT)(S : DSp3) : Sp := fun vs H Q E => ∃ (M : Addr -> Prop) (b : Option Addr) (ds : List D) (P : D -> Om),S ds P (cnt b H) /\ RepAs K M b H ds vs /\ okB B b H /\ (∀ p,b = some p -> M p) /\ (∀ c,M c -> ∃ o,H c = some o) /\
  (∀ d v H',P d (cnt b H') -> Rep K M H' d v -> Kp b H H' -> okB B b H' -> Q v H')
variable {r : List V -> Hp -> VK -> Prop}{o : List D -> (D -> Prop) -> Prop}{id T : String}
variable {fz : Bool}
end
end L2
set_option Elab.async false
set_option linter.all false
set_option maxRecDepth 100000
set_option maxHeartbeats 4000000
namespace L2
open PySem PySem.Spec PyProof.Rows
structure DEnds3 where
  nx : Ev -> Om
  rt : D -> Om
  bk : Ev -> Om := fun _ _ => False
  ct : Ev -> Om := fun _ _ => False
  ro : List D -> Om := fun _ _ => False
abbrev DS3 := DEnds3 -> Ev -> Om
structure Link3 (W : Wd)(pn : List (D × V))(E : Ends)(F : DEnds3) : Prop where
  nx : ∀ M b ρ σ H,StS W pn M b H σ ρ -> F.nx ρ (cnt b H) -> E.nx σ H
  rt : ∀ d v H n,F.rt d n -> (∀ p,W.b0 = some p -> n = cnt W.b0 H) -> Rep W.K W.M0 H d v -> Kp W.b0 W.H0 H -> okB W.B W.b0 H -> E.rt v H
  bk : ∀ M b ρ σ H,StS W pn M b H σ ρ -> F.bk ρ (cnt b H) -> E.bk σ H
  ct : ∀ M b ρ σ H,StS W pn M b H σ ρ -> F.ct ρ (cnt b H) -> E.ct σ H
  ro : ∀ xs a vs H n,F.ro xs n -> (∀ p,W.b0 = some p -> n = cnt W.b0 H) -> W.H0 a = none -> ¬ W.M0 a -> H a = some (.lst vs) -> Reps W.K W.M0 H xs vs -> Kp W.b0 W.H0 H -> okB W.B W.b0 H -> E.rt (.ref a) H
def sn3 (W : Wd)(d : DS3) : TS := fun E σ H => ∃ pn M b ρ F,StS W pn M b H σ ρ /\ Link3 W pn E F /\ d F ρ (cnt b H)
theorem sn3.elim {W : Wd}{d : DS3}{E : Ends}{σ : St}{H : Hp}{Z : Prop}(h : sn3 W d E σ H)(f : ∀ pn M b ρ F,StS W pn M b H σ ρ -> Link3 W pn E F -> d F ρ (cnt b H) -> Z) : Z := by
  obtain ⟨pn,M,b,ρ,F,s,l,h⟩ := h
  exact f pn M b ρ F s l h
section
variable {X : Cx}{W : Wd}{e a b c tg iter l : Expr}{es : List Expr}{pos p : Pos}{d da db dc dl de : DE3}{dA di : DA3}{dt : DT3}{st : Stmt}{rest sts : List Stmt}{d1 d2 : DS3}{t : TS}
end
theorem liftSp3.len {K : PySem.W.Frag}{B : BagT}{S : DSp3}{m : Nat}(h : ∀ ds P n,S ds P n -> ds.length = m) : ∀ vs H Q E,liftSp3 K B S vs H Q E -> vs.length = m := fun vs H Q E ⟨M,b,ds,P,hS,hr,_⟩ => by rw [hr.length]; exact h _ _ _ hS
end L2
set_option Elab.async false
set_option linter.all false
set_option maxRecDepth 100000
set_option maxHeartbeats 4000000
namespace L2
open PySem PySem.Spec PyProof.Rows
abbrev DSO3 := List D -> (List D -> Om) -> Om
def liftSpO3 (K : PySem.W.Frag)(B : BagT)(S : DSO3) : Sp := fun vs H Q E => ∃ (M : Addr -> Prop) (b : Option Addr) (ds : List D) (P : List D -> Om),S ds P (cnt b H) /\ RepAs K M b H ds vs /\ okB B b H /\ (∀ p,b = some p -> M p) /\ (∀ c,M c -> ∃ o,H c = some o) /\
  (∀ xs a us H',P xs (cnt b H') -> H a = none -> H' a = some (.lst us) -> Reps K M H' xs us -> Kp b H H' -> okB B b H' -> Q (.ref a) H')
theorem liftSpO3.len {K : PySem.W.Frag}{B : BagT}{S : DSO3}{m : Nat}(h : ∀ ds P n,S ds P n -> ds.length = m) : ∀ vs H Q E,liftSpO3 K B S vs H Q E -> vs.length = m := fun vs H Q E ⟨M,b,ds,P,hS,hr,_⟩ => by rw [hr.length]; exact h _ _ _ hS
section
variable {X : Cx}{W : Wd}{e a b c tg iter l : Expr}{es : List Expr}{pos p : Pos}{d da db dc dl de : DE3}{dA di : DA3}{dt : DT3}{fz : Bool}{x : Str}{k : Nat}{ps : List Str}{S : DSO3}
end
end L2
set_option Elab.async false
set_option linter.all false
set_option maxRecDepth 100000
set_option maxHeartbeats 4000000
namespace L2
open PySem PySem.Spec PyProof.Rows
section
variable {X : Cx}{tg : Expr}
end
section
variable {X : Cx}{W : Wd}{tg a b c : Expr}{pos p : Pos}{dA : DA}{fz : Bool}
end
end L2
set_option Elab.async false
set_option linter.all false
set_option maxRecDepth 100000
set_option maxHeartbeats 4000000
namespace L2
open PySem PySem.Spec PyProof.Rows
end L2
set_option Elab.async false
set_option linter.all false
set_option maxRecDepth 100000
set_option maxHeartbeats 4000000
namespace L2
open PySem PySem.Spec PyProof.Rows
section
variable {X : Cx}{W : Wd}{a b c : Expr}{pos p : Pos}{dA : DA}{fz : Bool}
end
section
variable {X : Cx}{W : Wd}{tg a b c : Expr}{pos p : Pos}{dA : DA3}{fz : Bool}
end
end L2
set_option Elab.async false
set_option linter.all false
set_option maxRecDepth 100000
set_option maxHeartbeats 4000000
namespace L2
open PySem PySem.Spec PyProof.Rows
section
variable {X : Cx}{W : Wd}{e e1 e2 : Expr}{es : List Expr}{pos p : Pos}{dA : DA}{x : Str}{k : Nat}{ps : List Str}{S : DSO}
end
end L2
set_option Elab.async false
set_option linter.all false
set_option maxRecDepth 100000
set_option maxHeartbeats 4000000
namespace L2
open PySem PySem.Spec PyProof.Rows
def RowsR (K : PySem.W.Frag)(M : Addr -> Prop)(H : Hp) : List Addr -> List (List D) -> Prop
  | [],rows => rows = []
  | r :: rs,rows => ∃ row rest us,rows = row :: rest /\ H r = some (.lst us) /\ Reps K M H row us /\ RowsR K M H rs rest
section
variable {K : PySem.W.Frag}{M M' : Addr -> Prop}{H H' : Hp}
theorem RowsR.keep : ∀ (rs : List Addr) (rows : List (List D)),(∀ c o,(¬ M c \/ c ∈ rs) -> H c = some o -> H' c = some o) -> RowsR K M H rs rows -> RowsR K M H' rs rows
  | [],_,_,h => h
  | r :: rs,rows,k,h => by
    obtain ⟨row,rest,us,e,h1,h2,h3⟩ := h
    exact ⟨row,rest,us,e,k _ _ (.inr (List.mem_cons_self ..)) h1,Reps.keep (fun c o n e => k c o (.inl n) e) _ _ h2,RowsR.keep rs rest (fun c o q e => k c o (q.imp id (List.mem_cons_of_mem _)) e) h3⟩
theorem RowsR.length : ∀ {rs : List Addr} {rows : List (List D)},RowsR K M H rs rows -> rows.length = rs.length
  | [],_,h => by rw [show _ = [] from h]; rfl
  | r :: rs,rows,h => by
    obtain ⟨row,rest,us,rfl,h1,h2,h3⟩ := h
    simp [RowsR.length h3]
theorem RowsR.lst : ∀ {rs : List Addr} {rows : List (List D)},RowsR K M H rs rows -> ∀ r ∈ rs,∃ us,H r = some (.lst us)
  | [],_,_,r,m => by cases m
  | r :: rs,rows,h,r',m => by
    obtain ⟨row,rest,us,rfl,h1,h2,h3⟩ := h
    rcases List.mem_cons.mp m with z | z
    · rw [z]; exact ⟨us,h1⟩
    · exact RowsR.lst h3 r' z
theorem RowsR.at : ∀ {rs : List Addr} {rows : List (List D)} {k : Nat} {r : Addr},RowsR K M H rs rows -> rs[k]? = some r -> ∃ row us,rows[k]? = some row /\ H r = some (.lst us) /\ Reps K M H row us
  | [],_,_,_,_,e => by simp at e
  | _ :: rs,rows,0,r,h,e => by
    obtain ⟨row,rest,us,rfl,h1,h2,h3⟩ := h
    simp at e; subst e
    exact ⟨row,us,rfl,h1,h2⟩
  | _ :: rs,rows,k + 1,r,h,e => by
    obtain ⟨row,rest,us,rfl,h1,h2,h3⟩ := h
    obtain ⟨row',us',e1,e2⟩ := RowsR.at (k := k) h3 (by simpa using e)
    exact ⟨row',us',by simpa using e1,e2⟩
end
end L2
set_option Elab.async false
set_option linter.all false
set_option maxRecDepth 100000
set_option maxHeartbeats 4000000
namespace L2
open PySem PySem.Spec PyProof.Rows
section
variable {X : Cx}{W : Wd}{elt iter tg : Expr}{ifs : List Expr}{scope : Scope}{pos : Pos}{N' : List Str}{map : List (Option Nat)}{g : TG}{gd : D -> Ev -> (Ev -> Prop) -> Prop}{di : DA}{dt : DT}{de : DE}
end
theorem RowsR.append {K : PySem.W.Frag}{M : Addr -> Prop}{H : Hp}{p : Addr}{row : List D}{us : List V}(hp : H p = some (.lst us))(hr : Reps K M H row us) : ∀ {rs : List Addr} {rows : List (List D)},RowsR K M H rs rows -> RowsR K M H (rs ++ [p]) (rows ++ [row])
  | [],rows,h => by rw [show rows = [] from h]; exact ⟨row,[],us,rfl,hp,hr,rfl⟩
  | r :: rs,rows,h => by
    obtain ⟨row0,rest,us0,rfl,h1,h2,h3⟩ := h
    exact ⟨row0,rest ++ [row],us0,rfl,h1,h2,RowsR.append hp hr h3⟩
abbrev DSG := List D -> (List (List D) -> Prop) -> (Addr -> Prop) -> Prop
structure GNew (K : PySem.W.Frag)(M : Addr -> Prop)(H H' : Hp)(a : Addr)(rs : List Addr)(rows : List (List D)) : Prop where
  a0 : H a = none
  r0 : ∀ r ∈ rs,H r = none
  nd : (a :: rs).Nodup
  ha : H' a = some (.lst (rs.map V.ref))
  hr : RowsR K (fun c => M c \/ c ∈ a :: rs) H' rs rows
def liftSpG (K : PySem.W.Frag)(B : BagT)(S : DSG) : Sp := fun vs H Q E => ∃ (M : Addr -> Prop) (b : Option Addr) (ds : List D) (P : List (List D) -> Prop) (Ed : Addr -> Prop),S ds P Ed /\ RepAs K M b H ds vs /\ okB B b H /\ (∀ p,b = some p -> M p) /\ (∀ c,M c -> ∃ o,H c = some o) /\
  (∀ rows a rs H',P rows -> GNew K M H H' a rs rows -> Kp b H H' -> okB B b H' -> Q (.ref a) H') /\ ∀ C H',Ed C -> Kp b H H' -> okB B b H' -> E (.ref C) none H'
theorem liftSpG.len {K : PySem.W.Frag}{B : BagT}{S : DSG}{n : Nat}(h : ∀ ds P Ed,S ds P Ed -> ds.length = n) : ∀ vs H Q E,liftSpG K B S vs H Q E -> vs.length = n := fun vs H Q E ⟨M,b,ds,P,Ed,hS,hr,_⟩ => by rw [hr.length]; exact h _ _ _ hS
end L2
set_option Elab.async false
set_option linter.all false
set_option maxRecDepth 100000
set_option maxHeartbeats 4000000
namespace L2
open PySem PySem.Spec PyProof.Rows
section
variable {X : Cx}{W : Wd}{e a b c tg iter l : Expr}{es : List Expr}{pos p : Pos}{d da db dc dl de : DE}{dA di : DA}{dt : DT}{fz : Bool}{x : Str}{k : Nat}{ps : List Str}{S : DSG}
end
end L2
set_option Elab.async false
set_option linter.all false
set_option maxRecDepth 100000
set_option maxHeartbeats 4000000
namespace L2
open PySem PySem.Spec PyProof.Rows
section
variable {X : Cx}{W : Wd}{e a b c tg iter l : Expr}{es : List Expr}{pos p : Pos}{dA : DA}{x : Str}{k : Nat}{ps : List Str}{S : DSG}{So : DSO}
end
end L2
set_option Elab.async false
set_option linter.all false
set_option maxRecDepth 100000
set_option maxHeartbeats 4000000
namespace L2
open PySem PySem.Spec PyProof.Rows
section
variable {X : Cx}{W : Wd}{e a b c tg iter l : Expr}{es : List Expr}{pos p : Pos}{dA : DA}
end
end L2
set_option Elab.async false
set_option linter.all false
set_option maxRecDepth 100000
set_option maxHeartbeats 4000000
namespace L2
open PySem PySem.Spec PyProof.Rows
section
variable {X : Cx}{W : Wd}{e a b c tg iter l : Expr}{es : List Expr}{pos p : Pos}{dA : DA}
end
end L2
set_option Elab.async false
set_option linter.all false
set_option maxRecDepth 100000
set_option maxHeartbeats 4000000
namespace L2
open PySem PySem.Spec PyProof.Rows
section
variable {X : Cx}{W : Wd}{pos : Pos}{dA : DA}
end
end L2
set_option Elab.async false
set_option linter.all false
set_option maxRecDepth 100000
set_option maxHeartbeats 4000000
namespace L2
open PySem PySem.Spec PyProof.Rows
section
variable {X : Cx}{W : Wd}{a b : Expr}{rest : List Expr}{pos : Pos}{da db : DE3}
end
end L2
set_option Elab.async false
set_option linter.all false
set_option maxRecDepth 100000
set_option maxHeartbeats 4000000
namespace L2
open PySem PySem.Spec PyProof.Rows
structure PNew (K : PySem.W.Frag)(M : Addr -> Prop)(H H' : Hp)(f : Frg)(d : D)(v : V) : Prop where
  new : ∀ c ∈ f.ads,H c = none
  R : f.R (fun c => M c \/ c ∈ f.ads) H' v
  rep : Rep K M H' d v
abbrev DSP3 := List D -> (Frg -> D -> Om) -> Om
def liftSpP3 (K : PySem.W.Frag)(B : BagT)(S : DSP3) : Sp := fun vs H Q E => ∃ (M : Addr -> Prop) (b : Option Addr) (ds : List D) (P : Frg -> D -> Om),S ds P (cnt b H) /\ RepAs K M b H ds vs /\ okB B b H /\ (∀ p,b = some p -> M p) /\ (∀ c,M c -> ∃ o,H c = some o) /\
  (∀ f d v H',P f d (cnt b H') -> PNew K M H H' f d v -> Kp b H H' -> okB B b H' -> Q v H')
theorem liftSpP3.len {K : PySem.W.Frag}{B : BagT}{S : DSP3}{m : Nat}(h : ∀ ds P n,S ds P n -> ds.length = m) : ∀ vs H Q E,liftSpP3 K B S vs H Q E -> vs.length = m := fun vs H Q E ⟨M,b,ds,P,hS,hr,_⟩ => by rw [hr.length]; exact h _ _ _ hS
section
variable {X : Cx}{W : Wd}{e a b c tg iter l : Expr}{es : List Expr}{pos p : Pos}{de : DE3}{dA di : DA3}{dt : DT3}{x : Str}{k : Nat}{ps : List Str}{S : DSP3}
end
end L2
set_option Elab.async false
set_option linter.all false
set_option maxRecDepth 100000
set_option maxHeartbeats 4000000
namespace L2
open PySem PySem.Spec PyProof.Rows
section
variable {X : Cx}{W : Wd}{e : Expr}{pos : Pos}{de : DE3}{dA : DA3}
end
end L2
set_option Elab.async false
set_option linter.all false
set_option maxRecDepth 100000
set_option maxHeartbeats 4000000
namespace L2
open PySem PySem.Spec PyProof.Rows
end L2
set_option Elab.async false
set_option linter.all false
set_option maxRecDepth 100000
set_option maxHeartbeats 4000000
namespace L2
open PySem PySem.Spec PyProof.Rows
end L2
set_option Elab.async false
set_option linter.all false
set_option maxRecDepth 100000
set_option maxHeartbeats 4000000
namespace L2
open PySem PySem.Spec PyProof.Rows
structure Pc where
  (a : Addr) (f : Frg) (d : D)
abbrev Pc.g (p : Pc) : D := .frg p.f p.d
def Pc.at (p : Pc) : Prop := ∀ M H v,p.f.R M H v -> v = .ref p.a
structure RepP (K : PySem.W.Frag)(M : Addr -> Prop)(b : Option Addr)(H : Hp)(p : Pc) : Prop where
  at' : p.at
  ow : ∀ c ∈ p.f.ads,M c /\ b ≠ some c
  r : p.f.R M H (.ref p.a)
  d : Rep K (fun c => M c /\ c ∉ p.f.ads) H p.d (.ref p.a)
def adsP (ps : List Pc) : List Addr := ps.flatMap fun p => p.f.ads
def likeP (ps ps' : List Pc) : Prop := ps'.map (fun p => (p.a,p.f.ads)) = ps.map fun p => (p.a,p.f.ads)
theorem likeP.get {ps ps' : List Pc}{i : Nat}{p' : Pc}(h : likeP ps ps')(e : ps'[i]? = some p') : ∃ p,ps[i]? = some p /\ p'.a = p.a /\ p'.f.ads = p.f.ads := by
  have q := congrArg (fun l => l[i]?) h
  simp only [List.getElem?_map,e,Option.map_some] at q
  obtain ⟨p,e1,e2⟩ := Option.map_eq_some_iff.mp q.symm
  simp only [Prod.mk.injEq] at e2
  exact ⟨p,e1,e2.1.symm,e2.2.symm⟩
def disjP (ps : List Pc) : Prop := ∀ (i j : Nat) p q c,ps[i]? = some p -> ps[j]? = some q -> c ∈ p.f.ads -> c ∈ q.f.ads -> i = j
def KpA (A : List Addr)(b : Option Addr)(H H' : Hp) : Prop := ∀ c o,c ∉ A -> b ≠ some c -> H c = some o -> H' c = some o
abbrev DSU := List Pc -> List D -> (List Pc -> D -> Prop) -> Prop
def liftSpU (K : PySem.W.Frag)(B : BagT)(S : DSU) : Sp := fun vs H Q E => ∃ (M : Addr -> Prop) (b : Option Addr) (ps : List Pc) (ds : List D) (P : List Pc -> D -> Prop) (dvs : List V),vs = ps.map (fun p => .ref p.a) ++ dvs /\ S ps ds P /\ (∀ p ∈ ps,RepP K M b H p) /\ disjP ps /\ RepAs K M b H ds dvs /\ okB B b H /\ (∀ p,b = some p -> M p) /\ (∀ c,M c -> ∃ o,H c = some o) /\
  ∀ ps' r v H',P ps' r -> likeP ps ps' -> (∀ p ∈ ps',RepP K M b H' p) -> Rep K M H' r v -> KpA (adsP ps) b H H' -> okB B b H' -> Q v H'
theorem liftSpU.len {K : PySem.W.Frag}{B : BagT}{S : DSU}{n : Nat}(h : ∀ ps ds P,S ps ds P -> ps.length + ds.length = n) : ∀ vs H Q E,liftSpU K B S vs H Q E -> vs.length = n := fun vs H Q E ⟨M,b,ps,ds,P,dvs,e,hS,_,_,hr,_⟩ => by
  rw [e,List.length_append,List.length_map,hr.length]; exact h _ _ _ hS
end L2
set_option Elab.async false
set_option linter.all false
set_option maxRecDepth 100000
set_option maxHeartbeats 4000000
namespace L2
open PySem PySem.Spec PyProof.Rows
section
variable {W : Wd}{pn : List (D × V)}{M : Addr -> Prop}{b : Option Addr}{H H' : Hp}{σ : St}{ρ : Ev}{js : List Nat}{ps ps' : List Pc}
def heldP (js : List Nat)(ps : List Pc)(ρ : Ev) : Prop := js.length = ps.length /\ ∀ (k : Nat) p,ps[k]? = some p -> p.at /\ ∃ j,js[k]? = some j /\ ρ[j]? = some (some p.g)
theorem heldP.ads (s : StS W pn M b H σ ρ)(h : heldP js ps ρ){c : Addr}(m : c ∈ adsP ps) : ∃ (k j : Nat) (p : Pc),ps[k]? = some p /\ js[k]? = some j /\ ρ[j]? = some (some p.g) /\ c ∈ p.f.ads /\ σ[j]? = some (some (.ref p.a)) /\ RepX W M b H p.g (.ref p.a) := by
  obtain ⟨p,mp,mc⟩ := List.mem_flatMap.mp m
  obtain ⟨k,ek⟩ := List.getElem?_of_mem mp
  obtain ⟨pa,j,ej,er⟩ := h.2 k p ek
  obtain ⟨v,ev,r⟩ := s.env j _ er
  have hv := pa _ _ _ r.2.1
  subst hv
  exact ⟨k,j,p,ek,ej,er,mc,ev,r⟩
end
section
variable {X : Cx}{W : Wd}{S : DSU}{dA : DA}{pos : Pos}
end
end L2
set_option Elab.async false
set_option linter.all false
set_option maxRecDepth 100000
set_option maxHeartbeats 4000000
namespace L2
open PySem PySem.Spec PyProof.Rows
section
variable {W : Wd}{pn : List (D × V)}{M : Addr -> Prop}{b : Option Addr}{H H' : Hp}{σ : St}{ρ : Ev}{a : Addr}{ks : List (List Int)}{xs : List D}{t : Tg}{vs : List V}
end
section
variable {K : PySem.W.Frag}{M : Addr -> Prop}{H : Hp}{n : List Int}{z : D}{v : V}{u : Value}{b : Addr}
end
section
variable {X : Cx}{W : Wd}{pos : Pos}
end
end L2
set_option Elab.async false
set_option linter.all false
set_option maxRecDepth 100000
set_option maxHeartbeats 4000000
namespace L2
open PySem PySem.Spec PyProof.Rows
section
variable {X : Cx}{W : Wd}{S : DSU}{dA : DA}{pos : Pos}
end
end L2
set_option Elab.async false
set_option linter.all false
set_option maxRecDepth 100000
set_option maxHeartbeats 4000000
namespace L2
open PySem PySem.Spec PyProof.Rows
section
variable {X : Cx}{W : Wd}{pos : Pos}
variable {elt iter tg : Expr}{ifs : List Expr}{scope : Scope}{N' : List Str}{map : List (Option Nat)}{g : TG}{gd : D -> Ev -> (Ev -> Prop) -> Prop}{di : DA}{dt : DT}{de : DA}
end
end L2
set_option Elab.async false
set_option linter.all false
set_option maxRecDepth 100000
set_option maxHeartbeats 4000000
namespace L2
open PySem PySem.Spec PyProof.Rows
def RawD (h : Heap)(d : Addr)(ds : Array DictEntry)(ep : Nat) : Prop := ∃ o : Obj,h.get? d = some o /\ o.ExactDict /\ o.data = .dict ds ep
section
variable {prog : Program}{w : World}{A : Around}{E : Value -> Shared -> Prop}{s : Shared}{d it : Addr}{ds : Array DictEntry}{ep i : Nat}
end
end L2
set_option Elab.async false
set_option linter.all false
set_option maxRecDepth 100000
set_option maxHeartbeats 4000000
namespace L2
open PySem PySem.Spec PyProof.Rows
section
variable {X : Cx}{pins : List (Addr × Obj)}{σ : St}{H : Hp}{s : Shared}{a : Addr}{es : Ens}{ep : Nat}{tg : Expr}
end
end L2
set_option Elab.async false
set_option linter.all false
set_option maxRecDepth 100000
set_option maxHeartbeats 4000000
namespace L2
open PySem PySem.Spec PyProof.Rows
section
variable {X : Cx}{W : Wd}{e o f tg : Expr}{es : List Expr}{pos : Pos}{dA : DA}{de dk df : DE}
end
end L2
set_option Elab.async false
set_option linter.all false
set_option maxRecDepth 100000
set_option maxHeartbeats 4000000
namespace L2
open PySem PySem.Spec PyProof.Rows
section
variable {gd gd2 : D -> Ev -> (Ev -> Prop) -> Prop}{dt : DT}{de : DE}{ρc : Ev}{items acc0 : List D}{P : List D -> Prop}{mp2 : List (Option Nat)}{di2 : DA}
end
section
variable {X : Cx}{W : Wd}{pos : Pos}{a : Expr}{dA : DA}
end
end L2
set_option Elab.async false
set_option linter.all false
set_option maxRecDepth 100000
set_option maxHeartbeats 4000000
namespace L2
open PySem PySem.Spec PyProof.Rows
end L2
set_option Elab.async false
set_option linter.all false
set_option maxRecDepth 100000
set_option maxHeartbeats 4000000
namespace L2
open PySem PySem.Spec PyProof.Rows
section
variable {X : Cx}{W : Wd}{pos : Pos}{dA : DA}
end
end L2
set_option Elab.async false
set_option linter.all false
set_option maxRecDepth 100000
set_option maxHeartbeats 4000000
namespace L2
open PySem PySem.Spec PyProof.Rows
section
variable {prog : Program}{w : World}{A : Around}{R : Result -> Shared -> Prop}{I S : Addr}{fp wr : List Addr}{n : Nat}{P : Nat -> Value -> Prop}{St : Nat -> Heap -> Prop}{J : Heap -> Prop}{bt : Nat -> Nat -> Bool}
end
section
variable {prog : Program}{w : World}{A : Around}{E : Value -> Shared -> Prop}{s : Shared}
end
section
variable {prog : Program}{w : World}{A : Around}
theorem RawD.at {h h' : Heap}{d : Addr}{ds : Array DictEntry}{ep : Nat}(x : RawD h d ds ep)(k : ∀ o,h.get? d = some o -> h'.get? d = some o) : RawD h' d ds ep := let ⟨o,e,q⟩ := x; ⟨o,k o e,q⟩
end
section
variable {X : Cx}
end
end L2
set_option Elab.async false
set_option linter.all false
set_option maxRecDepth 100000
set_option maxHeartbeats 4000000
namespace L2
open PySem PySem.Spec PyProof.Rows
section
variable {X : Cx}{W : Wd}
end
end L2
set_option Elab.async false
set_option linter.all false
set_option maxRecDepth 100000
set_option maxHeartbeats 4000000
namespace L2
open PySem PySem.Spec PyProof.Rows
end L2
set_option Elab.async false
set_option linter.all false
set_option maxRecDepth 100000
set_option maxHeartbeats 4000000
namespace L2
open PySem PySem.Spec PyProof.Rows
section
variable {X : Cx}{W : Wd}{dt : DT}{dA dA1 dA2 : DA}{S S1 : DSO}{S2 : DSG}{st : Stmt}
end
end L2
set_option Elab.async false
set_option linter.all false
set_option maxRecDepth 100000
set_option maxHeartbeats 4000000
namespace L2
open PySem PySem.Spec PyProof.Rows
abbrev DST := List D -> (List (List D) -> Int -> Prop) -> (Addr -> Prop) -> Prop
structure TNew (K : PySem.W.Frag)(M : Addr -> Prop)(H H' : Hp)(p a : Addr)(rs : List Addr)(rows : List (List D))(n : Int) : Prop extends GNew K M H H' a rs rows where
  p0 : H p = none
  hp : H' p = some (.tup [.ref a,.int n])
def liftSpT (K : PySem.W.Frag)(B : BagT)(S : DST) : Sp := fun vs H Q E => ∃ (M : Addr -> Prop) (b : Option Addr) (ds : List D) (P : List (List D) -> Int -> Prop) (Ed : Addr -> Prop),S ds P Ed /\ RepAs K M b H ds vs /\ okB B b H /\ (∀ p,b = some p -> M p) /\ (∀ c,M c -> ∃ o,H c = some o) /\
  (∀ rows n p a rs H',P rows n -> TNew K M H H' p a rs rows n -> Kp b H H' -> okB B b H' -> Q (.ref p) H') /\ ∀ C H',Ed C -> Kp b H H' -> okB B b H' -> E (.ref C) none H'
theorem liftSpT.len {K : PySem.W.Frag}{B : BagT}{S : DST}{n : Nat}(h : ∀ ds P Ed,S ds P Ed -> ds.length = n) : ∀ vs H Q E,liftSpT K B S vs H Q E -> vs.length = n := fun vs H Q E ⟨M,b,ds,P,Ed,hS,hr,_⟩ => by rw [hr.length]; exact h _ _ _ hS
section
variable {X : Cx}{W : Wd}{e a : Expr}{es : List Expr}{pos p : Pos}{dA : DA}{x : Str}{k : Nat}{ps : List Str}{S : DST}
end
end L2
set_option Elab.async false
set_option linter.all false
set_option maxRecDepth 100000
set_option maxHeartbeats 4000000
namespace L2
open PySem PySem.Spec PyProof.Rows
section
variable {X : Cx}{W : Wd}{e o a b : Expr}{es : List Expr}{pos : Pos}{dO de : DE}{dA : DA}
variable {r : V -> List V -> Hp -> VK -> Prop}{f : Str -> List D -> (D -> Prop) -> Prop}{name : Str}{id : String}{apos cpos : Pos}
end
end L2
set_option Elab.async false
set_option linter.all false
set_option maxRecDepth 100000
set_option maxHeartbeats 4000000
namespace L2
open PySem PySem.Spec PyProof.Rows
end L2
set_option Elab.async false
set_option linter.all false
set_option maxRecDepth 100000
set_option maxHeartbeats 4000000
namespace L2
open PySem PySem.Spec PyProof.Rows
theorem funs_of {h h' base : Heap} : ∀ {l : List Env},(∀ b ∈ l.filterMap (·.frame),∀ o,h.get? b = some o -> ∃ o',h'.get? b = some o' /\ o'.data = o.data) -> h.FunFrames base l -> h'.FunFrames base l
  | [],_,_ => trivial
  | env :: rest,k,hl => by
    obtain ⟨kd,⟨L,ob,eL,nb,eo,nd⟩,more⟩ := hl
    obtain ⟨o',e',d'⟩ := k L (by simp [List.filterMap_cons,eL]) ob eo
    exact ⟨kd,⟨L,o',eL,nb,e',fun vs => d' ▸ nd vs⟩,funs_of (fun b hb => k b (by
      rw [List.filterMap_cons,eL]; exact List.mem_cons_of_mem _ hb)) more⟩
structure Trc (h : Heap)(x T : Addr)(c : Value) : Prop where
  ex : ∃ ox vs,h.get? x = some ox /\ ox.cls = c /\ ox.dict = none /\ ox.data = .fields vs /\ vs[1]? = some (.ref T) /\ vs[2]? = some .none
  tr : ∃ oT ts v,h.get? T = some oT /\ oT.data = .fields ts /\ ts[3]? = some v
  ne : T ≠ x
structure Kpt (fs : List Addr)(x T0 : Addr)(h h' : Heap)(T : Addr) : Prop where
  keep : ∀ b o,b ∉ fs -> b ≠ x -> b ≠ T0 -> h.get? b = some o -> h'.get? b = some o
  slot : ∀ b o,b ∈ fs -> h.get? b = some o -> ∃ sl,h'.get? b = some { o with slots := sl }
  new : T = T0 \/ h.objs.size <= T
  sz : h.objs.size <= h'.objs.size
section
variable {M : Model}{A : Around}{E : Value -> Shared -> Prop}{s : Shared}
theorem flight_any {x T : Addr}{c : Value}{fr : Option Addr}{Q : Unit -> Shared -> Prop}(t : Trc s.heap x T c)
    (q : ∀ h',h'.objs.size = s.heap.objs.size -> (∀ b,b ≠ T -> h'.get? b = s.heap.get? b) -> Trc h' x T c -> (∃ oT ts,h'.get? T = some oT /\ oT.data = .fields ts /\ ts[3]? = some (fr.elim .none fun f => rawInt f)) -> Q () { s with heap := h' }) : wpAny M A (setFlight (.ref x) fr) Q E s := by
  obtain ⟨⟨ox,vs,x1,xc,xn,x2,x3,x4⟩,⟨oT,ts,v,t1,t2,t3⟩,tx⟩ := t
  unfold setFlight
  refine wpAny_bind (wpAny_field x1 x2 x3 ?_)
  rw [if_pos (show (Value.ref T != Value.none) = true from by simp)]
  have h3 : 3 < ts.size := (Array.getElem?_eq_some_iff.mp t3).1
  refine wpAny_setField t1 t2 h3 ?_
  generalize hv : (fr.elim Value.none fun f => rawInt f) = v'
  have oth : ∀ b,b ≠ T -> (s.heap.update T (Obj.mapFields (·.setIfInBounds 3 v'))).get? b = s.heap.get? b := fun b hb => Heap.get?_update_other _ _ (Ne.symm hb)
  have td := Obj.data_mapFields t2 (·.setIfInBounds 3 v')
  have tg := Heap.get?_update_self (Obj.mapFields (·.setIfInBounds 3 v')) t1 (Obj.isFreed_of_fields td)
  have t4 : (ts.setIfInBounds 3 v')[3]? = some v' := by simp [h3]
  exact q _ (Heap.size_update ..) oth ⟨⟨ox,vs,(oth x (Ne.symm tx)).trans x1,xc,xn,x2,x3,x4⟩,⟨_,_,_,tg,td,t4⟩,tx⟩ ⟨_,_,tg,td,by rw [hv]; exact t4⟩
theorem note_any {base : Heap}{env : Env}{outer : List Env}{L x T0 : Addr}{c : Value}{Q : Unit -> Shared -> Prop}(f1 : A.frames = some (env :: outer))(f2 : s.heap.FunFrames base (env :: outer))(f3 : env.frame = some L)(t : Trc s.heap x T0 c)
    (q : ∀ h' T,Kpt ((env :: outer).filterMap (·.frame)) x T0 s.heap h' T -> Trc h' x T c -> Q () { s with heap := h' }) : wpAny M A (noteFrame (.ref x) env) Q E s := by
  have tt := t
  obtain ⟨⟨ox,vs,x1,xc,xn,x2,x3,x4⟩,⟨oT,ts,v,t1,t2,t3⟩,tx⟩ := t
  unfold noteFrame; simp only [f3]
  refine wpAny_bind (wpAny_field x1 x2 x3 ?_); rw [if_pos (show (Value.ref T0 != Value.none) = true from by simp)]
  refine wpAny_bind (wpAny_field t1 t2 t3 ?_)
  by_cases hv : (v == rawInt L) = true
  · rw [if_pos hv]
    exact wpAny_pure (q s.heap T0 ⟨fun _ _ _ _ _ e => e,fun b o _ e => ⟨o.slots,e⟩,.inl rfl,Nat.le_refl _⟩ tt)
  · rw [if_neg hv]
    refine wpAny_bind (wpAny_setField t1 t2 (Array.getElem?_eq_some_iff.mp t3).1 ?_)
    have oth : ∀ b,b ≠ T0 -> (s.heap.update T0 (Obj.mapFields (·.setIfInBounds 3 Value.none))).get? b = s.heap.get? b := fun b hb => Heap.get?_update_other _ _ (Ne.symm hb)
    have nrec : ∀ b o,s.heap.get? b = some o -> (∀ vs,o.data ≠ .fields vs) -> b ≠ T0 := fun b o e n z => by
      rw [z,t1] at e
      cases e
      exact n ts t2
    have f2' := f2.of_keeps fun b o e n => ⟨o,(oth b (nrec b o e n)).trans e,rfl⟩
    have fT : ∀ b ∈ (env :: outer).filterMap (·.frame),b ≠ T0 := fun b hb => by
      obtain ⟨_,o,e1,e2⟩ := f2.mem hb
      exact nrec b o e1 e2
    have xf : x ∉ (env :: outer).filterMap (·.frame) := fun hm => by
      obtain ⟨_,o,e1,e2⟩ := f2.mem hm
      rw [x1] at e1
      cases e1
      exact e2 vs x2
    generalize hg0 : s.heap.update T0 (Obj.mapFields (·.setIfInBounds 3 Value.none)) = g0 at *
    have sz0 : g0.objs.size = s.heap.objs.size := by rw [<- hg0]; exact Heap.size_update ..
    have x0 : g0.get? x = some ox := (oth x (Ne.symm tx)).trans x1
    refine wpAny_bind (wpAny_frameOf_fun (s := { s with heap := g0 }) f1 f2' f3 fun g1 m1 => wpAny_bind (wpAny_entryPlaceOf fun pl hpl => ?_))
    unfold EntryCells.newEntry newFields
    refine wpAny_bind (wpAny_newObj_type ?_ (hpl.sizeOk5 _ _ _ _ _))
    generalize hob : ({ cls := .type "traceback",dict := none,data := .fields ([.ref T0,.ref L,.none,rawInt L,.none] ++ (if pl.isEmpty then List.replicate 6 Value.none else pl)).toArray } : Obj) = ob
    have dob : ob.data = .fields ([.ref T0,.ref L,.none,rawInt L,.none] ++ (if pl.isEmpty then List.replicate 6 Value.none else pl)).toArray := by rw [<- hob]
    have lob : ob.isFreed = false := Obj.isFreed_of_fields dob
    have xg1 : g1.get? x = some ox := (m1.2.1 x xf).trans x0
    have xg2 := Heap.get?_push_of_some (h := g1) ob xg1
    have h1 : 1 < vs.size := (Array.getElem?_eq_some_iff.mp x3).1
    refine wpAny_setField xg2 x2 h1 ?_
    have nTx : g1.objs.size ≠ x := Nat.ne_of_gt (Heap.lt_size xg1)
    have dx := Obj.data_mapFields x2 (·.setIfInBounds 1 (Value.ref g1.objs.size))
    have xg3 := Heap.get?_update_self (Obj.mapFields (·.setIfInBounds 1 (Value.ref g1.objs.size))) xg2 (Obj.isFreed_of_fields dx)
    have tg3 := (Heap.get?_update_other (g1.push ob) (Obj.mapFields (·.setIfInBounds 1 (Value.ref g1.objs.size))) (Ne.symm nTx)).trans (Heap.get?_push_size g1 lob)
    refine q _ g1.objs.size ⟨?_,?_,?_,?_⟩ ⟨⟨_,_,xg3,(Obj.cls_mapFields ..).trans xc,(dict_mapF ..).trans xn,dx,by simp [h1],?_⟩,⟨ob,_,rawInt L,tg3,dob,?_⟩,nTx⟩
    · intro b o nf nx nt e
      have e0 : g0.get? b = some o := (oth b nt).trans e
      have e1 : g1.get? b = some o := (m1.2.1 b nf).trans e0
      rw [Heap.get?_update_other _ _ (Ne.symm nx)]
      exact Heap.get?_push_of_some _ e1
    · intro b o hb e
      have e0 : g0.get? b = some o := (oth b (fT b hb)).trans e
      obtain ⟨sl,e1⟩ := m1.2.2 b o e0
      have nbx : b ≠ x := fun z => xf (z ▸ hb)
      refine ⟨sl,?_⟩
      rw [Heap.get?_update_other _ _ (Ne.symm nbx)]
      exact Heap.get?_push_of_some _ e1
    · right
      rw [m1.1,sz0]
      exact Nat.le_refl _
    · rw [Heap.size_update,Heap.size_push,m1.1,sz0]
      exact Nat.le_succ _
    · rw [Array.getElem?_setIfInBounds_ne (by decide)]
      exact x4
    · first | (simp; done) | (rcases hpl with rfl | ⟨_,_,_,_,_,_,_,rfl⟩ <;> simp)
end
section
variable {P : Program}{w : World}{K : PySem.W.Frag}{mg : Str -> Option Value}{base : Heap}{N : List Str}{qual : Str}{scope : Scope}{f : Addr}{cd : Value}{A : Around}{outer : List Env}{s : Shared}{H : Hp}{E : XK}
theorem xe_fin {pins : List (Addr × Obj)}{σ : St}{H2 : Hp}{s' : Shared}{h2 : Heap}{x C : Addr}{bad : List Addr}(I2 : Inv (cxOf (CX1 P w base) P w K mg base N qual scope f cd A outer s H E) pins σ H2 s')
    (hbad : ∀ c ∈ bad,H2 c = none /\ s.heap.get? c = none) (keep : ∀ b o,b ∉ frs (envOfC qual scope s.heap.objs.size f cd :: outer) -> b ∉ bad -> s'.heap.get? b = some o -> h2.get? b = some o)
    (slot : ∀ b o,b ∈ frs (envOfC qual scope s.heap.objs.size f cd :: outer) -> s'.heap.get? b = some o -> ∃ sl,h2.get? b = some { o with slots := sl }) (ex : Exd H2 base s.heap h2 x C) (q : E (.ref C) none H2) :
    CX1 P w base outer H s E (.ref x) { s' with heap := h2 } := by
  have hst : s'.heap.FunFrames base (envOfC qual scope s.heap.objs.size f cd :: outer) := I2.stack
  have hfree : ∀ b ∈ frs (envOfC qual scope s.heap.objs.size f cd :: outer),H2 b = none := I2.stkFree
  have U : Un (frs outer) [] H H2 s.heap s'.heap := I2.base
  have hok2 : HOk P w H2 s'.heap := I2.hok
  have ne1 : ∀ b o,s.heap.get? b = some o -> b ∉ bad := fun b o eb z => by
    have := (hbad b z).2
    rw [eb] at this; cases this
  have nf : ∀ b o,s.heap.get? b = some o -> b ∉ frs outer -> b ∉ frs (envOfC qual scope s.heap.objs.size f cd :: outer) := fun b o eb nb hb => by
    rcases List.mem_cons.mp (show b ∈ s.heap.objs.size :: frs outer from hb) with z | z
    · exact absurd (Heap.lt_size eb) (by rw [z]; exact Nat.lt_irrefl _)
    · exact nb z
  refine ⟨x,C,H2,rfl,I2.os,I2.bare,⟨fun b o eb n hb hx => keep b o (nf b o eb hb) (ne1 b o eb) (U.keep b o eb n hb hx),fun b o eb n hb hx => ?_,U.free,fun b o eb hx => ?_,U.tups,U.frzs,U.tbls⟩,fun b o eb => ?_,ex,q⟩
  · obtain ⟨z,e4⟩ := U.slot b o eb n hb hx
    obtain ⟨z',e5⟩ := slot b _ (List.mem_cons_of_mem _ hb) e4
    exact ⟨z',e5⟩
  · obtain ⟨o',e4⟩ := U.there b o eb hx
    by_cases hb : b ∈ frs (envOfC qual scope s.heap.objs.size f cd :: outer)
    · obtain ⟨z,e5⟩ := slot b o' hb e4
      exact ⟨_,e5⟩
    · exact ⟨o',keep b o' hb (ne1 b o eb) e4⟩
  · refine (hok2 b o eb).stay (fun c v hc ev => keep c v (fun hb => ?_) (fun z => ?_) ev) (fun _ z => z) fun _ _ z => z
    · have := hfree c hb
      rcases hc with y | y
      · rw [y,eb] at this; cases this
      · rw [y] at this; cases this
    · have := (hbad c z).1
      rcases hc with y | y
      · rw [y,eb] at this; cases this
      · rw [y] at this; cases this
theorem comp_pass {N' : List Str}{sc : Scope}{cells : List (Str × Addr)}{C0 : Addr}{fp : List Addr}{s2 : Shared}{H0 : Hp}(hI : CompIn (cxOf (CX1 P w base) P w K mg base N qual scope f cd A outer s H E) C0 fp s2 H0) :
    Passes (CX1 P w base) (cxComp (cxOf (CX1 P w base) P w K mg base N qual scope f cd A outer s H E) N' sc cells C0 fp s2 H0) E := by
  intro pins σ H1 s1 e s' I h
  obtain ⟨pins0,σ0,I0,hf,hC⟩ := hI
  obtain ⟨x,C,H2,rfl,os,bare,U2,hok2,⟨hx0,hb0,hg0,ox,vs,T0,oT,ts,x1,xc,xn,xd,v1,v2,tx,hT0,bT0,gT0,t1,t2,t3⟩,q⟩ := h
  have I2 : Inv (cxComp (cxOf (CX1 P w base) P w K mg base N qual scope f cd A outer s H E) N' sc cells C0 fp s2 H0) pins σ H2 s' := I.raised os bare U2 hok2
  have I3 : Inv (cxOf (CX1 P w base) P w K mg base N qual scope f cd A outer s H E) pins0 σ0 H2 s' := I0.call' (ch := fp) I2.os I2.base I2.hok I2.bare fun b hb => by
    obtain ⟨f0,f1,f2,f3,f4,f5⟩ := hf b hb
    exact ⟨f3,f1,f4,f5⟩
  have hst : s'.heap.FunFrames base (envOfC qual scope s.heap.objs.size f cd :: outer) := I3.stack
  have fr : ∀ b ∈ frs (envOfC qual scope s.heap.objs.size f cd :: outer),b ≠ C0 := fun b hb z => by
    obtain ⟨_,o,e1,_⟩ := (show s2.heap.FunFrames base (envOfC qual scope s.heap.objs.size f cd :: outer) from I0.stack).mem hb
    have := Heap.lt_size e1
    rw [z] at this
    exact absurd (Nat.lt_of_lt_of_le this hC) (Nat.lt_irrefl _)
  obtain ⟨m,nsm,_⟩ := I2.loc
  have nsm : s'.heap.Ns C0 m := nsm
  have fC : H2 C0 = none := I2.free
  have sC : s.heap.get? C0 = none := by
    cases z : s.heap.get? C0 with
    | none => rfl
    | some o =>
      have h1 := Heap.lt_size z
      have h2 : s.heap.objs.size <= s2.heap.objs.size := I0.sz
      exact absurd (Nat.lt_of_lt_of_le h1 (Nat.le_trans h2 hC)) (Nat.lt_irrefl _)
  have sx : s.heap.get? x = none /\ s.heap.get? T0 = none := by
    have I1 : Inv (cxOf (CX1 P w base) P w K mg base N qual scope f cd A outer s H E) pins0 σ0 H1 s1 := I0.call' (ch := fp) I.os I.base I.hok I.bare fun b hb => by
      obtain ⟨f0,f1,f2,f3,f4,f5⟩ := hf b hb
      exact ⟨f3,f1,f4,f5⟩
    have U1 : Un (frs outer) [] H H1 s.heap s1.heap := I1.base
    constructor
    · cases z : s.heap.get? x with
      | none => rfl
      | some o =>
        obtain ⟨o',e4⟩ := U1.there x o z (by simp)
        rw [hg0] at e4; cases e4
    · cases z : s.heap.get? T0 with
      | none => rfl
      | some o =>
        obtain ⟨o',e4⟩ := U1.there T0 o z (by simp)
        rw [gT0] at e4; cases e4
  have Cx : C0 ≠ x := fun z => by
    obtain ⟨o,es,ep,ho,hd,_⟩ := nsm
    rw [z,x1] at ho; cases ho
    rw [xd] at hd; cases hd
  have CT : C0 ≠ T0 := fun z => by
    obtain ⟨o,es,ep,ho,hd,_⟩ := nsm
    rw [z,t1] at ho; cases ho
    rw [t2] at hd; cases hd
  have tr0 : Trc s'.heap x T0 (.ref C) := ⟨⟨ox,vs,x1,xc,xn,xd,v1,v2⟩,⟨oT,ts,_,t1,t2,t3⟩,tx⟩
  show wpAny (model P w) (A.deeper (envOfC qual scope s.heap.objs.size f cd)) (noteFrame (.ref x) (envOfC qual scope s.heap.objs.size f cd)) (fun _ s'' => CErr _ C0 (.ref x) s'') _ s'
  have fresh : ∀ a,s'.heap.objs.size <= a -> H2 a = none /\ base.get? a = none /\ s.heap.get? a = none := fun a ha => by
    refine ⟨I3.hok.fresh ha,?_,?_⟩
    · cases z : base.get? a with
      | none => rfl
      | some o => exact absurd (Nat.lt_of_lt_of_le (Heap.lt_size (I3.bk a o z)) ha) (Nat.lt_irrefl _)
    · cases z : s.heap.get? a with
      | none => rfl
      | some o =>
        obtain ⟨o',e4⟩ := (show Un (frs outer) [] H H2 s.heap s'.heap from I3.base).there a o z (by simp)
        exact absurd (Nat.lt_of_lt_of_le (Heap.lt_size e4) ha) (Nat.lt_irrefl _)
  have fT0 : ∀ b ∈ frs (envOfC qual scope s.heap.objs.size f cd :: outer),b ≠ T0 := fun b hb z => by
    obtain ⟨_,o,e1,e2⟩ := hst.mem hb
    rw [z,t1] at e1; cases e1
    exact e2 ts t2
  have C0lt : C0 < s'.heap.objs.size := nsm.lt
  refine note_any (base := base) I3.ok.frames hst rfl tr0 fun h1 T k1 tr1 => ?_
  have TC : T ≠ C0 := by
    rcases k1.new with z | z
    · rw [z]; exact Ne.symm CT
    · exact Nat.ne_of_gt (Nat.lt_of_lt_of_le C0lt z)
  have oldT : ∀ b o,s'.heap.get? b = some o -> b ≠ T0 -> b ≠ T := fun b o e n => by
    rcases k1.new with z | z
    · rw [z]; exact n
    · exact Nat.ne_of_lt (Nat.lt_of_lt_of_le (Heap.lt_size e) z)
  refine ⟨m,?_,fun h' sb cenv hl => ?_⟩
  · obtain ⟨o,es,ep,ho,r⟩ := nsm
    exact ⟨o,es,ep,k1.keep C0 o (fun hb => fr C0 hb rfl) Cx CT ho,r⟩
  have sb2 : ∀ b,b ≠ C0 -> h'.get? b = h1.get? b := sb.2
  have tr2 : Trc h' x T (.ref C) := by
    obtain ⟨⟨ox',vs',a1,a2⟩,⟨oT',ts',v',b1,b2⟩,ne⟩ := tr1
    exact ⟨⟨ox',vs',(sb2 x (Ne.symm Cx)).trans a1,a2⟩,⟨oT',ts',v',(sb2 T TC).trans b1,b2⟩,ne⟩
  unfold PySem.passOn
  obtain ⟨oy,ys,y1,y2,y3,y4,y5,y6⟩ := tr2.ex
  refine wpAny_bind (wpAny_field (s := { s' with heap := h' }) y1 y4 y5 ?_)
  rw [if_neg (by simp)]
  refine wpAny_bind (flight_any (s := { s' with heap := h' }) tr2 fun h3 sz3 oth3 tr3 _ => ?_)
  refine wpAny_throw ?_
  show wpAny (model P w) (A.deeper (envOfC qual scope s.heap.objs.size f cd)) (leaving (envOfC qual scope s.heap.objs.size f cd) (.ref x)) _ _ { s' with heap := h3 }
  have k3 : ∀ b o,b ∉ frs (envOfC qual scope s.heap.objs.size f cd :: outer) -> b ≠ x -> b ≠ T0 -> b ≠ C0 -> s'.heap.get? b = some o -> h3.get? b = some o := fun b o n1 n2 n3 n4 e => by
    rw [oth3 b (oldT b o e n3)]
    exact (sb2 b n4).trans (k1.keep b o n1 n2 n3 e)
  have s3 : ∀ b o,b ∈ frs (envOfC qual scope s.heap.objs.size f cd :: outer) -> s'.heap.get? b = some o -> ∃ sl,h3.get? b = some { o with slots := sl } := fun b o hb e => by
    obtain ⟨sl,e1⟩ := k1.slot b o hb e
    refine ⟨sl,?_⟩
    rw [oth3 b (oldT b o e (fT0 b hb))]
    exact (sb2 b (fr b hb)).trans e1
  have st3 : h3.FunFrames base (envOfC qual scope s.heap.objs.size f cd :: outer) := funs_of (fun b hb o e => by
    obtain ⟨sl,e1⟩ := s3 b o hb e
    exact ⟨_,e1,rfl⟩) hst
  have le3 : s'.heap.objs.size <= h3.objs.size := by
    rw [sz3]
    have : h'.objs.size = h1.objs.size := sb.1
    show s'.heap.objs.size <= h'.objs.size
    rw [this]; exact k1.sz
  unfold leaving
  refine wpAny_bind (note_any (s := { s' with heap := h3 }) (base := base) I3.ok.frames st3 rfl tr3 fun h4 T4 k4 tr4 => ?_)
  refine flight_any (s := { s' with heap := h4 }) tr4 fun h5 sz5 oth5 tr5 fl => ?_
  have old4 : ∀ b o,s'.heap.get? b = some o -> b ≠ T0 -> b ≠ T4 := fun b o e n => by
    rcases k4.new with z | z
    · rw [z]; exact oldT b o e n
    · exact Nat.ne_of_lt (Nat.lt_of_lt_of_le (Nat.lt_of_lt_of_le (Heap.lt_size e) le3) z)
  have new4 : H2 T4 = none /\ base.get? T4 = none /\ s.heap.get? T4 = none := by
    rcases k4.new with z | z
    · rw [z]
      rcases k1.new with y | y
      · rw [y]; exact ⟨hT0,bT0,sx.2⟩
      · exact fresh T y
    · exact fresh T4 (Nat.le_trans le3 z)
  refine xe_fin (s' := s') (h2 := h5) (bad := [x,T0,C0]) I3 (fun c hc => ?_) (fun b o n1 n2 e => ?_) (fun b o hb e => ?_) ⟨hx0,hb0,sx.1,?_⟩ q
  · simp only [List.mem_cons,List.not_mem_nil,or_false] at hc
    rcases hc with rfl | rfl | rfl
    · exact ⟨hx0,sx.1⟩
    · exact ⟨hT0,sx.2⟩
    · exact ⟨fC,sC⟩
  · simp only [List.mem_cons,List.not_mem_nil,or_false,not_or] at n2
    obtain ⟨a1,a2,a3⟩ := n2
    rw [oth5 b (old4 b o e a2)]
    exact k4.keep b o n1 a1 (oldT b o e a2) (k3 b o n1 a1 a2 a3 e)
  · obtain ⟨sl,e1⟩ := s3 b o hb e
    obtain ⟨sl',e2⟩ := k4.slot b _ hb e1
    refine ⟨sl',?_⟩
    rw [oth5 b (old4 b o e (fT0 b hb))]
    exact e2
  · obtain ⟨oz,zs,z1,z2,z3,z4,z5,z6⟩ := tr5.ex
    obtain ⟨oT',ts',u1,u2,u3⟩ := fl
    exact ⟨oz,zs,T4,oT',ts',z1,z2,z3,z4,z5,z6,tr5.ne,new4.1,new4.2.1,new4.2.2,u1,u2,u3⟩
end
end L2
set_option Elab.async false
set_option linter.all false
set_option maxRecDepth 100000
set_option maxHeartbeats 4000000
namespace L2
open PySem PySem.Spec PyProof.Rows
section
variable {X : Cx}{W : Wd}{e o a b l tg : Expr}{es : List Expr}{pos : Pos}{dO de da db dl : DE}{dA : DA}{fz : Bool}
theorem blkJX {N' : List Str} {scope : Scope} {map : List (Option Nat)} {elt : Expr} {ifs : List Expr} {g : TG} {dt : DT} (calm : X.calm = true) (kind : scope.kind = .function) (loc : ∀ x ∈ scope.names,x.2 = .local -> scope.names.lookup x.1 = some .local) (free : (scope.names.all fun p => !(p.2 == NameKind.free) || (X.env.kindOf p.1 == some .cell || X.env.kindOf p.1 == some .free)) = true) (cap : CapOk X scope map N') (keep : GKeep g map)
    (run : ∀ cells C fp s H,CompIn X C fp s H -> PG (cxComp X N' scope cells C fp s H) tg g /\ JIf (cxComp X N' scope cells C fp s H) W ifs dt /\ JE (cxComp X N' scope cells C fp s H) W elt de) : Blk X N' scope map tg elt ifs g (dnT W dt) (dn W de) :=
  ⟨calm,kind,loc,free,cap,keep,fun cells C fp s H i => ⟨(run cells C fp s H i).1,(run cells C fp s H i).2.1.h,(run cells C fp s H i).2.2.h⟩⟩
end
end L2
set_option Elab.async false
set_option linter.all false
set_option maxRecDepth 100000
set_option maxHeartbeats 4000000
namespace L2
open PySem PySem.Spec PyProof.Rows
abbrev Fz (o : Obj) : HO := .frz o (.own 0)
def RecO (q : Str)(oc : Obj) : Prop := ∃ (vs : Array Value) (t : Tok),oc.data = .fields vs /\ vs[1]? = some (.str q t)
def BM (mg : Str -> Option Value)(h : Heap) : Prop := ∃ bm ob,mg "__builtins__" = some (.ref bm) /\ bm ≠ builtinsNs /\ h.get? bm = some ob /\ ob.cls = .type "module" /\ ob.dict = some builtinsNs /\ ob.data = .plain
theorem among_snoc {pos : Pos}{a b : Int}{c cv : Value} : ∀ (l : List Value),TriplesOk l -> codeAmong pos (l ++ [rawInt a,rawInt b,c]) = some cv -> codeAmong pos l = some cv \/ cv = c
  | [],_,e => by
    simp only [List.nil_append,codeAmong,rawInt] at e
    split at e
    · exact .inr (Option.some.inj e).symm
    · cases e
  | .int a' t :: .int b' u :: x :: rest,h,e => by
    simp only [List.cons_append,codeAmong] at e ⊢
    split at e
    · rename_i hc; rw [if_pos hc]; exact .inl e
    · rename_i hc; rw [if_neg hc]; exact among_snoc rest h e
theorem lam_make {X : Cx}{pins : List (Addr × Obj)}{σ : St}{H : Hp}{s : Shared}{c P : Addr}{q : Str}{params : Arguments}{body : Expr}{scope : Scope}{pos : Pos}{clos : List (Str × Addr)}{Q : Value -> Shared -> Prop}(I : Inv X pins σ H s)
    (hq : H P = some (.cod q)) (hcd : X.env.code = .ref c) (hC : PySem.W.CodeHd X.base c P) (hB : BM X.mg X.base) (hcl : closureFor scope X.env = pure clos) (hdef : defaultsOf params X.env = ([],[])) (hqu : X.env.qual ++ "<lambda>" = q)
    (h : ∀ (f c' : Addr) (oc : Obj) (pm ctv : Value) (h' : Heap) (tk : Tok) (H' : Hp),(H' = H \/ (H c' = none /\ H' = upd H c' (Fz oc))) -> Inv X pins σ H' { s with heap := h',toks := tk } ->
      h'.get? f = some (PySem.W.kla_obj "<lambda>" q params body scope clos pm c' ctv) -> s.heap.objs.size <= f -> H' f = none -> H' c' = some (Fz oc) -> RecO q oc -> Q (.ref f) { s with heap := h',toks := tk }) :
    wpAny (model X.prog X.w) X.A (eval (.Lambda params body scope pos) X.env) Q X.xe s := by
  subst hqu
  have hPb : X.base.get? P = none := by
    cases e : X.base.get? P with
    | none => rfl
    | some o => have := (I.bs P o e).2; rw [hq] at this; cases this
  obtain ⟨bm,ob,b1,b2,b3,b4,b5,b6⟩ := hB
  have hgP : mainGlobals ≠ P := fun z => by
    obtain ⟨o,es,ep,e,_⟩ := I.mod.glob
    rw [z,hPb] at e; cases e
  have hbP : bm ≠ P := fun z => by rw [z,hPb] at b3; cases b3
  have hbG : bm ≠ mainGlobals := fun z => by
    obtain ⟨o,es,ep,e,hd,_⟩ := I.mod.glob
    rw [z,e] at b3; cases b3; rw [hd] at b6; cases b6
  have hat : s.heap.BuiltinsAt X.mg P := ⟨bm,ob,b1,b2,hbG,hbP,I.bk _ _ b3,b4,b5,b6⟩
  obtain ⟨ps,hP,ht,hrec⟩ := I.hok P _ hq
  refine PySem.W.kla_eval hdef ?_
  cases hf : codeAmong pos ps.toList with
  | some cv =>
    obtain ⟨c',oc,vs,t,rfl,e1,e2,e3⟩ := hrec pos cv hf
    refine PySem.W.kla_makeFunctionHit hcl I.ok.glob (I.mod.glob.keeps I.bk) hcd (hC.keeps I.bk) hP ht hf hat fun ctv h' tk hk hsz => ?_
    have kk : ∀ b u,s.heap.get? b = some u -> (h'.push { cls := .type "function",data := .func (PySem.W.kla_fn "<lambda>" (X.env.qual ++ "<lambda>") params body scope clos ((X.mg "__name__").getD .none) (.ref c') ctv) }).get? b = some u := fun b u e => Heap.get?_push_of_some _ (hk b u e)
    have J := I.kept (t' := tk) kk
    refine h _ c' oc _ ctv _ tk H (.inl rfl) J (Heap.get?_push_size _ rfl) hsz ?_ e1 ⟨vs,t,e2,e3⟩
    cases z : H h'.objs.size with
    | none => rfl
    | some o => exact absurd (Nat.lt_of_lt_of_le (I.hok.lt z) hsz) (Nat.lt_irrefl _)
  | none =>
    refine PySem.W.kla_makeFunction hcl I.ok.glob (I.mod.glob.keeps I.bk) hcd (hC.keeps I.bk) hP ht hf hgP hat fun c' ctv h' tk hx hge hlt hcr htb => ?_
    obtain ⟨c2,oc,vs,t,e0,e1,e2,e3⟩ := hcr
    cases e0
    have hn : H c' = none := I.hok.fresh hge
    have hPlt : P < s.heap.objs.size := I.hok.lt hq
    have hcP : P ≠ c' := fun z => by rw [z,hn] at hq; cases hq
    generalize hF : h'.push (PySem.W.kla_obj "<lambda>" (X.env.qual ++ "<lambda>") params body scope clos ((X.mg "__name__").getD .none) c' ctv) = hh
    have g1 : ∀ b u,h'.get? b = some u -> hh.get? b = some u := fun b u e => by rw [<- hF]; exact Heap.get?_push_of_some _ e
    have kk : ∀ b u,b ≠ P -> s.heap.get? b = some u -> hh.get? b = some u := fun b u n e => g1 b u (hx b u n e)
    have nP : ∀ b,H b = none -> b ≠ P := fun b n z => by rw [z,hq] at n; cases n
    have ltc : ∀ b u,s.heap.get? b = some u -> b ≠ c' := fun b u e z => by
      have := Heap.lt_size e
      rw [z] at this
      exact absurd (Nat.lt_of_lt_of_le this hge) (Nat.lt_irrefl _)
    have U : Un X.fs [] H (upd H c' (Fz oc)) s.heap hh := ⟨fun b u e n _ _ => kk b u (nP b n) e,fun b u e n _ _ => ⟨u.slots,kk b u (nP b n) e⟩,fun b u e n _ => by rw [upd_ne (ltc b u e)]; exact n,
      fun b u e _ => by
        by_cases z : b = P
        · subst z; exact ⟨_,g1 _ _ htb⟩
        · exact ⟨u,kk b u z e⟩,
      fun b xs e => by rw [upd_ne (ne_of_none e hn)]; exact e,fun b u xs e => by rw [upd_ne (ne_of_none e hn)]; exact e,fun b p e => ⟨#[],by rw [upd_ne (ne_of_none e hn),e]; simp⟩⟩
    have hok : HOk X.prog X.w (upd H c' (Fz oc)) hh := fun b u e => by
      by_cases hb : b = c'
      · subst hb
        rw [upd_same] at e
        cases e
        exact ⟨g1 _ _ e1,_,g1 _ _ e1⟩
      · rw [upd_ne hb] at e
        by_cases hbP' : b = P
        · subst hbP'
          rw [hq] at e
          cases e
          refine ⟨_,g1 _ _ htb,?_,fun pos' cv hc => ?_⟩
          · rw [Array.toList_append]; exact TriplesOk_snoc _ _ _ _ ht
          · rw [Array.toList_append] at hc
            rcases among_snoc _ ht hc with z | z
            · obtain ⟨c3,oc3,vs3,t3,y1,y2,y3⟩ := hrec pos' cv z
              exact ⟨c3,oc3,vs3,t3,y1,by rw [upd_ne (ne_of_none y2 hn)]; exact y2,y3⟩
            · exact ⟨c',oc,vs,t,z,upd_same,e2,e3⟩
        · refine (I.hok b u e).stay (fun v o hv ev => kk v o (fun z => ?_) ev) (fun v z => by rw [upd_ne (ne_of_none z hn)]; exact z) fun v xs z => by rw [upd_ne (ne_of_none z hn)]; exact z
          rcases hv with y | y
          · exact hbP' (y.symm.trans z)
          · rw [z,hq] at y; cases y
    have J := I.un (t' := tk) U hok
    have hfs : s.heap.objs.size <= h'.objs.size := Nat.le_trans hge (Nat.le_of_lt hlt)
    have hge' : h'.objs.size ≠ c' := Nat.ne_of_gt hlt
    refine h _ c' oc ((X.mg "__name__").getD .none) ctv hh tk _ (.inr ⟨hn,rfl⟩) J (by rw [<- hF]; exact Heap.get?_push_size _ rfl) hfs ?_ upd_same ⟨vs,t,e2,e3⟩
    rw [upd_ne hge']
    cases z : H h'.objs.size with
    | none => rfl
    | some o => exact absurd (Nat.lt_of_lt_of_le (I.hok.lt z) hfs) (Nat.lt_irrefl _)
def bigB (X : Cx)(s : Shared)(H : Hp) : Heap := PySem.W.hideAll s.heap (trk s.heap H ++ frs X.stack)
section
variable {X : Cx}{pins : List (Addr × Obj)}{σ : St}{H : Hp}{s : Shared}
theorem bigB_get {b : Addr}{o : Obj}(e : s.heap.get? b = some o)(n : H b = none)(nf : b ∉ frs X.stack) : (bigB X s H).get? b = some o :=
  PySem.W.hideAll_get _ e fun hm => by
    rcases List.mem_append.mp hm with z | z
    · have q : (H b).isSome = true := (List.mem_filter.mp z).2
      rw [n] at q; simp at q
    · exact nf z
theorem of_bigB {b : Addr}{o : Obj}(e : (bigB X s H).get? b = some o) : s.heap.get? b = some o /\ H b = none := by
  have e' : s.heap.get? b = some o := PySem.W.of_hideAll _ e
  refine ⟨e',?_⟩
  cases q : H b with
  | none => rfl
  | some x =>
    have hm : b ∈ trk s.heap H ++ frs X.stack := List.mem_append_left _ (List.mem_filter.mpr ⟨List.mem_range.mpr (Heap.lt_size e'),by simp [q]⟩)
    have z : (bigB X s H).get? b = none := PySem.W.hideAll_none _ hm
    rw [z] at e; cases e
theorem Inv.bigK (I : Inv X pins σ H s) : ∀ b o,X.base.get? b = some o -> (bigB X s H).get? b = some o := fun b o e => by
  refine bigB_get (I.bk b o e) (I.bs b o e).2 fun hb => ?_
  rcases List.mem_cons.mp (I.stkSub b hb) with z | z
  · have h1 := Heap.lt_size e
    rw [z] at h1
    exact absurd (Nat.lt_of_lt_of_le h1 (Nat.le_trans I.ok.bsz I.ok.above)) (Nat.lt_irrefl _)
  · exact I.ok.nofr e z
theorem funFrames_hide {h g : Heap} : ∀ {l : List Env},h.FunFrames g l -> ∀ (B : Heap),(∀ b ∈ frs l,B.get? b = none) -> h.FunFrames B l
  | [],_,_,_ => trivial
  | env :: r,⟨hk,⟨L,o,hf,hn,ho,hd⟩,hr⟩,B,hB => by
    have hL : ∀ b ∈ frs r,b ∈ frs (env :: r) := fun b hb => by unfold frs; rw [List.filterMap_cons,hf]; exact List.mem_cons_of_mem _ hb
    exact ⟨hk,⟨L,o,hf,hB L (by unfold frs; rw [List.filterMap_cons,hf]; exact List.mem_cons_self),ho,hd⟩,funFrames_hide hr B fun b hb => hB b (hL b hb)⟩
theorem Inv.bigM (I : Inv X pins σ H s) : Mod X.K X.mg (bigB X s H) :=
  ⟨I.mod.kin.keeps I.bigK,I.mod.glob.keeps I.bigK,let ⟨mb,h1,h2⟩ := I.mod.blt; ⟨mb,h1.keeps I.bigK,h2⟩,I.mod.nolimit.keeps I.bigK⟩
theorem Inv.env0B (I : Inv X pins σ H s) : Env0 X.prog X.w X.K X.mg (bigB X s H) X.A X.stack s H :=
  ⟨I.ok.frames,I.bigM,fun b o e => of_bigB e,Nat.le_of_eq (PySem.W.hideAll_size _ _),funFrames_hide I.stack _ fun b hb => PySem.W.hideAll_none _ (List.mem_append_right _ hb),I.stkFree,I.hok,I.bare⟩
theorem Inv.bigC (I : Inv X pins σ H s){x : Str}{c : Addr}{u : Option Value}(hfn : X.fn x = true)(hc : X.env.cells.lookup x = some c)(z : s.heap.IsCell c u) : (bigB X s H).IsCell c u := by
  obtain ⟨o,ho,hd⟩ := z
  refine ⟨o,bigB_get ho (I.freeC x c hc) fun hb => ?_,hd⟩
  rcases List.mem_cons.mp (I.stkSub c hb) with y | y
  · exact I.cne x c hc y
  · obtain ⟨_,o',ho',_⟩ := I.ok.funs.mem y
    exact absurd (Nat.lt_of_lt_of_le (Heap.lt_size ho') (I.ok.cab x c hfn hc)) (Nat.lt_irrefl _)
end
end L2
set_option Elab.async false
set_option linter.all false
set_option maxRecDepth 100000
set_option maxHeartbeats 4000000
namespace L2
open PySem PySem.Spec PyProof.Rows
def cxLam (CX : CXT)(P : Program)(w : World)(K : PySem.W.Frag)(mg : Str -> Option Value)(base : Heap)(N : List Str)(qual : Str)(scope : Scope)(f : Addr)(cd : Value)(cl : List (Str × Addr))(A : Around)(outer : List Env)(s : Shared)(H : Hp)(E : XK) : Cx where
  prog := P
  w := w
  K := K
  mg := mg
  base := base
  A := A.deeper (PySem.W.envX qual scope s.heap.objs.size f cd cl)
  N := N
  s₀ := s
  H₀ := H
  env := PySem.W.envX qual scope s.heap.objs.size f cd cl
  outer := outer
  stack := PySem.W.envX qual scope s.heap.objs.size f cd cl :: outer
  ex := []
  calm := true
  fn := fun _ => false
  pn := []
  xe := fun e s' => wpAny (model P w) (A.deeper (PySem.W.envX qual scope s.heap.objs.size f cd cl)) (leaving (PySem.W.envX qual scope s.heap.objs.size f cd cl) e) (fun _ s'' => CX outer H s E e s'') (fun e' s'' => CX outer H s E e' s'') s'
theorem xe_passL {P : Program}{w : World}{K : PySem.W.Frag}{mg : Str -> Option Value}{base : Heap}{N : List Str}{qual : Str}{scope : Scope}{f : Addr}{cd : Value}{cl : List (Str × Addr)}{A : Around}{outer : List Env}{s : Shared}{H : Hp}{E : XK} :
    Passes (CX1 P w base) (cxLam (CX1 P w base) P w K mg base N qual scope f cd cl A outer s H E) E := by
  intro pins σ H1 s1 e s' I h
  obtain ⟨x,C,H2,rfl,os,bare,U2,hok2,⟨hx0,hb0,hg0,ox,vs,T0,oT,ts,x1,xc,xn,xd,v1,v2,tx,hT0,bT0,gT0,t1,t2,t3⟩,q⟩ := h
  have I2 : Inv (cxLam (CX1 P w base) P w K mg base N qual scope f cd cl A outer s H E) pins σ H2 s' := I.raised os bare U2 hok2
  have hst : s'.heap.FunFrames base (PySem.W.envX qual scope s.heap.objs.size f cd cl :: outer) := I2.stack
  have hfree : ∀ b ∈ frs (PySem.W.envX qual scope s.heap.objs.size f cd cl :: outer),H2 b = none := I2.stkFree
  have U1 : Un (frs outer) [] H H1 s.heap s1.heap := I.base
  have U : Un (frs outer) [] H H2 s.heap s'.heap := I2.base
  show wpAny (model P w) (A.deeper (PySem.W.envX qual scope s.heap.objs.size f cd cl)) (leaving (PySem.W.envX qual scope s.heap.objs.size f cd cl) (.ref x)) _ _ s'
  refine leave_next (s := s') (base := base) I2.ok.frames hst rfl x1 xd v1 t1 t2 t3 tx fun h2 T g => ?_
  have ne1 : ∀ b o,s.heap.get? b = some o -> b ≠ x /\ b ≠ T0 := fun b o eb => by
    obtain ⟨o',e4⟩ := U1.there b o eb (by simp)
    refine ⟨fun z => ?_,fun z => ?_⟩
    · rw [z,hg0] at e4
      cases e4
    · rw [z,gT0] at e4
      cases e4
  have nf : ∀ b o,s.heap.get? b = some o -> b ∉ frs outer -> b ∉ frs (PySem.W.envX qual scope s.heap.objs.size f cd cl :: outer) := fun b o eb nb hb => by
    rcases List.mem_cons.mp (show b ∈ s.heap.objs.size :: frs outer from hb) with z | z
    · exact absurd (Heap.lt_size eb) (by rw [z]; exact Nat.lt_irrefl _)
    · exact nb z
  have nTo : ∀ b o,s'.heap.get? b = some o -> b ≠ T := fun b o eb z => by
    have h1 := Heap.lt_size eb
    rw [z] at h1
    exact absurd (Nat.lt_of_lt_of_le h1 g.new) (Nat.lt_irrefl _)
  have tH : H2 T = none := by
    cases z : H2 T with
    | none => rfl
    | some o =>
      obtain ⟨ob,eo⟩ := (hok2 T o z).ex
      exact absurd rfl (nTo T ob eo)
  have dx := Obj.data_mapFields xd (·.setIfInBounds 1 (Value.ref T))
  refine ⟨x,C,H2,rfl,I2.os,bare,⟨fun b o eb n hb hx => g.keep b o (nf b o eb hb) (ne1 b o eb).1 (by simpa using (ne1 b o eb).2) (U.keep b o eb n hb hx),fun b o eb n hb hx => ?_,U.free,fun b o eb hx => ?_,U.tups,U.frzs,U.tbls⟩,fun b o eb => ?_,⟨hx0,hb0,?_,?_⟩,q⟩
  · obtain ⟨z,e4⟩ := U.slot b o eb n hb hx
    obtain ⟨z',e5⟩ := g.slot b _ (List.mem_cons_of_mem _ hb) e4
    exact ⟨z',e5⟩
  · obtain ⟨o',e4⟩ := U.there b o eb hx
    by_cases hb : b ∈ frs (PySem.W.envX qual scope s.heap.objs.size f cd cl :: outer)
    · obtain ⟨z,e5⟩ := g.slot b o' hb e4
      exact ⟨_,e5⟩
    · exact ⟨o',g.keep b o' hb (ne1 b o eb).1 (by simpa using (ne1 b o eb).2) e4⟩
  · have nx : b ≠ x := fun z => by rw [z,hx0] at eb; cases eb
    refine (hok2 b o eb).stay (fun c v hc ev => g.keep c v (fun hb => ?_) (fun z => ?_) (fun z => ?_) ev) (fun _ z => z) fun _ _ z => z
    · have := hfree c hb
      rcases hc with y | y
      · rw [y,eb] at this; cases this
      · rw [y] at this; cases this
    · rcases hc with y | y
      · rw [<- y,z,hx0] at eb; cases eb
      · rw [z,hx0] at y; cases y
    · have z : c = T0 := by simpa using z
      rcases hc with y | y
      · rw [<- y,z,hT0] at eb; cases eb
      · rw [z,hT0] at y; cases y
  · cases z : s.heap.get? x with
    | none => rfl
    | some o => exact absurd rfl (ne1 x o z).1
  · obtain ⟨oT',ts',g1,g2,g3⟩ := g.tr
    refine ⟨_,_,T,oT',ts',g.exc,(Obj.cls_mapFields ..).trans xc,(dict_mapF ..).trans xn,dx,?_,?_,?_,tH,?_,?_,g1,g2,g3⟩
    · have := (Array.getElem?_eq_some_iff.mp v1).1
      simp [this]
    · rw [Array.getElem?_setIfInBounds_ne (by decide)]
      exact v2
    · intro z
      exact nTo x _ x1 z.symm
    · cases z : base.get? T with
      | none => rfl
      | some o => exact absurd rfl (nTo T o (I2.bk T o z))
    · cases z : s.heap.get? T with
      | none => rfl
      | some o =>
        obtain ⟨o',e4⟩ := U.there T o z (by simp)
        exact absurd rfl (nTo T o' e4)
structure LamOk (P : Program)(w : World)(K : PySem.W.Frag)(mg : Str -> Option Value)(base : Heap)(CX : CXT)(k : Nat)(f c' : Addr)(oc : Obj)(sp : Hp -> VK -> XK -> Prop) : Prop where
  at_ : ∃ oc' od fd sl,base.get? f = some ⟨oc',od,.func fd,sl⟩
  run : ∀ (A : Around) (outer : List Env) (s : Shared) (H : Hp) (Q : VK) (E : XK),Room k A -> Env0 P w K mg base A outer s H -> H c' = some (Fz oc) -> sp H Q E -> codeAny (model P w) A (.call (.ref f) ⟨[],[]⟩) (CR CX outer P w H s Q E) s
structure LamScope (scope : Scope)(cl : List (Str × Addr)) : Prop where
  kind : scope.kind = .function
  co : scope.isCoroutine = false
  gen : scope.isGenerator = false
  nocell : ∀ x ∈ scope.names,x.2 ≠ .cell
  has : ∀ x,scope.names.lookup x = some .free -> ∃ c,cl.lookup x = some c
  inj : ∀ x y c,cl.lookup x = some c -> cl.lookup y = some c -> x = y
  nl : ∀ p ∈ cl,scope.names.lookup p.1 ≠ some .local
theorem lookup_mem2 {κ ν : Type}[BEq κ][LawfulBEq κ] : ∀ {l : List (κ × ν)} {x : κ} {v : ν},l.lookup x = some v -> (x,v) ∈ l
  | (y,u) :: r,x,v,e => by
    rw [List.lookup_cons] at e
    cases h : x == y with
    | true => rw [h] at e; cases e; rw [eq_of_beq h]; exact .head _
    | false => rw [h] at e; exact .tail _ (lookup_mem2 e)
def CellsAt (base : Heap) : List (Str × Addr) -> List V -> Prop
  | [],vs => vs = []
  | (_,c) :: r,vs => ∃ v us u,vs = v :: us /\ base.IsCell c (some u) /\ RelV v u /\ CellsAt base r us
theorem CellsAt.get {base : Heap} : ∀ {cl : List (Str × Addr)} {vs : List V} {i : Nat} {v : V},CellsAt base cl vs -> vs[i]? = some v -> ∃ x c u,cl[i]? = some (x,c) /\ base.IsCell c (some u) /\ RelV v u
  | [],_,_,_,h,e => by rw [show _ = [] from h] at e; simp at e
  | (x,c) :: r,_,0,v,h,e => by
    obtain ⟨w,us,u,rfl,h1,h2,h3⟩ := h
    simp at e; subst e
    exact ⟨x,c,u,rfl,h1,h2⟩
  | (x,c) :: r,_,i + 1,v,h,e => by
    obtain ⟨w,us,u,rfl,h1,h2,h3⟩ := h
    obtain ⟨y,d,z,e1,e2⟩ := CellsAt.get (i := i) h3 (by simpa using e)
    exact ⟨y,d,z,by simpa using e1,e2⟩
theorem CellsAt.mem {base : Heap} : ∀ {cl : List (Str × Addr)} {vs : List V} {x : Str} {c : Addr},CellsAt base cl vs -> (x,c) ∈ cl -> ∃ v,base.IsCell c v
  | (y,d) :: r,_,x,c,h,m => by
    obtain ⟨w,us,u,rfl,h1,h2,h3⟩ := h
    rcases List.mem_cons.mp m with z | z
    · cases z; exact ⟨_,h1⟩
    · exact CellsAt.mem h3 z
theorem CellsAt.len {base : Heap} : ∀ {cl : List (Str × Addr)} {vs : List V},CellsAt base cl vs -> vs.length = cl.length
  | [],_,h => by rw [show _ = [] from h]; rfl
  | (y,d) :: r,_,h => by
    obtain ⟨w,us,u,rfl,h1,h2,h3⟩ := h
    simp [CellsAt.len h3]
theorem lookup_at {κ ν : Type}[BEq κ][LawfulBEq κ] : ∀ {l : List (κ × ν)} {i : Nat} {x : κ} {v : ν},(l.map (·.1)).Nodup -> l[i]? = some (x,v) -> l.lookup x = some v
  | (y,u) :: r,0,x,v,_,e => by simp at e; cases e; simp_all
  | (y,u) :: r,i + 1,x,v,nd,e => by
    have e' : r[i]? = some (x,v) := by simpa using e
    rw [List.map_cons,List.nodup_cons] at nd
    rw [List.lookup_cons]
    have hm : (x,v) ∈ r := List.mem_of_getElem? e'
    cases h : x == y with
    | true =>
      have z : x = y := eq_of_beq h
      subst z
      exact absurd (List.mem_map_of_mem (f := (·.1)) hm) nd.1
    | false => exact lookup_at nd.2 e'
theorem lam_ok {P : Program}{w : World}{K : PySem.W.Frag}{mg : Str -> Option Value}{base : Heap}{CX : CXT}{k : Nat}{f c' : Addr}{oc : Obj}{q : Str}{params : Arguments}{body : Expr}{scope : Scope}{cl : List (Str × Addr)}{pm ctv : Value}{vs : List V}{sp : Hp -> VK -> XK -> Prop}
    (S : LamScope scope cl) (nd : (cl.map (·.1)).Nodup) (hf : base.get? f = some (PySem.W.kla_obj "<lambda>" q params body scope cl pm c' ctv)) (hr : RecO q oc) (hc : CellsAt base cl vs)
    (hbind : bindArgs (PySem.W.kla_fn "<lambda>" q params body scope cl pm (.ref c') ctv) ⟨[],[]⟩ = pure [])
    (hbody : ∀ (A : Around) (outer : List Env) (s : Shared) (H : Hp) (Q : VK) (E : XK),Room k (A.deeper (PySem.W.envX q scope s.heap.objs.size f (.ref c') cl)) -> sp H Q E ->
      ∃ t,PE (cxLam CX P w K mg base (cl.map (·.1)) q scope f (.ref c') cl A outer s H E) body t /\ t (vs.map some) H Q) : LamOk P w K mg base CX (k + 1) f c' oc sp := by
  refine ⟨⟨_,_,_,_,hf⟩,fun A outer s H Q E hroom e0 hH hsp => ?_⟩
  have keep : ∀ b o,base.get? b = some o -> s.heap.get? b = some o := fun b o e => (e0.bs b o e).1
  have lim : s.heap.NoLimit := e0.mod.nolimit.keeps keep
  obtain ⟨hoc,_⟩ := e0.hok c' _ hH
  obtain ⟨fs,t,d1,d2⟩ := hr
  refine PySem.W.kla_callFunE hroom.depth (keep _ _ hf) rfl S.co S.gen rfl ⟨c',oc,fs,t,rfl,hoc,d1,d2⟩ ?_
  rw [hbind]
  refine wpAny_pure (wpAny_newFunctionEnv S.nocell (fun x hx => absurd hx (by simp)) (fun h₁ hns hsb => ⟨lim.fresh _ hsb,?_⟩) S.kind)
  show codeAny _ _ (.expr body (PySem.W.envX q scope s.heap.objs.size f (.ref c') cl)) _ _
  have hk₁ : ∀ b o,s.heap.get? b = some o -> h₁.get? b = some o := fun b o e => hsb.extBut b o (Nat.ne_of_lt (Heap.lt_size e)) (Heap.get?_push_of_some _ e)
  have hcb : ∀ x c,cl.lookup x = some c -> ∃ v o,base.get? c = some o /\ o.data = .cell v := fun x c e => by
    obtain ⟨v,o,e1,e2⟩ := hc.mem (lookup_mem2 e)
    exact ⟨v,o,e1,e2⟩
  have noA : ∀ b : Addr,b ∉ (cxLam CX P w K mg base (cl.map (·.1)) q scope f (.ref c') cl A outer s H E).ex := fun b z => absurd (show b ∈ ([] : List Addr) from z) (by simp)
  have I : Inv (cxLam CX P w K mg base (cl.map (·.1)) q scope f (.ref c') cl A outer s H E) [] (vs.map some) H { s with heap := h₁,toks := s.toks + ([] : List (Str × Value)).length } := by
    refine ⟨⟨e0.mod,S.kind,rfl,rfl,Nat.le_refl _,S.inj,fun x hx => ?_,fun x c hx _ => absurd (show false = true from hx) Bool.false_ne_true,fun _ => hroom.hd,Around.frames_deeper e0.frames,.inr ⟨rfl,rfl⟩,fun b z => absurd z (noA b),e0.bs,e0.bsz,fun b _ _ => noA b,fun b z => absurd z (noA b),e0.funs,e0.frf⟩,
      rfl,e0.bare,Un.kept hk₁,⟨_,hns,fun i x v h1 h2 h3 => ?_⟩,fun x c h => ?_,e0.hok.fresh (Nat.le_refl _),fun x c h => ?_,fun p hp => absurd (show p ∈ ([] : List (Addr × Obj)) from hp) (by simp),e0.hok.kept hk₁,?_⟩
    · rcases hx with hx | hx
      · exact absurd rfl (S.nocell _ (lookup_mem2 (show scope.names.lookup x = some .cell from hx)))
      · exact S.has x hx
    · rw [List.getElem?_map] at h2
      cases ev : vs[i]? with
      | none => rw [ev] at h2; cases h2
      | some v' =>
        rw [ev] at h2
        cases h2
        obtain ⟨y,c,u,e1,e2,e3⟩ := hc.get ev
        have h1' : (cl.map (·.1))[i]? = some x := h1
        rw [List.getElem?_map,e1] at h1'
        cases h1'
        obtain ⟨o,ho,hd⟩ := e2
        refine ⟨u,e3,.inr ⟨.inr ?_,c,lookup_at nd e1,o,hk₁ _ _ (keep _ _ ho),hd⟩⟩
        rcases h3 with h3 | h3 | h3
        · exact (S.nl _ (List.mem_of_getElem? e1) h3).elim
        · exact absurd rfl (S.nocell _ (lookup_mem2 h3))
        · exact h3
    · obtain ⟨v,o,e1,e2⟩ := hcb x c h
      exact ⟨v,o,hk₁ _ _ (keep _ _ e1),e2⟩
    · obtain ⟨v,o,e1,e2⟩ := hcb x c h
      exact (e0.bs _ _ e1).2
    · show (vs.map some).length = (cl.map (·.1)).length
      rw [List.length_map,List.length_map]; exact hc.len
  obtain ⟨tt,ht,hq⟩ := hbody A outer s H Q E (hroom.deeper _) hsp
  refine PySem.W.kla_codeExpr (wpAny_mono (ht [] _ (vs.map some) H _ I hq) (fun v s' hs => ?_) fun e s' hs => hs)
  obtain ⟨v',H',J,rv,qq⟩ := hs
  exact ⟨v',H',J.os,J.bare,J.base,J.hok,rv,qq⟩
section
variable {X : Cx}{CX : CXT}{k : Nat}{f c' : Addr}{oc : Obj}{sp : Hp -> VK -> XK -> Prop}{E : XK}{x : Str}{p pos : Pos}
def tThk (i : Nat)(f c' : Addr)(oc : Obj)(sp : Hp -> VK -> XK -> Prop)(E : XK) : TE := fun σ H Q => σ[i]? = some (some (.ref f)) /\ H c' = some (Fz oc) /\ sp H Q E
theorem pe_thunk {i : Nat} (L : LamOk X.prog X.w X.K X.mg X.base CX k f c' oc sp) (hr : Room k X.A) (hx : Passes CX X E) (hN : X.N[i]? = some x) (hv : Vis X.env.scope x := by first | exact Or.inl rfl | exact Or.inr (Or.inl rfl) | exact Or.inr (Or.inr rfl)) (hd : (x == ("__debug__" : Str)) = false := by decide) (hcd : (x == ("__classdict__" : Str)) = false := by decide) :
    PE X (.Call (.Name x p) [] [] pos) (tThk i f c' oc sp E) := by
  intro pins s σ H Q I ⟨e,hH,h⟩
  refine wpAny_Call_Name_kw (thn ((pe_var (X := X) hN hv hd hcd) pins s σ H (fun v H' => v = .ref f /\ H' = H) I ⟨_,e,rfl,rfl⟩) fun u s1 ⟨v,H1,I1,r,ev,eH⟩ => ?_)
  subst ev eH
  have eu : u = .ref f := r
  subst eu
  obtain ⟨oc',od,fd,sl,ef⟩ := L.at_
  refine PySem.W.callWith_F0 ⟨oc',od,fd,sl,I1.bk _ _ ef⟩ ?_
  refine wpAny_call (codeAny_mono (L.run X.A X.stack s1 H1 Q E hr I1.env0 hH h) fun r s' hq => ?_)
  cases r with
  | error e => exact hx pins σ H1 s1 e s' I1 hq
  | ok fl =>
    cases fl with
    | ret u => exact I1.after hq
    | next => exact False.elim hq
    | brk => exact False.elim hq
    | cont => exact False.elim hq
end
end L2
set_option Elab.async false
set_option linter.all false
set_option maxRecDepth 100000
set_option maxHeartbeats 4000000
namespace L2
open PySem PySem.Spec PyProof.Rows
def lamF (K : PySem.W.Frag)(ds : List D)(us : List V)(f : Addr) : Frg where
  ads := []
  R := fun M H v => v = .ref f /\ Reps K M H ds us
  keep := fun M H H' v k h => ⟨h.1,Reps.keep (fun b o n e => k b o (.inl n) e) _ _ h.2⟩
  avoid := fun M M' H v k h => ⟨h.1,Reps.avoid k _ _ h.2⟩
  ref := fun M H v h => ⟨f,h.1⟩
  nt := fun _ _ _ _ c m => nomatch m
abbrev LSp := List D -> Prop -> (Addr -> Prop) -> Prop
def lamSp (K : PySem.W.Frag)(B : BagT)(S : LSp)(us : List V) : Hp -> VK -> XK -> Prop := fun H Q E => ∃ (M : Addr -> Prop) (b : Option Addr) (ds : List D) (R : Prop) (Ed : Addr -> Prop),S ds R Ed /\ Reps K M H ds us /\ okB B b H /\ (∀ p,b = some p -> M p) /\ (∀ c,M c -> ∃ o,H c = some o) /\
  (∀ v H',R -> Kp b H H' -> okB B b H' -> Q v H') /\ ∀ C H',Ed C -> Kp b H H' -> okB B b H' -> E (.ref C) none H'
theorem lam_okD {P : Program}{w : World}{K : PySem.W.Frag}{mg : Str -> Option Value}{base : Heap}{CX : CXT}{k : Nat}{f c' : Addr}{oc : Obj}{q : Str}{params : Arguments}{body : Expr}{scope : Scope}{cl : List (Str × Addr)}{pm ctv : Value}{us : List V}{B : BagT}{St : LSp}
    (S : LamScope scope cl) (nd : (cl.map (·.1)).Nodup) (hf : base.get? f = some (PySem.W.kla_obj "<lambda>" q params body scope cl pm c' ctv)) (hr : RecO q oc) (hc : CellsAt base cl us)
    (hbind : bindArgs (PySem.W.kla_fn "<lambda>" q params body scope cl pm (.ref c') ctv) ⟨[],[]⟩ = pure [])
    (hbody : ∀ (A : Around) (outer : List Env) (s : Shared) (H : Hp) (E : XK) (M : Addr -> Prop) (b : Option Addr) (ds : List D) (R : Prop) (Ed : Addr -> Prop),Room k (A.deeper (PySem.W.envX q scope s.heap.objs.size f (.ref c') cl)) -> ELink ⟨K,B,H,M,b⟩ E Ed -> St ds R Ed ->
      ∃ d,JE (cxLam CX P w K mg base (cl.map (·.1)) q scope f (.ref c') cl A outer s H E) ⟨K,B,H,M,b⟩ body d /\ d (ds.map some) (fun _ => R)) : LamOk P w K mg base CX (k + 1) f c' oc (lamSp K B St us) :=
  lam_ok S nd hf hr hc hbind fun A outer s H Q E hroom ⟨M,b,ds,R,Ed,hS,hR,ho,hb,hd,hq,hx⟩ => by
    obtain ⟨d,J,q⟩ := hbody A outer s H E M b ds R Ed hroom (fun C H' e k o => hx C H' e k o) hS
    refine ⟨_,J.h,[],M,b,ds.map some,_,⟨⟨ho,hb,hd,fun _ m => m⟩,Kp.refl _ _,.inl rfl,fun i d' e => ?_,by simp [hR.length],fun _ hq => nomatch hq⟩,q,fun x v H' hx' _ k o => hq v H' hx' k o⟩
    rw [List.getElem?_map] at e
    cases z : ds[i]? with
    | none => rw [z] at e; cases e
    | some d2 =>
      rw [z] at e
      cases e
      obtain ⟨v,e1,r⟩ := hR.get z
      exact ⟨v,by rw [List.getElem?_map,e1]; rfl,r.x⟩
def dThk (K : PySem.W.Frag)(i : Nat)(f : Addr)(us : List V)(S : LSp)(Ed : Addr -> Prop) : DS := fun F ρ => ∃ ds,ρ[i]? = some (some (.frg (lamF K ds us f) (.adr f))) /\ S ds (F.nx ρ) Ed
section
variable {X : Cx}{W : Wd}{CX : CXT}{k : Nat}{f c' : Addr}{oc : Obj}{S : LSp}{us : List V}{E : XK}{Ed : Addr -> Prop}{x : Str}{p pos epos : Pos}
theorem jds_thunk {i : Nat} (hE : ELink W E Ed) (L : LamOk X.prog X.w X.K X.mg X.base CX k f c' oc (lamSp W.K W.B S us)) (hr : Room k X.A) (hx : Passes CX X E) (hc : W.H0 c' = some (Fz oc)) (hb : W.b0 ≠ some c') (hN : X.N[i]? = some x) (hv : Vis X.env.scope x := by first | exact Or.inl rfl | exact Or.inr (Or.inl rfl) | exact Or.inr (Or.inr rfl)) (hd : (x == ("__debug__" : Str)) = false := by decide) (hcd : (x == ("__classdict__" : Str)) = false := by decide)
    (hs : swapsWith (.Call (.Name x p) [] [] pos) none epos.line X.env = pure false := by rfl) : JS X W (.Expr (.Call (.Name x p) [] [] pos) epos) (dThk W.K i f us S Ed) := ⟨(ps_expr (pe_thunk L hr hx hN hv hd hcd) hs).mono fun En σ H hh => hh.elim fun pn M b ρ F s l q => by
  obtain ⟨ds,e,hS⟩ := q
  obtain ⟨v,e1,r0,⟨rv,rr⟩,r2⟩ := s.env i _ e
  subst rv
  refine ⟨e1,s.kp _ _ hb hc,M,b,ds,_,Ed,hS,rr,s.ok,s.bagM,s.dom,fun v H' hR k o => l.nx _ _ _ _ _ (s.step k o) hR,fun C H' hC k o => ?_⟩
  have st := s.toSta.step k o
  exact hE C H' hC st.kp st.ok0⟩
end
def spT (K : PySem.W.Frag)(B : BagT)(f : Addr)(us : List V)(c' : Addr)(oc : Obj)(St : List D -> (D -> Prop) -> Prop) : Sp := fun vs H Q _ => ∃ (M : Addr -> Prop) (b : Option Addr) (ds : List D) (PP : D -> Prop),vs = [.ref f] /\ St ds PP /\ Reps K M H ds us /\ okB B b H /\ (∀ p,b = some p -> M p) /\ (∀ c,M c -> ∃ o,H c = some o) /\ H c' = some (Fz oc) /\ b ≠ some c' /\
  (∀ d v H',PP d -> Rep K M H' d v -> Kp b H H' -> okB B b H' -> Q v H')
theorem Fun.okT {P : Program}{w : World}{K : PySem.W.Frag}{mg : Str -> Option Value}{base : Heap}{x qual : Str}{st : Stmt}{fr : Addr}{fd : FuncData}{N : List Str}{pn : Str}{k : Nat}{B : BagT}{f : Addr}{us : List V}{c' : Addr}{oc : Obj}{Sd : List D -> (D -> Prop) -> Prop}(F : Fun K x qual st fr fd)(S : FnScope N [pn] (defScope st))
    (hbody : ∀ (cdv : Value) (A : Around) (outer : List Env) (s : Shared) (H : Hp) (E : XK) (M : Addr -> Prop) (bg : Option Addr) (ds : List D) (PP : D -> Prop),Room k (A.deeper (envOfC qual (defScope st) s.heap.objs.size fr cdv)) -> H c' = some (Fz oc) -> bg ≠ some c' -> Sd ds PP ->
      ∃ d,JSs (cxOf CX0 P w K mg base N qual (defScope st) fr cdv A outer s H E).nox ⟨K,B,H,M,bg⟩ (defBody st) d /\ d { nx := fun _ => PP .non,rt := PP } (startD N [.frg (lamF K ds us f) (.adr f)])) : FnOk P w K mg base CX0 (k + 1) fr fd [pn] (spT K B f us c' oc Sd) :=
  F.ok S (fun vs H Q E h => by obtain ⟨_,_,_,_,rfl,_⟩ := h; rfl) fun cdv A outer s H vs Q E hr h => by
    obtain ⟨M,bg,ds,PP,rfl,hS,hR,ho,hb,hd,hH,hbc,hq⟩ := h
    obtain ⟨d,J,q⟩ := hbody cdv A outer s H E M bg ds PP hr hH hbc hS
    refine ⟨_,J.h,[],M,bg,startD N [.frg (lamF K ds us f) (.adr f)],_,⟨⟨⟨ho,hb,hd,fun _ m => m⟩,Kp.refl _ _,.inl rfl,fun i d' e => ?_,by simp [start,startD],fun _ hq => nomatch hq⟩,fun i j d e v u c e0 _ _ _ m _ => ?_,fun _ _ hq => nomatch hq⟩,leave hq,q⟩
    · have e1 := startD_get e
      cases i with
      | zero =>
        simp at e1
        subst e1
        have z : (∀ c ∈ (lamF K ds us f).ads,M c /\ bg ≠ some c /\ H c = none /\ ¬ M c) /\ (lamF K ds us f).R M H (.ref f) /\ Rep K (fun c => M c /\ c ∉ (lamF K ds us f).ads) H (.adr f) (.ref f) := ⟨fun c m => absurd (show c ∈ ([] : List Addr) from m) (by simp),⟨rfl,hR⟩,by unfold Rep; rfl⟩
        exact ⟨.ref f,rfl,z⟩
      | succ n => simp at e1
    · have e1 := startD_get e0
      cases i with
      | zero =>
        simp at e1
        subst e1
        exact absurd (show c ∈ ([] : List Addr) from m) (by simp)
      | succ n => simp at e1
def RefOk (P : Program)(w : World)(K : PySem.W.Frag)(mg : Str -> Option Value)(B : BagT)(k : Nat)(fr : Addr)(fd : FuncData)(pn q : Str)(params : Arguments)(body : Expr)(scope : Scope)(St : List D -> (D -> Prop) -> Prop)(xs : List Str) : Prop :=
  ∀ (base : Heap) (f c' : Addr) (oc : Obj) (pm ctv : Value) (cl : List (Str × Addr)) (us : List V),K.In base -> base.Ns mainGlobals mg -> cl.map (·.1) = xs -> base.get? f = some (PySem.W.kla_obj "<lambda>" q params body scope cl pm c' ctv) -> CellsAt base cl us -> (∀ x y c,cl.lookup x = some c -> cl.lookup y = some c -> x = y) -> RecO q oc ->
    FnOk P w K mg base CX0 k fr fd [pn] (spT K B f us c' oc St)
def slotsD (ρ : Ev) : List Nat -> List D -> Prop
  | [],ds => ds = []
  | j :: js,ds => ∃ d r,ds = d :: r /\ ρ[j]? = some (some d) /\ plain d = true /\ slotsD ρ js r
def dLam (js : List Nat)(St : List D -> (D -> Prop) -> Prop) : DE := fun ρ P => ∃ ds,slotsD ρ js ds /\ St ds fun d => plain d = true /\ P d
def closL (env : Env)(N : List Str) : List Nat -> List (Str × Addr) -> Prop
  | [],cl => cl = []
  | j :: js,cl => ∃ x c r,cl = (x,c) :: r /\ N[j]? = some x /\ env.scope.names.lookup x = some .cell /\ env.cells.lookup x = some c /\ closL env N js r
theorem closL.cells {X : Cx}{W : Wd}{pins : List (Addr × Obj)}{σ : St}{H H' : Hp}{s : Shared}{pn : List (D × V)}{M : Addr -> Prop}{b : Option Addr}{ρ : Ev}(I : Inv X pins σ H s)(hfn : ∀ x,X.fn x = true)(st : Sta W pn M b H' σ ρ) : ∀ {js : List Nat} {cl : List (Str × Addr)} {ds : List D},closL X.env X.N js cl -> slotsD ρ js ds -> ∃ us,CellsAt (bigB X s H) cl us /\ Reps W.K M H' ds us
  | [],_,_,h,h' => by
    rw [show _ = [] from h,show _ = [] from h']
    exact ⟨[],rfl,rfl⟩
  | j :: js,_,_,h,h' => by
    obtain ⟨x,c,r,rfl,e1,e2,e3,h2⟩ := h
    obtain ⟨d,rd,rfl,e4,e5,h3⟩ := h'
    obtain ⟨us,z1,z2⟩ := closL.cells (js := js) I hfn st h2 h3
    obtain ⟨v,y1,y2⟩ := st.env j d e4
    obtain ⟨m,_,hl⟩ := I.loc
    obtain ⟨u,ru,lk⟩ := hl j x v e1 y1 (.inr (.inl e2))
    have kc : X.env.kindOf x = some .cell := e2
    rcases lk with ⟨k1,_⟩ | ⟨_,c',k2,k3⟩
    · rw [kc] at k1; cases k1
    · rw [e3] at k2
      cases k2
      exact ⟨v :: us,⟨v,us,u,rfl,I.bigC (hfn x) e3 k3,ru,z1⟩,v,us,rfl,RepX.rep y2 e5,z2⟩
theorem closL.look {env : Env}{N : List Str} : ∀ {js : List Nat} {cl : List (Str × Addr)},closL env N js cl -> ∀ x c,cl.lookup x = some c -> env.cells.lookup x = some c
  | [],_,h,x,c,e => by rw [show _ = [] from h] at e; cases e
  | j :: js,_,h,x,c,e => by
    obtain ⟨y,c',r,rfl,e1,e2,e3,h2⟩ := h
    rw [List.lookup_cons] at e
    cases z : x == y with
    | true => rw [z] at e; cases e; rw [eq_of_beq z]; exact e3
    | false => rw [z] at e; exact closL.look h2 x c e
def BagLst (B : BagT) : Prop := ∀ p H,B.ok p H -> ∃ vs,H p = some (.lst vs)
theorem jde_lam {X : Cx}{W : Wd}{k : Nat}{fr c P : Addr}{fd : FuncData}{pn q x : Str}{params : Arguments}{body : Expr}{scope : Scope}{St : List D -> (D -> Prop) -> Prop}{js : List Nat}{xs : List Str}{cl : List (Str × Addr)}{p lpos pos : Pos}
    (hK : X.K = W.K) (hB : BagLst W.B) (hT : W.H0 P = some (.cod q)) (hTb : W.b0 ≠ some P) (hcd : X.env.code = .ref c) (hC : PySem.W.CodeHd X.base c P) (hM : BM X.mg X.base) (hcl : closureFor scope X.env = pure cl) (hjs : closL X.env X.N js cl) (hxs : cl.map (·.1) = xs) (hdef : defaultsOf params X.env = ([],[])) (hqu : X.env.qual ++ "<lambda>" = q) (hfn : ∀ x,X.fn x = true)
    (hm : X.mg x = some (.ref fr)) (hk : PySem.W.keepIn X.K (.ref fr) = true) (hg : Gl X x) (hb : Binds X.K fd [pn] []) (hr : Room k X.A) (R : RefOk X.prog X.w X.K X.mg W.B k fr fd pn q params body scope St xs)
    (hd : (x == ("__debug__" : Str)) = false := by decide) (he : starEach [.Lambda params body scope lpos] X.env = (false,eval (.Lambda params body scope lpos) X.env) :: starEach [] X.env := by rfl) (hpl : (backTo pos (starEach [] X.env)).any (·.1) = false := by rfl) :
    JE X W (.Call (.Name x p) [.Lambda params body scope lpos] [] pos) (dLam js St) := ⟨fun pins s σ H Q I h => by
  subst hxs
  refine wpAny_Call_Name_kw (ld_glob I hg hm ?_ hd)
  obtain ⟨pn',M,b,ρ,PP,st,⟨ds,hsl,hS⟩,kq⟩ := h
  have hP : H P = some (.cod q) := st.kp _ _ hTb hT
  refine PySem.W.callWith_K (h₀ := X.base) I.ok.mod.kin hk ?_ he hpl
  rw [he]
  show wpAny _ _ (spliced ((false,eval (.Lambda params body scope lpos) X.env) :: backTo pos (starEach [] X.env))) _ _ s
  refine Calls.spliced_cons (lam_make I hP hcd hC hM hcl hdef hqu fun f c' oc pm ctv h' tk H' hH' J hf hge hfn' hc' hrec => Calls.spliced_nil ⟨J.kIn,?_⟩)
  have hH2 : Kp b H H' /\ okB W.B b H' /\ b ≠ some c' := by
    rcases hH' with rfl | ⟨hn,rfl⟩
    · refine ⟨Kp.refl _ _,st.ok,fun z => ?_⟩
      obtain ⟨vs,e⟩ := hB c' _ (st.ok c' z)
      rw [hc'] at e; cases e
    · refine ⟨Kp.upd hn,st.okU hn,fun z => ?_⟩
      obtain ⟨vs,e⟩ := hB c' _ (st.ok c' z)
      rw [hn] at e; cases e
  have st2 := st.step hH2.1 hH2.2.1
  obtain ⟨us,hc1,hc2⟩ := hjs.cells J hfn st2 hsl
  have nfr : f ∉ frs X.stack := fun z => by
    rcases List.mem_cons.mp (J.stkSub f z) with y | y
    · have := I.lt
      rw [<- y] at this
      exact absurd (Nat.lt_of_lt_of_le this hge) (Nat.lt_irrefl _)
    · exact I.nofs hge y
  have hfB : (bigB X { s with heap := h',toks := tk } H').get? f = some (PySem.W.kla_obj "<lambda>" q params body scope cl pm c' ctv) := bigB_get hf hfn' nfr
  have FR := R _ f c' oc pm ctv cl us J.bigM.kin J.bigM.glob rfl hfB hc1 (fun y z c e1 e2 => I.ok.inj y z c (hjs.look _ _ e1) (hjs.look _ _ e2)) hrec
  have hl : ([.ref f] : List Value).length = [pn].length := rfl
  refine wpAny_call (codeAny_mono (FR.run X.A X.stack _ H' ⟨[.ref f],[]⟩ [.ref f] [.ref f] Q E0 hr J.env0B (by have := hb { s with heap := h',toks := tk } [.ref f] J.kIn (by simp); simpa using this) (.cons rfl .nil) ?_) fun r s' hq => ?_)
  · refine ⟨M,b,ds,_,rfl,hS,hK ▸ hc2,hH2.2.1,st2.bagM,st2.dom,hc',hH2.2.2,fun d v H2 hd' rd k2 o2 => kq d v H2 hd'.2 ?_ (hH2.1.trans k2) o2⟩
    rw [hK] at rd
    exact rd.x
  · cases r with
    | error e => exact False.elim hq
    | ok fl =>
      cases fl with
      | ret u => exact J.after hq
      | next => exact False.elim hq
      | brk => exact False.elim hq
      | cont => exact False.elim hq⟩
end L2
set_option Elab.async false
set_option linter.all false
set_option maxRecDepth 100000
set_option maxHeartbeats 4000000
namespace L2
open PySem PySem.Spec PyProof.Rows
def TbOk (tb : List (Addr × Str))(H : Hp) : Prop := ∀ p ∈ tb,H p.1 = some (.cod p.2)
theorem TbOk.kp {tb : List (Addr × Str)}{H H' : Hp}(h : TbOk tb H)(k : Kp none H H') : TbOk tb H' := fun p hp => k _ _ (by intro z; cases z) (h p hp)
theorem lookup_of_nd {κ ν : Type}[BEq κ][LawfulBEq κ] : ∀ {l : List (κ × ν)} {p : κ × ν},(l.map (·.1)).Nodup -> p ∈ l -> l.lookup p.1 = some p.2 := fun {l p} nd hp => by
  obtain ⟨i,e⟩ := List.getElem?_of_mem hp
  exact lookup_at nd e
structure FunC (K : PySem.W.Frag)(x qual : Str)(st : Stmt)(f : Addr)(fd : FuncData)(c : Addr) : Prop where
  ex : ∃ (oc : Value) (od : Option Addr) (kV doc pm : Value) (an : Option Addr) (ct : Value) (osl : Array (Option Value)),
    fd = PySem.W.fnOf x qual (defArgs st) (defBody st) (defScope st) .none kV doc pm an (.ref c) ct /\ K.lookup f = some ⟨oc,od,.func fd,osl⟩ /\ PySem.W.codeIn K (.ref c) qual = true
  kp : PySem.W.keepIn K (.ref f) = true
theorem FunC.plain {K : PySem.W.Frag}{x qual : Str}{st : Stmt}{f : Addr}{fd : FuncData}{c : Addr}(F : FunC K x qual st f fd c) : Fun K x qual st f fd := by
  obtain ⟨⟨oc,od,kV,doc,pm,an,ct,osl,e,l,h⟩,kp⟩ := F
  exact ⟨⟨oc,od,kV,doc,pm,an,.ref c,ct,osl,e,l,h⟩,kp⟩
section
variable {P : Program}{w : World}{K : PySem.W.Frag}{mg : Str -> Option Value}{base : Heap}
theorem FunC.ok {x qual : Str}{st : Stmt}{f : Addr}{fd : FuncData}{c : Addr}{N ps : List Str}{k : Nat}{sp : Sp}(F : FunC K x qual st f fd c)(S : FnScope N ps (defScope st))(len : ∀ vs H Q E,sp vs H Q E -> vs.length = ps.length)
    (hbody : ∀ (A : Around) (outer : List Env) (s : Shared) (H : Hp) (vs : List V) (Q : VK) (E : XK),Room k (A.deeper (envOfC qual (defScope st) s.heap.objs.size f (.ref c))) -> sp vs H Q E ->
      ∃ t,PSs (cxOf CX0 P w K mg base N qual (defScope st) f (.ref c) A outer s H E).nox (defBody st) t /\ t { nx := fun _ H' => Q .non H',rt := Q } (start N vs) H) : FnOk P w K mg base CX0 (k + 1) f fd ps sp := by
  obtain ⟨oc,od,kV,doc,pm,an,ct,osl,rfl,lk,hcd⟩ := F.ex
  refine fn_of lk hcd S len fun A outer s H vs Q E hr hsp => ?_
  obtain ⟨t,h,q⟩ := hbody A outer s H vs Q E hr hsp
  exact ⟨t,h.nox,q⟩
def lawSpT (K : PySem.W.Frag)(tb : List (Addr × Str)) : Sp := fun vs H Q _ => ∃ (a : Addr) (ns : List Int),vs = [.ref a] /\ SqL K H a (ns.map V.int) /\ ns.length <= 63 /\ TbOk tb H /\ ∀ H',TbOk tb H' -> Q (.bl true) H'
theorem FunC.okLT {x qual : Str}{st : Stmt}{f : Addr}{fd : FuncData}{N : List Str}{p : Str}{k : Nat}{tb : List (Addr × Str)}{c : Addr}(B : BagT)(F : FunC K x qual st f fd c)(S : FnScope N [p] (defScope st))
    (hbody : ∀ (A : Around) (outer : List Env) (s : Shared) (H : Hp) (E : XK) (ns : List Int),Room k (A.deeper (envOfC qual (defScope st) s.heap.objs.size f (.ref c))) -> TbOk tb H -> ns.length <= 63 ->
      ∃ d,JSs (cxOf CX0 P w K mg base N qual (defScope st) f (.ref c) A outer s H E).nox ⟨K,B,H,fun _ => False,none⟩ (defBody st) d /\ d { nx := fun _ => D.non = .bl true,rt := fun d => d = .bl true } (startD N [.scr ns])) :
    FnOk P w K mg base CX0 (k + 1) f fd [p] (lawSpT K tb) :=
  F.ok S (fun vs H Q E h => by obtain ⟨a,ns,rfl,_⟩ := h; rfl) fun A outer s H vs Q E hr h => by
    obtain ⟨a,ns,rfl,hS,hlen,hT,k⟩ := h
    have hR : RepAs K (fun _ => False) none H [.scr ns] [.ref a] := ⟨.ref a,[],rfl,⟨a,rfl,hS.imp (fun q => ⟨id,q⟩) id⟩,rfl⟩
    obtain ⟨d,J,q⟩ := hbody A outer s H E ns hr hT hlen
    exact ⟨_,J.h,run (P := fun d => d = .bl true) hR (fun p e => by cases e) (fun p e => by cases e) (fun c m => m.elim) (fun d v H' hd r kk _ => by cases hd; cases (show _ = _ from r); exact k H' (hT.kp kk)) q⟩
end
theorem law_callT {tb : List (Addr × Str)}{P : Program}{w : World}{K : PySem.W.Frag}{mg mb : Str -> Option Value}{CX : CXT}{k : Nat}{fa a : Addr}{fd : FuncData}{x : Str}{sp : Sp}{s₁ : Shared}{vs : List Value}{ns : List Int}
    (KX : K.In s₁.heap) (hns : s₁.heap.Ns mainGlobals mg) (hb : s₁.heap.Ns builtinsNs mb) (hbb : ∀ x : Str,x ≠ "__name__" -> mb x = bootBuiltins x) (hlim : s₁.heap.NoLimit) (hg : s₁.gens = #[])
    (ha : s₁.heap.get? a = some { cls := .type "list",data := .seq vs.toArray }) (hi : IntsAre vs ns) (hl : ns.length <= sizeLine) (hr : Room k callerA)
    (hT : ∀ p ∈ tb,s₁.heap.get? p.1 = some (PySem.W.tabObj #[]) /\ K.lookup p.1 = none /\ ∃ c,PySem.W.CodeHd s₁.heap c p.1) (hnd : (tb.map (·.1)).Nodup) (hBM : BM mg s₁.heap)
    (F : ∀ base : Heap,K.In base -> base.Ns mainGlobals mg -> BM mg base -> FnOk P w K mg base CX k fa fd [x] sp) (hbind : ∀ (s : Shared) (u : Value),BindsTo s fd ⟨[u],[]⟩ [(x,u)])
    (hsp : ∀ H : Hp,TbOk tb H -> SqL K H a (ns.map V.int) -> sp [.ref a] H (fun v H' => v = .bl true /\ TbOk tb H') fun _ _ _ => False)
    (hCX : ∀ H e s',CX [] H s₁ (fun _ _ _ => False) e s' -> False) :
    codeAny (model P w) callerA (.call (.ref fa) ⟨[.ref a],[]⟩) (fun r s' => r = .ok (.ret (.bool true)) /\ OldK s₁.heap s'.heap /\ s'.os = s₁.os /\ AllBare s'.gens) s₁ := by
  have rv := vals_ints hi
  have lenV := hi.length
  have core : ∀ H : Hp,(∀ b,(∃ q,(b,q) ∈ tb /\ H b = some (.cod q)) \/ H b = none \/ ∃ o xs,H b = some (.frz o (.lst xs))) -> TbOk tb H -> SqL K H a (ns.map V.int) -> HOk P w H s₁.heap -> (∀ b,H b ≠ none -> b = a \/ ∃ q,(b,q) ∈ tb) -> (H a ≠ none -> K.lookup a = none) ->
      codeAny (model P w) callerA (.call (.ref fa) ⟨[.ref a],[]⟩) (fun r s' => r = .ok (.ret (.bool true)) /\ OldK s₁.heap s'.heap /\ s'.os = s₁.os /\ AllBare s'.gens) s₁ := by
    intro H hO hTb hS hok hA hK
    have base_of : ∀ {b : Addr} {o : Obj},s₁.heap.get? b = some o -> H b = none -> (hidT s₁.heap H).get? b = some o := fun e n => hidT_get e n
    have noA : ∀ {b : Addr} {o : Obj} {es : Array DictEntry} {ep : Nat},s₁.heap.get? b = some o -> o.data = .dict es ep -> H b = none := fun {b o es ep} e d => by
      cases q : H b with
      | none => rfl
      | some u =>
        rcases hA b (by rw [q]; simp) with e' | ⟨q',hm⟩
        · subst e'
          rw [ha] at e; cases e
          have d' : Data.seq vs.toArray _ = Data.dict es ep := d
          cases d'
        · rw [(hT _ hm).1] at e; cases e; cases d
    have nsK : ∀ {b : Addr} {m : Str -> Option Value},s₁.heap.Ns b m -> (hidT s₁.heap H).Ns b m := fun {b m} ⟨o,es,ep,e,d,r⟩ => ⟨o,es,ep,base_of e (noA e d),d,r⟩
    have hKb : K.In (hidT s₁.heap H) := fun b o e => base_of (KX b o e) (by
      cases q : H b with
      | none => rfl
      | some u =>
        rcases hA b (by rw [q]; simp) with e' | ⟨q',hm⟩
        · subst e'
          rw [hK (by rw [q]; simp)] at e; cases e
        · rw [(hT _ hm).2.1] at e; cases e)
    have hBb : BM mg (hidT s₁.heap H) := by
      obtain ⟨bm,ob,b1,b2,b3,b4,b5,b6⟩ := hBM
      refine ⟨bm,ob,b1,b2,base_of b3 ?_,b4,b5,b6⟩
      cases q : H bm with
      | none => rfl
      | some u =>
        rcases hA bm (by rw [q]; simp) with e' | ⟨q',hm⟩
        · rw [e',ha] at b3; cases b3; exact absurd (Value.type.inj b4) (by decide)
        · rw [(hT _ hm).1] at b3; cases b3; cases b4
    have hM : Mod K mg (hidT s₁.heap H) := ⟨hKb,nsK hns,⟨mb,nsK hb,hbb⟩,let ⟨mc,h1,h2⟩ := hlim; ⟨mc,nsK h1,h2⟩⟩
    have e0 : Env0 P w K mg (hidT s₁.heap H) callerA [] s₁ H := ⟨rfl,hM,fun b o e => of_hidT e,Nat.le_of_eq (hidT_size _ _),trivial,fun b hb => absurd (show b ∈ ([] : List Addr) from hb) (by simp),hok,.of_eq hg⟩
    refine codeAny_mono ((F _ hKb (nsK hns) hBb).run callerA [] s₁ H ⟨[.ref a],[]⟩ [.ref a] [.ref a] _ _ hr e0 (hbind s₁ (.ref a)) (.cons rfl .nil) (hsp H hTb hS)) fun r s' h => ?_
    cases r with
    | error e => exact (hCX H e s' h).elim
    | ok fl =>
      cases fl with
      | next => exact False.elim h
      | brk => exact False.elim h
      | cont => exact False.elim h
      | ret u =>
        obtain ⟨v,H',os,bare,un,hok',r',q⟩ := h
        obtain ⟨q',hTb'⟩ := q
        have q' : v = .bl true := q'
        subst q'
        obtain rfl : u = Value.bool true := r'
        have key : ∀ b o,s₁.heap.get? b = some o -> s'.heap.get? b = some o \/ ((∃ q,(b,q) ∈ tb) /\ ∃ ps,s'.heap.get? b = some (PySem.W.tabObj ps)) := fun b o e => by
          rcases hO b with ⟨q',hm,z⟩ | z | ⟨ob,xs,z⟩
          · obtain ⟨o',eo⟩ := un.there b o e (by simp)
            refine .inr ⟨⟨q',hm⟩,?_⟩
            obtain ⟨ps,e2,_⟩ := hok' b _ (hTb' _ hm)
            exact ⟨ps,e2⟩
          · exact .inl (un.keep b o e z (by intro z; exact absurd (show b ∈ ([] : List Addr) from z) (by simp)) (by simp))
          · have z2 := un.frzs b ob _ z
            obtain ⟨e1,_⟩ := hok b _ z
            obtain ⟨e2,_⟩ := hok' b _ z2
            rw [e] at e1; cases e1
            exact .inl e2
        refine ⟨rfl,⟨fun b o e => ?_,fun b o e => (key b o e).elim (fun z => ⟨o,z⟩) fun z => ⟨_,z.2.choose_spec⟩⟩,os,bare⟩
        rcases key b o e with z | ⟨⟨q',hm⟩,ps,z⟩
        · exact .inl z
        · obtain ⟨e1,_,c,hC⟩ := hT _ hm
          rw [e1] at e
          cases e
          exact .inr (.inl ⟨(hC.tab e1).isCodeTable,rfl,#[],ps,rfl,by simpa using z⟩)
  have t0 : ∀ p ∈ tb,tb.lookup p.1 = some p.2 := fun p hp => lookup_of_nd hnd hp
  have tm : ∀ b q,tb.lookup b = some q -> (b,q) ∈ tb := fun b q e => lookup_mem2 e
  have cok : ∀ (H : Hp) b q,(b,q) ∈ tb -> ObjOk P w H s₁.heap b (.cod q) := fun H b q hm => ⟨#[],(hT _ hm).1,trivial,fun pos cv h => by simp [codeAmong] at h⟩
  cases hk : K.lookup a with
  | some o =>
    have e := KX a o hk
    rw [ha] at e
    cases e
    refine core (fun b => (tb.lookup b).map HO.cod) (fun b => ?_) (fun p hp => by show (tb.lookup p.1).map HO.cod = _; rw [t0 p hp]; rfl) (.inr ⟨_,vs.toArray,_,hk,rfl,rfl,rfl,by rw [List.size_toArray,lenV]; exact hl,by simpa using rv⟩) (fun b u z => ?_) (fun b z => ?_) fun z => ?_
    · cases e : tb.lookup b with
      | none => exact .inr (.inl (by first | rfl | (simp [e]; done)))
      | some q => exact .inl ⟨q,tm b q e,by first | rfl | (simp [e]; done)⟩
    · have z' : (tb.lookup b).map HO.cod = some u := z
      cases e : tb.lookup b with
      | none => rw [e] at z'; cases z'
      | some q => rw [e] at z'; cases z'; exact cok _ b q (tm b q e)
    · cases e : tb.lookup b with
      | none => exact absurd (by first | rfl | (simp [e]; done)) z
      | some q => exact .inr ⟨q,tm b q e⟩
    · cases e : tb.lookup a with
      | none => exact absurd (by first | rfl | (simp [e]; done)) z
      | some q => exact (hT _ (tm a q e)).2.1
  | none =>
    have na : ∀ q,(a,q) ∉ tb := fun q hm => by
      have := (hT _ hm).1
      rw [ha] at this; cases this
    refine core (fun b => if b = a then some (.frz { cls := .type "list",data := .seq vs.toArray } (.lst (ns.map V.int))) else (tb.lookup b).map HO.cod) (fun b => ?_) (fun p hp => ?_) (.inl (.inr ⟨{ cls := .type "list",data := .seq vs.toArray },if_pos rfl⟩)) (fun b u z => ?_) (fun b z => ?_) fun _ => hk
    · by_cases hb : b = a
      · exact .inr (.inr ⟨_,_,if_pos hb⟩)
      · cases e : tb.lookup b with
        | none => exact .inr (.inl ((if_neg hb).trans (by first | rfl | (rw [e]; rfl))))
        | some q => exact .inl ⟨q,tm b q e,(if_neg hb).trans (by first | rfl | (rw [e]; rfl))⟩
    · have nb : p.1 ≠ a := fun z => na p.2 (by rw [<- z]; exact hp)
      exact (if_neg nb).trans (by rw [t0 p hp]; rfl)
    · by_cases hb : b = a
      · have z' := (if_pos hb).symm.trans z
        cases z'
        subst hb
        exact ⟨ha,by rw [List.length_map]; exact hl,vs,_,rv,ha⟩
      · have z' := (if_neg hb).symm.trans z
        cases e : tb.lookup b with
        | none => rw [e] at z'; cases z'
        | some q => rw [e] at z'; cases z'; exact cok _ b q (tm b q e)
    · by_cases hb : b = a
      · exact .inl hb
      · cases e : tb.lookup b with
        | none => exact absurd ((if_neg hb).trans (by first | rfl | (rw [e]; rfl))) z
        | some q => exact .inr ⟨q,tm b q e⟩
theorem walk_ofT {tb : List (Addr × Str)}{l : PySem.W.OpenLaw}{n k : Nat}{q : Program}{loose : List Str}{XP : (Str -> Option Value) -> Heap -> Prop}{YP : World -> Heap -> Prop}{d : DefRec}{K : Params -> PySem.W.Frag}{CX : World -> CXT}{sp : World -> Sp}{x : Str}
    (hn : l.most = some n) (hn2 : n <= sizeLine) (hdf : d.params.defaults = []) (hr : Room k callerA)
    (hY : ∀ (w : World) (h : Heap),YP w h -> (K w.params).In h /\ ∀ p ∈ tb,h.get? p.1 = some (PySem.W.tabObj #[]) /\ (K w.params).lookup p.1 = none /\ ∃ c,PySem.W.CodeHd h c p.1) (hnd : (tb.map (·.1)).Nodup)
    (F : ∀ (w : World) (mg : Str -> Option Value) (fa : Addr) (h : Heap),(K w.params).In h -> h.Ns mainGlobals mg -> mg d.name = some (.ref fa) ->
      ∃ fd : FuncData,(∀ (s : Shared) (u : Value),BindsTo s fd ⟨[u],[]⟩ [(x,u)]) /\
        ∀ base : Heap,(K w.params).In base -> base.Ns mainGlobals mg -> BM mg base -> FnOk l.prog w (K w.params) mg base (CX w) k fa fd [x] (sp w))
    (hsp : ∀ (w : World) (H : Hp) (a : Addr) (ns : List Int),ns.length <= n -> TbOk tb H -> SqL (K w.params) H a (ns.map V.int) -> sp w [.ref a] H (fun v H' => v = .bl true /\ TbOk tb H') fun _ _ _ => False)
    (hCX : ∀ (w : World) (H : Hp) (s : Shared) (e : Value) (s' : Shared),CX w [] H s (fun _ _ _ => False) e s' -> False) :
    PySem.W.WalkO q loose XP YP l.row.toRowW d [] (fun f vs => PySem.call f vs) := by
  refine Att.attach_call hn hdf fun w s₀ s₁ mg mb fa o pm cd doc a vs ns G Y ho hd hcd hmg hobj hints hlen hg => ?_
  obtain ⟨KX,hT⟩ := hY w _ Y
  obtain ⟨fd,hb,hF⟩ := F w mg fa _ KX G.T.g hmg
  exact law_callT KX G.T.g G.T.b G.T.builtins G.T.nolimit hg hobj hints (Nat.le_trans hlen hn2) hr hT hnd G.T.bmain hF hb (fun H hO hS => hsp w H a ns hlen hO hS) fun H e s' => hCX w H s₁ e s'
structure RefC (P : Program)(w : World)(K : PySem.W.Frag)(mg : Str -> Option Value)(B : BagT)(x : Str)(k : Nat)(pn q : Str)(params : Arguments)(body : Expr)(scope : Scope)(St : List D -> (D -> Prop) -> Prop)(xs : List Str) : Prop where
  ex : ∃ (fr : Addr) (fd : FuncData),mg x = some (.ref fr) /\ PySem.W.keepIn K (.ref fr) = true /\ Binds K fd [pn] [] /\ RefOk P w K mg B k fr fd pn q params body scope St xs
theorem jde_lamR {X : Cx}{W : Wd}{k : Nat}{c P : Addr}{pn q x : Str}{params : Arguments}{body : Expr}{scope : Scope}{St : List D -> (D -> Prop) -> Prop}{js : List Nat}{xs : List Str}{cl : List (Str × Addr)}{p lpos pos : Pos}
    (R : RefC X.prog X.w X.K X.mg W.B x k pn q params body scope St xs) (hr : Room k X.A) (hK : X.K = W.K) (hB : BagLst W.B) (hT : W.H0 P = some (.cod q)) (hTb : W.b0 ≠ some P) (hC : PySem.W.CodeHd X.base c P) (hM : BM X.mg X.base) (hcd : X.env.code = .ref c) (hcl : closureFor scope X.env = pure cl) (hjs : closL X.env X.N js cl) (hxs : cl.map (·.1) = xs) (hdef : defaultsOf params X.env = ([],[])) (hqu : X.env.qual ++ "<lambda>" = q) (hfn : ∀ x,X.fn x = true)
    (hg : Gl X x) (hd : (x == ("__debug__" : Str)) = false := by decide) (he : starEach [.Lambda params body scope lpos] X.env = (false,eval (.Lambda params body scope lpos) X.env) :: starEach [] X.env := by rfl) (hpl : (backTo pos (starEach [] X.env)).any (·.1) = false := by rfl) :
    JE X W (.Call (.Name x p) [.Lambda params body scope lpos] [] pos) (dLam js St) := by
  obtain ⟨fr,fd,hm,hk,hb,R⟩ := R.ex
  exact jde_lam hK hB hT hTb hcd hC hM hcl hjs hxs hdef hqu hfn hm hk hg hb hr R hd he hpl
theorem lamScope_mk {scope : Scope}{cl : List (Str × Addr)}{xs : List Str}(hx : cl.map (·.1) = xs)(k : scope.kind = .function)(co : scope.isCoroutine = false)(gen : scope.isGenerator = false)
    (b1 : (scope.names.all fun p => decide (p.2 ≠ .cell)) = true) (b2 : (scope.names.all fun p => decide (p.2 ≠ .free) || xs.contains p.1) = true) (b3 : (xs.all fun x => decide (scope.names.lookup x = some .free)) = true) (hi : ∀ x y c,cl.lookup x = some c -> cl.lookup y = some c -> x = y) : LamScope scope cl := by
  subst hx
  refine ⟨k,co,gen,fun x hx => of_decide_eq_true (List.all_eq_true.mp b1 x hx),fun x e => ?_,hi,fun p hp e => ?_⟩
  · have h := List.all_eq_true.mp b2 (x,.free) (lookup_mem2 e)
    simp only [ne_eq,not_true_eq_false,decide_false,Bool.false_or,List.contains_eq_mem,decide_eq_true_eq] at h
    obtain ⟨q,hq,e2⟩ := List.mem_map.mp h
    clear e h
    induction cl with
    | nil => cases hq
    | cons a r ih =>
      obtain ⟨y,c⟩ := a
      cases z : x == y with
      | true => exact ⟨c,by rw [List.lookup_cons,z]⟩
      | false =>
        have nq : q ≠ (y,c) := fun h => by rw [h] at e2; rw [<- e2] at z; simp at z
        have hq' : q ∈ r := (List.mem_cons.mp hq).resolve_left nq
        have : ∃ c,r.lookup x = some c := by
          clear ih hi b1 b2 b3 nq hq z
          induction r with
          | nil => cases hq'
          | cons a r ih =>
            obtain ⟨y',c'⟩ := a
            cases z : x == y' with
            | true => exact ⟨c',by rw [List.lookup_cons,z]⟩
            | false =>
              have nq : q ≠ (y',c') := fun h => by rw [h] at e2; rw [<- e2] at z; simp at z
              obtain ⟨d,hd⟩ := ih ((List.mem_cons.mp hq').resolve_left nq)
              exact ⟨d,by rw [List.lookup_cons,z]; exact hd⟩
        obtain ⟨d,hd⟩ := this
        exact ⟨d,by rw [List.lookup_cons,z]; exact hd⟩
  · have h := of_decide_eq_true (List.all_eq_true.mp b3 p.1 (List.mem_map_of_mem hp))
    rw [h] at e
    cases e
def atS (l : List Stmt)(i : Nat) : Stmt := l.getD i (.Pass ⟨0,0,0,0⟩)
def inIf : Stmt -> List Stmt
  | .If _ b _ _ => b
  | _ => []
def inFor : Stmt -> List Stmt
  | .For _ _ b _ _ => b
  | _ => []
def noX : Expr := .Constant .none 0 ⟨0,0,0,0⟩
def tstX : Stmt -> Expr
  | .If c _ _ _ => c
  | _ => noX
def notX : Expr -> Expr
  | .UnaryOp _ e _ => e
  | _ => noX
def argX : Expr -> Expr
  | .Call _ (a :: _) _ _ => a
  | _ => noX
def lamP : Expr -> Arguments
  | .Lambda p _ _ _ => p
  | _ => defArgs (.Pass ⟨0,0,0,0⟩)
def lamB : Expr -> Expr
  | .Lambda _ b _ _ => b
  | _ => noX
def lamS : Expr -> Scope
  | .Lambda _ _ s _ => s
  | _ => defScope (.Pass ⟨0,0,0,0⟩)
end L2
set_option Elab.async false
set_option linter.all false
set_option maxRecDepth 100000
set_option maxHeartbeats 4000000
namespace HT
open PySem PySem.Spec PySem.Calls PyProof.Rows
section
variable {prog : Program}{w : World}{A : Around}{E : Value -> Shared -> Prop}{s : Shared}
theorem getItem_tuple_whole {t sl : Addr}{items : Array Value}{vl vu : Value}{lo hi : Option Int}{Q : Value -> Shared -> Prop}(ht : IsTup s.heap t items)(hs : s.heap.IsSliceOf sl vl vu .none)(pl : IsPart vl lo)(pu : IsPart vu hi)
    (hw : sIx items.size 0 lo = 0 /\ sIx items.size items.size hi = items.size)
    (h : Q (.ref t) s)
    (hsz : items.size <= sizeLine) : wpAny (model prog w) A (getItem (.ref t) (.ref sl)) Q E s := by
  have hj : sIx items.size items.size hi <= items.size := sIx_le _ _ (Nat.le_refl _) hi
  obtain ⟨os,hos,hcs,hds⟩ := id hs
  have hTs : s.TypeIs (.ref sl) "slice" := ⟨os,hos,hcs⟩
  unfold getItem
  try with_reducible refine wpAny_holding ?_
  first | refine wpAny_bind (wpAny_pure ?_) | skip
  refine wpAny_bind (wpAny_sequenceKey ht.typeIs (by decide) ?_)
  refine wpAny_bind (wpAny_callSpecial?_slot (name := Str.ofString "__getitem__") ht.typeIs PyProof.Rows.slot_tuple_getitem
    (wpAny_call_entry PyProof.Rows.slot_tuple_getitem ht.typeIs entry_tuple_getitem ?_ (args_tuple_getitem _ _)))
  show wpAny _ _ (Builtin.Tuple.tupleItemsOf (.ref t) >>= _) _ _ s
  refine wpAny_bind (tupleItemsOf_ ht ?_)
  refine wpAny_bind (wpAny_typeOf hTs ?_)
  rw [if_pos (by decide)]
  refine wpAny_bind (sliceApplied_gen hs pl pu ?_)
  have hno : (((sIx items.size 0 lo : Nat) : Int) == 0 && (1 : Int) == 1 && (sIx items.size items.size hi - sIx items.size 0 lo) == items.size) = true := by
    rw [hw.1,hw.2]; simp
  show wpAny _ _ (if (((sIx items.size 0 lo : Nat) : Int) == 0 && (1 : Int) == 1 && (sIx items.size items.size hi - sIx items.size 0 lo) == items.size) = true then _ else _) _ _ s
  rw [if_pos hno]
  refine wpAny_bind (m := Builtin.Tuple.tupleIsExact _) (wpAny_bind (wpAny_typeOf ht.typeIs (wpAny_pure ?_)))
  rw [if_pos (by decide)]
  first
    | exact wpAny_bind (wpAny_rule (wpAny_pure ⟨_,rfl,wpAny_pure h⟩))
    | exact wpAny_bind (wpAny_rule (wpAny_bind (wpAny_pure (wpAny_pure ⟨_,rfl,wpAny_pure h⟩))))
end
end HT
namespace L2
open PySem PySem.Spec PyProof.Rows
section
variable {X : Cx}
def rSlA (K : PySem.W.Frag) : V -> Option Int -> Option Int -> Hp -> VK -> Prop := fun x lo hi H Q => ∃ a xs,x = .ref a /\ SqT K H a xs /\
  (HT.sIx xs.length 0 lo = 0 /\ HT.sIx xs.length xs.length hi = xs.length) /\ Q (.ref a) H
theorem sl_tupW (K : PySem.W.Frag)(hK : X.K = K) : SlR X (rSlA K) := by
  subst hK
  intro pins s σ H x v vl vu lo hi sl Q I rx hs pl pu h
  obtain ⟨a,xs,rfl,hx,hw,q⟩ := h
  cases rx
  obtain ⟨its,r,ht,hz⟩ := I.tuple hx
  have hlen : its.toArray.size = xs.length := by rw [List.size_toArray]; exact r.length.symm
  refine ⟨"tuple",_,PyProof.Rows.slot_tuple_getitem.lookup,ht.typeIs,?_⟩
  refine HT.getItem_tuple_whole ht hs pl pu (by rw [hlen]; exact hw) ?_ (by rw [hlen]; exact hz)
  exact ⟨.ref a,_,I,rfl,q⟩
def oSlA (x : D)(lo hi : Option Int)(P : D -> Prop) : Prop := match x with
  | .tup xs => P (.tup (cutD xs lo hi))
  | _ => False
def dSlA (de : DE)(dl dh : DO) : DE := fun ρ P => de ρ fun x => dl ρ fun lo => dh ρ fun hi => oSlA x lo hi P
theorem cut_whole {xs : List D}{lo hi : Option Int}(h : HT.sIx xs.length 0 lo = 0 /\ HT.sIx xs.length xs.length hi = xs.length) : cutD xs lo hi = xs := by
  unfold cutD
  rw [h.1,h.2]
  simp
theorem jde_sliceA {W : Wd}{e : Expr}{de : DE}{lo hi : Option Expr}{dl dh : DO}{p2 pos : Pos}(hr : SlR X (fun x lo hi H Q => rSlT W.K x lo hi H Q \/ rSlA W.K x lo hi H Q))(he : JE X W e de)(hl : JO X W lo dl)(hu : JO X W hi dh) : JE X W (.Subscript e (.Slice lo hi none p2) pos) (dSlA de dl dh) := ⟨(pe_slice hr he.h hl.h hu.h).mono fun σ H Q hh => hh.elim fun pn M b ρ P st h k => by
  refine ⟨pn,M,b,ρ,_,st,h,fun x v H1 hx rx k1 o1 => ?_⟩
  refine ⟨pn,M,b,ρ,_,st.step k1 o1,hx,fun lo H2 hy k2 o2 => ?_⟩
  refine ⟨pn,M,b,ρ,_,(st.step k1 o1).step k2 o2,hy,fun hi H3 hz k3 o3 => ?_⟩
  have s3 := ((st.step k1 o1).step k2 o2).step k3 o3
  have rx := (rx.step st.bagM k2).step st.bagM k3
  have kk := (k1.trans k2).trans k3
  cases x with
  | tup xs =>
    obtain ⟨a,vs,rfl,hh,r⟩ := rx
    by_cases hw : HT.sIx xs.length 0 lo = 0 /\ HT.sIx xs.length xs.length hi = xs.length
    · refine .inr ⟨a,vs,rfl,hh.sq,by rw [r.length]; exact hw,?_⟩
      have hz : P (.tup (cutD xs lo hi)) := hz
      rw [cut_whole hw] at hz
      exact k _ _ H3 hz ⟨a,vs,rfl,hh,r⟩ kk s3.ok
    · exact .inl ⟨a,vs,rfl,hh.sq,by rw [r.length]; exact hw,fun p hp => k _ _ _ hz (new_tup s3.toHs (r.cut lo hi) hp) (kk.trans (Kp.upd hp)) (s3.okU hp)⟩
  | _ => exact False.elim hz⟩
theorem sl_tupA (K : PySem.W.Frag)(hK : X.K = K) : SlR X (fun x lo hi H Q => rSlT K x lo hi H Q \/ rSlA K x lo hi H Q) := (sl_tupK K hK).or (sl_tupW K hK)
end
end L2
set_option Elab.async false
set_option linter.all false
set_option maxRecDepth 100000
set_option maxHeartbeats 4000000
namespace K
open PySem PySem.Spec PyProof.Rows L2
local macro_rules | `(tactic| walk_at "o") => `(tactic| first | exact Or.inl rfl | exact Or.inr rfl)
local macro_rules | `(tactic| walk_at "v") => `(tactic| first | exact Or.inl rfl | exact Or.inr (Or.inl rfl) | exact Or.inr (Or.inr rfl))
local macro_rules | `(tactic| walk_at "bg") => `(tactic| first | assumption | exact Bag.same (by walk_at "bg") (Same.upd (by assumption)) | exact Bag.same (by walk_at "bg") (by assumption))
local macro_rules | `(tactic| walk_at "hp") => `(tactic| first | assumption | exact upd_same | (refine Same.get (Same.upd (by assumption)) ?_; walk_at "hp") | (refine Same.get (by assumption) ?_; walk_at "hp") | (refine Keep.tup (by assumption) (by walk_at "bg") ?_; (walk_at "hp")))
local macro_rules | `(tactic| walk_at "sm") => `(tactic| first | exact Same.refl _ | assumption | (refine Same.trans ?_ (Same.upd (by assumption)); walk_at "sm") | (refine Same.trans ?_ (by assumption); walk_at "sm"))
local macro_rules | `(tactic| walk_at "kp") => `(tactic| first | exact Keep.refl _ _ | assumption | (refine Keep.trans ?_ (Same.keep (Same.upd (by assumption))); walk_at "kp") | (refine Keep.trans ?_ (by assumption); walk_at "kp") | (refine Keep.trans ?_ (Same.keep (by assumption)); walk_at "kp"))
local macro_rules | `(tactic| walk_at "bd") => `(tactic| first | assumption | exact Bd.mul (by walk_at "bd") (by walk_at "bd") | exact Bd.add (by walk_at "bd") (by walk_at "bd") | exact Bd.sub (by walk_at "bd") (by walk_at "bd") | exact Bd.neg (by walk_at "bd") | exact Bd.num _ (by decide))
local macro_rules | `(tactic| walk_at "rd1") => `(tactic| first | refine ⟨_,_,rfl,rfl,?_⟩ | refine ⟨_,rfl,?_⟩ | (refine' ⟨_,?xs,_,?vv,rfl,rfl,SqT.of ?ia,?ib,?_⟩; (case ia => walk_at "hp"); (case ib => rfl)) | refine And.intro (CMulB.right (Bd.num _ (by decide))) ?_ | (refine' rd_mul ?m1 ?m2 ?m3 ?_; (case m1 => walk_at "bd"); (case m2 => walk_at "bd"); (case m3 => first | decide | omega)) | refine ⟨rfl,?_⟩)
local macro_rules | `(tactic| walk_at "rd") => `(tactic| repeat (walk_at "rd1"))
local macro_rules | `(tactic| walk_at "al") => `(tactic| (refine ⟨(Nat.le_trans (Nat.le_of_ble_eq_true rfl) le1000),?_⟩; intro p en))
local macro_rules | `(tactic| walk_at "w") => `(tactic| (conv => whnf))
local macro_rules | `(tactic| walk_at "go1") => `(tactic| first | refine And.intro (by exact rfl) ?_ | refine IfP.t (by exact rfl) ?_ | refine IfP.f (by exact rfl) ?_ | refine And.intro (by exact Nat.le_of_ble_eq_true rfl) ?_ | refine And.intro (by decide) ?_ | refine And.intro (by dsimp only; decide) ?_ | refine And.intro (CMulB.right (Bd.num _ (by decide))) ?_ | refine And.intro (Or.inl ⟨_,_,by walk_at "bd",by walk_at "bd",by first | decide | omega⟩) ?_| refine And.intro ⟨by decide,by decide⟩ ?_)
local macro_rules | `(tactic| walk_at "go") => `(tactic| ((conv => whnf); repeat (walk_at "go1"; (conv => whnf))))
local macro_rules | `(tactic| walk_at "nz") => `(tactic| simp only [startD,List.map_cons,List.map_nil,List.length_cons,List.length_nil,List.replicate,List.cons_append,List.nil_append,List.set_cons_succ,List.set_cons_zero,captD,List.getElem?_cons_succ,List.getElem?_cons_zero,Option.bind_some,Option.bind_none,Option.join_some,Option.join_none,setAll,Nat.reduceAdd,Nat.reduceSub,Int.reduceAdd,Nat.zero_add])
local macro_rules | `(tactic| walk_at "gr") => `(tactic| ((try walk_at "nz"); refine for_rec ?_; walk_at "go"))
local macro_rules | `(tactic| walk_at "gc") => `(tactic| ((try walk_at "nz"); refine comp_rec ?_; walk_at "go"))
local macro_rules | `(tactic| walk_at "sp") => `(tactic| (refine IfP.of (fun h => ?_) (fun h => ?_) <;> (try simp only [decide_eq_true_eq,Bool.bne_false,Bool.bne_true,Bool.not_eq_true',decide_eq_false_iff_not,Bool.not_true,Bool.not_false,Bool.not_eq_false',bne_iff_ne,ne_eq,Bool.not_not] at h)))
def top (i : Nat) : Stmt := PySem.Challenge.pw_onceshade_k21_worths.main.body.getD i (.Pass ⟨0,0,0,0⟩)
structure Bi (mg : Str -> Option Value) : Prop where
  abs_ : mg "abs" = none
  len_ : mg "len" = none
  max_ : mg "max" = none
  min_ : mg "min" = none
  range_ : mg "range" = none
  isinstance_ : mg "isinstance" = none
  int_ : mg "int" = none
  bool_ : mg "bool" = none
  tuple_ : mg "tuple" = none
  zip_ : mg "zip" = none
  sum_ : mg "sum" = none
  all_ : mg "all" = none
  list_ : mg "list" = none
  ValueError_ : mg "ValueError" = none
structure Cs where
  ShadeError : Addr
  NoFraction : Addr
  NoSpot : Addr
  NoBody : Addr
  NoMove : Addr
  NoFlat : Addr
  NoFace : Addr
  NoBoard : Addr
  NoLight : Addr
  NoDeed : Addr
  NoText : Addr
  NoName : Addr
  NoRow : Addr
  Behind : Addr
  TooMany : Addr
structure Ex (K : PySem.W.Frag)(mg : Str -> Option Value)(base : Heap)(c : Cs) : Prop where
  g_ShadeError : mg "ShadeError" = some (.ref c.ShadeError)
  g_NoFraction : mg "NoFraction" = some (.ref c.NoFraction)
  g_NoSpot : mg "NoSpot" = some (.ref c.NoSpot)
  g_NoBody : mg "NoBody" = some (.ref c.NoBody)
  g_NoMove : mg "NoMove" = some (.ref c.NoMove)
  g_NoFlat : mg "NoFlat" = some (.ref c.NoFlat)
  g_NoFace : mg "NoFace" = some (.ref c.NoFace)
  g_NoBoard : mg "NoBoard" = some (.ref c.NoBoard)
  g_NoLight : mg "NoLight" = some (.ref c.NoLight)
  g_NoDeed : mg "NoDeed" = some (.ref c.NoDeed)
  g_NoText : mg "NoText" = some (.ref c.NoText)
  g_NoName : mg "NoName" = some (.ref c.NoName)
  g_NoRow : mg "NoRow" = some (.ref c.NoRow)
  g_Behind : mg "Behind" = some (.ref c.Behind)
  g_TooMany : mg "TooMany" = some (.ref c.TooMany)
  o_NoFlat : OwnCls "NoFlat" c.NoFlat bmV "ValueError.__new__" mg base
  x_NoFlat : XCls K c.NoFlat
  v_NoFlat : PySem.W.subIn K (.ref c.NoFlat) (.type "ValueError") = some true
  s_NoFlat : PySem.W.subIn K (.ref c.NoFlat) (.ref c.ShadeError) = some true
  n_NoFlat_NoFraction : PySem.W.kin_not K c.NoFlat c.NoFraction = true
  n_NoFlat_NoSpot : PySem.W.kin_not K c.NoFlat c.NoSpot = true
  n_NoFlat_NoBody : PySem.W.kin_not K c.NoFlat c.NoBody = true
  n_NoFlat_NoMove : PySem.W.kin_not K c.NoFlat c.NoMove = true
  n_NoFlat_NoFace : PySem.W.kin_not K c.NoFlat c.NoFace = true
  n_NoFlat_NoBoard : PySem.W.kin_not K c.NoFlat c.NoBoard = true
  n_NoFlat_NoLight : PySem.W.kin_not K c.NoFlat c.NoLight = true
  n_NoFlat_NoDeed : PySem.W.kin_not K c.NoFlat c.NoDeed = true
  n_NoFlat_NoText : PySem.W.kin_not K c.NoFlat c.NoText = true
  n_NoFlat_NoName : PySem.W.kin_not K c.NoFlat c.NoName = true
  n_NoFlat_NoRow : PySem.W.kin_not K c.NoFlat c.NoRow = true
  n_NoFlat_Behind : PySem.W.kin_not K c.NoFlat c.Behind = true
  n_NoFlat_TooMany : PySem.W.kin_not K c.NoFlat c.TooMany = true
  sh : XBase K c.ShadeError
def BagP (H : Hp)(p : Addr) : Prop := ∃ f m q : Int,H p = some (.lst [.int f,.int m,.int q]) /\ 0 <= f /\ 0 <= m /\ m < 4294967296 /\ 2147483353 <= q /\ q <= 2147483629
theorem BagP.ne {H : Hp}{p a : Addr}{xs : List V}(b : BagP H p)(h : H a = some (.tup xs)) : a ≠ p := by
  obtain ⟨f,m,st,e,_⟩ := b
  exact ne_of h e (by intro z; cases z)
def DigP (p : Addr)(many : Int)(H : Hp)(Q : VK) : Prop := ∀ (r : Int) H',0 <= r -> r < many -> BagP H' p -> Keep p H H' -> Q (.int r) H'
abbrev s__law_bag : Stmt := top 31
theorem sc__law_bag : FnScope ["_law_script","_law_at","_law_cell","_law_prime","_law_great"] ["_law_script","_law_at"] (defScope s__law_bag) := ⟨rfl,rfl,rfl,by decide +kernel,rfl,by decide +kernel,by decide +kernel⟩
def sp_bag (K : PySem.W.Frag) : Sp := fun vs H Q _ => ∃ (a : Addr) (ns : List Int) (i : Nat),vs = [.ref a,.int i] /\ SqL K H a (ns.map V.int) /\ i <= 1000 /\ ∀ p H',H p = none -> Same H H' -> BagP H' p -> Q (.ref p) H'
theorem ok0__law_bag {P : Program}{w : World}{K : PySem.W.Frag}{mg : Str -> Option Value}{base : Heap}{f : Addr}{fd : FuncData}(F : Fun K "_law_bag" "_law_bag" s__law_bag f fd) (Z : Bi mg) {c : Cs} (Y : Ex K mg base c) : FnOk P w K mg base CX0 1 f fd ["_law_script","_law_at"] (sp_bag K) := by
  refine F.ok sc__law_bag (fun vs H Q E h => ?_) (fun cdv A outer s H vs Q E hr h => ?_)
  · obtain ⟨a,ns,i,rfl,hS,hi,k⟩ := h
    rfl
  · obtain ⟨a,ns,i,rfl,hS,hi,k⟩ := h
    obtain ⟨es1,hes1⟩ : ∃ es : List Expr,es = List.map (fun c : Int × Nat × Pos => Expr.Constant (.int c.1) c.2.1 c.2.2) [(2147483629,0,⟨84,18,84,28⟩),(2147483587,0,⟨84,30,84,40⟩),(2147483579,0,⟨84,42,84,52⟩),(2147483563,0,⟨84,54,84,64⟩),(2147483549,0,⟨84,66,84,76⟩),(2147483543,0,⟨84,78,84,88⟩),(2147483497,0,⟨84,90,84,100⟩),(2147483489,0,⟨84,102,84,112⟩),(2147483477,0,⟨84,114,84,124⟩),(2147483423,0,⟨84,126,84,136⟩),(2147483399,0,⟨84,138,84,148⟩),(2147483353,0,⟨84,150,84,160⟩)] := ⟨_,rfl⟩
    have hT1 : PS (cxOf CX0 P w K mg base ["_law_script","_law_at","_law_cell","_law_prime","_law_great"] "_law_bag" (defScope s__law_bag) f cdv A outer s H E).nox (Stmt.Assign [Expr.Name "_law_prime" ⟨84,4,84,14⟩] (Expr.Subscript (Expr.Tuple es1 0 ⟨84,17,84,161⟩) (Expr.BinOp (Expr.Name "_law_at" ⟨84,162,84,169⟩) .Mod (Expr.Constant (Const.int 12) 0 ⟨84,172,84,174⟩) ⟨84,162,84,174⟩) ⟨84,17,84,175⟩) ⟨84,4,84,175⟩) _ := ps_set (i := 3) sc__law_bag.nd rfl (by walk_at "o") (pe_ix (ix_tupK K (by rfl)) (pe_tupInts (x1 := 0) (pos := ⟨84,17,84,161⟩) [(2147483629,0,⟨84,18,84,28⟩),(2147483587,0,⟨84,30,84,40⟩),(2147483579,0,⟨84,42,84,52⟩),(2147483563,0,⟨84,54,84,64⟩),(2147483549,0,⟨84,66,84,76⟩),(2147483543,0,⟨84,78,84,88⟩),(2147483497,0,⟨84,90,84,100⟩),(2147483489,0,⟨84,102,84,112⟩),(2147483477,0,⟨84,114,84,124⟩),(2147483423,0,⟨84,126,84,136⟩),(2147483399,0,⟨84,138,84,148⟩),(2147483353,0,⟨84,150,84,160⟩)] hes1) (pe_op op_mod (pv 1) pe_int) (fun _ _ => rfl)) rfl (.inl rfl)
    generalize hst1 : Stmt.Assign [Expr.Name "_law_prime" ⟨84,4,84,14⟩] (Expr.Subscript (Expr.Tuple es1 0 ⟨84,17,84,161⟩) (Expr.BinOp (Expr.Name "_law_at" ⟨84,162,84,169⟩) .Mod (Expr.Constant (Const.int 12) 0 ⟨84,172,84,174⟩) ⟨84,162,84,174⟩) ⟨84,17,84,175⟩) ⟨84,4,84,175⟩ = st1 at hT1
    have hR1 := ((pss_cons (ps_set (i := 4) sc__law_bag.nd rfl (by walk_at "o") pe_int)
      (pss_cons (ps_if (pt_cmpR op_ge (pv 2) (pe_op op_pow pe_int pe_int) (nomark _)) (pss_one (ps_set (i := 4) sc__law_bag.nd rfl (by walk_at "o") (pv 2))) pss_nil)
      (pss_one (ps_ret (pe_lst (pa_cons (pv 4) (pa_cons (pe_op op_mod (pe_op op_pow (pe_op op_add (pe_op op_mod (pv 2) (pv 3)) pe_int) pe_int) (pv 3)) (pa_cons (pv 3) pa_nil)))))))) : PSs (cxOf CX0 P w K mg base ["_law_script","_law_at","_law_cell","_law_prime","_law_great"] "_law_bag" (defScope s__law_bag) f cdv A outer s H E).nox ((defBody s__law_bag).drop 3) _)
    have hV1 := @pss_says _ _ _ (pss_cons hT1 hR1)
    refine ⟨_,(pss_cons (ps_set (i := 2) sc__law_bag.nd rfl (by walk_at "o") pe_int)
      (pss_cons (ps_if (pt_cmpR op_lt (pv 1) (pe_callB (call_len_seqK K (by rfl)) rfl Z.len_ bt_len (pa_cons (pv 0) pa_nil)) (nomark _)) (pss_one (ps_set (i := 2) sc__law_bag.nd rfl (by walk_at "o") (pe_ix (ix_listK K (by rfl)) (pv 0) (pv 1) (fun _ _ => rfl)))) pss_nil)
      hV1)),?_⟩
    have ixp : ∀ j : Int,∃ q : Int,atI [.int 2147483629,.int 2147483587,.int 2147483579,.int 2147483563,.int 2147483549,.int 2147483543,.int 2147483497,.int 2147483489,.int 2147483477,.int 2147483423,.int 2147483399,.int 2147483353] (j % 12) = some (V.int q) /\ 2147483353 <= q /\ q <= 2147483629 := fun j => by
      obtain ⟨v,ev,mv⟩ := atI_some (xs := [.int 2147483629,.int 2147483587,.int 2147483579,.int 2147483563,.int 2147483549,.int 2147483543,.int 2147483497,.int 2147483489,.int 2147483477,.int 2147483423,.int 2147483399,.int 2147483353]) (i := j % 12) (Int.emod_nonneg _ (by decide)) (Int.emod_lt_of_pos _ (by decide))
      simp only [List.mem_cons,List.not_mem_nil,or_false] at mv
      rcases mv with e | e | e | e | e | e | e | e | e | e | e | e <;> exact ⟨_,e ▸ ev,by decide,by decide⟩
    obtain ⟨q,xq,q0,q1⟩ := ixp (i : Int)
    have fin : ∀ (cv f : Int) (H1 : Hp),Same H H1 -> 0 <= f -> ∀ p,H1 p = none -> Q (.ref p) (upd H1 p (.lst [.int f,.int ((cv % q + 7919) ^ (3 : Int).toNat % q),.int q])) := fun cv f H1 S hf p hp => by
      have h1 := Int.emod_nonneg ((cv % q + 7919) ^ (3 : Int).toNat) (show q ≠ 0 by omega)
      have h2 := Int.emod_lt_of_pos ((cv % q + 7919) ^ (3 : Int).toNat) (show 0 < q by omega)
      exact k p _ (S.free hp) (S.trans (Same.upd hp)) ⟨_,_,_,upd_same,hf,h1,by omega,q0,q1⟩
    have hpw : ∀ cv : Int,(cv % q + 7919).natAbs < 2 ^ 64 := fun cv => by
      have h1 := Int.emod_nonneg cv (show q ≠ 0 by omega)
      have h2 := Int.emod_lt_of_pos cv (show 0 < q by omega)
      omega
    walk_at "rd"
    refine ⟨_,_,rfl,.inl hS,?_⟩
    walk_at "rd"
    refine iteB (fun h => ?_) (fun h => ?_)
    · have h : (i : Int) < ((ns.map V.int).length : Nat) := dec_t h
      have hi' : i < ns.length := by rw [List.length_map] at h; omega
      walk_at "rd"
      refine ⟨_,_,_,_,rfl,rfl,hS,atI_nat (v := V.int ns[i]) (by rw [List.getElem?_map,List.getElem?_eq_getElem hi']; rfl),?_⟩
      walk_at "rd"
      refine ⟨by rw [<- hst1,hes1]; rfl,?_⟩
      walk_at "al"
      rename_i pr npr
      walk_at "rd"
      refine ⟨(by show (0 : Int) < 12; decide),?_⟩
      refine ⟨_,_,_,_,rfl,rfl,SqT.of upd_same,xq,?_⟩
      walk_at "rd"
      refine ⟨⟨by decide,by decide,by decide⟩,?_⟩
      walk_at "rd"
      refine iteB (fun h => ?_) (fun h => ?_)
      all_goals
        walk_at "rd"
        refine ⟨(by show 0 < q; omega),?_⟩
        walk_at "rd"
        refine ⟨⟨by decide,by decide,hpw _⟩,?_⟩
        walk_at "rd"
        refine ⟨(by show 0 < q; omega),?_⟩
        walk_at "rd"
        refine ⟨(Nat.le_trans (Nat.le_of_ble_eq_true rfl) le1000),?_⟩
      · exact fin _ _ _ (Same.upd npr) (by have h : (10 : Int) ^ Int.toNat 18 <= _ := dec_t h; have e : (10 : Int) ^ Int.toNat 18 = 1000000000000000000 := (by decide); omega)
      · exact fin _ _ _ (Same.upd npr) (by decide)
    · walk_at "rd"
      refine ⟨by rw [<- hst1,hes1]; rfl,?_⟩
      walk_at "al"
      rename_i pr npr
      walk_at "rd"
      refine ⟨(by show (0 : Int) < 12; decide),?_⟩
      refine ⟨_,_,_,_,rfl,rfl,SqT.of upd_same,xq,?_⟩
      walk_at "rd"
      refine ⟨⟨by decide,by decide,by decide⟩,?_⟩
      walk_at "rd"
      refine ⟨(by show 0 < q; omega),?_⟩
      walk_at "rd"
      refine ⟨⟨by decide,by decide,hpw _⟩,?_⟩
      walk_at "rd"
      refine ⟨(by show 0 < q; omega),?_⟩
      walk_at "rd"
      refine ⟨(Nat.le_trans (Nat.le_of_ble_eq_true rfl) le1000),?_⟩
      exact fin _ _ _ (Same.upd npr) (by decide)
abbrev s__law_digit : Stmt := top 32
theorem sc__law_digit : FnScope ["_law_bag_here","_law_many","_law_found"] ["_law_bag_here","_law_many"] (defScope s__law_digit) := ⟨rfl,rfl,rfl,by decide +kernel,rfl,by decide +kernel,by decide +kernel⟩
def sp_digit : Sp := fun vs H Q _ => ∃ (p : Addr) (many : Int) (n : Nat),vs = [.ref p,.int many] /\ BagP H p /\ 0 < many /\ Bd n many /\ n <= 9000 /\ DigP p many H Q
theorem ok0__law_digit {P : Program}{w : World}{K : PySem.W.Frag}{mg : Str -> Option Value}{base : Heap}{f : Addr}{fd : FuncData}(F : Fun K "_law_digit" "_law_digit" s__law_digit f fd) (Z : Bi mg) {c : Cs} (Y : Ex K mg base c) : FnOk P w K mg base CX0 1 f fd ["_law_bag_here","_law_many"] sp_digit := by
  refine F.ok sc__law_digit (fun vs H Q E h => ?_) (fun cdv A outer s H vs Q E hr h => ?_)
  · obtain ⟨p,many,n,rfl,⟨fg,m,q,hp,hf,hm,hm2,q0,q1⟩,h0,hb,hn,k⟩ := h
    rfl
  · obtain ⟨p,many,n,rfl,⟨fg,m,q,hp,hf,hm,hm2,q0,q1⟩,h0,hb,hn,k⟩ := h
    refine ⟨_,(pss_cons (ps_if (pt_cmpR op_gt (pe_ix (ix_listK K (by rfl)) (pv 0) pe_int (fun _ _ => rfl)) pe_int (nomark _)) (pss_cons (ps_set (i := 2) sc__law_digit.nd rfl (by walk_at "o") (pe_op op_mod (pe_ix (ix_listK K (by rfl)) (pv 0) pe_int (fun _ _ => rfl)) (pv 1)))
      (pss_cons (ps_asg (pe_op op_fdivB (pe_ix (ix_listK K (by rfl)) (pv 0) pe_int (fun _ _ => rfl)) (pv 1)) (pg_sub (pv 0) pe_int set_list))
      (pss_one (ps_ret (pv 2))))) pss_nil)
      (pss_cons (ps_asg (pe_op op_mod (pe_op op_add (pe_op op_mulB (pe_ix (ix_listK K (by rfl)) (pv 0) pe_int (fun _ _ => rfl)) pe_int) pe_int) (pe_ix (ix_listK K (by rfl)) (pv 0) pe_int (fun _ _ => rfl))) (pg_sub (pv 0) pe_int set_list))
      (pss_one (ps_ret (pe_op op_mod (pe_op op_fdivB (pe_op op_mod (pe_op op_pow (pe_ix (ix_listK K (by rfl)) (pv 0) pe_int (fun _ _ => rfl)) pe_int) pe_int) pe_int) (pv 1)))))),?_⟩
    have md : ∀ x : Int,0 <= x % many /\ x % many < many := fun x => ⟨Int.emod_nonneg _ (by omega),Int.emod_lt_of_pos _ h0⟩
    walk_at "rd"
    refine ⟨_,_,_,_,rfl,rfl,SqL.of hp,rfl,?_⟩
    walk_at "rd"
    refine iteB (fun h => ?_) (fun h => ?_)
    · have h : 0 < fg := dec_t h
      walk_at "rd"
      refine ⟨_,_,_,_,rfl,rfl,SqL.of hp,rfl,?_⟩
      walk_at "rd"
      refine ⟨h0,?_⟩
      walk_at "rd"
      refine ⟨_,_,_,_,rfl,rfl,SqL.of hp,rfl,?_⟩
      walk_at "rd"
      refine ⟨⟨h0,n,hb,hn⟩,?_⟩
      walk_at "rd"
      refine ⟨_,_,_,0,rfl,rfl,hp,rfl,?_⟩
      walk_at "rd"
      exact k _ _ (md fg).1 (md fg).2 ⟨_,_,_,upd_same,Int.ediv_nonneg hf (by omega),hm,hm2,q0,q1⟩ Keep.upd
    · have bm : Bd 32 m := Bd.of (by omega) (by omega)
      walk_at "rd"
      refine ⟨_,_,_,_,rfl,rfl,SqL.of hp,rfl,?_⟩
      walk_at "rd"
      refine ⟨_,_,_,_,rfl,rfl,SqL.of hp,rfl,?_⟩
      walk_at "rd"
      refine ⟨(by show 0 < q; omega),?_⟩
      walk_at "rd"
      refine ⟨_,_,_,1,rfl,rfl,hp,rfl,?_⟩
      have h1 := Int.emod_nonneg (m * 48271 + 7919) (show q ≠ 0 by omega)
      have h2 := Int.emod_lt_of_pos (m * 48271 + 7919) (show 0 < q by omega)
      walk_at "rd"
      refine ⟨_,_,_,_,rfl,rfl,SqL.of upd_same,rfl,?_⟩
      walk_at "rd"
      refine ⟨⟨by decide,by decide,(by show ((m * 48271 + 7919) % q).natAbs < 2 ^ 64; omega)⟩,?_⟩
      walk_at "rd"
      refine ⟨(by show (0 : Int) < 2147483647; decide),?_⟩
      walk_at "rd"
      refine ⟨⟨by decide,64,Bd.num _ (by decide),by decide⟩,?_⟩
      walk_at "rd"
      refine ⟨h0,?_⟩
      exact k _ _ (md _).1 (md _).2 ⟨_,_,_,upd_same,hf,h1,by omega,q0,q1⟩ Keep.upd
def BT : BagT := ⟨fun p H => BagP H p,fun p H H' b k => by
  obtain ⟨f,m,q,e,r⟩ := b
  exact ⟨f,m,q,k _ e,r⟩,fun p H b => by
  obtain ⟨f,m,q,e,r⟩ := b
  exact ⟨_,e⟩⟩
theorem keep_kp {p : Addr}{H H' : Hp}(k : Keep p H H') : Kp (some p) H H' := fun c o n e => k c o (fun z => n (by rw [z])) e
def pre_bag : List D -> Prop := fun ds => ∃ (ns : List Int) (i : Nat),ds = [.scr ns,.int i] /\ i <= 1000
theorem up__law_bag {K : PySem.W.Frag} : ∀ vs H Q E,(bagSp K BT pre_bag) vs H Q E -> (sp_bag K) vs H Q E := by
  rintro vs H Q E ⟨M,b,ds,hr,⟨ns,i,rfl,hi⟩,k⟩
  obtain ⟨v,r,rfl,⟨a,rfl,hS⟩,u,r',rfl,h2,h3⟩ := hr
  cases (show _ = _ from h2)
  cases (show _ = _ from h3)
  exact ⟨a,ns,i,rfl,hS.imp (·.2) id,hi,k⟩
theorem ok__law_bag {P : Program}{w : World}{K : PySem.W.Frag}{mg : Str -> Option Value}{base : Heap}{f : Addr}{fd : FuncData}(F : Fun K "_law_bag" "_law_bag" s__law_bag f fd) (Z : Bi mg) {c : Cs} (Y : Ex K mg base c) : FnOk P w K mg base CX0 1 f fd ["_law_script","_law_at"] (bagSp K BT pre_bag) := FnOk.imp (ok0__law_bag F Z Y) up__law_bag
def S_digit : DSp := fun ds P _ => ∃ (many : Int) (n : Nat),ds = [.bag,.int many] /\ 0 < many /\ Bd n many /\ n <= 9000 /\ ∀ r,0 <= r -> r < many -> P (.int r)
theorem up__law_digit {K : PySem.W.Frag} : ∀ vs H Q E,(liftSp K BT S_digit) vs H Q E -> sp_digit vs H Q E := by
  rintro vs H Q E ⟨M,b,ds,P,Ed,⟨many,n,rfl,h0,hbd,hn,hP⟩,⟨v,r,rfl,⟨p,rfl,rfl⟩,u,r',rfl,h2,h3⟩,ho,hb,hd,hq,hx⟩
  cases (show _ = _ from h2)
  cases (show _ = _ from h3)
  exact ⟨p,many,n,rfl,ho p rfl,h0,hbd,hn,fun r H' r0 r1 b' k => hq _ _ H' (hP r r0 r1) rfl (keep_kp k) fun q e => by cases e; exact b'⟩
theorem ok__law_digit {P : Program}{w : World}{K : PySem.W.Frag}{mg : Str -> Option Value}{base : Heap}{f : Addr}{fd : FuncData}(F : Fun K "_law_digit" "_law_digit" s__law_digit f fd) (Z : Bi mg) {c : Cs} (Y : Ex K mg base c) : FnOk P w K mg base CX0 1 f fd ["_law_bag_here","_law_many"] (liftSp K BT S_digit) := FnOk.imp (ok0__law_digit F Z Y) up__law_digit
def S_gcd : DSp := fun ds P _ => ∃ a b : Int,ds = [.int a,.int b] /\ P (.int (Int.gcd a b))
abbrev s__law_gcd : Stmt := top 34
theorem sc__law_gcd : FnScope ["_law_one","_law_other"] ["_law_one","_law_other"] (defScope s__law_gcd) := ⟨rfl,rfl,rfl,by decide +kernel,rfl,by decide +kernel,by decide +kernel⟩
def sp_lgcd : Sp := fun vs H Q _ => ∃ a b : Int,vs = [.int a,.int b] /\ Q (.int (Int.gcd a b)) H
theorem ok0__law_gcd {P : Program}{w : World}{K : PySem.W.Frag}{mg : Str -> Option Value}{base : Heap}{f : Addr}{fd : FuncData}(F : Fun K "_law_gcd" "_law_gcd" s__law_gcd f fd) (Z : Bi mg) {c : Cs} (Y : Ex K mg base c) : FnOk P w K mg base CX0 1 f fd ["_law_one","_law_other"] sp_lgcd := by
  refine F.ok sc__law_gcd (fun vs H Q E h => ?_) (fun cdv A outer s H vs Q E hr h => ?_)
  · obtain ⟨a,b,rfl,k⟩ := h
    rfl
  · obtain ⟨a,b,rfl,k⟩ := h
    refine ⟨_,(pss_cons (ps_while PassesOwn.never (pt_cmpR op_ne (pv 1) pe_int (nomark _)) (pss_one (ps_par (i := 0) (j := 1) rfl sc__law_gcd.nd rfl rfl (by decide) rfl rfl (pa_cons (pv 1) (pa_cons (pe_op op_modN (pv 0) (pv 1)) pa_nil)) rfl)))
      (pss_one (ps_ret (pe_callB call_abs rfl Z.abs_ bt_abs (pa_cons (pv 0) pa_nil))))),?_⟩
    have ab : ∀ x : Int,(if x < 0 then -x else x) = (x.natAbs : Int) := fun x => by split <;> omega
    refine while_by (fun σ H' => H' = H /\ ∃ x y : Int,σ = [some (.int x),some (.int y)] /\ Int.gcd x y = Int.gcd a b) (fun σ _ => match σ with | [_,some (.int y)] => y.natAbs | _ => 0) ⟨rfl,_,_,rfl,rfl⟩ ?_ ?_
    · rintro σ H' ⟨rfl,x,y,rfl,hg⟩
      walk_at "rd"
      refine iteB (fun h => ?_) (fun h => ?_)
      · have h : y ≠ 0 := nvint_t h
        walk_at "rd"
        refine ⟨h,?_⟩
        refine ⟨_,_,rfl,⟨rfl,_,_,rfl,by rw [gcd_fmod]; exact hg⟩,?_⟩
        show (x.fmod y).natAbs < y.natAbs
        exact fm_lt h
      · have h : y = 0 := nvint_f h
        walk_at "rd"
        subst h
        have e : ((Int.gcd a b : Nat) : Int) = (if x < 0 then -x else x) := by rw [<- hg,Int.gcd_zero_right,ab]
        rw [e] at k
        exact k
    · rintro σ H' Q1 Q2 hq ⟨v,e1,e2,k',e4,q⟩
      exact ⟨v,e1,e2,k',e4,hq _ _ q⟩
theorem up__law_gcd {K : PySem.W.Frag} : ∀ vs H Q E,(liftSp K BT S_gcd) vs H Q E -> sp_lgcd vs H Q E := by
  rintro vs H Q E ⟨M,b,ds,P,Ed,⟨x,y,rfl,hP⟩,⟨v,r,rfl,h1,u,r',rfl,h2,h3⟩,ho,hb,hd,hq,hx⟩
  cases (show _ = _ from h1)
  cases (show _ = _ from h2)
  cases (show _ = _ from h3)
  exact ⟨x,y,rfl,hq _ _ H hP rfl (Kp.refl _ _) ho⟩
theorem ok__law_gcd {P : Program}{w : World}{K : PySem.W.Frag}{mg : Str -> Option Value}{base : Heap}{f : Addr}{fd : FuncData}(F : Fun K "_law_gcd" "_law_gcd" s__law_gcd f fd) (Z : Bi mg) {c : Cs} (Y : Ex K mg base c) : FnOk P w K mg base CX0 1 f fd ["_law_one","_law_other"] (liftSp K BT S_gcd) := FnOk.imp (ok0__law_gcd F Z Y) up__law_gcd
structure R4 where
  x : Int
  y : Int
  z : Int
  w : Int
abbrev R4.d (r : R4) : D := sp4 r.x r.y r.z r.w
structure R4.ok (r : R4)(n : Nat) : Prop where
  x : Bd n r.x
  y : Bd n r.y
  z : Bd n r.z
  w : Bd n r.w
theorem R4.ok.mono {r : R4}{m n : Nat}(h : r.ok m)(k : m <= n) : r.ok n := ⟨h.x.mono k,h.y.mono k,h.z.mono k,h.w.mono k⟩
structure M4 where
  a : R4
  b : R4
  c : R4
  e : R4
abbrev M4.d (m : M4) : D := .tup [m.a.d,m.b.d,m.c.d,m.e.d]
structure M4.ok (m : M4)(n : Nat) : Prop where
  a : m.a.ok n
  b : m.b.ok n
  c : m.c.ok n
  e : m.e.ok n
theorem M4.ok.mono {r : M4}{m n : Nat}(h : r.ok m)(k : m <= n) : r.ok n := ⟨h.a.mono k,h.b.mono k,h.c.mono k,h.e.mono k⟩
def dot4 (r s : R4) : Int := r.x * s.x + r.y * s.y + r.z * s.z + r.w * s.w
structure Scal (r r' : R4) : Prop where
  x : r'.x * r.w = r.x * r'.w
  y : r'.y * r.w = r.y * r'.w
  z : r'.z * r.w = r.z * r'.w
  w : 0 < r'.w
abbrev s_products_added : Stmt := top 21
theorem sc_products_added : FnScope ["one","other"] ["one","other"] (defScope s_products_added) := ⟨rfl,rfl,rfl,by decide +kernel,rfl,by decide +kernel,by decide +kernel⟩
def S_padd4 : DSp := fun ds P _ => ∃ (r s : R4) (n : Nat),ds = [r.d,s.d] /\ r.ok n /\ s.ok n /\ n <= 4000 /\ P (.int (dot4 r s))
theorem ok_products_added {P : Program}{w : World}{K : PySem.W.Frag}{mg : Str -> Option Value}{base : Heap}{f : Addr}{fd : FuncData}(F : Fun K "products_added" "products_added" s_products_added f fd) (Z : Bi mg) {c : Cs} (Y : Ex K mg base c) : FnOk P w K mg base CX0 1 f fd ["one","other"] (liftSp K BT S_padd4) := by
  refine F.okD sc_products_added (fun ds PP Ed h => ?_) (fun cdv A outer s H E M bg ds PP Ed hr hS_ => ?_)
  · obtain ⟨r,t,n,rfl,⟨h1,h2,h3,h4⟩,⟨k1,k2,k3,k4⟩,hn,hP⟩ := h
    rfl
  · obtain ⟨r,t,n,rfl,⟨h1,h2,h3,h4⟩,⟨k1,k2,k3,k4⟩,hn,hP⟩ := hS_
    refine ⟨_,(jdss_one (jds_ret (jde_callB (call_sumL K (by rfl) (by rfl)) cd_sum rfl Z.sum_ bt_sum (jda_cons (jde_comp (X := (cxOf CX0 P w K mg base ["one","other"] "products_added" (defScope s_products_added) f cdv A outer s H E).nox) (gd_seq [0,1]) (blkJ (X := (cxOf CX0 P w K mg base ["one","other"] "products_added" (defScope s_products_added) f cdv A outer s H E).nox) (N' := ["first","second"]) (map := [none,none]) (by rfl) (by rfl) (by decide +kernel) (by rfl) True.intro (gkeep_seq (js := [0,1]) (by decide)) fun cl0 C0 fp0 s0 H0 => ⟨(PG.or (pg_tupK (n := 2) K (by rfl) (by rfl) (pgs_cons (pg_name (i := 0) (nodupS ["first","second"] (by decide +kernel)) rfl (by walk_at "o")) (pgs_cons (pg_name (i := 1) (nodupS ["first","second"] (by decide +kernel)) rfl (by walk_at "o")) pgs_nil))) (pg_lstK (n := 2) K (by rfl) (by rfl) (pgs_cons (pg_name (i := 0) (nodupS ["first","second"] (by decide +kernel)) rfl (by walk_at "o")) (pgs_cons (pg_name (i := 1) (nodupS ["first","second"] (by decide +kernel)) rfl (by walk_at "o")) pgs_nil)))),jdif_nil,(jde_op (X := (cxComp (cxOf CX0 P w K mg base ["one","other"] "products_added" (defScope s_products_added) f cdv A outer s H E).nox ["first","second"] _ cl0 C0 fp0 s0 H0)) op_mulB od_I (jdv 0) (jdv 1))⟩) (jdi_zip (by rfl) true true rfl Z.zip_ (jda_cons (jdv 0) (jda_cons (jdv 1) jda_nil)) (pi_zip2 K (by rfl) true true rfl Z.zip_ (JA.h (jda_cons (jdv 0) (jda_cons (jdv 1) jda_nil)))))) jda_nil)))),?_⟩
    walk_at "go"
    walk_at "gc"
    have e : [r.x * t.x,r.y * t.y,r.z * t.z,r.w * t.w].sum = dot4 r t := by unfold dot4; simp only [List.sum_cons,List.sum_nil]; omega
    rw [<- e] at hP
    exact hP
structure Prim (r : R4) : Prop where
  w : 0 < r.w
  g : Nat.gcd (Int.gcd r.x r.y) (Int.gcd r.z r.w) = 1
def lowR (r : R4) : R4 := ⟨r.x.fdiv (low [r.x,r.y,r.z] r.w),r.y.fdiv (low [r.x,r.y,r.z] r.w),r.z.fdiv (low [r.x,r.y,r.z] r.w),r.w.fdiv (low [r.x,r.y,r.z] r.w)⟩
theorem lowR_of {r : R4}(h : 0 < r.w) : Prim (lowR r) /\ Scal r (lowR r) /\ ∀ n,r.ok n -> (lowR r).ok n := by
  obtain ⟨a1,a2,a3,a4,e1,e2,e3,e4,p4,pg,⟨q1,q2,q3⟩,⟨l1,l2,l3,l4⟩⟩ := low_quad (x := r.x) (y := r.y) (z := r.z) (w := r.w) (by omega)
  have : lowR r = ⟨a1,a2,a3,a4⟩ := by unfold lowR; rw [e1,e2,e3,e4]
  rw [this]
  exact ⟨⟨p4,pg⟩,⟨q1,q2,q3,p4⟩,fun n ro => ⟨Nat.lt_of_le_of_lt l1 ro.x,Nat.lt_of_le_of_lt l2 ro.y,Nat.lt_of_le_of_lt l3 ro.z,Nat.lt_of_le_of_lt l4 ro.w⟩⟩
abbrev s__law_spot : Stmt := top 35
theorem sc__law_spot : FnScope ["_law_x","_law_y","_law_z","_law_w","_law_common"] ["_law_x","_law_y","_law_z","_law_w"] (defScope s__law_spot) := ⟨rfl,rfl,rfl,by decide +kernel,rfl,by decide +kernel,by decide +kernel⟩
def S_lspot : DSp := fun ds P _ => ∃ (r : R4) (n : Nat),ds = [.int r.x,.int r.y,.int r.z,.int r.w] /\ 0 < r.w /\ r.ok n /\ n <= 9000 /\ P (lowR r).d
structure C__law_spot (P : Program)(w : World)(K : PySem.W.Frag)(mg : Str -> Option Value)(base : Heap)(c : Cs) : Prop where
  _law_gcd_ : Callee P w K mg base CX0 "_law_gcd" 1 ["_law_one","_law_other"] (liftSp K BT S_gcd)
theorem ok__law_spot {P : Program}{w : World}{K : PySem.W.Frag}{mg : Str -> Option Value}{base : Heap}{f : Addr}{fd : FuncData}(F : Fun K "_law_spot" "_law_spot" s__law_spot f fd) (Z : Bi mg) {c : Cs} (Y : Ex K mg base c) (G : C__law_spot P w K mg base c) : FnOk P w K mg base CX0 2 f fd ["_law_x","_law_y","_law_z","_law_w"] (liftSp K BT S_lspot) := by
  refine F.okD sc__law_spot (fun ds PP Ed h => ?_) (fun cdv A outer s H E M bg ds PP Ed hr hS_ => ?_)
  · obtain ⟨r,n,rfl,h0,ro,hn,hP⟩ := h
    rfl
  · obtain ⟨r,n,rfl,h0,ro,hn,hP⟩ := hS_
    refine ⟨_,(jdss_cons (jds_set (i := 4) sc__law_spot.nd rfl (by walk_at "o") (jde_own G._law_gcd_ (hr.mono (by decide)) rfl (jda_cons (jde_own G._law_gcd_ (hr.mono (by decide)) rfl (jda_cons (jdv 0) (jda_cons (jdv 1) jda_nil))) (jda_cons (jde_own G._law_gcd_ (hr.mono (by decide)) rfl (jda_cons (jdv 2) (jda_cons (jdv 3) jda_nil))) jda_nil))))
      (jdss_cons (jds_if (jdt_cmp op_lt od_B0 (jdv 3) jde_int (nomark _)) (jdss_one (jds_set (i := 4) sc__law_spot.nd rfl (by walk_at "o") (jde_op op_sub od_I0 jde_int (jdv 4)))) jdss_nil)
      (jdss_one (jds_ret (jde_tup (jda_cons (jde_op op_fdivZ od_I (jdv 0) (jdv 4)) (jda_cons (jde_op op_fdivZ od_I (jdv 1) (jdv 4)) (jda_cons (jde_op op_fdivZ od_I (jdv 2) (jdv 4)) (jda_cons (jde_op op_fdivZ od_I (jdv 3) (jdv 4)) jda_nil))))))))),?_⟩
    walk_at "go"
    refine ⟨_,_,rfl,?_⟩
    walk_at "go"
    refine ⟨_,_,rfl,?_⟩
    walk_at "go"
    refine ⟨_,_,rfl,?_⟩
    have hne : r.w ≠ 0 := by omega
    have eg : ((Int.gcd ((Int.gcd r.x r.y : Nat) : Int) ((Int.gcd r.z r.w : Nat) : Int) : Nat) : Int) = low [r.x,r.y,r.z] r.w := by
      have := low_abs4 r.x r.y r.z r.w
      have p := (low_sgn (ns := [r.x,r.y,r.z]) hne).2 h0
      have q : Int.gcd ((Int.gcd r.x r.y : Nat) : Int) ((Int.gcd r.z r.w : Nat) : Int) = Nat.gcd (Int.gcd r.x r.y) (Int.gcd r.z r.w) := rfl
      rw [q]; omega
    rw [eg]
    walk_at "go"
    refine IfP.f (by simp; omega) ?_
    have hl : ∀ i : Int,(low [r.x,r.y,r.z] r.w ≠ 0 /\ ∃ n,Bd n (low [r.x,r.y,r.z] r.w) /\ n <= 9000) := fun i => ⟨low_ne hne,n,Nat.lt_of_le_of_lt (low_le hne) ro.w,hn⟩
    walk_at "go"
    refine ⟨hl 0,hl 0,hl 0,hl 0,?_⟩
    walk_at "go"
    exact hP
abbrev s__law_number : Stmt := top 33
theorem sc__law_number : FnScope ["_law_bag_here","_law_most","_law_size","_law_number_here","_law_k"] ["_law_bag_here","_law_most"] (defScope s__law_number) := ⟨rfl,rfl,rfl,by decide +kernel,rfl,by decide +kernel,by decide +kernel⟩
def S_num : DSp := fun ds P _ => ∃ most : Int,ds = [.bag,.int most] /\ 0 <= most /\ most <= 12 /\ ∀ r : Int,Bd 40 r -> P (.int r)
structure C__law_number (P : Program)(w : World)(K : PySem.W.Frag)(mg : Str -> Option Value)(base : Heap)(c : Cs) : Prop where
  _law_digit_ : Callee P w K mg base CX0 "_law_digit" 1 ["_law_bag_here","_law_many"] (liftSp K BT S_digit)
theorem ok__law_number {P : Program}{w : World}{K : PySem.W.Frag}{mg : Str -> Option Value}{base : Heap}{f : Addr}{fd : FuncData}(F : Fun K "_law_number" "_law_number" s__law_number f fd) (Z : Bi mg) {c : Cs} (Y : Ex K mg base c) (G : C__law_number P w K mg base c) : FnOk P w K mg base CX0 2 f fd ["_law_bag_here","_law_most"] (liftSp K BT S_num) := by
  refine F.okD sc__law_number (fun ds PP Ed h => ?_) (fun cdv A outer s H E M bg ds PP Ed hr hS_ => ?_)
  · obtain ⟨most,rfl,m0,m1,hP⟩ := h
    rfl
  · obtain ⟨most,rfl,m0,m1,hP⟩ := hS_
    refine ⟨_,(jdss_cons (jds_set (i := 2) sc__law_number.nd rfl (by walk_at "o") (jde_ix (ix_any K (by rfl)) od_ix (jde_lst (jda_cons jde_int (jda_cons jde_int (jda_cons (jdv 1) (jda_cons (jdv 1) jda_nil))))) (jde_own G._law_digit_ (hr.mono (by decide)) rfl (jda_cons (jdv 0) (jda_cons jde_int jda_nil))) (fun _ _ => rfl)))
      (jdss_cons (jds_set (i := 3) sc__law_number.nd rfl (by walk_at "o") jde_int)
      (jdss_cons (jds_for (gd_name 4) PassesOwn.never rfl (jdi_range1 rfl Z.range_ (jda_cons (jde_callB (call_max2 (by rfl)) cd_2I rfl Z.max_ bt_max (jda_cons jde_int (jda_cons (jde_op op_fdivB od_I (jde_callB (call_min2 (by rfl)) cd_2I rfl Z.min_ bt_min (jda_cons (jdv 2) (jda_cons (jdv 1) jda_nil))) jde_int) jda_nil))) jda_nil)) (pg_name (i := 4) sc__law_number.nd rfl (by walk_at "o")) (jdss_one (jds_set (i := 3) sc__law_number.nd rfl (by walk_at "o") (jde_op op_add od_I0 (jde_op op_mulB od_I (jdv 3) jde_int) (jde_own G._law_digit_ (hr.mono (by decide)) rfl (jda_cons (jdv 0) (jda_cons jde_int jda_nil)))))))
      (jdss_cons (jds_if (jdt_cmp op_eq od_eqS (jdv 2) jde_int (nomark _)) (jdss_one (jds_set (i := 3) sc__law_number.nd rfl (by walk_at "o") (jde_op op_mod od_I (jdv 3) jde_int))) jdss_nil)
      (jdss_one (jds_ret (jde_op op_mulB od_I (jdv 3) (jde_ix (ix_any K (by rfl)) od_ix (jde_lst (jda_cons jde_int (jda_cons (jde_neg jde_int) jda_nil))) (jde_own G._law_digit_ (hr.mono (by decide)) rfl (jda_cons (jdv 0) (jda_cons jde_int jda_nil))) (fun _ _ => rfl))))))))),?_⟩
    walk_at "go"
    refine ⟨_,64,rfl,by decide,Bd.num _ (by decide),by decide,fun way y0 y1 => ?_⟩
    walk_at "go"
    refine ixm y0 (by exact y1) fun dz mz => ?_
    obtain ⟨sz,rfl,z0,z1⟩ : ∃ sz : Int,dz = .int sz /\ 0 <= sz /\ sz <= 12 := by
      simp only [List.mem_cons,List.not_mem_nil,or_false] at mz
      rcases mz with e | e | e | e <;> first | exact ⟨_,e,by decide,by decide⟩ | exact ⟨_,e,m0,m1⟩
    walk_at "go"
    refine And.intro ⟨by decide,64,Bd.num _ (by decide),by decide⟩ ?_
    walk_at "go"
    have n3 : ((fun i j => if j > i then j else i) 1 (((fun i j => if j < i then j else i) sz most) / 3) : Int) <= 4 := by dsimp only; split <;> split <;> omega
    have n0 : 1 <= ((fun i j => if j > i then j else i) 1 (((fun i j => if j < i then j else i) sz most) / 3) : Int) := by dsimp only; split <;> split <;> omega
    refine And.intro ⟨by omega,by omega⟩ ?_
    generalize ((fun i j => if j > i then j else i) 1 (((fun i j => if j < i then j else i) sz most) / 3) : Int) = top at n3 n0 ⊢
    refine ⟨fun i ρ => ∃ (v : Int) (w : Option D),ρ = [some .bag,some (.int most),some (.int sz),some (.int v),w] /\ 0 <= v /\ v < 1000 ^ i,⟨0,none,rfl,by decide,by decide⟩,?_,?_⟩
    · rintro i x ρ e ⟨v,w',rfl,v0,v1⟩
      obtain ⟨rfl,hi⟩ := rangeD_get e
      have hi4 : i < 4 := by omega
      have hp : (1000 : Int) ^ i <= 1000000000 := by
        rcases (show i = 0 \/ i = 1 \/ i = 2 \/ i = 3 by omega) with h | h | h | h <;> subst h <;> decide
      have bv : Bd 32 v := Bd.of (by omega) (by omega)
      walk_at "go"
      refine ⟨_,64,rfl,by decide,Bd.num _ (by decide),by decide,fun r r0 r1 => ?_⟩
      walk_at "go"
      refine ⟨_,_,rfl,by omega,?_⟩
      rw [Int.pow_succ]
      omega
    · rintro ρ ⟨v,w',rfl,v0,v1⟩
      have hp : (1000 : Int) ^ (rangeD 0 top.toNat).length <= 1000000000000 := by
        rw [rangeD_len]
        rcases (show top.toNat = 1 \/ top.toNat = 2 \/ top.toNat = 3 \/ top.toNat = 4 by omega) with h | h | h | h <;> rw [h] <;> decide
      walk_at "go"
      walk_at "sp"
      · walk_at "go"
        refine ⟨_,64,rfl,by decide,Bd.num _ (by decide),by decide,fun k k0 k1 => ?_⟩
        walk_at "go"
        have bu : Bd 40 (v % 5) := by
          have h1 := Int.emod_lt_of_pos v (show (0 : Int) < 5 by decide)
          have h2 := Int.emod_nonneg v (show (5 : Int) ≠ 0 by decide)
          exact Bd.of (by omega) (by omega)
        refine ixm k0 (by exact k1) fun d md => ?_
        simp only [List.mem_cons,List.not_mem_nil,or_false] at md
        rcases md with e | e
        · subst e
          walk_at "go"
          exact hP _ (by show Bd 40 ((v % 5) * 1); rw [Int.mul_one]; exact bu)
        · subst e
          walk_at "go"
          exact hP _ (by show Bd 40 ((v % 5) * (-1)); rw [Int.mul_neg,Int.mul_one]; exact bu.neg)
      · walk_at "go"
        refine ⟨_,64,rfl,by decide,Bd.num _ (by decide),by decide,fun k k0 k1 => ?_⟩
        walk_at "go"
        have bu : Bd 40 v := Bd.of (by omega) (by omega)
        refine ixm k0 (by exact k1) fun d md => ?_
        simp only [List.mem_cons,List.not_mem_nil,or_false] at md
        rcases md with e | e
        · subst e
          walk_at "go"
          exact hP _ (by show Bd 40 (v * 1); rw [Int.mul_one]; exact bu)
        · subst e
          walk_at "go"
          exact hP _ (by show Bd 40 (v * (-1)); rw [Int.mul_neg,Int.mul_one]; exact bu.neg)
abbrev s__law_drawn_spot : Stmt := top 36
theorem sc__law_drawn_spot : FnScope ["_law_bag_here","_law_most","_law_w"] ["_law_bag_here","_law_most"] (defScope s__law_drawn_spot) := ⟨rfl,rfl,rfl,by decide +kernel,rfl,by decide +kernel,by decide +kernel⟩
def S_dspot : DSp := fun ds P _ => ∃ most : Int,ds = [.bag,.int most] /\ 0 <= most /\ most <= 12 /\ ∀ r : R4,r.ok 41 -> Prim r -> P r.d
structure C__law_drawn_spot (P : Program)(w : World)(K : PySem.W.Frag)(mg : Str -> Option Value)(base : Heap)(c : Cs) : Prop where
  _law_spot_ : Callee P w K mg base CX0 "_law_spot" 2 ["_law_x","_law_y","_law_z","_law_w"] (liftSp K BT S_lspot)
  _law_digit_ : Callee P w K mg base CX0 "_law_digit" 1 ["_law_bag_here","_law_many"] (liftSp K BT S_digit)
  _law_number_ : Callee P w K mg base CX0 "_law_number" 2 ["_law_bag_here","_law_most"] (liftSp K BT S_num)
theorem ok__law_drawn_spot {P : Program}{w : World}{K : PySem.W.Frag}{mg : Str -> Option Value}{base : Heap}{f : Addr}{fd : FuncData}(F : Fun K "_law_drawn_spot" "_law_drawn_spot" s__law_drawn_spot f fd) (Z : Bi mg) {c : Cs} (Y : Ex K mg base c) (G : C__law_drawn_spot P w K mg base c) : FnOk P w K mg base CX0 3 f fd ["_law_bag_here","_law_most"] (liftSp K BT S_dspot) := by
  refine F.okD sc__law_drawn_spot (fun ds PP Ed h => ?_) (fun cdv A outer s H E M bg ds PP Ed hr hS_ => ?_)
  · obtain ⟨most,rfl,m0,m1,hP⟩ := h
    rfl
  · obtain ⟨most,rfl,m0,m1,hP⟩ := hS_
    refine ⟨_,(jdss_cons (jds_set (i := 2) sc__law_drawn_spot.nd rfl (by walk_at "o") (jde_ix (ix_any K (by rfl)) od_ix (jde_lst (jda_cons jde_int (jda_cons jde_int (jda_cons (jde_op op_add od_I0 jde_int (jde_own G._law_digit_ (hr.mono (by decide)) rfl (jda_cons (jdv 0) (jda_cons jde_int jda_nil)))) (jda_cons (jde_op op_add od_I0 jde_int (jde_op op_fdivB od_I (jde_callB call_abs cd_abs rfl Z.abs_ bt_abs (jda_cons (jde_own G._law_number_ (hr.mono (by decide)) rfl (jda_cons (jdv 0) (jda_cons (jdv 1) jda_nil))) jda_nil)) jde_int)) jda_nil))))) (jde_own G._law_digit_ (hr.mono (by decide)) rfl (jda_cons (jdv 0) (jda_cons jde_int jda_nil))) (fun _ _ => rfl)))
      (jdss_one (jds_ret (jde_own G._law_spot_ (hr.mono (by decide)) rfl (jda_cons (jde_own G._law_number_ (hr.mono (by decide)) rfl (jda_cons (jdv 0) (jda_cons (jdv 1) jda_nil))) (jda_cons (jde_own G._law_number_ (hr.mono (by decide)) rfl (jda_cons (jdv 0) (jda_cons (jdv 1) jda_nil))) (jda_cons (jde_own G._law_number_ (hr.mono (by decide)) rfl (jda_cons (jdv 0) (jda_cons (jdv 1) jda_nil))) (jda_cons (jdv 2) jda_nil)))))))),?_⟩
    walk_at "go"
    refine ⟨_,64,rfl,by decide,Bd.num _ (by decide),by decide,fun a a0 a1 => ?_⟩
    walk_at "go"
    refine ⟨most,rfl,m0,m1,fun b hb => ?_⟩
    walk_at "go"
    refine And.intro ⟨by decide,64,Bd.num _ (by decide),by decide⟩ ?_
    walk_at "go"
    refine ⟨_,64,rfl,by decide,Bd.num _ (by decide),by decide,fun k k0 k1 => ?_⟩
    have b0 : 0 <= (if b < 0 then -b else b) / 2 /\ (if b < 0 then -b else b) / 2 < 2 ^ 40 := by
      have := hb.lt
      split <;> omega
    walk_at "go"
    refine ixm k0 (by exact k1) fun dw mw => ?_
    obtain ⟨w',rfl,wp,wl⟩ : ∃ w' : Int,dw = .int w' /\ 0 < w' /\ w' <= 2 ^ 40 := by
      simp only [List.mem_cons,List.not_mem_nil,or_false] at mw
      rcases mw with e | e | e | e <;> first | exact ⟨_,e,by decide,by decide⟩ | exact ⟨_,e,by omega,by omega⟩
    walk_at "go"
    refine ⟨most,rfl,m0,m1,fun x hx => ?_⟩
    walk_at "go"
    refine ⟨most,rfl,m0,m1,fun y hy => ?_⟩
    walk_at "go"
    refine ⟨most,rfl,m0,m1,fun z hz => ?_⟩
    walk_at "go"
    have bw : Bd 41 w' := Bd.of (by omega) (by omega)
    exact ⟨⟨x,y,z,w'⟩,41,rfl,wp,⟨hx.mono (by decide),hy.mono (by decide),hz.mono (by decide),bw⟩,by decide,hP _ ((lowR_of wp).2.2 _ ⟨hx.mono (by decide),hy.mono (by decide),hz.mono (by decide),bw⟩) (lowR_of wp).1⟩
abbrev s_is_whole : Stmt := top 17
theorem sc_is_whole : FnScope ["thing"] ["thing"] (defScope s_is_whole) := ⟨rfl,rfl,rfl,by decide +kernel,rfl,by decide +kernel,by decide +kernel⟩
def whD : D -> Bool
  | .int _ => true
  | _ => false
def S_whole : DSp := fun ds P _ => ∃ d,ds = [d] /\ (tyName d).isSome = true /\ notOwn d = true /\ P (.bl (whD d))
theorem ok_is_whole {P : Program}{w : World}{K : PySem.W.Frag}{mg : Str -> Option Value}{base : Heap}{f : Addr}{fd : FuncData}(F : Fun K "is_whole" "is_whole" s_is_whole f fd) (Z : Bi mg) {c : Cs} (Y : Ex K mg base c) : FnOk P w K mg base CX0 1 f fd ["thing"] (liftSp K BT S_whole) := by
  refine F.okD sc_is_whole (fun ds PP Ed h => ?_) (fun cdv A outer s H E M bg ds PP Ed hr hS_ => ?_)
  · obtain ⟨d,rfl,hd,hno,hP⟩ := h
    rfl
  · obtain ⟨d,rfl,hd,hno,hP⟩ := hS_
    refine ⟨_,(jdss_one (jds_ret (jde_and (jde_callB (call_isinstA K (by rfl)) cd_isinst rfl Z.isinstance_ bt_isinstance (jda_cons (jdv 0) (jda_cons (jde_bltn rfl Z.int_ bt_int) jda_nil))) (jde_one (jde_not (jde_callB (call_isinstA K (by rfl)) cd_isinst rfl Z.isinstance_ bt_isinstance (jda_cons (jdv 0) (jda_cons (jde_bltn rfl Z.bool_ bt_bool) jda_nil)))))))),?_⟩
    cases d <;> (try (simp [tyName] at hd; done)) <;> (try (simp [notOwn] at hno; done))
    all_goals first
      | (walk_at "go"; refine ⟨false,by rfl,?_⟩; walk_at "go"; exact hP)
      | (walk_at "go"; refine ⟨true,by rfl,?_⟩; walk_at "go"; refine ⟨true,by rfl,?_⟩; walk_at "go"; exact hP)
      | (walk_at "go"; refine ⟨true,by rfl,?_⟩; walk_at "go"; refine ⟨false,by rfl,?_⟩; walk_at "go"; exact hP)
abbrev s_is_whole_tuple : Stmt := top 18
theorem sc_is_whole_tuple : FnScope ["thing","many"] ["thing","many"] (defScope s_is_whole_tuple) := ⟨rfl,rfl,rfl,by decide +kernel,rfl,by decide +kernel,by decide +kernel⟩
def tkD : D -> Bool
  | .tup xs => decide (xs.length <= 100) && xs.all fun d => (tyName d).isSome && notOwn d
  | d => (tyName d).isSome && notOwn d
def wtD (n : Nat) : D -> Bool
  | .tup xs => decide (xs.length = n) && xs.all whD
  | _ => false
def S_wtup : DSp := fun ds P _ => ∃ (d : D) (n : Nat),ds = [d,.int n] /\ tkD d = true /\ P (.bl (wtD n d))
structure C_is_whole_tuple (P : Program)(w : World)(K : PySem.W.Frag)(mg : Str -> Option Value)(base : Heap)(c : Cs) : Prop where
  is_whole_ : Callee P w K mg base CX0 "is_whole" 1 ["thing"] (liftSp K BT S_whole)
theorem ok_is_whole_tuple {P : Program}{w : World}{K : PySem.W.Frag}{mg : Str -> Option Value}{base : Heap}{f : Addr}{fd : FuncData}(F : Fun K "is_whole_tuple" "is_whole_tuple" s_is_whole_tuple f fd) (Z : Bi mg) {c : Cs} (Y : Ex K mg base c) (G : C_is_whole_tuple P w K mg base c) : FnOk P w K mg base CX0 2 f fd ["thing","many"] (liftSp K BT S_wtup) := by
  refine F.okD sc_is_whole_tuple (fun ds PP Ed h => ?_) (fun cdv A outer s H E M bg ds PP Ed hr hS_ => ?_)
  · obtain ⟨d,n,rfl,hd,hP⟩ := h
    rfl
  · obtain ⟨d,n,rfl,hd,hP⟩ := hS_
    refine ⟨_,(jdss_one (jds_ret (jde_and (jde_callB (call_isinstA K (by rfl)) cd_isinst rfl Z.isinstance_ bt_isinstance (jda_cons (jdv 0) (jda_cons (jde_bltn rfl Z.tuple_ bt_tuple) jda_nil))) (jde_and (jde_cmp op_eq od_eqS (jde_callB (call_len_seqK K (by rfl)) cd_len rfl Z.len_ bt_len (jda_cons (jdv 0) jda_nil)) (jdv 1) (nomark _)) (jde_one (jde_callB (call_allL K (by rfl) (by rfl)) cd_bls rfl Z.all_ bt_all (jda_cons (jde_comp (X := (cxOf CX0 P w K mg base ["thing","many"] "is_whole_tuple" (defScope s_is_whole_tuple) f cdv A outer s H E).nox) (gd_name 0) (blkJ (X := (cxOf CX0 P w K mg base ["thing","many"] "is_whole_tuple" (defScope s_is_whole_tuple) f cdv A outer s H E).nox) (N' := ["part"]) (map := [none]) (by rfl) (by rfl) (by decide +kernel) (by rfl) True.intro (gkeep_name rfl) fun cl0 C0 fp0 s0 H0 => ⟨(pg_name (X := (cxComp (cxOf CX0 P w K mg base ["thing","many"] "is_whole_tuple" (defScope s_is_whole_tuple) f cdv A outer s H E).nox ["part"] _ cl0 C0 fp0 s0 H0)) (i := 0) (nodupS ["part"] (by decide +kernel)) rfl (by walk_at "o")),jdif_nil,(jde_own (X := (cxComp (cxOf CX0 P w K mg base ["thing","many"] "is_whole_tuple" (defScope s_is_whole_tuple) f cdv A outer s H E).nox ["part"] _ cl0 C0 fp0 s0 H0)) G.is_whole_ (hr.mono (by decide)) rfl (jda_cons (jdv 0) jda_nil))⟩) (jdi_seq (by rfl) (jdv 0))) jda_nil))))))),?_⟩
    by_cases ht : ∃ xs,d = .tup xs
    · obtain ⟨xs,rfl⟩ := ht
      obtain ⟨hl,ha⟩ := (Bool.and_eq_true _ _).mp hd
      have hl := of_decide_eq_true hl
      have key : ∀ b : Bool,b = wtD n (.tup xs) -> PP (.bl b) := fun b h => by rw [h]; exact hP
      walk_at "go"
      refine ⟨true,by rfl,?_⟩
      walk_at "go"
      walk_at "sp"
      · rename_i hn
        walk_at "go"
        refine And.intro (by omega) ?_
        refine comp_map (fun x => .bl (whD x)) (fun x Q hx q => ?_) (fun _ _ => rfl) ?_
        · have := List.all_eq_true.mp ha x hx
          obtain ⟨t1,t2⟩ := (Bool.and_eq_true _ _).mp this
          walk_at "go"
          exact ⟨by show (notOwn x && true) = true; rw [t2]; rfl,x,rfl,t1,t2,q⟩
        · have eb : blsOf (xs.map fun x => D.bl (whD x)) = some (xs.map whD) := by
            have := blsOf_map (xs.map whD)
            rw [List.map_map] at this
            exact this
          walk_at "go"
          rw [eb]
          walk_at "go"
          refine key _ ?_
          show _ = (decide (xs.length = n) && xs.all whD)
          rw [decide_eq_true (by omega)]
          simp [List.all_map]
      · rename_i hn
        walk_at "go"
        refine key _ ?_
        show _ = (decide (xs.length = n) && xs.all whD)
        rw [decide_eq_false (by omega)]
        simp
    · have ew : wtD n d = false := by
        cases d <;> first | rfl | exact absurd ⟨_,rfl⟩ ht
      rw [ew] at hP
      cases d <;> (try (exact absurd ⟨_,rfl⟩ ht)) <;> (try (simp [tkD,tyName,notOwn] at hd; done))
      all_goals
        walk_at "go"
        refine ⟨false,by rfl,?_⟩
        walk_at "go"
        exact hP
structure F3 where
  a : R4
  b : R4
  c : R4
abbrev F3.d (f : F3) : D := .tup [f.a.d,f.b.d,f.c.d]
structure F3.ok (f : F3)(n : Nat) : Prop where
  a : f.a.ok n
  b : f.b.ok n
  c : f.c.ok n
theorem F3.ok.mono {f : F3}{m n : Nat}(h : f.ok m)(k : m <= n) : f.ok n := ⟨h.a.mono k,h.b.mono k,h.c.mono k⟩
structure F3.pr (f : F3) : Prop where
  a : Prim f.a
  b : Prim f.b
  c : Prim f.c
def flatR (r : R4) : Bool := !(decide (r.x = 0) && (decide (r.y = 0) && decide (r.z = 0)))
def flatD : D -> Bool
  | .tup [.int a,.int b,.int c,.int e] => flatR ⟨a,b,c,e⟩
  | _ => false
theorem wt4 {d : D}(h : wtD 4 d = true) : ∃ x y z w : Int,d = sp4 x y z w := by
  cases d <;> try (simp [wtD] at h; done)
  rename_i xs
  obtain ⟨h1,h2⟩ := (Bool.and_eq_true _ _).mp h
  have h1 := of_decide_eq_true h1
  have hw : ∀ d ∈ xs,∃ i : Int,d = .int i := fun d hd => by
    have := List.all_eq_true.mp h2 d hd
    cases d <;> first | cases this | skip
    exact ⟨_,rfl⟩
  match xs,h1 with
  | [a,b,c,e],_ =>
    obtain ⟨x,rfl⟩ := hw a (by simp)
    obtain ⟨y,rfl⟩ := hw b (by simp)
    obtain ⟨z,rfl⟩ := hw c (by simp)
    obtain ⟨w,rfl⟩ := hw e (by simp)
    exact ⟨x,y,z,w,rfl⟩
theorem flat_wt {d : D}(h : wtD 4 d = false) : flatD d = false := by
  unfold flatD
  split
  · cases h
  · rfl
abbrev s_is_flat : Stmt := top 23
theorem sc_is_flat : FnScope ["thing"] ["thing"] (defScope s_is_flat) := ⟨rfl,rfl,rfl,by decide +kernel,rfl,by decide +kernel,by decide +kernel⟩
def S_isflat : DSp := fun ds P _ => ∃ d : D,ds = [d] /\ tkD d = true /\ notOwn d = true /\ P (.bl (flatD d))
structure C_is_flat (P : Program)(w : World)(K : PySem.W.Frag)(mg : Str -> Option Value)(base : Heap)(c : Cs) : Prop where
  is_whole_tuple_ : Callee P w K mg base CX0 "is_whole_tuple" 2 ["thing","many"] (liftSp K BT S_wtup)
theorem ok_is_flat {P : Program}{w : World}{K : PySem.W.Frag}{mg : Str -> Option Value}{base : Heap}{f : Addr}{fd : FuncData}(F : Fun K "is_flat" "is_flat" s_is_flat f fd) (Z : Bi mg) {c : Cs} (Y : Ex K mg base c) (G : C_is_flat P w K mg base c) : FnOk P w K mg base CX0 3 f fd ["thing"] (liftSp K BT S_isflat) := by
  refine F.okD sc_is_flat (fun ds PP Ed h => ?_) (fun cdv A outer s H E M bg ds PP Ed hr hS_ => ?_)
  · obtain ⟨d,rfl,hd,hno,hP⟩ := h
    rfl
  · obtain ⟨d,rfl,hd,hno,hP⟩ := hS_
    refine ⟨_,(jdss_one (jds_ret (jde_and (jde_own G.is_whole_tuple_ (hr.mono (by decide)) rfl (jda_cons (jdv 0) (jda_cons jde_int jda_nil))) (jde_one (jde_cmp (op_neG K (by rfl) hr.units) od_eqG (jde_slice (sl_any K (by rfl)) (jdv 0) jdo_none (jdo_some jde_int)) (jde_tup (jda_cons jde_int (jda_cons jde_int (jda_cons jde_int jda_nil)))) (nomark _)))))),?_⟩
    walk_at "go"
    refine ⟨by show (notOwn d && true) = true; rw [hno]; rfl,d,4,rfl,hd,?_⟩
    cases hw : wtD 4 d
    · rw [flat_wt hw] at hP
      walk_at "go"
      exact hP
    · obtain ⟨x,y,z,w',rfl⟩ := wt4 hw
      walk_at "go"
      repeat (refine And.intro (by intro h; simp [HT.sIx] at h; done) ?_; walk_at "go")
      refine ⟨.tuple [.int x,.int y,.int z],.tuple [.int 0,.int 0,.int 0],rfl,rfl,Nat.le_trans (Nat.min_le_right _ _) (by decide),?_⟩
      have e : PyData.eqv (.tuple [.int x,.int y,.int z]) (.tuple [.int 0,.int 0,.int 0]) = !flatD (sp4 x y z w') := by
        by_cases h1 : x = 0 <;> by_cases h2 : y = 0 <;> by_cases h3 : z = 0 <;> simp [PyData.eqv,PyData.eqvAll,flatD,flatR,h1,h2,h3]
      rw [e]
      cases hl : flatD (sp4 x y z w') <;> rw [hl] at hP <;> exact hP
abbrev s_check_flat : Stmt := top 24
theorem sc_check_flat : FnScope ["thing"] ["thing"] (defScope s_check_flat) := ⟨rfl,rfl,rfl,by decide +kernel,rfl,by decide +kernel,by decide +kernel⟩
def S_chkf (c : Cs) : DSp := fun ds P Ed => ∃ d : D,ds = [d] /\ tkD d = true /\ notOwn d = true /\ (flatD d = false -> Ed c.NoFlat) /\ (flatD d = true -> P .non)
structure C_check_flat (P : Program)(w : World)(K : PySem.W.Frag)(mg : Str -> Option Value)(base : Heap)(c : Cs) : Prop where
  is_flat_ : Callee P w K mg base CX0 "is_flat" 3 ["thing"] (liftSp K BT S_isflat)
theorem ok_check_flat {P : Program}{w : World}{K : PySem.W.Frag}{mg : Str -> Option Value}{base : Heap}{f : Addr}{fd : FuncData}(F : Fun K "check_flat" "check_flat" s_check_flat f fd) (Z : Bi mg) {c : Cs} (Y : Ex K mg base c) (G : C_check_flat P w K mg base c) : FnOk P w K mg base (CX1 P w base) 4 f fd ["thing"] (liftSp K BT (S_chkf c)) := by
  refine F.okDX sc_check_flat (fun ds PP Ed h => ?_) (fun cdv A outer s H E M bg ds PP Ed hr hE hS_ => ?_)
  · obtain ⟨d,rfl,hd,hno,h0,h1⟩ := h
    rfl
  · obtain ⟨d,rfl,hd,hno,h0,h1⟩ := hS_
    refine ⟨_,(jdss_one (jds_if (jdt_not (jdt_truth (by rfl) (jde_own G.is_flat_ (hr.mono (by decide)) rfl (jda_cons (jdv 0) jda_nil)) (fun _ => rfl))) (jdss_one (jds_raise hE (ps_raise1 Y.o_NoFlat rfl))) jdss_nil)),?_⟩
    walk_at "go"
    refine ⟨by show (notOwn d && true) = true; rw [hno]; rfl,d,rfl,hd,hno,?_⟩
    cases hl : flatD d
    · walk_at "go"
      exact h0 hl
    · walk_at "go"
      exact h1 hl
abbrev s_worth : Stmt := top 25
theorem sc_worth : FnScope ["flat","spot"] ["flat","spot"] (defScope s_worth) := ⟨rfl,rfl,rfl,by decide +kernel,rfl,by decide +kernel,by decide +kernel⟩
def S_worth (c : Cs) : DSp := fun ds P Ed => ∃ (d : D) (s : R4) (n : Nat),ds = [d,s.d] /\ tkD d = true /\ notOwn d = true /\ (flatD d = false -> Ed c.NoFlat) /\ (flatD d = true -> ∃ fl : R4,d = fl.d /\ fl.ok n /\ s.ok n /\ n <= 4000 /\ P (.int (dot4 fl s)))
structure C_worth (P : Program)(w : World)(K : PySem.W.Frag)(mg : Str -> Option Value)(base : Heap)(c : Cs) : Prop where
  check_flat_ : Callee P w K mg base (CX1 P w base) "check_flat" 4 ["thing"] (liftSp K BT (S_chkf c))
  products_added_ : Callee P w K mg base CX0 "products_added" 1 ["one","other"] (liftSp K BT S_padd4)
theorem ok_worth {P : Program}{w : World}{K : PySem.W.Frag}{mg : Str -> Option Value}{base : Heap}{f : Addr}{fd : FuncData}(F : Fun K "worth" "worth" s_worth f fd) (Z : Bi mg) {c : Cs} (Y : Ex K mg base c) (G : C_worth P w K mg base c) : FnOk P w K mg base (CX1 P w base) 5 f fd ["flat","spot"] (liftSp K BT (S_worth c)) := by
  refine F.okDX sc_worth (fun ds PP Ed h => ?_) (fun cdv A outer s H E M bg ds PP Ed hr hE hS_ => ?_)
  · obtain ⟨d,t,n,rfl,hd,hno,h0,h1⟩ := h
    rfl
  · obtain ⟨d,t,n,rfl,hd,hno,h0,h1⟩ := hS_
    refine ⟨_,(jdss_cons (jds_expr (jde_ownX hE xe_pass G.check_flat_ (hr.mono (by decide)) rfl (jda_cons (jdv 0) jda_nil)))
      (jdss_one (jds_ret (jde_own G.products_added_ (hr.mono (by decide)) rfl (jda_cons (jdv 0) (jda_cons (jdv 1) jda_nil)))))),?_⟩
    walk_at "go"
    refine ⟨by show (notOwn d && true) = true; rw [hno]; rfl,d,rfl,hd,hno,h0,fun hl => ?_⟩
    obtain ⟨fl,rfl,fo,so,hn,hP⟩ := h1 hl
    walk_at "go"
    exact ⟨fl,t,n,rfl,fo,so,hn,hP⟩
abbrev s_kept_spots : Stmt := top 27
theorem sc_kept_spots : FnScope ["face","flat","worths","kept","here","there"] ["face","flat"] (defScope s_kept_spots) := ⟨rfl,rfl,rfl,by decide +kernel,rfl,by decide +kernel,by decide +kernel⟩
def S_kept (c : Cs) : DSp := fun ds _ Ed => ∃ (f : F3) (d : D),ds = [f.d,d] /\ tkD d = true /\ notOwn d = true /\ plain d = true /\ flatD d = false /\ Ed c.NoFlat
structure C_kept_spots (P : Program)(w : World)(K : PySem.W.Frag)(mg : Str -> Option Value)(base : Heap)(c : Cs) : Prop where
  worth_ : Callee P w K mg base (CX1 P w base) "worth" 5 ["flat","spot"] (liftSp K BT (S_worth c))
theorem ok_kept_spots {P : Program}{w : World}{K : PySem.W.Frag}{mg : Str -> Option Value}{base : Heap}{f : Addr}{fd : FuncData}(F : Fun K "kept_spots" "kept_spots" s_kept_spots f fd) (Z : Bi mg) {c : Cs} (Y : Ex K mg base c) (G : C_kept_spots P w K mg base c) : FnOk P w K mg base (CX1 P w base) 6 f fd ["face","flat"] (liftSp K BT (S_kept c)) := by
  refine F.okDX sc_kept_spots (fun ds PP Ed h => ?_) (fun cdv A outer s H E M bg ds PP Ed hr hE hS_ => ?_)
  · obtain ⟨u,d,rfl,hd,hno,hpl,hf,hP⟩ := h
    rfl
  · obtain ⟨u,d,rfl,hd,hno,hpl,hf,hP⟩ := hS_
    refine ⟨_,(jdss_cons (jds_setC (X := (cxOf (CX1 P w base) P w K mg base ["face","flat","worths","kept","here","there"] "kept_spots" (defScope s_kept_spots) f cdv A outer s H E)) false (i := 2) sc_kept_spots.nd rfl (by walk_at "o") (gd_name 0) (blkJX (X := (cxOf (CX1 P w base) P w K mg base ["face","flat","worths","kept","here","there"] "kept_spots" (defScope s_kept_spots) f cdv A outer s H E)) (N' := ["corner","flat"]) (map := [none,some 1]) (by rfl) (by rfl) (by decide +kernel) (by rfl) ⟨⟨rfl,rfl,rfl,by walk_at "o"⟩,True.intro⟩ (gkeep_name rfl) fun cl0 C0 fp0 s0 H0 hI => ⟨(pg_name (X := (cxComp (cxOf (CX1 P w base) P w K mg base ["face","flat","worths","kept","here","there"] "kept_spots" (defScope s_kept_spots) f cdv A outer s H E) ["corner","flat"] _ cl0 C0 fp0 s0 H0)) (i := 0) (nodupS ["corner","flat"] (by decide +kernel)) rfl (by walk_at "o")),jdif_nil,(jde_ownX (X := (cxComp (cxOf (CX1 P w base) P w K mg base ["face","flat","worths","kept","here","there"] "kept_spots" (defScope s_kept_spots) f cdv A outer s H E) ["corner","flat"] _ cl0 C0 fp0 s0 H0)) hE (comp_pass hI) G.worth_ (hr.mono (by decide)) rfl (jda_cons (jdv 1) (jda_cons (jdv 0) jda_nil)))⟩) (jdi_seq (by rfl) (jdv 0)))
      (jdss_cons jds_never
      (jdss_cons jds_never
      (jdss_one jds_never)))),?_⟩
    walk_at "go"
    walk_at "gc"
    exact ⟨by show (notOwn d && true) = true; rw [hno]; rfl,d,u.a,0,rfl,hd,hno,fun _ => hP,fun z => by rw [hf] at z; cases z⟩
abbrev s_cut : Stmt := top 28
theorem sc_cut : FnScope ["face","flat","kept"] ["face","flat"] (defScope s_cut) := ⟨rfl,rfl,rfl,by decide +kernel,rfl,by decide +kernel,by decide +kernel⟩
def S_cutX (c : Cs) : DSp := fun ds _ Ed => ∃ (f : F3) (d : D),ds = [f.d,d] /\ tkD d = true /\ notOwn d = true /\ plain d = true /\ flatD d = false /\ Ed c.NoFlat
structure C_cut (P : Program)(w : World)(K : PySem.W.Frag)(mg : Str -> Option Value)(base : Heap)(c : Cs) : Prop where
  kept_spots_ : Callee P w K mg base (CX1 P w base) "kept_spots" 6 ["face","flat"] (liftSp K BT (S_kept c))
theorem ok_cut {P : Program}{w : World}{K : PySem.W.Frag}{mg : Str -> Option Value}{base : Heap}{f : Addr}{fd : FuncData}(F : Fun K "cut" "cut" s_cut f fd) (Z : Bi mg) {c : Cs} (Y : Ex K mg base c) (G : C_cut P w K mg base c) : FnOk P w K mg base (CX1 P w base) 7 f fd ["face","flat"] (liftSp K BT (S_cutX c)) := by
  refine F.okDX sc_cut (fun ds PP Ed h => ?_) (fun cdv A outer s H E M bg ds PP Ed hr hE hS_ => ?_)
  · obtain ⟨u,d,rfl,hd,hno,hpl,hf,hP⟩ := h
    rfl
  · obtain ⟨u,d,rfl,hd,hno,hpl,hf,hP⟩ := hS_
    refine ⟨_,(jdss_cons (jds_set (i := 2) sc_cut.nd rfl (by walk_at "o") (jde_ownX hE xe_pass G.kept_spots_ (hr.mono (by decide)) rfl (jda_cons (jdv 0) (jda_cons (jdv 1) jda_nil))))
      (jdss_one jds_never)),?_⟩
    walk_at "go"
    exact ⟨by show (notOwn d && true) = true; rw [hno]; rfl,u,d,rfl,hd,hno,hpl,hf,hP⟩
abbrev s_cut_all : Stmt := top 29
theorem sc_cut_all : FnScope ["faces","flat","pieces","face"] ["faces","flat"] (defScope s_cut_all) := ⟨rfl,rfl,rfl,by decide +kernel,rfl,by decide +kernel,by decide +kernel⟩
def S_cutaX (c : Cs) : DSp := fun ds _ Ed => ∃ (x d : D),ds = [x,d] /\ tkD d = true /\ notOwn d = true /\ plain d = true /\ flatD d = false /\ Ed c.NoFlat
structure C_cut_all (P : Program)(w : World)(K : PySem.W.Frag)(mg : Str -> Option Value)(base : Heap)(c : Cs) : Prop where
  check_flat_ : Callee P w K mg base (CX1 P w base) "check_flat" 4 ["thing"] (liftSp K BT (S_chkf c))
theorem ok_cut_all {P : Program}{w : World}{K : PySem.W.Frag}{mg : Str -> Option Value}{base : Heap}{f : Addr}{fd : FuncData}(F : Fun K "cut_all" "cut_all" s_cut_all f fd) (Z : Bi mg) {c : Cs} (Y : Ex K mg base c) (G : C_cut_all P w K mg base c) : FnOk P w K mg base (CX1 P w base) 5 f fd ["faces","flat"] (liftSp K BT (S_cutaX c)) := by
  refine F.okDX sc_cut_all (fun ds PP Ed h => ?_) (fun cdv A outer s H E M bg ds PP Ed hr hE hS_ => ?_)
  · obtain ⟨x,d,rfl,hd,hno,hpl,hf,hP⟩ := h
    rfl
  · obtain ⟨x,d,rfl,hd,hno,hpl,hf,hP⟩ := hS_
    refine ⟨_,(jdss_cons (jds_expr (jde_ownX hE xe_pass G.check_flat_ (hr.mono (by decide)) rfl (jda_cons (jdv 1) jda_nil)))
      (jdss_cons jds_never
      (jdss_cons jds_never
      (jdss_one jds_never)))),?_⟩
    walk_at "go"
    exact ⟨by show (notOwn d && true) = true; rw [hno]; rfl,d,rfl,hd,hno,fun _ => hP,fun z => by rw [hf] at z; cases z⟩
abbrev s__law_small_spot : Stmt := top 38
theorem sc__law_small_spot : FnScope ["_law_bag_here","_law_w","_law_x","_law_y","_law_z"] ["_law_bag_here"] (defScope s__law_small_spot) := ⟨rfl,rfl,rfl,by decide +kernel,rfl,by decide +kernel,by decide +kernel⟩
def S_sspot : DSp := fun ds P _ => ds = [.bag] /\ ∀ r : R4,r.ok 41 -> Prim r -> P r.d
structure C__law_small_spot (P : Program)(w : World)(K : PySem.W.Frag)(mg : Str -> Option Value)(base : Heap)(c : Cs) : Prop where
  _law_spot_ : Callee P w K mg base CX0 "_law_spot" 2 ["_law_x","_law_y","_law_z","_law_w"] (liftSp K BT S_lspot)
  _law_digit_ : Callee P w K mg base CX0 "_law_digit" 1 ["_law_bag_here","_law_many"] (liftSp K BT S_digit)
theorem ok__law_small_spot {P : Program}{w : World}{K : PySem.W.Frag}{mg : Str -> Option Value}{base : Heap}{f : Addr}{fd : FuncData}(F : Fun K "_law_small_spot" "_law_small_spot" s__law_small_spot f fd) (Z : Bi mg) {c : Cs} (Y : Ex K mg base c) (G : C__law_small_spot P w K mg base c) : FnOk P w K mg base CX0 3 f fd ["_law_bag_here"] (liftSp K BT S_sspot) := by
  refine F.okD sc__law_small_spot (fun ds PP Ed h => ?_) (fun cdv A outer s H E M bg ds PP Ed hr hS_ => ?_)
  · obtain ⟨rfl,hP⟩ := h
    rfl
  · obtain ⟨rfl,hP⟩ := hS_
    refine ⟨_,(jdss_cons (jds_set (i := 1) sc__law_small_spot.nd rfl (by walk_at "o") (jde_ix (ix_any K (by rfl)) od_ix (jde_lst (jda_cons jde_int (jda_cons jde_int (jda_cons jde_int (jda_cons jde_int (jda_cons jde_int jda_nil)))))) (jde_own G._law_digit_ (hr.mono (by decide)) rfl (jda_cons (jdv 0) (jda_cons jde_int jda_nil))) (fun _ _ => rfl)))
      (jdss_cons (jds_asg (gd_seq [2,3,4]) (jde_comp (X := (cxOf CX0 P w K mg base ["_law_bag_here","_law_w","_law_x","_law_y","_law_z"] "_law_small_spot" (defScope s__law_small_spot) f cdv A outer s H E).nox) (gd_name 0) (blkJ (X := (cxOf CX0 P w K mg base ["_law_bag_here","_law_w","_law_x","_law_y","_law_z"] "_law_small_spot" (defScope s__law_small_spot) f cdv A outer s H E).nox) (N' := ["_law_k","_law_bag_here","_law_w"]) (map := [none,some 0,some 1]) (by rfl) (by rfl) (by decide +kernel) (by rfl) ⟨⟨rfl,rfl,rfl,by walk_at "o"⟩,⟨⟨rfl,rfl,rfl,by walk_at "o"⟩,True.intro⟩⟩ (gkeep_name rfl) fun cl0 C0 fp0 s0 H0 => ⟨(pg_name (X := (cxComp (cxOf CX0 P w K mg base ["_law_bag_here","_law_w","_law_x","_law_y","_law_z"] "_law_small_spot" (defScope s__law_small_spot) f cdv A outer s H E).nox ["_law_k","_law_bag_here","_law_w"] _ cl0 C0 fp0 s0 H0)) (i := 0) (nodupS ["_law_k","_law_bag_here","_law_w"] (by decide +kernel)) rfl (by walk_at "o")),jdif_nil,(jde_op (X := (cxComp (cxOf CX0 P w K mg base ["_law_bag_here","_law_w","_law_x","_law_y","_law_z"] "_law_small_spot" (defScope s__law_small_spot) f cdv A outer s H E).nox ["_law_k","_law_bag_here","_law_w"] _ cl0 C0 fp0 s0 H0)) op_sub od_I0 (jde_own G._law_digit_ (hr.mono (by decide)) rfl (jda_cons (jdv 1) (jda_cons (jde_op op_mulB od_I jde_int (jdv 2)) jda_nil))) (jdv 2))⟩) (jdi_range1 rfl Z.range_ (jda_cons jde_int jda_nil))) (PG.or (pg_tupK (n := 3) K (by rfl) (by rfl) (pgs_cons (pg_name (i := 2) sc__law_small_spot.nd rfl (by walk_at "o")) (pgs_cons (pg_name (i := 3) sc__law_small_spot.nd rfl (by walk_at "o")) (pgs_cons (pg_name (i := 4) sc__law_small_spot.nd rfl (by walk_at "o")) pgs_nil)))) (pg_lstK (n := 3) K (by rfl) (by rfl) (pgs_cons (pg_name (i := 2) sc__law_small_spot.nd rfl (by walk_at "o")) (pgs_cons (pg_name (i := 3) sc__law_small_spot.nd rfl (by walk_at "o")) (pgs_cons (pg_name (i := 4) sc__law_small_spot.nd rfl (by walk_at "o")) pgs_nil))))))
      (jdss_one (jds_ret (jde_own G._law_spot_ (hr.mono (by decide)) rfl (jda_cons (jdv 2) (jda_cons (jdv 3) (jda_cons (jdv 4) (jda_cons (jdv 1) jda_nil))))))))),?_⟩
    walk_at "go"
    refine ⟨_,64,rfl,by decide,Bd.num _ (by decide),by decide,fun q q0 q1 => ?_⟩
    walk_at "go"
    refine ixm q0 (by exact q1) fun dw mw => ?_
    obtain ⟨w',rfl,wp,wl⟩ : ∃ w' : Int,dw = .int w' /\ 0 < w' /\ w' <= 3 := by
      simp only [List.mem_cons,List.not_mem_nil,or_false] at mw
      rcases mw with e | e | e | e | e <;> exact ⟨_,e,by decide,by decide⟩
    have bw : Bd 4 w' := Bd.of (by omega) (by omega)
    walk_at "go"
    repeat (walk_at "gc")
    refine ⟨_,20,rfl,by omega,Bd.of (by omega) (by omega),by decide,fun x x0 x1 => ?_⟩
    walk_at "go"
    refine ⟨_,20,rfl,by omega,Bd.of (by omega) (by omega),by decide,fun y y0 y1 => ?_⟩
    walk_at "go"
    refine ⟨_,20,rfl,by omega,Bd.of (by omega) (by omega),by decide,fun z z0 z1 => ?_⟩
    walk_at "go"
    have ro : (⟨x - w',y - w',z - w',w'⟩ : R4).ok 41 := ⟨Bd.of (by dsimp only; omega) (by dsimp only; omega),Bd.of (by dsimp only; omega) (by dsimp only; omega),Bd.of (by dsimp only; omega) (by dsimp only; omega),bw.mono (by decide)⟩
    exact ⟨⟨x - w',y - w',z - w',w'⟩,41,rfl,wp,ro,by decide,hP _ ((lowR_of wp).2.2 _ ro) (lowR_of wp).1⟩
abbrev s__law_drawn_face : Stmt := top 37
theorem sc__law_drawn_face : FnScope ["_law_bag_here","_law_most","_law_found","_law_way","_law_x","_law_y","_law_z","_law_w"] ["_law_bag_here","_law_most"] (defScope s__law_drawn_face) := ⟨rfl,rfl,rfl,by decide +kernel,rfl,by decide +kernel,by decide +kernel⟩
def S_dface : DSp := fun ds P _ => ∃ most : Int,ds = [.bag,.int most] /\ 0 <= most /\ most <= 12 /\ ∀ f : F3,f.ok 90 -> f.pr -> P f.d
structure C__law_drawn_face (P : Program)(w : World)(K : PySem.W.Frag)(mg : Str -> Option Value)(base : Heap)(c : Cs) : Prop where
  _law_digit_ : Callee P w K mg base CX0 "_law_digit" 1 ["_law_bag_here","_law_many"] (liftSp K BT S_digit)
  _law_spot_ : Callee P w K mg base CX0 "_law_spot" 2 ["_law_x","_law_y","_law_z","_law_w"] (liftSp K BT S_lspot)
  _law_drawn_spot_ : Callee P w K mg base CX0 "_law_drawn_spot" 3 ["_law_bag_here","_law_most"] (liftSp K BT S_dspot)
  _law_small_spot_ : Callee P w K mg base CX0 "_law_small_spot" 3 ["_law_bag_here"] (liftSp K BT S_sspot)
theorem ok__law_drawn_face {P : Program}{w : World}{K : PySem.W.Frag}{mg : Str -> Option Value}{base : Heap}{f : Addr}{fd : FuncData}(F : Fun K "_law_drawn_face" "_law_drawn_face" s__law_drawn_face f fd) (Z : Bi mg) {c : Cs} (Y : Ex K mg base c) (G : C__law_drawn_face P w K mg base c) : FnOk P w K mg base CX0 4 f fd ["_law_bag_here","_law_most"] (liftSp K BT S_dface) := by
  refine F.okD sc__law_drawn_face (fun ds PP Ed h => ?_) (fun cdv A outer s H E M bg ds PP Ed hr hS_ => ?_)
  · obtain ⟨most,rfl,m0,m1,hP⟩ := h
    rfl
  · obtain ⟨most,rfl,m0,m1,hP⟩ := hS_
    refine ⟨_,(jdss_cons (jds_if (jdt_cmp op_eq od_eqS (jde_own G._law_digit_ (hr.mono (by decide)) rfl (jda_cons (jdv 0) (jda_cons jde_int jda_nil))) jde_int (nomark _)) (jdss_one (jds_setC (X := (cxOf CX0 P w K mg base ["_law_bag_here","_law_most","_law_found","_law_way","_law_x","_law_y","_law_z","_law_w"] "_law_drawn_face" (defScope s__law_drawn_face) f cdv A outer s H E).nox) true (i := 2) sc__law_drawn_face.nd rfl (by walk_at "o") (gd_name 0) (blkJ (X := (cxOf CX0 P w K mg base ["_law_bag_here","_law_most","_law_found","_law_way","_law_x","_law_y","_law_z","_law_w"] "_law_drawn_face" (defScope s__law_drawn_face) f cdv A outer s H E).nox) (N' := ["_law_k","_law_bag_here","_law_most"]) (map := [none,some 0,some 1]) (by rfl) (by rfl) (by decide +kernel) (by rfl) ⟨⟨rfl,rfl,rfl,by walk_at "o"⟩,⟨⟨rfl,rfl,rfl,by walk_at "o"⟩,True.intro⟩⟩ (gkeep_name rfl) fun cl0 C0 fp0 s0 H0 => ⟨(pg_name (X := (cxComp (cxOf CX0 P w K mg base ["_law_bag_here","_law_most","_law_found","_law_way","_law_x","_law_y","_law_z","_law_w"] "_law_drawn_face" (defScope s__law_drawn_face) f cdv A outer s H E).nox ["_law_k","_law_bag_here","_law_most"] _ cl0 C0 fp0 s0 H0)) (i := 0) (nodupS ["_law_k","_law_bag_here","_law_most"] (by decide +kernel)) rfl (by walk_at "o")),jdif_nil,(jde_own (X := (cxComp (cxOf CX0 P w K mg base ["_law_bag_here","_law_most","_law_found","_law_way","_law_x","_law_y","_law_z","_law_w"] "_law_drawn_face" (defScope s__law_drawn_face) f cdv A outer s H E).nox ["_law_k","_law_bag_here","_law_most"] _ cl0 C0 fp0 s0 H0)) G._law_drawn_spot_ (hr.mono (by decide)) rfl (jda_cons (jdv 1) (jda_cons (jdv 2) jda_nil)))⟩) (jdi_range1 rfl Z.range_ (jda_cons jde_int jda_nil)))) (jdss_one (jds_setC (X := (cxOf CX0 P w K mg base ["_law_bag_here","_law_most","_law_found","_law_way","_law_x","_law_y","_law_z","_law_w"] "_law_drawn_face" (defScope s__law_drawn_face) f cdv A outer s H E).nox) true (i := 2) sc__law_drawn_face.nd rfl (by walk_at "o") (gd_name 0) (blkJ (X := (cxOf CX0 P w K mg base ["_law_bag_here","_law_most","_law_found","_law_way","_law_x","_law_y","_law_z","_law_w"] "_law_drawn_face" (defScope s__law_drawn_face) f cdv A outer s H E).nox) (N' := ["_law_k","_law_bag_here"]) (map := [none,some 0]) (by rfl) (by rfl) (by decide +kernel) (by rfl) ⟨⟨rfl,rfl,rfl,by walk_at "o"⟩,True.intro⟩ (gkeep_name rfl) fun cl0 C0 fp0 s0 H0 => ⟨(pg_name (X := (cxComp (cxOf CX0 P w K mg base ["_law_bag_here","_law_most","_law_found","_law_way","_law_x","_law_y","_law_z","_law_w"] "_law_drawn_face" (defScope s__law_drawn_face) f cdv A outer s H E).nox ["_law_k","_law_bag_here"] _ cl0 C0 fp0 s0 H0)) (i := 0) (nodupS ["_law_k","_law_bag_here"] (by decide +kernel)) rfl (by walk_at "o")),jdif_nil,(jde_own (X := (cxComp (cxOf CX0 P w K mg base ["_law_bag_here","_law_most","_law_found","_law_way","_law_x","_law_y","_law_z","_law_w"] "_law_drawn_face" (defScope s__law_drawn_face) f cdv A outer s H E).nox ["_law_k","_law_bag_here"] _ cl0 C0 fp0 s0 H0)) G._law_small_spot_ (hr.mono (by decide)) rfl (jda_cons (jdv 1) jda_nil))⟩) (jdi_range1 rfl Z.range_ (jda_cons jde_int jda_nil)))))
      (jdss_cons (jds_set (i := 3) sc__law_drawn_face.nd rfl (by walk_at "o") (jde_own G._law_digit_ (hr.mono (by decide)) rfl (jda_cons (jdv 0) (jda_cons jde_int jda_nil))))
      (jdss_cons (jds_if (jdt_cmp op_eq od_eqS (jdv 3) jde_int (nomark _)) (jdss_one (jds_setI (i := 2) rfl (by walk_at "v") (jde_ix (ix_any K (by rfl)) od_ix (jdv 2) (jde_own G._law_digit_ (hr.mono (by decide)) rfl (jda_cons (jdv 0) (jda_cons jde_int jda_nil))) (fun _ _ => rfl)) jde_int (pg_sub (pv 2) (JE.h jde_int) set_list))) jdss_nil)
      (jdss_cons (jds_if (jdt_cmp op_eq od_eqS (jdv 3) jde_int (nomark _)) (jdss_cons (jds_asg (gd_seq [4,5,6,7]) (jde_comp (X := (cxOf CX0 P w K mg base ["_law_bag_here","_law_most","_law_found","_law_way","_law_x","_law_y","_law_z","_law_w"] "_law_drawn_face" (defScope s__law_drawn_face) f cdv A outer s H E).nox) (gd_seq [0,1]) (blkJ (X := (cxOf CX0 P w K mg base ["_law_bag_here","_law_most","_law_found","_law_way","_law_x","_law_y","_law_z","_law_w"] "_law_drawn_face" (defScope s__law_drawn_face) f cdv A outer s H E).nox) (N' := ["_law_one","_law_other"]) (map := [none,none]) (by rfl) (by rfl) (by decide +kernel) (by rfl) True.intro (gkeep_seq (js := [0,1]) (by decide)) fun cl0 C0 fp0 s0 H0 => ⟨(PG.or (pg_tupK (n := 2) K (by rfl) (by rfl) (pgs_cons (pg_name (i := 0) (nodupS ["_law_one","_law_other"] (by decide +kernel)) rfl (by walk_at "o")) (pgs_cons (pg_name (i := 1) (nodupS ["_law_one","_law_other"] (by decide +kernel)) rfl (by walk_at "o")) pgs_nil))) (pg_lstK (n := 2) K (by rfl) (by rfl) (pgs_cons (pg_name (i := 0) (nodupS ["_law_one","_law_other"] (by decide +kernel)) rfl (by walk_at "o")) (pgs_cons (pg_name (i := 1) (nodupS ["_law_one","_law_other"] (by decide +kernel)) rfl (by walk_at "o")) pgs_nil)))),jdif_nil,(jde_op (X := (cxComp (cxOf CX0 P w K mg base ["_law_bag_here","_law_most","_law_found","_law_way","_law_x","_law_y","_law_z","_law_w"] "_law_drawn_face" (defScope s__law_drawn_face) f cdv A outer s H E).nox ["_law_one","_law_other"] _ cl0 C0 fp0 s0 H0)) op_add od_I0 (jdv 0) (jdv 1))⟩) (jdi_zip (by rfl) true true rfl Z.zip_ (jda_cons (jde_ix (ix_any K (by rfl)) od_ix (jdv 2) jde_int (fun _ _ => rfl)) (jda_cons (jde_ix (ix_any K (by rfl)) od_ix (jdv 2) jde_int (fun _ _ => rfl)) jda_nil)) (pi_zip2 K (by rfl) true true rfl Z.zip_ (JA.h (jda_cons (jde_ix (ix_any K (by rfl)) od_ix (jdv 2) jde_int (fun _ _ => rfl)) (jda_cons (jde_ix (ix_any K (by rfl)) od_ix (jdv 2) jde_int (fun _ _ => rfl)) jda_nil)))))) (PG.or (pg_tupK (n := 4) K (by rfl) (by rfl) (pgs_cons (pg_name (i := 4) sc__law_drawn_face.nd rfl (by walk_at "o")) (pgs_cons (pg_name (i := 5) sc__law_drawn_face.nd rfl (by walk_at "o")) (pgs_cons (pg_name (i := 6) sc__law_drawn_face.nd rfl (by walk_at "o")) (pgs_cons (pg_name (i := 7) sc__law_drawn_face.nd rfl (by walk_at "o")) pgs_nil))))) (pg_lstK (n := 4) K (by rfl) (by rfl) (pgs_cons (pg_name (i := 4) sc__law_drawn_face.nd rfl (by walk_at "o")) (pgs_cons (pg_name (i := 5) sc__law_drawn_face.nd rfl (by walk_at "o")) (pgs_cons (pg_name (i := 6) sc__law_drawn_face.nd rfl (by walk_at "o")) (pgs_cons (pg_name (i := 7) sc__law_drawn_face.nd rfl (by walk_at "o")) pgs_nil)))))))
      (jdss_one (jds_setI (i := 2) rfl (by walk_at "v") (jde_own G._law_spot_ (hr.mono (by decide)) rfl (jda_cons (jdv 4) (jda_cons (jdv 5) (jda_cons (jdv 6) (jda_cons (jdv 7) jda_nil))))) jde_int (pg_sub (pv 2) (JE.h jde_int) set_list)))) jdss_nil)
      (jdss_one (jds_ret (jde_callTy (call_tuple_ofK K (by rfl)) cd_tuple rfl Z.tuple_ bt_tuple (jda_cons (jdv 2) jda_nil)))))))),?_⟩
    walk_at "go"
    refine ⟨_,64,rfl,by decide,Bd.num _ (by decide),by decide,fun r r0 r1 => ?_⟩
    walk_at "go"
    walk_at "sp"
    · walk_at "go"
      repeat (walk_at "gc")
      refine ⟨most,rfl,m0,m1,fun a ao ap => ?_⟩
      walk_at "go"
      refine ⟨most,rfl,m0,m1,fun b bo bp => ?_⟩
      walk_at "go"
      refine ⟨most,rfl,m0,m1,fun c co cp => ?_⟩
      obtain ⟨a1,a2,a3,a4⟩ := id ao
      obtain ⟨b1,b2,b3,b4⟩ := id bo
      have F : ∀ a b c : R4,a.ok 90 -> b.ok 90 -> c.ok 90 -> Prim a -> Prim b -> Prim c -> PP (.tup [a.d,b.d,c.d]) := fun a b c h1 h2 h3 p1 p2 p3 => hP ⟨a,b,c⟩ ⟨h1,h2,h3⟩ ⟨p1,p2,p3⟩
      have ao9 := ao.mono (show 41 <= 90 by decide)
      have bo9 := bo.mono (show 41 <= 90 by decide)
      have co9 := co.mono (show 41 <= 90 by decide)
      walk_at "go"
      refine ⟨_,64,rfl,by decide,Bd.num _ (by decide),by decide,fun way way0 way1 => ?_⟩
      obtain rfl | rfl | hw : way = 0 \/ way = 1 \/ 2 <= way := by omega
      · walk_at "go"
        refine ⟨_,64,rfl,by decide,Bd.num _ (by decide),by decide,fun q q0 q1 => ?_⟩
        obtain rfl | rfl : q = 0 \/ q = 1 := by omega
        · walk_at "go"
          exact F _ _ _ ao9 bo9 ao9 ap bp ap
        · walk_at "go"
          exact F _ _ _ ao9 bo9 bo9 ap bp bp
      · walk_at "go"
        repeat (walk_at "gc")
        have wp : 0 < a.w + b.w := by have := ap.w; have := bp.w; omega
        have ro : (⟨a.x + b.x,a.y + b.y,a.z + b.z,a.w + b.w⟩ : R4).ok 90 := ⟨(Bd.add a1 b1).mono (by decide),(Bd.add a2 b2).mono (by decide),(Bd.add a3 b3).mono (by decide),(Bd.add a4 b4).mono (by decide)⟩
        refine ⟨⟨a.x + b.x,a.y + b.y,a.z + b.z,a.w + b.w⟩,90,rfl,wp,ro,by decide,?_⟩
        walk_at "go"
        exact F _ _ _ ao9 bo9 ((lowR_of wp).2.2 _ ro) ap bp (lowR_of wp).1
      · walk_at "go"
        refine IfP.f (by simp; omega) ?_
        walk_at "go"
        refine IfP.f (by simp; omega) ?_
        walk_at "go"
        exact F _ _ _ ao9 bo9 co9 ap bp cp
    · walk_at "go"
      repeat (walk_at "gc")
      intro a ao ap
      walk_at "go"
      intro b bo bp
      walk_at "go"
      intro c co cp
      obtain ⟨a1,a2,a3,a4⟩ := id ao
      obtain ⟨b1,b2,b3,b4⟩ := id bo
      have F : ∀ a b c : R4,a.ok 90 -> b.ok 90 -> c.ok 90 -> Prim a -> Prim b -> Prim c -> PP (.tup [a.d,b.d,c.d]) := fun a b c h1 h2 h3 p1 p2 p3 => hP ⟨a,b,c⟩ ⟨h1,h2,h3⟩ ⟨p1,p2,p3⟩
      have ao9 := ao.mono (show 41 <= 90 by decide)
      have bo9 := bo.mono (show 41 <= 90 by decide)
      have co9 := co.mono (show 41 <= 90 by decide)
      walk_at "go"
      refine ⟨_,64,rfl,by decide,Bd.num _ (by decide),by decide,fun way way0 way1 => ?_⟩
      obtain rfl | rfl | hw : way = 0 \/ way = 1 \/ 2 <= way := by omega
      · walk_at "go"
        refine ⟨_,64,rfl,by decide,Bd.num _ (by decide),by decide,fun q q0 q1 => ?_⟩
        obtain rfl | rfl : q = 0 \/ q = 1 := by omega
        · walk_at "go"
          exact F _ _ _ ao9 bo9 ao9 ap bp ap
        · walk_at "go"
          exact F _ _ _ ao9 bo9 bo9 ap bp bp
      · walk_at "go"
        repeat (walk_at "gc")
        have wp : 0 < a.w + b.w := by have := ap.w; have := bp.w; omega
        have ro : (⟨a.x + b.x,a.y + b.y,a.z + b.z,a.w + b.w⟩ : R4).ok 90 := ⟨(Bd.add a1 b1).mono (by decide),(Bd.add a2 b2).mono (by decide),(Bd.add a3 b3).mono (by decide),(Bd.add a4 b4).mono (by decide)⟩
        refine ⟨⟨a.x + b.x,a.y + b.y,a.z + b.z,a.w + b.w⟩,90,rfl,wp,ro,by decide,?_⟩
        walk_at "go"
        exact F _ _ _ ao9 bo9 ((lowR_of wp).2.2 _ ro) ap bp (lowR_of wp).1
      · walk_at "go"
        refine IfP.f (by simp; omega) ?_
        walk_at "go"
        refine IfP.f (by simp; omega) ?_
        walk_at "go"
        exact F _ _ _ ao9 bo9 co9 ap bp cp
abbrev s__law_drawn_flat : Stmt := top 39
theorem sc__law_drawn_flat : FnScope ["_law_bag_here","_law_most","_law_numbers"] ["_law_bag_here","_law_most"] (defScope s__law_drawn_flat) := ⟨rfl,rfl,rfl,by decide +kernel,rfl,by decide +kernel,by decide +kernel⟩
theorem flatR_of {r : R4}(h : ¬ (r.x = 0 /\ r.y = 0 /\ r.z = 0)) : flatR r = true := by
  unfold flatR
  by_cases h1 : r.x = 0 <;> by_cases h2 : r.y = 0 <;> by_cases h3 : r.z = 0 <;> simp [h1,h2,h3]
  exact h ⟨h1,h2,h3⟩
def S_dflat : DSp := fun ds P _ => ∃ most : Int,ds = [.bag,.int most] /\ 0 <= most /\ most <= 12 /\ ∀ r : R4,r.ok 41 -> flatR r = true -> P r.d
structure C__law_drawn_flat (P : Program)(w : World)(K : PySem.W.Frag)(mg : Str -> Option Value)(base : Heap)(c : Cs) : Prop where
  _law_number_ : Callee P w K mg base CX0 "_law_number" 2 ["_law_bag_here","_law_most"] (liftSp K BT S_num)
  _law_digit_ : Callee P w K mg base CX0 "_law_digit" 1 ["_law_bag_here","_law_many"] (liftSp K BT S_digit)
theorem ok__law_drawn_flat {P : Program}{w : World}{K : PySem.W.Frag}{mg : Str -> Option Value}{base : Heap}{f : Addr}{fd : FuncData}(F : Fun K "_law_drawn_flat" "_law_drawn_flat" s__law_drawn_flat f fd) (Z : Bi mg) {c : Cs} (Y : Ex K mg base c) (G : C__law_drawn_flat P w K mg base c) : FnOk P w K mg base CX0 3 f fd ["_law_bag_here","_law_most"] (liftSp K BT S_dflat) := by
  refine F.okD sc__law_drawn_flat (fun ds PP Ed h => ?_) (fun cdv A outer s H E M bg ds PP Ed hr hS_ => ?_)
  · obtain ⟨most,rfl,m0,m1,hP⟩ := h
    rfl
  · obtain ⟨most,rfl,m0,m1,hP⟩ := hS_
    refine ⟨_,(jdss_cons (jds_setC (X := (cxOf CX0 P w K mg base ["_law_bag_here","_law_most","_law_numbers"] "_law_drawn_flat" (defScope s__law_drawn_flat) f cdv A outer s H E).nox) true (i := 2) sc__law_drawn_flat.nd rfl (by walk_at "o") (gd_name 0) (blkJ (X := (cxOf CX0 P w K mg base ["_law_bag_here","_law_most","_law_numbers"] "_law_drawn_flat" (defScope s__law_drawn_flat) f cdv A outer s H E).nox) (N' := ["_law_k","_law_bag_here","_law_most"]) (map := [none,some 0,some 1]) (by rfl) (by rfl) (by decide +kernel) (by rfl) ⟨⟨rfl,rfl,rfl,by walk_at "o"⟩,⟨⟨rfl,rfl,rfl,by walk_at "o"⟩,True.intro⟩⟩ (gkeep_name rfl) fun cl0 C0 fp0 s0 H0 => ⟨(pg_name (X := (cxComp (cxOf CX0 P w K mg base ["_law_bag_here","_law_most","_law_numbers"] "_law_drawn_flat" (defScope s__law_drawn_flat) f cdv A outer s H E).nox ["_law_k","_law_bag_here","_law_most"] _ cl0 C0 fp0 s0 H0)) (i := 0) (nodupS ["_law_k","_law_bag_here","_law_most"] (by decide +kernel)) rfl (by walk_at "o")),jdif_nil,(jde_own (X := (cxComp (cxOf CX0 P w K mg base ["_law_bag_here","_law_most","_law_numbers"] "_law_drawn_flat" (defScope s__law_drawn_flat) f cdv A outer s H E).nox ["_law_k","_law_bag_here","_law_most"] _ cl0 C0 fp0 s0 H0)) G._law_number_ (hr.mono (by decide)) rfl (jda_cons (jdv 1) (jda_cons (jdv 2) jda_nil)))⟩) (jdi_range1 rfl Z.range_ (jda_cons jde_int jda_nil)))
      (jdss_cons (jds_if (jdt_cmp op_eq od_eqS (jde_own G._law_digit_ (hr.mono (by decide)) rfl (jda_cons (jdv 0) (jda_cons jde_int jda_nil))) jde_int (nomark _)) (jdss_one (jds_ownCat (i := 2) sc__law_drawn_flat.nd rfl (by walk_at "o") (jde_comp (X := (cxOf CX0 P w K mg base ["_law_bag_here","_law_most","_law_numbers"] "_law_drawn_flat" (defScope s__law_drawn_flat) f cdv A outer s H E).nox) (gd_name 0) (blkJ (X := (cxOf CX0 P w K mg base ["_law_bag_here","_law_most","_law_numbers"] "_law_drawn_flat" (defScope s__law_drawn_flat) f cdv A outer s H E).nox) (N' := ["_law_k","_law_bag_here"]) (map := [none,some 0]) (by rfl) (by rfl) (by decide +kernel) (by rfl) ⟨⟨rfl,rfl,rfl,by walk_at "o"⟩,True.intro⟩ (gkeep_name rfl) fun cl0 C0 fp0 s0 H0 => ⟨(pg_name (X := (cxComp (cxOf CX0 P w K mg base ["_law_bag_here","_law_most","_law_numbers"] "_law_drawn_flat" (defScope s__law_drawn_flat) f cdv A outer s H E).nox ["_law_k","_law_bag_here"] _ cl0 C0 fp0 s0 H0)) (i := 0) (nodupS ["_law_k","_law_bag_here"] (by decide +kernel)) rfl (by walk_at "o")),jdif_nil,(jde_op (X := (cxComp (cxOf CX0 P w K mg base ["_law_bag_here","_law_most","_law_numbers"] "_law_drawn_flat" (defScope s__law_drawn_flat) f cdv A outer s H E).nox ["_law_k","_law_bag_here"] _ cl0 C0 fp0 s0 H0)) op_sub od_I0 (jde_own G._law_digit_ (hr.mono (by decide)) rfl (jda_cons (jdv 1) (jda_cons jde_int jda_nil))) jde_int)⟩) (jdi_range1 rfl Z.range_ (jda_cons jde_int jda_nil))) (jde_lst (jda_cons (jde_op op_sub od_I0 (jde_own G._law_digit_ (hr.mono (by decide)) rfl (jda_cons (jdv 0) (jda_cons jde_int jda_nil))) jde_int) jda_nil)) (pe_op op_cat (JE.h (jde_comp (X := (cxOf CX0 P w K mg base ["_law_bag_here","_law_most","_law_numbers"] "_law_drawn_flat" (defScope s__law_drawn_flat) f cdv A outer s H E).nox) (gd_name 0) (blkJ (X := (cxOf CX0 P w K mg base ["_law_bag_here","_law_most","_law_numbers"] "_law_drawn_flat" (defScope s__law_drawn_flat) f cdv A outer s H E).nox) (N' := ["_law_k","_law_bag_here"]) (map := [none,some 0]) (by rfl) (by rfl) (by decide +kernel) (by rfl) ⟨⟨rfl,rfl,rfl,by walk_at "o"⟩,True.intro⟩ (gkeep_name rfl) fun cl0 C0 fp0 s0 H0 => ⟨(pg_name (X := (cxComp (cxOf CX0 P w K mg base ["_law_bag_here","_law_most","_law_numbers"] "_law_drawn_flat" (defScope s__law_drawn_flat) f cdv A outer s H E).nox ["_law_k","_law_bag_here"] _ cl0 C0 fp0 s0 H0)) (i := 0) (nodupS ["_law_k","_law_bag_here"] (by decide +kernel)) rfl (by walk_at "o")),jdif_nil,(jde_op (X := (cxComp (cxOf CX0 P w K mg base ["_law_bag_here","_law_most","_law_numbers"] "_law_drawn_flat" (defScope s__law_drawn_flat) f cdv A outer s H E).nox ["_law_k","_law_bag_here"] _ cl0 C0 fp0 s0 H0)) op_sub od_I0 (jde_own G._law_digit_ (hr.mono (by decide)) rfl (jda_cons (jdv 1) (jda_cons jde_int jda_nil))) jde_int)⟩) (jdi_range1 rfl Z.range_ (jda_cons jde_int jda_nil)))) (JE.h (jde_lst (jda_cons (jde_op op_sub od_I0 (jde_own G._law_digit_ (hr.mono (by decide)) rfl (jda_cons (jdv 0) (jda_cons jde_int jda_nil))) jde_int) jda_nil)))))) jdss_nil)
      (jdss_cons (jds_if (jdt_cmp (op_eqG K (by rfl) hr.units) od_eqG (jde_slice (sl_any K (by rfl)) (jdv 2) jdo_none (jdo_some jde_int)) (jde_lst (jda_cons jde_int (jda_cons jde_int (jda_cons jde_int jda_nil)))) (nomark _)) (jdss_one (jds_setI (i := 2) rfl (by walk_at "v") jde_int (jde_own G._law_digit_ (hr.mono (by decide)) rfl (jda_cons (jdv 0) (jda_cons jde_int jda_nil))) (pg_sub (pv 2) (JE.h (jde_own G._law_digit_ (hr.mono (by decide)) rfl (jda_cons (jdv 0) (jda_cons jde_int jda_nil)))) set_list))) jdss_nil)
      (jdss_one (jds_ret (jde_callTy (call_tuple_ofK K (by rfl)) cd_tuple rfl Z.tuple_ bt_tuple (jda_cons (jdv 2) jda_nil))))))),?_⟩
    have i1 : Bd 41 1 := (Bd.of (by decide) (by decide) : Bd 3 1).mono (by decide)
    walk_at "go"
    repeat (walk_at "gc")
    refine ⟨most,rfl,m0,m1,fun x hx => ?_⟩
    walk_at "go"
    refine ⟨most,rfl,m0,m1,fun y hy => ?_⟩
    walk_at "go"
    refine ⟨most,rfl,m0,m1,fun z hz => ?_⟩
    walk_at "go"
    refine ⟨most,rfl,m0,m1,fun v hv => ?_⟩
    walk_at "go"
    refine ⟨_,64,rfl,by decide,Bd.num _ (by decide),by decide,fun r r0 r1 => ?_⟩
    walk_at "go"
    walk_at "sp"
    · walk_at "go"
      repeat (walk_at "gc")
      refine ⟨_,64,rfl,by decide,Bd.num _ (by decide),by decide,fun x x0 x1 => ?_⟩
      walk_at "go"
      refine ⟨_,64,rfl,by decide,Bd.num _ (by decide),by decide,fun y y0 y1 => ?_⟩
      walk_at "go"
      refine ⟨_,64,rfl,by decide,Bd.num _ (by decide),by decide,fun z z0 z1 => ?_⟩
      walk_at "go"
      refine ⟨_,64,rfl,by decide,Bd.num _ (by decide),by decide,fun v v0 v1 => ?_⟩
      have bx : Bd 41 (x - 2) := Bd.of (by omega) (by omega)
      have b_y : Bd 41 (y - 2) := Bd.of (by omega) (by omega)
      have bz : Bd 41 (z - 2) := Bd.of (by omega) (by omega)
      have bv : Bd 41 (v - 12) := Bd.of (by omega) (by omega)
      walk_at "go"
      generalize x - 2 = x at *
      generalize y - 2 = y at *
      generalize z - 2 = z at *
      generalize v - 12 = v at *
      refine ⟨.list [.int x,.int y,.int z],.list [.int 0,.int 0,.int 0],rfl,rfl,Nat.le_trans (Nat.min_le_right _ _) (by decide),?_⟩
      by_cases h0 : x = 0 /\ y = 0 /\ z = 0
      · obtain ⟨rfl,rfl,rfl⟩ := h0
        walk_at "go"
        refine ⟨_,64,rfl,by decide,Bd.num _ (by decide),by decide,fun k k0 k1 => ?_⟩
        obtain rfl | rfl | rfl : k = 0 \/ k = 1 \/ k = 2 := by omega
        · walk_at "go"
          exact hP ⟨1,0,0,v⟩ ⟨i1,b_y,bz,bv⟩ rfl
        · walk_at "go"
          exact hP ⟨0,1,0,v⟩ ⟨bx,i1,bz,bv⟩ rfl
        · walk_at "go"
          exact hP ⟨0,0,1,v⟩ ⟨bx,b_y,i1,bv⟩ rfl
      · have e : PyData.eqv (.list [.int x,.int y,.int z]) (.list [.int 0,.int 0,.int 0]) = false := by
          by_cases h1 : x = 0 <;> by_cases h2 : y = 0 <;> by_cases h3 : z = 0 <;> simp [PyData.eqv,PyData.eqvAll,h1,h2,h3]
          exact h0 ⟨h1,h2,h3⟩
        rw [e]
        walk_at "go"
        exact hP ⟨x,y,z,v⟩ ⟨bx,b_y,bz,bv⟩ (flatR_of h0)
    · have bx := hx.mono (show 40 <= 41 by decide)
      have b_y := hy.mono (show 40 <= 41 by decide)
      have bz := hz.mono (show 40 <= 41 by decide)
      have bv := hv.mono (show 40 <= 41 by decide)
      walk_at "go"
      refine ⟨.list [.int x,.int y,.int z],.list [.int 0,.int 0,.int 0],rfl,rfl,Nat.le_trans (Nat.min_le_right _ _) (by decide),?_⟩
      by_cases h0 : x = 0 /\ y = 0 /\ z = 0
      · obtain ⟨rfl,rfl,rfl⟩ := h0
        walk_at "go"
        refine ⟨_,64,rfl,by decide,Bd.num _ (by decide),by decide,fun k k0 k1 => ?_⟩
        obtain rfl | rfl | rfl : k = 0 \/ k = 1 \/ k = 2 := by omega
        · walk_at "go"
          exact hP ⟨1,0,0,v⟩ ⟨i1,b_y,bz,bv⟩ rfl
        · walk_at "go"
          exact hP ⟨0,1,0,v⟩ ⟨bx,i1,bz,bv⟩ rfl
        · walk_at "go"
          exact hP ⟨0,0,1,v⟩ ⟨bx,b_y,i1,bv⟩ rfl
      · have e : PyData.eqv (.list [.int x,.int y,.int z]) (.list [.int 0,.int 0,.int 0]) = false := by
          by_cases h1 : x = 0 <;> by_cases h2 : y = 0 <;> by_cases h3 : z = 0 <;> simp [PyData.eqv,PyData.eqvAll,h1,h2,h3]
          exact h0 ⟨h1,h2,h3⟩
        rw [e]
        walk_at "go"
        exact hP ⟨x,y,z,v⟩ ⟨bx,b_y,bz,bv⟩ (flatR_of h0)
abbrev s__law_worth : Stmt := top 40
theorem sc__law_worth : FnScope ["_law_flat","_law_place"] ["_law_flat","_law_place"] (defScope s__law_worth) := ⟨rfl,rfl,rfl,by decide +kernel,rfl,by decide +kernel,by decide +kernel⟩
def S_lworth : DSp := fun ds P _ => ∃ (r s : R4) (n : Nat),ds = [r.d,s.d] /\ r.ok n /\ s.ok n /\ n <= 4000 /\ P (.int (dot4 r s))
theorem ok__law_worth {P : Program}{w : World}{K : PySem.W.Frag}{mg : Str -> Option Value}{base : Heap}{f : Addr}{fd : FuncData}(F : Fun K "_law_worth" "_law_worth" s__law_worth f fd) (Z : Bi mg) {c : Cs} (Y : Ex K mg base c) : FnOk P w K mg base CX0 1 f fd ["_law_flat","_law_place"] (liftSp K BT S_lworth) := by
  refine F.okD sc__law_worth (fun ds PP Ed h => ?_) (fun cdv A outer s H E M bg ds PP Ed hr hS_ => ?_)
  · obtain ⟨r,t,n,rfl,⟨h1,h2,h3,h4⟩,⟨k1,k2,k3,k4⟩,hn,hP⟩ := h
    rfl
  · obtain ⟨r,t,n,rfl,⟨h1,h2,h3,h4⟩,⟨k1,k2,k3,k4⟩,hn,hP⟩ := hS_
    refine ⟨_,(jdss_one (jds_ret (jde_callB (call_sumL K (by rfl) (by rfl)) cd_sum rfl Z.sum_ bt_sum (jda_cons (jde_comp (X := (cxOf CX0 P w K mg base ["_law_flat","_law_place"] "_law_worth" (defScope s__law_worth) f cdv A outer s H E).nox) (gd_seq [0,1]) (blkJ (X := (cxOf CX0 P w K mg base ["_law_flat","_law_place"] "_law_worth" (defScope s__law_worth) f cdv A outer s H E).nox) (N' := ["_law_one","_law_other"]) (map := [none,none]) (by rfl) (by rfl) (by decide +kernel) (by rfl) True.intro (gkeep_seq (js := [0,1]) (by decide)) fun cl0 C0 fp0 s0 H0 => ⟨(PG.or (pg_tupK (n := 2) K (by rfl) (by rfl) (pgs_cons (pg_name (i := 0) (nodupS ["_law_one","_law_other"] (by decide +kernel)) rfl (by walk_at "o")) (pgs_cons (pg_name (i := 1) (nodupS ["_law_one","_law_other"] (by decide +kernel)) rfl (by walk_at "o")) pgs_nil))) (pg_lstK (n := 2) K (by rfl) (by rfl) (pgs_cons (pg_name (i := 0) (nodupS ["_law_one","_law_other"] (by decide +kernel)) rfl (by walk_at "o")) (pgs_cons (pg_name (i := 1) (nodupS ["_law_one","_law_other"] (by decide +kernel)) rfl (by walk_at "o")) pgs_nil)))),jdif_nil,(jde_op (X := (cxComp (cxOf CX0 P w K mg base ["_law_flat","_law_place"] "_law_worth" (defScope s__law_worth) f cdv A outer s H E).nox ["_law_one","_law_other"] _ cl0 C0 fp0 s0 H0)) op_mulB od_I (jdv 0) (jdv 1))⟩) (jdi_zip (by rfl) true true rfl Z.zip_ (jda_cons (jdv 0) (jda_cons (jdv 1) jda_nil)) (pi_zip2 K (by rfl) true true rfl Z.zip_ (JA.h (jda_cons (jdv 0) (jda_cons (jdv 1) jda_nil)))))) jda_nil)))),?_⟩
    walk_at "go"
    walk_at "gc"
    have e : [r.x * t.x,r.y * t.y,r.z * t.z,r.w * t.w].sum = dot4 r t := by unfold dot4; simp only [List.sum_cons,List.sum_nil]; omega
    rw [<- e] at hP
    exact hP
abbrev s__law_is : Stmt := top 41
theorem sc__law_is : FnScope ["_law_e","_law_due","_law_found","_law_names"] ["_law_e","_law_due"] (defScope s__law_is) := ⟨rfl,rfl,rfl,by decide +kernel,rfl,by decide +kernel,by decide +kernel⟩
def sp_is (c : Cs) : Addr -> Sp := fun y vs H Q _ => vs = [.ref y,.str "flat"] /\ H y = some (ExcO y c.NoFlat) /\ ∀ H',Same H H' -> Q (.bl true) H'
theorem ok__law_is {P : Program}{w : World}{K : PySem.W.Frag}{mg : Str -> Option Value}{base : Heap}{f : Addr}{fd : FuncData}(F : Fun K "_law_is" "_law_is" s__law_is f fd) (Z : Bi mg) {c : Cs} (Y : Ex K mg base c) : FnOkM P w K mg base 1 f fd ["_law_e","_law_due"] (sp_is c) := by
  refine F.okM sc__law_is (fun y vs H Q E h => ?_) (fun cdv A outer s H vs Q y hr hh h => ?_)
  · obtain ⟨rfl,hx,k⟩ := h
    rfl
  · obtain ⟨rfl,hx,k⟩ := h
    obtain ⟨es1,hes1⟩ : ∃ es : List Expr,es = List.map (fun c : Str × Nat × Pos => Expr.Constant (.str c.1) c.2.1 c.2.2) [("fraction",0,⟨146,18,146,28⟩),("spot",0,⟨146,30,146,36⟩),("body",0,⟨146,38,146,44⟩),("move",0,⟨146,46,146,52⟩),("flat",0,⟨146,54,146,60⟩),("face",0,⟨146,62,146,68⟩),("board",0,⟨146,70,146,77⟩),("light",0,⟨146,79,146,86⟩),("deed",0,⟨146,88,146,94⟩),("text",0,⟨146,96,146,102⟩),("name",0,⟨146,104,146,110⟩),("row",0,⟨146,112,146,117⟩)] := ⟨_,rfl⟩
    have hT1 := ps_set (X := (cxOfM P w K mg base ["_law_e","_law_due","_law_found","_law_names"] "_law_is" (defScope s__law_is) f cdv A outer s H)) (i := 3) (x := "_law_names") (pos' := ⟨146,4,146,14⟩) (pos := ⟨146,4,146,118⟩) sc__law_is.nd rfl (by walk_at "o") (pe_lstStrs (pos := ⟨146,17,146,118⟩) [("fraction",0,⟨146,18,146,28⟩),("spot",0,⟨146,30,146,36⟩),("body",0,⟨146,38,146,44⟩),("move",0,⟨146,46,146,52⟩),("flat",0,⟨146,54,146,60⟩),("face",0,⟨146,62,146,68⟩),("board",0,⟨146,70,146,77⟩),("light",0,⟨146,79,146,86⟩),("deed",0,⟨146,88,146,94⟩),("text",0,⟨146,96,146,102⟩),("name",0,⟨146,104,146,110⟩),("row",0,⟨146,112,146,117⟩)] hes1) rfl (.inl rfl)
    generalize hst1 : Stmt.Assign [Expr.Name "_law_names" ⟨146,4,146,14⟩] (Expr.List es1 ⟨146,17,146,118⟩) ⟨146,4,146,118⟩ = st1 at hT1
    have hR1 := ((pss_cons (ps_set (i := 3) sc__law_is.nd rfl (by walk_at "o") (pe_op op_cat (pv 3) (pe_lst (pa_cons pe_str (pa_cons pe_str pa_nil)))))
      (pss_one (ps_ret (pe_and (pe_callB (call_isinstXT K (by rfl)) rfl Z.isinstance_ bt_isinstance (pa_cons (pv 0) (pa_cons (pe_bltn (v := .ty "ValueError") rfl Z.ValueError_ bt_ValueError rfl) pa_nil))) (pe_one (pe_cmpR (op_eqL K (by rfl) hr.units0) (pv 2) (pe_compM (X := (cxOfM P w K mg base ["_law_e","_law_due","_law_found","_law_names"] "_law_is" (defScope s__law_is) f cdv A outer s H)) (BlkM.mk (X := (cxOfM P w K mg base ["_law_e","_law_due","_law_found","_law_names"] "_law_is" (defScope s__law_is) f cdv A outer s H)) (N' := ["_law_name","_law_due"]) (map := [none,some 1]) (by rfl) (by decide +kernel) (by rfl) ⟨⟨rfl,rfl,rfl,by walk_at "o"⟩,True.intro⟩ (gkeep_name rfl) fun cl0 C0 fp0 s0 H0 _ => ⟨(pg_name (X := (cxComp (cxOfM P w K mg base ["_law_e","_law_due","_law_found","_law_names"] "_law_is" (defScope s__law_is) f cdv A outer s H) ["_law_name","_law_due"] _ cl0 C0 fp0 s0 H0)) (i := 0) (nodupS ["_law_name","_law_due"] (by decide +kernel)) rfl (by walk_at "o")),pif_nil,(pe_cmpR (X := (cxComp (cxOfM P w K mg base ["_law_e","_law_due","_law_found","_law_names"] "_law_is" (defScope s__law_is) f cdv A outer s H) ["_law_name","_law_due"] _ cl0 C0 fp0 s0 H0)) op_eq (pv 0) (pv 1) (nomark _))⟩) (pi_listM (X := (cxOfM P w K mg base ["_law_e","_law_due","_law_found","_law_names"] "_law_is" (defScope s__law_is) f cdv A outer s H)) (C := c.NoFlat) K (by rfl) (by exact hh) (pv 3))) (nomark _))))))) : PSs (cxOfM P w K mg base ["_law_e","_law_due","_law_found","_law_names"] "_law_is" (defScope s__law_is) f cdv A outer s H) ((defBody s__law_is).drop 5) _)
    have hV1 := @pss_says _ _ _ (pss_cons hT1 hR1)
    refine ⟨_,(pss_cons (ps_set (i := 2) sc__law_is.nd rfl (by walk_at "o") (pe_lst (pa_cons (pe_callB (call_isinstX K (by rfl)) rfl Z.isinstance_ bt_isinstance (pa_cons (pv 0) (pa_cons (pe_globC rfl Y.g_NoFraction) pa_nil))) (pa_cons (pe_callB (call_isinstX K (by rfl)) rfl Z.isinstance_ bt_isinstance (pa_cons (pv 0) (pa_cons (pe_globC rfl Y.g_NoSpot) pa_nil))) (pa_cons (pe_callB (call_isinstX K (by rfl)) rfl Z.isinstance_ bt_isinstance (pa_cons (pv 0) (pa_cons (pe_globC rfl Y.g_NoBody) pa_nil))) (pa_cons (pe_callB (call_isinstX K (by rfl)) rfl Z.isinstance_ bt_isinstance (pa_cons (pv 0) (pa_cons (pe_globC rfl Y.g_NoMove) pa_nil))) pa_nil))))))
      (pss_cons (ps_set (i := 2) sc__law_is.nd rfl (by walk_at "o") (pe_op op_cat (pv 2) (pe_lst (pa_cons (pe_callB (call_isinstX K (by rfl)) rfl Z.isinstance_ bt_isinstance (pa_cons (pv 0) (pa_cons (pe_globC rfl Y.g_NoFlat) pa_nil))) (pa_cons (pe_callB (call_isinstX K (by rfl)) rfl Z.isinstance_ bt_isinstance (pa_cons (pv 0) (pa_cons (pe_globC rfl Y.g_NoFace) pa_nil))) (pa_cons (pe_callB (call_isinstX K (by rfl)) rfl Z.isinstance_ bt_isinstance (pa_cons (pv 0) (pa_cons (pe_globC rfl Y.g_NoBoard) pa_nil))) (pa_cons (pe_callB (call_isinstX K (by rfl)) rfl Z.isinstance_ bt_isinstance (pa_cons (pv 0) (pa_cons (pe_globC rfl Y.g_NoLight) pa_nil))) pa_nil)))))))
      (pss_cons (ps_set (i := 2) sc__law_is.nd rfl (by walk_at "o") (pe_op op_cat (pv 2) (pe_lst (pa_cons (pe_callB (call_isinstX K (by rfl)) rfl Z.isinstance_ bt_isinstance (pa_cons (pv 0) (pa_cons (pe_globC rfl Y.g_NoDeed) pa_nil))) (pa_cons (pe_callB (call_isinstX K (by rfl)) rfl Z.isinstance_ bt_isinstance (pa_cons (pv 0) (pa_cons (pe_globC rfl Y.g_NoText) pa_nil))) (pa_cons (pe_callB (call_isinstX K (by rfl)) rfl Z.isinstance_ bt_isinstance (pa_cons (pv 0) (pa_cons (pe_globC rfl Y.g_NoName) pa_nil))) (pa_cons (pe_callB (call_isinstX K (by rfl)) rfl Z.isinstance_ bt_isinstance (pa_cons (pv 0) (pa_cons (pe_globC rfl Y.g_NoRow) pa_nil))) pa_nil)))))))
      (pss_cons (ps_set (i := 2) sc__law_is.nd rfl (by walk_at "o") (pe_op op_cat (pv 2) (pe_lst (pa_cons (pe_callB (call_isinstX K (by rfl)) rfl Z.isinstance_ bt_isinstance (pa_cons (pv 0) (pa_cons (pe_globC rfl Y.g_Behind) pa_nil))) (pa_cons (pe_callB (call_isinstX K (by rfl)) rfl Z.isinstance_ bt_isinstance (pa_cons (pv 0) (pa_cons (pe_globC rfl Y.g_TooMany) pa_nil))) pa_nil)))))
      hV1)))),?_⟩
    walk_at "rd"
    refine ⟨_,_,_,false,rfl,hx,.inr ⟨rfl,Y.x_NoFlat,Y.n_NoFlat_NoFraction⟩,?_⟩
    walk_at "rd"
    refine ⟨_,_,_,false,rfl,hx,.inr ⟨rfl,Y.x_NoFlat,Y.n_NoFlat_NoSpot⟩,?_⟩
    walk_at "rd"
    refine ⟨_,_,_,false,rfl,hx,.inr ⟨rfl,Y.x_NoFlat,Y.n_NoFlat_NoBody⟩,?_⟩
    walk_at "rd"
    refine ⟨_,_,_,false,rfl,hx,.inr ⟨rfl,Y.x_NoFlat,Y.n_NoFlat_NoMove⟩,?_⟩
    walk_at "rd"
    refine ⟨(Nat.le_trans (Nat.le_of_ble_eq_true rfl) le1000),fun p1 en1 => ?_⟩
    have hN : upd H p1 (.lst [.bl false,.bl false,.bl false,.bl false]) p1 = some (.lst [.bl false,.bl false,.bl false,.bl false]) := upd_same
    have hx : upd H p1 (.lst [.bl false,.bl false,.bl false,.bl false]) y = some (ExcO y c.NoFlat) := Same.upd en1 _ _ hx
    have S1 : Same H (upd H p1 (.lst [.bl false,.bl false,.bl false,.bl false])) := Same.upd en1
    generalize upd H p1 (.lst [.bl false,.bl false,.bl false,.bl false]) = G0 at hN hx S1 ⊢
    clear en1
    walk_at "rd"
    refine ⟨_,_,_,true,rfl,hx,.inl ⟨rfl,rfl⟩,?_⟩
    walk_at "rd"
    refine ⟨_,_,_,false,rfl,hx,.inr ⟨rfl,Y.x_NoFlat,Y.n_NoFlat_NoFace⟩,?_⟩
    walk_at "rd"
    refine ⟨_,_,_,false,rfl,hx,.inr ⟨rfl,Y.x_NoFlat,Y.n_NoFlat_NoBoard⟩,?_⟩
    walk_at "rd"
    refine ⟨_,_,_,false,rfl,hx,.inr ⟨rfl,Y.x_NoFlat,Y.n_NoFlat_NoLight⟩,?_⟩
    walk_at "rd"
    refine ⟨(Nat.le_trans (Nat.le_of_ble_eq_true rfl) le1000),fun q1 eq1 => ?_⟩
    refine ⟨_,_,[.bl false,.bl false,.bl false,.bl false],[.bl true,.bl false,.bl false,.bl false],rfl,rfl,Same.upd eq1 _ _ hN,upd_same,(Nat.le_trans (Nat.le_of_ble_eq_true rfl) le1000),fun p2 en2 => ?_⟩
    have S2 := (Same.upd (o := .lst [.bl true,.bl false,.bl false,.bl false]) eq1).trans (Same.upd (o := .lst ([.bl false,.bl false,.bl false,.bl false] ++ [.bl true,.bl false,.bl false,.bl false])) en2)
    have hN' : upd (upd G0 q1 (.lst [.bl true,.bl false,.bl false,.bl false])) p2 (.lst ([.bl false,.bl false,.bl false,.bl false] ++ [.bl true,.bl false,.bl false,.bl false])) p2 = some (.lst [.bl false,.bl false,.bl false,.bl false,.bl true,.bl false,.bl false,.bl false]) := upd_same
    replace hx := S2 _ _ hx
    replace S1 := S1.trans S2
    clear S2
    generalize upd (upd G0 q1 (.lst [.bl true,.bl false,.bl false,.bl false])) p2 (.lst ([.bl false,.bl false,.bl false,.bl false] ++ [.bl true,.bl false,.bl false,.bl false])) = G1 at hN' hx S1 ⊢
    clear hN en2 eq1
    have hN := hN'
    clear hN'
    walk_at "rd"
    refine ⟨_,_,_,false,rfl,hx,.inr ⟨rfl,Y.x_NoFlat,Y.n_NoFlat_NoDeed⟩,?_⟩
    walk_at "rd"
    refine ⟨_,_,_,false,rfl,hx,.inr ⟨rfl,Y.x_NoFlat,Y.n_NoFlat_NoText⟩,?_⟩
    walk_at "rd"
    refine ⟨_,_,_,false,rfl,hx,.inr ⟨rfl,Y.x_NoFlat,Y.n_NoFlat_NoName⟩,?_⟩
    walk_at "rd"
    refine ⟨_,_,_,false,rfl,hx,.inr ⟨rfl,Y.x_NoFlat,Y.n_NoFlat_NoRow⟩,?_⟩
    walk_at "rd"
    refine ⟨(Nat.le_trans (Nat.le_of_ble_eq_true rfl) le1000),fun q2 eq2 => ?_⟩
    refine ⟨_,_,[.bl false,.bl false,.bl false,.bl false,.bl true,.bl false,.bl false,.bl false],[.bl false,.bl false,.bl false,.bl false],rfl,rfl,Same.upd eq2 _ _ hN,upd_same,(Nat.le_trans (Nat.le_of_ble_eq_true rfl) le1000),fun p3 en3 => ?_⟩
    have S2 := (Same.upd (o := .lst [.bl false,.bl false,.bl false,.bl false]) eq2).trans (Same.upd (o := .lst ([.bl false,.bl false,.bl false,.bl false,.bl true,.bl false,.bl false,.bl false] ++ [.bl false,.bl false,.bl false,.bl false])) en3)
    have hN' : upd (upd G1 q2 (.lst [.bl false,.bl false,.bl false,.bl false])) p3 (.lst ([.bl false,.bl false,.bl false,.bl false,.bl true,.bl false,.bl false,.bl false] ++ [.bl false,.bl false,.bl false,.bl false])) p3 = some (.lst [.bl false,.bl false,.bl false,.bl false,.bl true,.bl false,.bl false,.bl false,.bl false,.bl false,.bl false,.bl false]) := upd_same
    replace hx := S2 _ _ hx
    replace S1 := S1.trans S2
    clear S2
    generalize upd (upd G1 q2 (.lst [.bl false,.bl false,.bl false,.bl false])) p3 (.lst ([.bl false,.bl false,.bl false,.bl false,.bl true,.bl false,.bl false,.bl false] ++ [.bl false,.bl false,.bl false,.bl false])) = G2 at hN' hx S1 ⊢
    clear hN en3 eq2
    have hN := hN'
    clear hN'
    walk_at "rd"
    refine ⟨_,_,_,false,rfl,hx,.inr ⟨rfl,Y.x_NoFlat,Y.n_NoFlat_Behind⟩,?_⟩
    walk_at "rd"
    refine ⟨_,_,_,false,rfl,hx,.inr ⟨rfl,Y.x_NoFlat,Y.n_NoFlat_TooMany⟩,?_⟩
    walk_at "rd"
    refine ⟨(Nat.le_trans (Nat.le_of_ble_eq_true rfl) le1000),fun q3 eq3 => ?_⟩
    refine ⟨_,_,[.bl false,.bl false,.bl false,.bl false,.bl true,.bl false,.bl false,.bl false,.bl false,.bl false,.bl false,.bl false],[.bl false,.bl false],rfl,rfl,Same.upd eq3 _ _ hN,upd_same,(Nat.le_trans (Nat.le_of_ble_eq_true rfl) le1000),fun p4 en4 => ?_⟩
    have S2 := (Same.upd (o := .lst [.bl false,.bl false]) eq3).trans (Same.upd (o := .lst ([.bl false,.bl false,.bl false,.bl false,.bl true,.bl false,.bl false,.bl false,.bl false,.bl false,.bl false,.bl false] ++ [.bl false,.bl false])) en4)
    have hN' : upd (upd G2 q3 (.lst [.bl false,.bl false])) p4 (.lst ([.bl false,.bl false,.bl false,.bl false,.bl true,.bl false,.bl false,.bl false,.bl false,.bl false,.bl false,.bl false] ++ [.bl false,.bl false])) p4 = some (.lst [.bl false,.bl false,.bl false,.bl false,.bl true,.bl false,.bl false,.bl false,.bl false,.bl false,.bl false,.bl false,.bl false,.bl false]) := upd_same
    replace hx := S2 _ _ hx
    replace S1 := S1.trans S2
    clear S2
    generalize upd (upd G2 q3 (.lst [.bl false,.bl false])) p4 (.lst ([.bl false,.bl false,.bl false,.bl false,.bl true,.bl false,.bl false,.bl false,.bl false,.bl false,.bl false,.bl false] ++ [.bl false,.bl false])) = G3 at hN' hx S1 ⊢
    clear hN en4 eq3
    have hN := hN'
    clear hN'
    walk_at "rd"
    refine ⟨by rw [<- hst1,hes1]; rfl,?_⟩
    walk_at "rd"
    refine ⟨(Nat.le_trans (Nat.le_of_ble_eq_true rfl) le1000),fun w1 ew1 => ?_⟩
    have hW : upd G3 w1 (.lst [V.str "fraction",V.str "spot",V.str "body",V.str "move",V.str "flat",V.str "face",V.str "board",V.str "light",V.str "deed",V.str "text",V.str "name",V.str "row"]) w1 = some (.lst [V.str "fraction",V.str "spot",V.str "body",V.str "move",V.str "flat",V.str "face",V.str "board",V.str "light",V.str "deed",V.str "text",V.str "name",V.str "row"]) := upd_same
    have S2 : Same G3 (upd G3 w1 (.lst [V.str "fraction",V.str "spot",V.str "body",V.str "move",V.str "flat",V.str "face",V.str "board",V.str "light",V.str "deed",V.str "text",V.str "name",V.str "row"])) := Same.upd ew1
    replace hx := S2 _ _ hx
    replace hN := S2 _ _ hN
    replace S1 := S1.trans S2
    clear S2
    show tSeq _ _ _ _ (upd G3 w1 (.lst [V.str "fraction",V.str "spot",V.str "body",V.str "move",V.str "flat",V.str "face",V.str "board",V.str "light",V.str "deed",V.str "text",V.str "name",V.str "row"]))
    generalize upd G3 w1 (.lst [V.str "fraction",V.str "spot",V.str "body",V.str "move",V.str "flat",V.str "face",V.str "board",V.str "light",V.str "deed",V.str "text",V.str "name",V.str "row"]) = G8 at hW hx hN S1 ⊢
    clear ew1
    walk_at "rd"
    refine ⟨(Nat.le_trans (Nat.le_of_ble_eq_true rfl) le1000),fun w2 ew2 => ?_⟩
    refine ⟨_,_,[V.str "fraction",V.str "spot",V.str "body",V.str "move",V.str "flat",V.str "face",V.str "board",V.str "light",V.str "deed",V.str "text",V.str "name",V.str "row"],[V.str "behind",V.str "many"],rfl,rfl,Same.upd ew2 _ _ hW,upd_same,(Nat.le_trans (Nat.le_of_ble_eq_true rfl) le1000),fun w3 ew3 => ?_⟩
    have S2 := (Same.upd (o := .lst [V.str "behind",V.str "many"]) ew2).trans (Same.upd (o := .lst ([V.str "fraction",V.str "spot",V.str "body",V.str "move",V.str "flat",V.str "face",V.str "board",V.str "light",V.str "deed",V.str "text",V.str "name",V.str "row"] ++ [V.str "behind",V.str "many"])) ew3)
    have hW' : upd (upd G8 w2 (.lst [V.str "behind",V.str "many"])) w3 (.lst ([V.str "fraction",V.str "spot",V.str "body",V.str "move",V.str "flat",V.str "face",V.str "board",V.str "light",V.str "deed",V.str "text",V.str "name",V.str "row"] ++ [V.str "behind",V.str "many"])) w3 = some (.lst [V.str "fraction",V.str "spot",V.str "body",V.str "move",V.str "flat",V.str "face",V.str "board",V.str "light",V.str "deed",V.str "text",V.str "name",V.str "row",V.str "behind",V.str "many"]) := upd_same
    replace hx := S2 _ _ hx
    replace hN := S2 _ _ hN
    replace S1 := S1.trans S2
    clear S2
    generalize upd (upd G8 w2 (.lst [V.str "behind",V.str "many"])) w3 (.lst ([V.str "fraction",V.str "spot",V.str "body",V.str "move",V.str "flat",V.str "face",V.str "board",V.str "light",V.str "deed",V.str "text",V.str "name",V.str "row"] ++ [V.str "behind",V.str "many"])) = G9 at hW' hx hN S1 ⊢
    clear hW ew2 ew3
    have hW := hW'
    clear hW'
    walk_at "rd"
    refine ⟨_,_,_,rfl,hx,Y.v_NoFlat,ty_ValueError,?_⟩
    walk_at "rd"
    refine ⟨⟨_,SqL.of hW⟩,comp_listM (xs := [V.str "fraction",V.str "spot",V.str "body",V.str "move",V.str "flat",V.str "face",V.str "board",V.str "light",V.str "deed",V.str "text",V.str "name",V.str "row",V.str "behind",V.str "many"]) (fun i acc H' => H' = G9 /\ i <= 14 /\ acc = ([.bl false,.bl false,.bl false,.bl false,.bl true,.bl false,.bl false,.bl false,.bl false,.bl false,.bl false,.bl false,.bl false,.bl false] : List V).take i) (Nat.le_trans (Nat.le_of_ble_eq_true rfl) le1000) ⟨rfl,by decide,rfl⟩ (fun i acc H' ⟨z1,z2,z3⟩ => ⟨?_,by rw [z1]; exact SqL.of hW,by rw [z1]; exact hx⟩) (fun i v acc H' hv ⟨z1,z2,z3⟩ => ?_) (fun acc H' ⟨z1,z2,z3⟩ => ?_)⟩
    · rw [z3,List.length_take]; omega
    · subst z1
      have hi : i < 14 := (List.getElem?_eq_some_iff.mp hv).1
      have hi' : i = 0 \/ i = 1 \/ i = 2 \/ i = 3 \/ i = 4 \/ i = 5 \/ i = 6 \/ i = 7 \/ i = 8 \/ i = 9 \/ i = 10 \/ i = 11 \/ i = 12 \/ i = 13 := by omega
      rcases hi' with rfl | rfl | rfl | rfl | rfl | rfl | rfl | rfl | rfl | rfl | rfl | rfl | rfl | rfl <;> (cases hv; walk_at "rd"; first | (refine ⟨by decide,?_⟩; rw [z3]; first | rfl | decide) | (refine ⟨rfl,by decide,?_⟩; rw [z3]; first | rfl | decide))
    · subst z1
      intro D hD
      rw [z3]
      refine ⟨_,D,[.bl false,.bl false,.bl false,.bl false,.bl true,.bl false,.bl false,.bl false,.bl false,.bl false,.bl false,.bl false,.bl false,.bl false],rfl,rfl,SqL.of (Same.upd hD _ _ hN),SqL.of upd_same,by simp [flatV],?_⟩
      exact k _ (S1.trans (Same.upd hD))
abbrev s__law_odd : Stmt := top 42
theorem sc__law_odd : FnScope ["_law_bag_here"] ["_law_bag_here"] (defScope s__law_odd) := ⟨rfl,rfl,rfl,by decide +kernel,rfl,by decide +kernel,by decide +kernel⟩
def S_odd : DSp := fun ds P _ => ds = [.bag] /\ ∀ d : D,(tyName d).isSome = true -> tkD d = true -> notOwn d = true -> plain d = true -> whD d = false -> flatD d = false -> P d
structure C__law_odd (P : Program)(w : World)(K : PySem.W.Frag)(mg : Str -> Option Value)(base : Heap)(c : Cs) : Prop where
  _law_digit_ : Callee P w K mg base CX0 "_law_digit" 1 ["_law_bag_here","_law_many"] (liftSp K BT S_digit)
theorem ok__law_odd {P : Program}{w : World}{K : PySem.W.Frag}{mg : Str -> Option Value}{base : Heap}{f : Addr}{fd : FuncData}(F : Fun K "_law_odd" "_law_odd" s__law_odd f fd) (Z : Bi mg) {c : Cs} (Y : Ex K mg base c) (G : C__law_odd P w K mg base c) : FnOk P w K mg base CX0 2 f fd ["_law_bag_here"] (liftSp K BT S_odd) := by
  refine F.okD sc__law_odd (fun ds PP Ed h => ?_) (fun cdv A outer s H E M bg ds PP Ed hr hS_ => ?_)
  · obtain ⟨rfl,hP⟩ := h
    rfl
  · obtain ⟨rfl,hP⟩ := hS_
    refine ⟨_,(jdss_one (jds_ret (jde_ix (ix_any K (by rfl)) od_ix (jde_lst (jda_cons jde_non (jda_cons jde_bl (jda_cons jde_bl (jda_cons jde_str (jda_cons (jde_tup jda_nil) (jda_cons (jde_lst jda_nil) (jda_cons (jde_tup (jda_cons jde_int (jda_cons jde_int jda_nil))) (jda_cons (jde_lst (jda_cons jde_int jda_nil)) (jda_cons jde_str (jda_cons (jde_tup (jda_cons (jde_tup (jda_cons jde_int jda_nil)) jda_nil)) jda_nil))))))))))) (jde_own G._law_digit_ (hr.mono (by decide)) rfl (jda_cons (jdv 0) (jda_cons jde_int jda_nil))) (fun _ _ => rfl)))),?_⟩
    walk_at "go"
    refine ⟨_,64,rfl,by decide,Bd.num _ (by decide),by decide,fun q q0 q1 => ?_⟩
    walk_at "go"
    refine ixm q0 (by exact q1) fun d md => ?_
    simp only [List.mem_cons,List.not_mem_nil,or_false] at md
    rcases md with rfl | rfl | rfl | rfl | rfl | rfl | rfl | rfl | rfl | rfl
    all_goals exact hP _ rfl (by decide +kernel) rfl rfl rfl rfl
abbrev s__law_is_flat : Stmt := top 43
theorem sc__law_is_flat : FnScope ["_law_thing"] ["_law_thing"] (defScope s__law_is_flat) := ⟨rfl,rfl,rfl,by decide +kernel,rfl,by decide +kernel,by decide +kernel⟩
def S_lisflat : DSp := fun ds P _ => ∃ d,ds = [d] /\ tkD d = true /\ notOwn d = true /\ P (.bl (flatD d))
theorem ok__law_is_flat {P : Program}{w : World}{K : PySem.W.Frag}{mg : Str -> Option Value}{base : Heap}{f : Addr}{fd : FuncData}(F : Fun K "_law_is_flat" "_law_is_flat" s__law_is_flat f fd) (Z : Bi mg) {c : Cs} (Y : Ex K mg base c) : FnOk P w K mg base CX0 1 f fd ["_law_thing"] (liftSp K BT S_lisflat) := by
  refine F.okD sc__law_is_flat (fun ds PP Ed h => ?_) (fun cdv A outer s H E M bg ds PP Ed hr hS_ => ?_)
  · obtain ⟨d,rfl,hd,hno,hP⟩ := h
    rfl
  · obtain ⟨d,rfl,hd,hno,hP⟩ := hS_
    refine ⟨_,(jdss_cons (jds_if (jdt_or (jdt_not (jdt_truth (by rfl) (jde_callB (call_isinstA K (by rfl)) cd_isinst rfl Z.isinstance_ bt_isinstance (jda_cons (jdv 0) (jda_cons (jde_bltn rfl Z.tuple_ bt_tuple) jda_nil))) (fun _ => rfl))) (jdw_or1 (jdt_cmp op_ne od_neS (jde_callB (call_len_seqK K (by rfl)) cd_len rfl Z.len_ bt_len (jda_cons (jdv 0) jda_nil)) jde_int (nomark _)))) (jdss_one (jds_ret jde_bl)) jdss_nil)
      (jdss_cons (jds_if (jdt_not (jdt_truth (by rfl) (jde_callB (call_allL K (by rfl) (by rfl)) cd_bls rfl Z.all_ bt_all (jda_cons (jde_comp (X := (cxOf CX0 P w K mg base ["_law_thing"] "_law_is_flat" (defScope s__law_is_flat) f cdv A outer s H E).nox) (gd_name 0) (blkJ (X := (cxOf CX0 P w K mg base ["_law_thing"] "_law_is_flat" (defScope s__law_is_flat) f cdv A outer s H E).nox) (N' := ["_law_one"]) (map := [none]) (by rfl) (by rfl) (by decide +kernel) (by rfl) True.intro (gkeep_name rfl) fun cl0 C0 fp0 s0 H0 => ⟨(pg_name (X := (cxComp (cxOf CX0 P w K mg base ["_law_thing"] "_law_is_flat" (defScope s__law_is_flat) f cdv A outer s H E).nox ["_law_one"] _ cl0 C0 fp0 s0 H0)) (i := 0) (nodupS ["_law_one"] (by decide +kernel)) rfl (by walk_at "o")),jdif_nil,(jde_and (X := (cxComp (cxOf CX0 P w K mg base ["_law_thing"] "_law_is_flat" (defScope s__law_is_flat) f cdv A outer s H E).nox ["_law_one"] _ cl0 C0 fp0 s0 H0)) (jde_callB (call_isinstA K (by rfl)) cd_isinst rfl Z.isinstance_ bt_isinstance (jda_cons (jdv 0) (jda_cons (jde_bltn rfl Z.int_ bt_int) jda_nil))) (jde_one (jde_not (jde_callB (call_isinstA K (by rfl)) cd_isinst rfl Z.isinstance_ bt_isinstance (jda_cons (jdv 0) (jda_cons (jde_bltn rfl Z.bool_ bt_bool) jda_nil))))))⟩) (jdi_seq (by rfl) (jdv 0))) jda_nil)) (fun _ => rfl))) (jdss_one (jds_ret jde_bl)) jdss_nil)
      (jdss_one (jds_ret (jde_cmp (op_neG K (by rfl) hr.units) od_eqG (jde_slice (sl_any K (by rfl)) (jdv 0) jdo_none (jdo_some jde_int)) (jde_tup (jda_cons jde_int (jda_cons jde_int (jda_cons jde_int jda_nil)))) (nomark _)))))),?_⟩
    by_cases ht : ∃ xs,d = .tup xs
    · obtain ⟨xs,rfl⟩ := ht
      obtain ⟨hl,ha⟩ := (Bool.and_eq_true _ _).mp hd
      have hl := of_decide_eq_true hl
      walk_at "go"
      refine ⟨true,by rfl,?_⟩
      walk_at "go"
      walk_at "sp"
      · rename_i hn
        walk_at "go"
        rw [flat_wt (show wtD 4 (.tup xs) = false by show (decide (xs.length = 4) && xs.all whD) = false; rw [decide_eq_false (by omega)]; rfl)] at hP
        exact hP
      · rename_i hn
        walk_at "go"
        refine And.intro (by omega) ?_
        refine comp_map (fun x => .bl (whD x)) (fun x Q hx q => ?_) (fun _ _ => rfl) ?_
        · have := List.all_eq_true.mp ha x hx
          obtain ⟨t1,t2⟩ := (Bool.and_eq_true _ _).mp this
          clear hx
          cases x <;> (try (simp [tyName] at t1; done)) <;> (try (simp [notOwn] at t2; done))
          all_goals first
            | (walk_at "go"; refine ⟨false,by rfl,?_⟩; walk_at "go"; exact q)
            | (walk_at "go"; refine ⟨true,by rfl,?_⟩; walk_at "go"; refine ⟨true,by rfl,?_⟩; walk_at "go"; exact q)
            | (walk_at "go"; refine ⟨true,by rfl,?_⟩; walk_at "go"; refine ⟨false,by rfl,?_⟩; walk_at "go"; exact q)
        · have eb : blsOf (xs.map fun x => D.bl (whD x)) = some (xs.map whD) := by
            have := blsOf_map (xs.map whD)
            rw [List.map_map] at this
            exact this
          walk_at "go"
          rw [eb]
          walk_at "go"
          have n4 : xs.length = 4 := by omega
          cases hw : wtD 4 (.tup xs)
          · have hw2 : ((xs.map whD).all id) = false := by
              have : (decide (xs.length = 4) && xs.all whD) = false := hw
              rw [decide_eq_true n4,Bool.true_and] at this
              rw [List.all_map]
              exact this
            rw [flat_wt hw] at hP
            refine IfP.t (by show (!((xs.map whD).all id)) = true; rw [hw2]; rfl) ?_
            walk_at "go"
            exact hP
          · have hw2 : ((xs.map whD).all id) = true := by
              have : (decide (xs.length = 4) && xs.all whD) = true := hw
              rw [decide_eq_true n4,Bool.true_and] at this
              rw [List.all_map]
              exact this
            refine IfP.f (by show (!((xs.map whD).all id)) = false; rw [hw2]; rfl) ?_
            obtain ⟨x,y,z,w',e⟩ := wt4 hw
            cases e
            walk_at "go"
            repeat (refine And.intro (by intro h; simp [HT.sIx] at h; done) ?_; walk_at "go")
            refine ⟨.tuple [.int x,.int y,.int z],.tuple [.int 0,.int 0,.int 0],rfl,rfl,Nat.le_trans (Nat.min_le_right _ _) (by decide),?_⟩
            have e : PyData.eqv (.tuple [.int x,.int y,.int z]) (.tuple [.int 0,.int 0,.int 0]) = !flatD (sp4 x y z w') := by
              by_cases h1 : x = 0 <;> by_cases h2 : y = 0 <;> by_cases h3 : z = 0 <;> simp [PyData.eqv,PyData.eqvAll,flatD,flatR,h1,h2,h3]
            rw [e]
            cases hl : flatD (sp4 x y z w') <;> rw [hl] at hP <;> exact hP
    · have ew : flatD d = false := by
        unfold flatD
        split
        · exact absurd ⟨_,rfl⟩ ht
        · rfl
      rw [ew] at hP
      cases d <;> (try (exact absurd ⟨_,rfl⟩ ht)) <;> (try (simp [tkD,tyName,notOwn] at hd; done))
      all_goals
        walk_at "go"
        refine ⟨false,by rfl,?_⟩
        walk_at "go"
        exact hP
abbrev s__law_spoilt : Stmt := top 44
theorem sc__law_spoilt : FnScope ["_law_bag_here","_law_flat","_law_at","_law_way"] ["_law_bag_here","_law_flat"] (defScope s__law_spoilt) := ⟨rfl,rfl,rfl,by decide +kernel,rfl,by decide +kernel,by decide +kernel⟩
theorem flat_odd {a b c e : D}(h : whD a = false \/ whD b = false \/ whD c = false \/ whD e = false) : flatD (.tup [a,b,c,e]) = false := flat_wt (by
  show (decide (4 = 4) && (whD a && (whD b && (whD c && (whD e && true))))) = false
  rcases h with h | h | h | h <;> rw [h] <;> simp)
def S_spoilt : DSp := fun ds P _ => ∃ r : R4,ds = [.bag,r.d] /\ ∀ d : D,tkD d = true -> notOwn d = true -> plain d = true -> flatD d = false -> P d
structure C__law_spoilt (P : Program)(w : World)(K : PySem.W.Frag)(mg : Str -> Option Value)(base : Heap)(c : Cs) : Prop where
  _law_digit_ : Callee P w K mg base CX0 "_law_digit" 1 ["_law_bag_here","_law_many"] (liftSp K BT S_digit)
  _law_odd_ : Callee P w K mg base CX0 "_law_odd" 2 ["_law_bag_here"] (liftSp K BT S_odd)
theorem ok__law_spoilt {P : Program}{w : World}{K : PySem.W.Frag}{mg : Str -> Option Value}{base : Heap}{f : Addr}{fd : FuncData}(F : Fun K "_law_spoilt" "_law_spoilt" s__law_spoilt f fd) (Z : Bi mg) {c : Cs} (Y : Ex K mg base c) (G : C__law_spoilt P w K mg base c) : FnOk P w K mg base CX0 3 f fd ["_law_bag_here","_law_flat"] (liftSp K BT S_spoilt) := by
  refine F.okD sc__law_spoilt (fun ds PP Ed h => ?_) (fun cdv A outer s H E M bg ds PP Ed hr hS_ => ?_)
  · obtain ⟨r,rfl,hP⟩ := h
    rfl
  · obtain ⟨r,rfl,hP⟩ := hS_
    refine ⟨_,(jdss_cons (jds_set (i := 2) sc__law_spoilt.nd rfl (by walk_at "o") (jde_own G._law_digit_ (hr.mono (by decide)) rfl (jda_cons (jdv 0) (jda_cons jde_int jda_nil))))
      (jdss_cons (jds_set (i := 3) sc__law_spoilt.nd rfl (by walk_at "o") (jde_own G._law_digit_ (hr.mono (by decide)) rfl (jda_cons (jdv 0) (jda_cons jde_int jda_nil))))
      (jdss_cons (jds_if (jdt_cmp op_eq od_eqS (jdv 3) jde_int (nomark _)) (jdss_one (jds_ret (jde_own G._law_odd_ (hr.mono (by decide)) rfl (jda_cons (jdv 0) jda_nil)))) jdss_nil)
      (jdss_cons (jds_if (jdt_cmp op_eq od_eqS (jdv 3) jde_int (nomark _)) (jdss_one (jds_ret (jde_op (op_catTA K (by rfl)) od_catTA (jde_sliceA (sl_tupA K (by rfl)) (jdv 1) jdo_none (jdo_some (jdv 2))) (jde_sliceA (sl_tupA K (by rfl)) (jdv 1) (jdo_some (jde_op op_add od_I0 (jdv 2) jde_int)) jdo_none)))) jdss_nil)
      (jdss_cons (jds_if (jdt_cmp op_eq od_eqS (jdv 3) jde_int (nomark _)) (jdss_one (jds_ret (jde_op (op_catTA K (by rfl)) od_catTA (jde_op (op_catTA K (by rfl)) od_catTA (jde_sliceA (sl_tupA K (by rfl)) (jdv 1) jdo_none (jdo_some (jdv 2))) (jde_tup (jda_cons jde_int jda_nil))) (jde_sliceA (sl_tupA K (by rfl)) (jdv 1) (jdo_some (jdv 2)) jdo_none)))) jdss_nil)
      (jdss_cons (jds_if (jdt_cmp op_eq od_eqS (jdv 3) jde_int (nomark _)) (jdss_one (jds_ret (jde_ix (ix_any K (by rfl)) od_ix (jde_lst (jda_cons (jde_callTy (call_list_ofK K (by rfl)) cd_list rfl Z.list_ bt_list (jda_cons (jdv 1) jda_nil)) (jda_cons (jde_tup (jda_cons jde_int (jda_cons jde_int (jda_cons jde_int (jda_cons (jde_ix (ix_any K (by rfl)) od_ix (jdv 1) jde_int (fun _ _ => rfl)) jda_nil))))) (jda_cons (jde_tup (jda_cons jde_int (jda_cons jde_int (jda_cons jde_int (jda_cons jde_int jda_nil))))) (jda_cons (jde_tup (jda_cons (jdv 1) jda_nil)) jda_nil))))) (jde_own G._law_digit_ (hr.mono (by decide)) rfl (jda_cons (jdv 0) (jda_cons jde_int jda_nil))) (fun _ _ => rfl)))) jdss_nil)
      (jdss_one (jds_ret (jde_op (op_catTA K (by rfl)) od_catTA (jde_op (op_catTA K (by rfl)) od_catTA (jde_sliceA (sl_tupA K (by rfl)) (jdv 1) jdo_none (jdo_some (jdv 2))) (jde_tup (jda_cons (jde_own G._law_odd_ (hr.mono (by decide)) rfl (jda_cons (jdv 0) jda_nil)) jda_nil))) (jde_sliceA (sl_tupA K (by rfl)) (jdv 1) (jdo_some (jde_op op_add od_I0 (jdv 2) jde_int)) jdo_none)))))))))),?_⟩
    walk_at "go"
    refine ⟨_,64,rfl,by decide,Bd.num _ (by decide),by decide,fun at1 at10 at11 => ?_⟩
    walk_at "go"
    refine ⟨_,64,rfl,by decide,Bd.num _ (by decide),by decide,fun way way0 way1 => ?_⟩
    obtain rfl | rfl | rfl | rfl | rfl | rfl : way = 0 \/ way = 1 \/ way = 2 \/ way = 3 \/ way = 4 \/ way = 5 := by omega
    · walk_at "go"
      intro d t k1 k2 k3 k4 k5
      have hr := hP d k1 k2 k3 k5
      cases d <;> first | exact hr | cases k3
    · obtain rfl | rfl | rfl | rfl : at1 = 0 \/ at1 = 1 \/ at1 = 2 \/ at1 = 3 := by omega
      all_goals
        walk_at "go"
        exact hP (.tup [_,_,_]) rfl rfl rfl rfl
    · obtain rfl | rfl | rfl | rfl : at1 = 0 \/ at1 = 1 \/ at1 = 2 \/ at1 = 3 := by omega
      all_goals
        walk_at "go"
        exact hP (.tup [_,_,_,_,_]) rfl rfl rfl rfl
    · walk_at "go"
      refine ⟨_,64,rfl,by decide,Bd.num _ (by decide),by decide,fun q q0 q1 => ?_⟩
      walk_at "go"
      refine ixm q0 (by exact q1) fun d md => ?_
      simp only [List.mem_cons,List.not_mem_nil,or_false] at md
      rcases md with rfl | rfl | rfl | rfl
      · exact hP (.lst _) rfl rfl rfl rfl
      · exact hP (.tup [_,_,_,_]) rfl rfl rfl rfl
      · exact hP _ rfl rfl rfl rfl
      · exact hP (.tup [_]) rfl rfl rfl rfl
    · obtain rfl | rfl | rfl | rfl : at1 = 0 \/ at1 = 1 \/ at1 = 2 \/ at1 = 3 := by omega
      · walk_at "go"
        intro d t k1 k2 k3 k4 k5
        walk_at "go"
        refine And.intro (by unfold okIt; simp [k3]) ?_
        walk_at "go"
        exact hP (.tup [d,_,_,_]) (by show (true && (((tyName d).isSome && notOwn d) && (true && (true && (true && true))))) = true; rw [t,k2]; rfl) rfl rfl (flat_odd (.inl k4))
      · walk_at "go"
        intro d t k1 k2 k3 k4 k5
        walk_at "go"
        refine And.intro (by unfold okIt; simp [k3]) ?_
        walk_at "go"
        exact hP (.tup [_,d,_,_]) (by show (true && (true && (((tyName d).isSome && notOwn d) && (true && (true && true))))) = true; rw [t,k2]; rfl) rfl rfl (flat_odd (.inr (.inl k4)))
      · walk_at "go"
        intro d t k1 k2 k3 k4 k5
        walk_at "go"
        refine And.intro (by unfold okIt; simp [k3]) ?_
        walk_at "go"
        exact hP (.tup [_,_,d,_]) (by show (true && (true && (true && (((tyName d).isSome && notOwn d) && (true && true))))) = true; rw [t,k2]; rfl) rfl rfl (flat_odd (.inr (.inr (.inl k4))))
      · walk_at "go"
        intro d t k1 k2 k3 k4 k5
        walk_at "go"
        refine And.intro (by unfold okIt; simp [k3]) ?_
        walk_at "go"
        exact hP (.tup [_,_,_,d]) (by show (true && (true && (true && (true && (((tyName d).isSome && notOwn d) && true))))) = true; rw [t,k2]; rfl) rfl rfl (flat_odd (.inr (.inr (.inr k4))))
    · obtain rfl | rfl | rfl | rfl : at1 = 0 \/ at1 = 1 \/ at1 = 2 \/ at1 = 3 := by omega
      · walk_at "go"
        intro d t k1 k2 k3 k4 k5
        walk_at "go"
        refine And.intro (by unfold okIt; simp [k3]) ?_
        walk_at "go"
        exact hP (.tup [d,_,_,_]) (by show (true && (((tyName d).isSome && notOwn d) && (true && (true && (true && true))))) = true; rw [t,k2]; rfl) rfl rfl (flat_odd (.inl k4))
      · walk_at "go"
        intro d t k1 k2 k3 k4 k5
        walk_at "go"
        refine And.intro (by unfold okIt; simp [k3]) ?_
        walk_at "go"
        exact hP (.tup [_,d,_,_]) (by show (true && (true && (((tyName d).isSome && notOwn d) && (true && (true && true))))) = true; rw [t,k2]; rfl) rfl rfl (flat_odd (.inr (.inl k4)))
      · walk_at "go"
        intro d t k1 k2 k3 k4 k5
        walk_at "go"
        refine And.intro (by unfold okIt; simp [k3]) ?_
        walk_at "go"
        exact hP (.tup [_,_,d,_]) (by show (true && (true && (true && (((tyName d).isSome && notOwn d) && (true && true))))) = true; rw [t,k2]; rfl) rfl rfl (flat_odd (.inr (.inr (.inl k4))))
      · walk_at "go"
        intro d t k1 k2 k3 k4 k5
        walk_at "go"
        refine And.intro (by unfold okIt; simp [k3]) ?_
        walk_at "go"
        exact hP (.tup [_,_,_,d]) (by show (true && (true && (true && (true && (((tyName d).isSome && notOwn d) && true))))) = true; rw [t,k2]; rfl) rfl rfl (flat_odd (.inr (.inr (.inr k4))))
theorem BT_lst : BagLst BT := fun p H ⟨f,m,q,e,_⟩ => ⟨_,e⟩
abbrev s__law_refused : Stmt := top 45
theorem sc__law_refused : FnScope ["_law_deed","_law_e"] ["_law_deed"] (defScope s__law_refused) := ⟨rfl,rfl,rfl,by decide +kernel,rfl,by decide +kernel,by decide +kernel⟩
structure C__law_refused (P : Program)(w : World)(K : PySem.W.Frag)(mg : Str -> Option Value)(base : Heap)(c : Cs) : Prop where
  _law_is_ : CalleeM P w K mg base "_law_is" 1 ["_law_e","_law_due"] (sp_is c)
theorem ref_ok {St0 : List D -> Prop}{P : Program}{w : World}{K : PySem.W.Frag}{mg : Str -> Option Value}{base : Heap}{f fa c' : Addr}{oc : Obj}{us : List V}{fd : FuncData}(F : Fun K "_law_refused" "_law_refused" s__law_refused f fd) (Z : Bi mg) {c : Cs} (Y : Ex K mg base c) (G : C__law_refused P w K mg base c) (L : LamOk P w K mg base (CX1 P w base) 9 fa c' oc (lamSp K BT (fun ds R Ed => St0 ds /\ Ed c.NoFlat) us)) :
    FnOk P w K mg base CX0 11 f fd ["_law_deed"] (spT K BT fa us c' oc fun ds PP => St0 ds /\ PP (.bl true)) := by
  refine F.okT sc__law_refused (fun cdv A outer s H E M bg ds PP hr hH hbc hS_ => ?_)
  obtain ⟨h0,hP⟩ := hS_
  refine ⟨_,(jdss_cons (jds_try (fun C => C = c.NoFlat) (hd := fun C F => C = c.NoFlat /\ F.rt (.bl true)) (by
      intro C x H' E F pn l hd k o hx
      obtain ⟨rfl,hd⟩ := hd
      refine ⟨Y.s_NoFlat,?_⟩
      walk_at "rd"
      refine ⟨upd_same,fun H2 S2 => ?_⟩
      exact l.rt (.bl true) (.bl true) H2 hd rfl (Kp.trans k (Kp.same ((Same.upd hx).trans S2))) (okB.same o ((Same.upd hx).trans S2))) (ps_try (i := 1) K (by rfl) (by rfl) (by rfl) rfl Y.g_ShadeError Y.sh sc__law_refused.nd rfl rfl (fun xe pn E1 hp => PSs.withE fun hE1 => JSs.h (jdss_one (jds_thunk (i := 0) hE1 L (hr.mono (by decide)) hp hH hbc rfl))) (fun y => (pss_one (ps_ret (pe_ownM (by exact rfl) G._law_is_ ((hr.mono (by decide)).mark _) rfl (pa_cons (pv 1) (pa_cons pe_str pa_nil))))))))
      (jdss_one (jds_ret jde_bl))),?_⟩
  refine ⟨⟨ds,rfl,h0,rfl⟩,fun C e => ⟨e,hP⟩⟩
abbrev s_law : Stmt := top 46
theorem sc_law : FnScope ["_law_script","_law_k","_law_bag_here","_law_flat","_law_face","_law_step","_law_thing","_law_found"] ["_law_script"] (defScope s_law) := ⟨rfl,rfl,rfl,by decide +kernel,rfl,by decide +kernel,by decide +kernel⟩
def L0 : Expr := argX (notX (tstX (atS (inIf (atS (inFor (atS (inFor (atS (defBody s_law) 0)) 3)) 1)) 0)))
def St_w : List D -> Prop := fun ds => ∃ (u : F3) (d : D),ds = [d,u.d] /\ tkD d = true /\ notOwn d = true /\ plain d = true /\ flatD d = false
theorem lamok0 {P : Program}{w : World}{K : PySem.W.Frag}{mg : Str -> Option Value}{base : Heap}{c : Cs}(Y : Ex K mg base c)(Z : Bi mg)(G : Callee P w K mg base (CX1 P w base) "worth" 5 ["flat","spot"] (liftSp K BT (S_worth c))) {f c' : Addr} {oc : Obj} {pm ctv : Value} {cl : List (Str × Addr)} {us : List V} (hx : cl.map (·.1) = (["_law_thing","_law_face"] : List Str)) (hf : base.get? f = some (PySem.W.kla_obj "<lambda>" "law.<locals>.<lambda>" (lamP L0) (lamB L0) (lamS L0) cl pm c' ctv)) (hc : CellsAt base cl us) (hi : ∀ x y c,cl.lookup x = some c -> cl.lookup y = some c -> x = y) (hrec : RecO "law.<locals>.<lambda>" oc) :
    LamOk P w K mg base (CX1 P w base) 9 f c' oc (lamSp K BT (fun ds R Ed => St_w ds /\ Ed c.NoFlat) us) := by
  refine lam_okD (lamScope_mk hx rfl rfl rfl (by decide +kernel) (by decide +kernel) (by decide +kernel) hi) (by rw [hx]; decide +kernel) hf hrec hc rfl fun A outer s H E M b ds R Ed hr hE hS => ?_
  rw [hx]
  obtain ⟨⟨u,d,rfl,hd,hno,hpl,hf⟩,hEd⟩ := hS
  refine ⟨_,(jde_ownX hE xe_passL G (hr.mono (by decide)) rfl (jda_cons (jdv 0) (jda_cons (jde_ix (ix_any K (by rfl)) od_ix (jdv 1) jde_int (fun _ _ => rfl)) jda_nil))),?_⟩
  walk_at "go"
  exact ⟨by show (notOwn d && (notOwn u.a.d && true)) = true; rw [hno]; rfl,d,u.a,0,rfl,hd,hno,fun _ => hEd,fun z => by rw [hf] at z; cases z⟩
theorem refc0 {P : Program}{w : World}{K : PySem.W.Frag}{mg : Str -> Option Value}{c : Cs}{fr : Addr}{fd : FuncData}(F : Fun K "_law_refused" "_law_refused" s__law_refused fr fd) (Z : Bi mg) (hm : mg "_law_refused" = some (.ref fr)) (hb : Binds K fd ["_law_deed"] []) (Y : ∀ base : Heap,K.In base -> base.Ns mainGlobals mg -> Ex K mg base c) (G : ∀ base : Heap,K.In base -> base.Ns mainGlobals mg -> C__law_refused P w K mg base c) (GL : ∀ base : Heap,K.In base -> base.Ns mainGlobals mg -> Callee P w K mg base (CX1 P w base) "worth" 5 ["flat","spot"] (liftSp K BT (S_worth c))) :
    RefC P w K mg BT "_law_refused" 11 "_law_deed" "law.<locals>.<lambda>" (lamP L0) (lamB L0) (lamS L0) (fun ds PP => St_w ds /\ PP (.bl true)) ["_law_thing","_law_face"] :=
  ⟨fr,fd,hm,F.kp,hb,fun base f c' oc pm ctv cl us kb gb hx hf hc hi hrec => ref_ok F Z (Y base kb gb) (G base kb gb) (lamok0 (Y base kb gb) Z (GL base kb gb) hx hf hc hi hrec)⟩
def L1 : Expr := argX (notX (tstX (atS (inIf (atS (inFor (atS (inFor (atS (defBody s_law) 0)) 3)) 1)) 1)))
def St_c : List D -> Prop := fun ds => ∃ (u : F3) (d : D),ds = [d,u.d] /\ tkD d = true /\ notOwn d = true /\ plain d = true /\ flatD d = false
theorem lamok1 {P : Program}{w : World}{K : PySem.W.Frag}{mg : Str -> Option Value}{base : Heap}{c : Cs}(Y : Ex K mg base c)(Z : Bi mg)(G : Callee P w K mg base (CX1 P w base) "cut" 7 ["face","flat"] (liftSp K BT (S_cutX c))) {f c' : Addr} {oc : Obj} {pm ctv : Value} {cl : List (Str × Addr)} {us : List V} (hx : cl.map (·.1) = (["_law_thing","_law_face"] : List Str)) (hf : base.get? f = some (PySem.W.kla_obj "<lambda>" "law.<locals>.<lambda>" (lamP L1) (lamB L1) (lamS L1) cl pm c' ctv)) (hc : CellsAt base cl us) (hi : ∀ x y c,cl.lookup x = some c -> cl.lookup y = some c -> x = y) (hrec : RecO "law.<locals>.<lambda>" oc) :
    LamOk P w K mg base (CX1 P w base) 9 f c' oc (lamSp K BT (fun ds R Ed => St_c ds /\ Ed c.NoFlat) us) := by
  refine lam_okD (lamScope_mk hx rfl rfl rfl (by decide +kernel) (by decide +kernel) (by decide +kernel) hi) (by rw [hx]; decide +kernel) hf hrec hc rfl fun A outer s H E M b ds R Ed hr hE hS => ?_
  rw [hx]
  obtain ⟨⟨u,d,rfl,hd,hno,hpl,hf⟩,hEd⟩ := hS
  refine ⟨_,(jde_ownX hE xe_passL G (hr.mono (by decide)) rfl (jda_cons (jdv 1) (jda_cons (jdv 0) jda_nil))),?_⟩
  walk_at "go"
  exact ⟨by show (notOwn u.d && (notOwn d && true)) = true; rw [hno]; rfl,u,d,rfl,hd,hno,hpl,hf,hEd⟩
theorem refc1 {P : Program}{w : World}{K : PySem.W.Frag}{mg : Str -> Option Value}{c : Cs}{fr : Addr}{fd : FuncData}(F : Fun K "_law_refused" "_law_refused" s__law_refused fr fd) (Z : Bi mg) (hm : mg "_law_refused" = some (.ref fr)) (hb : Binds K fd ["_law_deed"] []) (Y : ∀ base : Heap,K.In base -> base.Ns mainGlobals mg -> Ex K mg base c) (G : ∀ base : Heap,K.In base -> base.Ns mainGlobals mg -> C__law_refused P w K mg base c) (GL : ∀ base : Heap,K.In base -> base.Ns mainGlobals mg -> Callee P w K mg base (CX1 P w base) "cut" 7 ["face","flat"] (liftSp K BT (S_cutX c))) :
    RefC P w K mg BT "_law_refused" 11 "_law_deed" "law.<locals>.<lambda>" (lamP L1) (lamB L1) (lamS L1) (fun ds PP => St_c ds /\ PP (.bl true)) ["_law_thing","_law_face"] :=
  ⟨fr,fd,hm,F.kp,hb,fun base f c' oc pm ctv cl us kb gb hx hf hc hi hrec => ref_ok F Z (Y base kb gb) (G base kb gb) (lamok1 (Y base kb gb) Z (GL base kb gb) hx hf hc hi hrec)⟩
def L2 : Expr := argX (notX (tstX (atS (inIf (atS (inFor (atS (inFor (atS (defBody s_law) 0)) 3)) 1)) 2)))
def St_a : List D -> Prop := fun ds => ∃ d : D,ds = [d] /\ tkD d = true /\ notOwn d = true /\ plain d = true /\ flatD d = false
theorem lamok2 {P : Program}{w : World}{K : PySem.W.Frag}{mg : Str -> Option Value}{base : Heap}{c : Cs}(Y : Ex K mg base c)(Z : Bi mg)(G : Callee P w K mg base (CX1 P w base) "cut_all" 5 ["faces","flat"] (liftSp K BT (S_cutaX c))) {f c' : Addr} {oc : Obj} {pm ctv : Value} {cl : List (Str × Addr)} {us : List V} (hx : cl.map (·.1) = (["_law_thing"] : List Str)) (hf : base.get? f = some (PySem.W.kla_obj "<lambda>" "law.<locals>.<lambda>" (lamP L2) (lamB L2) (lamS L2) cl pm c' ctv)) (hc : CellsAt base cl us) (hi : ∀ x y c,cl.lookup x = some c -> cl.lookup y = some c -> x = y) (hrec : RecO "law.<locals>.<lambda>" oc) :
    LamOk P w K mg base (CX1 P w base) 9 f c' oc (lamSp K BT (fun ds R Ed => St_a ds /\ Ed c.NoFlat) us) := by
  refine lam_okD (lamScope_mk hx rfl rfl rfl (by decide +kernel) (by decide +kernel) (by decide +kernel) hi) (by rw [hx]; decide +kernel) hf hrec hc rfl fun A outer s H E M b ds R Ed hr hE hS => ?_
  rw [hx]
  obtain ⟨⟨d,rfl,hd,hno,hpl,hf⟩,hEd⟩ := hS
  refine ⟨_,(jde_ownX hE xe_passL G (hr.mono (by decide)) rfl (jda_cons (jde_lst jda_nil) (jda_cons (jdv 0) jda_nil))),?_⟩
  walk_at "go"
  exact ⟨by show (true && (notOwn d && true)) = true; rw [hno]; rfl,_,d,rfl,hd,hno,hpl,hf,hEd⟩
theorem refc2 {P : Program}{w : World}{K : PySem.W.Frag}{mg : Str -> Option Value}{c : Cs}{fr : Addr}{fd : FuncData}(F : Fun K "_law_refused" "_law_refused" s__law_refused fr fd) (Z : Bi mg) (hm : mg "_law_refused" = some (.ref fr)) (hb : Binds K fd ["_law_deed"] []) (Y : ∀ base : Heap,K.In base -> base.Ns mainGlobals mg -> Ex K mg base c) (G : ∀ base : Heap,K.In base -> base.Ns mainGlobals mg -> C__law_refused P w K mg base c) (GL : ∀ base : Heap,K.In base -> base.Ns mainGlobals mg -> Callee P w K mg base (CX1 P w base) "cut_all" 5 ["faces","flat"] (liftSp K BT (S_cutaX c))) :
    RefC P w K mg BT "_law_refused" 11 "_law_deed" "law.<locals>.<lambda>" (lamP L2) (lamB L2) (lamS L2) (fun ds PP => St_a ds /\ PP (.bl true)) ["_law_thing"] :=
  ⟨fr,fd,hm,F.kp,hb,fun base f c' oc pm ctv cl us kb gb hx hf hc hi hrec => ref_ok F Z (Y base kb gb) (G base kb gb) (lamok2 (Y base kb gb) Z (GL base kb gb) hx hf hc hi hrec)⟩
def L3 : Expr := argX (notX (tstX (atS (inIf (atS (inFor (atS (inFor (atS (defBody s_law) 0)) 3)) 1)) 3)))
def St_b : List D -> Prop := fun ds => ∃ (u : F3) (d : D),ds = [d,u.d] /\ tkD d = true /\ notOwn d = true /\ plain d = true /\ flatD d = false
theorem lamok3 {P : Program}{w : World}{K : PySem.W.Frag}{mg : Str -> Option Value}{base : Heap}{c : Cs}(Y : Ex K mg base c)(Z : Bi mg)(G : Callee P w K mg base (CX1 P w base) "cut_all" 5 ["faces","flat"] (liftSp K BT (S_cutaX c))) {f c' : Addr} {oc : Obj} {pm ctv : Value} {cl : List (Str × Addr)} {us : List V} (hx : cl.map (·.1) = (["_law_thing","_law_face"] : List Str)) (hf : base.get? f = some (PySem.W.kla_obj "<lambda>" "law.<locals>.<lambda>" (lamP L3) (lamB L3) (lamS L3) cl pm c' ctv)) (hc : CellsAt base cl us) (hi : ∀ x y c,cl.lookup x = some c -> cl.lookup y = some c -> x = y) (hrec : RecO "law.<locals>.<lambda>" oc) :
    LamOk P w K mg base (CX1 P w base) 9 f c' oc (lamSp K BT (fun ds R Ed => St_b ds /\ Ed c.NoFlat) us) := by
  refine lam_okD (lamScope_mk hx rfl rfl rfl (by decide +kernel) (by decide +kernel) (by decide +kernel) hi) (by rw [hx]; decide +kernel) hf hrec hc rfl fun A outer s H E M b ds R Ed hr hE hS => ?_
  rw [hx]
  obtain ⟨⟨u,d,rfl,hd,hno,hpl,hf⟩,hEd⟩ := hS
  refine ⟨_,(jde_ownX hE xe_passL G (hr.mono (by decide)) rfl (jda_cons (jde_lst (jda_cons (jdv 1) jda_nil)) (jda_cons (jdv 0) jda_nil))),?_⟩
  walk_at "go"
  exact ⟨by show (true && (notOwn d && true)) = true; rw [hno]; rfl,_,d,rfl,hd,hno,hpl,hf,hEd⟩
theorem refc3 {P : Program}{w : World}{K : PySem.W.Frag}{mg : Str -> Option Value}{c : Cs}{fr : Addr}{fd : FuncData}(F : Fun K "_law_refused" "_law_refused" s__law_refused fr fd) (Z : Bi mg) (hm : mg "_law_refused" = some (.ref fr)) (hb : Binds K fd ["_law_deed"] []) (Y : ∀ base : Heap,K.In base -> base.Ns mainGlobals mg -> Ex K mg base c) (G : ∀ base : Heap,K.In base -> base.Ns mainGlobals mg -> C__law_refused P w K mg base c) (GL : ∀ base : Heap,K.In base -> base.Ns mainGlobals mg -> Callee P w K mg base (CX1 P w base) "cut_all" 5 ["faces","flat"] (liftSp K BT (S_cutaX c))) :
    RefC P w K mg BT "_law_refused" 11 "_law_deed" "law.<locals>.<lambda>" (lamP L3) (lamB L3) (lamS L3) (fun ds PP => St_b ds /\ PP (.bl true)) ["_law_thing","_law_face"] :=
  ⟨fr,fd,hm,F.kp,hb,fun base f c' oc pm ctv cl us kb gb hx hf hc hi hrec => ref_ok F Z (Y base kb gb) (G base kb gb) (lamok3 (Y base kb gb) Z (GL base kb gb) hx hf hc hi hrec)⟩
structure C_law (P : Program)(w : World)(K : PySem.W.Frag)(mg : Str -> Option Value)(base : Heap)(tb : List (Addr × Str))(c : Cs) : Prop where
  _law_bag_ : Callee P w K mg base CX0 "_law_bag" 1 ["_law_script","_law_at"] (bagSp K BT pre_bag)
  _law_drawn_flat_ : Callee P w K mg base CX0 "_law_drawn_flat" 3 ["_law_bag_here","_law_most"] (liftSp K BT S_dflat)
  _law_drawn_face_ : Callee P w K mg base CX0 "_law_drawn_face" 4 ["_law_bag_here","_law_most"] (liftSp K BT S_dface)
  _law_spoilt_ : Callee P w K mg base CX0 "_law_spoilt" 3 ["_law_bag_here","_law_flat"] (liftSp K BT S_spoilt)
  worth_ : Callee P w K mg base (CX1 P w base) "worth" 5 ["flat","spot"] (liftSp K BT (S_worth c))
  _law_is_flat_ : Callee P w K mg base CX0 "_law_is_flat" 1 ["_law_thing"] (liftSp K BT S_lisflat)
  _law_worth_ : Callee P w K mg base CX0 "_law_worth" 1 ["_law_flat","_law_place"] (liftSp K BT S_lworth)
  cut_ : Callee P w K mg base (CX1 P w base) "cut" 7 ["face","flat"] (liftSp K BT (S_cutX c))
  cut_all_ : Callee P w K mg base (CX1 P w base) "cut_all" 5 ["faces","flat"] (liftSp K BT (S_cutaX c))
theorem ok_law {P : Program}{w : World}{K : PySem.W.Frag}{mg : Str -> Option Value}{base : Heap}{f cc PT : Addr}{fd : FuncData}{tb : List (Addr × Str)}(F : FunC K "law" "law" s_law f fd cc) (Z : Bi mg) {c : Cs} (Y : Ex K mg base c) (G : C_law P w K mg base tb c) (hC : PySem.W.CodeHd base cc PT) (hM : BM mg base) (hmem : (PT,("law.<locals>.<lambda>" : Str)) ∈ tb) (R0 : RefC P w K mg BT "_law_refused" 11 "_law_deed" "law.<locals>.<lambda>" (lamP L0) (lamB L0) (lamS L0) (fun ds PP => St_w ds /\ PP (.bl true)) ["_law_thing","_law_face"]) (R1 : RefC P w K mg BT "_law_refused" 11 "_law_deed" "law.<locals>.<lambda>" (lamP L1) (lamB L1) (lamS L1) (fun ds PP => St_c ds /\ PP (.bl true)) ["_law_thing","_law_face"]) (R2 : RefC P w K mg BT "_law_refused" 11 "_law_deed" "law.<locals>.<lambda>" (lamP L2) (lamB L2) (lamS L2) (fun ds PP => St_a ds /\ PP (.bl true)) ["_law_thing"]) (R3 : RefC P w K mg BT "_law_refused" 11 "_law_deed" "law.<locals>.<lambda>" (lamP L3) (lamB L3) (lamS L3) (fun ds PP => St_b ds /\ PP (.bl true)) ["_law_thing","_law_face"]) : FnOk P w K mg base CX0 12 f fd ["_law_script"] (lawSpT K tb) := by
  refine F.okLT BT sc_law (fun A outer s H E ns hr hTb hlen => ?_)
  · have hnb : (none : Option Addr) ≠ some PT := fun z => nomatch z
    refine ⟨_,(jdss_cons (jds_for (gd_name 1) PassesOwn.never rfl (jdi_range1 rfl Z.range_ (jda_cons (jde_callB (call_max2 (by rfl)) cd_2I rfl Z.max_ bt_max (jda_cons jde_int (jda_cons (jde_callB (call_min2 (by rfl)) cd_2I rfl Z.min_ bt_min (jda_cons (jde_callB (call_len_seqK K (by rfl)) cd_len rfl Z.len_ bt_len (jda_cons (jdv 0) jda_nil)) (jda_cons jde_int jda_nil))) jda_nil))) jda_nil)) (pg_name (i := 1) sc_law.nd rfl (by walk_at "o")) (jdss_cons (jds_bag (i := 2) rfl sc_law.nd rfl (by walk_at "o") G._law_bag_ (hr.mono (by decide)) rfl (jda_cons (jdv 0) (jda_cons (jdv 1) jda_nil)))
      (jdss_cons (jds_set (i := 3) sc_law.nd rfl (by walk_at "o") (jde_own G._law_drawn_flat_ (hr.mono (by decide)) rfl (jda_cons (jdv 2) (jda_cons jde_int jda_nil))))
      (jdss_cons (jds_set (i := 4) sc_law.nd rfl (by walk_at "o") (jde_own G._law_drawn_face_ (hr.mono (by decide)) rfl (jda_cons (jdv 2) (jda_cons jde_int jda_nil))))
      (jdss_one (jds_for (gd_name 5) PassesOwn.never rfl (jdi_range1 rfl Z.range_ (jda_cons jde_int jda_nil)) (pg_name (i := 5) sc_law.nd rfl (by walk_at "o")) (jdss_cons (jds_set (i := 6) sc_law.nd rfl (by walk_at "o") (jde_own G._law_spoilt_ (hr.mono (by decide)) rfl (jda_cons (jdv 2) (jda_cons (jdv 3) jda_nil))))
      (jdss_cons (jds_if (jdt_not (jdt_truth (by rfl) (jde_own G._law_is_flat_ (hr.mono (by decide)) rfl (jda_cons (jdv 6) jda_nil)) (fun _ => rfl))) (jdss_cons (jds_if (jdt_not (jdt_truth (by rfl) (jde_lamR (js := [6,4]) (R0) (hr.mono (by decide)) rfl BT_lst (hTb _ hmem) hnb hC hM rfl rfl ⟨_,_,_,rfl,rfl,rfl,rfl,⟨_,_,_,rfl,rfl,rfl,rfl,rfl⟩⟩ rfl rfl rfl (fun _ => rfl) rfl) (fun _ => rfl))) (jdss_one (jds_ret jde_bl)) jdss_nil)
      (jdss_cons (jds_if (jdt_not (jdt_truth (by rfl) (jde_lamR (js := [6,4]) (R1) (hr.mono (by decide)) rfl BT_lst (hTb _ hmem) hnb hC hM rfl rfl ⟨_,_,_,rfl,rfl,rfl,rfl,⟨_,_,_,rfl,rfl,rfl,rfl,rfl⟩⟩ rfl rfl rfl (fun _ => rfl) rfl) (fun _ => rfl))) (jdss_one (jds_ret jde_bl)) jdss_nil)
      (jdss_cons (jds_if (jdt_not (jdt_truth (by rfl) (jde_lamR (js := [6]) (R2) (hr.mono (by decide)) rfl BT_lst (hTb _ hmem) hnb hC hM rfl rfl ⟨_,_,_,rfl,rfl,rfl,rfl,rfl⟩ rfl rfl rfl (fun _ => rfl) rfl) (fun _ => rfl))) (jdss_one (jds_ret jde_bl)) jdss_nil)
      (jdss_one (jds_if (jdt_not (jdt_truth (by rfl) (jde_lamR (js := [6,4]) (R3) (hr.mono (by decide)) rfl BT_lst (hTb _ hmem) hnb hC hM rfl rfl ⟨_,_,_,rfl,rfl,rfl,rfl,⟨_,_,_,rfl,rfl,rfl,rfl,rfl⟩⟩ rfl rfl rfl (fun _ => rfl) rfl) (fun _ => rfl))) (jdss_one (jds_ret jde_bl)) jdss_nil))))) jdss_nil)
      (jdss_cons (jds_set (i := 7) sc_law.nd rfl (by walk_at "o") (jde_ownX elink0 pass10 G.worth_ (hr.mono (by decide)) rfl (jda_cons (jdv 3) (jda_cons (jde_ix (ix_any K (by rfl)) od_ix (jdv 4) (jdv 5) (fun _ _ => rfl)) jda_nil))))
      (jdss_one (jds_if (jdt_or (jdt_not (jdt_truth (by rfl) (jde_callB (call_isinstA K (by rfl)) cd_isinst rfl Z.isinstance_ bt_isinstance (jda_cons (jdv 7) (jda_cons (jde_bltn rfl Z.int_ bt_int) jda_nil))) (fun _ => rfl))) (jdw_or (jdt_truth (by rfl) (jde_callB (call_isinstA K (by rfl)) cd_isinst rfl Z.isinstance_ bt_isinstance (jda_cons (jdv 7) (jda_cons (jde_bltn rfl Z.bool_ bt_bool) jda_nil))) (fun _ => rfl)) (jdw_or1 (jdt_cmp op_ne od_neS (jdv 7) (jde_own G._law_worth_ (hr.mono (by decide)) rfl (jda_cons (jdv 3) (jda_cons (jde_ix (ix_any K (by rfl)) od_ix (jdv 4) (jdv 5) (fun _ _ => rfl)) jda_nil))) (nomark _))))) (jdss_one (jds_ret jde_bl)) jdss_nil)))))))))))
      (jdss_one (jds_ret jde_bl))),?_⟩
    walk_at "go"
    have n3 : ∀ m : Int,((fun i j => if j > i then j else i) 2 ((fun i j => if j < i then j else i) m 10) : Int) <= 10 := by intro m; dsimp only; split <;> split <;> omega
    have n0 : ∀ m : Int,2 <= ((fun i j => if j > i then j else i) 2 ((fun i j => if j < i then j else i) m 10) : Int) := by intro m; dsimp only; split <;> split <;> omega
    replace n3 := n3 ns.length
    replace n0 := n0 ns.length
    refine And.intro ⟨by omega,by omega⟩ ?_
    refine ⟨fun i ρ => ∃ v1 v2 v3 v4 v5 v6 v7,ρ = [some (.scr ns),v1,v2,v3,v4,v5,v6,v7],⟨_,_,_,_,_,_,_,rfl⟩,?_,?_⟩
    · rintro i x ρ e ⟨v1,v2,v3,v4,v5,v6,v7,rfl⟩
      obtain ⟨rfl,hi⟩ := rangeD_get e
      have hi6 : i < 10 := by omega
      clear e n3 n0
      walk_at "go"
      refine ⟨⟨ns,i,(by rw [Int.zero_add] <;> rfl),by omega⟩,?_⟩
      walk_at "go"
      refine ⟨12,rfl,by decide,by decide,fun r ro rf => ?_⟩
      walk_at "go"
      refine ⟨11,rfl,by decide,by decide,fun u uo up => ?_⟩
      walk_at "go"
      refine ⟨fun j ρ => ∃ v5 v6 v7,ρ = [some (.scr ns),some (.int (0 + (i : Int))),some .bag,some r.d,some u.d,v5,v6,v7],⟨_,_,_,rfl⟩,?_,?_⟩
      · rintro j x ρ e ⟨v5,v6,v7,rfl⟩
        obtain ⟨rfl,hj⟩ := rangeD_get e
        clear e
        have hj : j < 3 := hj
        obtain rfl | rfl | rfl : j = 0 \/ j = 1 \/ j = 2 := by omega
        · walk_at "go"
          refine ⟨r,rfl,fun d k1 k2 k3 k4 => ?_⟩
          refine ⟨k3,?_⟩
          walk_at "go"
          refine ⟨by show (notOwn d && true) = true; rw [k2]; rfl,d,rfl,k1,k2,?_⟩
          rw [k4]
          walk_at "go"
          refine ⟨[d,u.d],⟨_,_,rfl,rfl,k3,_,_,rfl,rfl,rfl,rfl⟩,⟨u,d,rfl,k1,k2,k3,k4⟩,rfl,?_⟩
          walk_at "go"
          refine ⟨[d,u.d],⟨_,_,rfl,rfl,k3,_,_,rfl,rfl,rfl,rfl⟩,⟨u,d,rfl,k1,k2,k3,k4⟩,rfl,?_⟩
          walk_at "go"
          refine ⟨[d],⟨_,_,rfl,rfl,k3,rfl⟩,⟨d,rfl,k1,k2,k3,k4⟩,rfl,?_⟩
          walk_at "go"
          refine ⟨[d,u.d],⟨_,_,rfl,rfl,k3,_,_,rfl,rfl,rfl,rfl⟩,⟨u,d,rfl,k1,k2,k3,k4⟩,rfl,?_⟩
          walk_at "go"
          refine ⟨r.d,u.a,90,rfl,rfl,rfl,(fun z => absurd (z.symm.trans (show flatD r.d = true from rf)) Bool.false_ne_true),fun _ => ⟨r,rfl,ro.mono (by decide),uo.a,by decide,?_⟩⟩
          walk_at "go"
          refine ⟨true,by rfl,?_⟩
          walk_at "go"
          refine ⟨false,by rfl,?_⟩
          walk_at "go"
          refine ⟨r,u.a,90,rfl,ro.mono (by decide),uo.a,by decide,?_⟩
          walk_at "go"
          refine IfP.f (by simp) ?_
          walk_at "go"
          exact ⟨_,_,_,rfl⟩
        · walk_at "go"
          refine ⟨r,rfl,fun d k1 k2 k3 k4 => ?_⟩
          refine ⟨k3,?_⟩
          walk_at "go"
          refine ⟨by show (notOwn d && true) = true; rw [k2]; rfl,d,rfl,k1,k2,?_⟩
          rw [k4]
          walk_at "go"
          refine ⟨[d,u.d],⟨_,_,rfl,rfl,k3,_,_,rfl,rfl,rfl,rfl⟩,⟨u,d,rfl,k1,k2,k3,k4⟩,rfl,?_⟩
          walk_at "go"
          refine ⟨[d,u.d],⟨_,_,rfl,rfl,k3,_,_,rfl,rfl,rfl,rfl⟩,⟨u,d,rfl,k1,k2,k3,k4⟩,rfl,?_⟩
          walk_at "go"
          refine ⟨[d],⟨_,_,rfl,rfl,k3,rfl⟩,⟨d,rfl,k1,k2,k3,k4⟩,rfl,?_⟩
          walk_at "go"
          refine ⟨[d,u.d],⟨_,_,rfl,rfl,k3,_,_,rfl,rfl,rfl,rfl⟩,⟨u,d,rfl,k1,k2,k3,k4⟩,rfl,?_⟩
          walk_at "go"
          refine ⟨r.d,u.b,90,rfl,rfl,rfl,(fun z => absurd (z.symm.trans (show flatD r.d = true from rf)) Bool.false_ne_true),fun _ => ⟨r,rfl,ro.mono (by decide),uo.b,by decide,?_⟩⟩
          walk_at "go"
          refine ⟨true,by rfl,?_⟩
          walk_at "go"
          refine ⟨false,by rfl,?_⟩
          walk_at "go"
          refine ⟨r,u.b,90,rfl,ro.mono (by decide),uo.b,by decide,?_⟩
          walk_at "go"
          refine IfP.f (by simp) ?_
          walk_at "go"
          exact ⟨_,_,_,rfl⟩
        · walk_at "go"
          refine ⟨r,rfl,fun d k1 k2 k3 k4 => ?_⟩
          refine ⟨k3,?_⟩
          walk_at "go"
          refine ⟨by show (notOwn d && true) = true; rw [k2]; rfl,d,rfl,k1,k2,?_⟩
          rw [k4]
          walk_at "go"
          refine ⟨[d,u.d],⟨_,_,rfl,rfl,k3,_,_,rfl,rfl,rfl,rfl⟩,⟨u,d,rfl,k1,k2,k3,k4⟩,rfl,?_⟩
          walk_at "go"
          refine ⟨[d,u.d],⟨_,_,rfl,rfl,k3,_,_,rfl,rfl,rfl,rfl⟩,⟨u,d,rfl,k1,k2,k3,k4⟩,rfl,?_⟩
          walk_at "go"
          refine ⟨[d],⟨_,_,rfl,rfl,k3,rfl⟩,⟨d,rfl,k1,k2,k3,k4⟩,rfl,?_⟩
          walk_at "go"
          refine ⟨[d,u.d],⟨_,_,rfl,rfl,k3,_,_,rfl,rfl,rfl,rfl⟩,⟨u,d,rfl,k1,k2,k3,k4⟩,rfl,?_⟩
          walk_at "go"
          refine ⟨r.d,u.c,90,rfl,rfl,rfl,(fun z => absurd (z.symm.trans (show flatD r.d = true from rf)) Bool.false_ne_true),fun _ => ⟨r,rfl,ro.mono (by decide),uo.c,by decide,?_⟩⟩
          walk_at "go"
          refine ⟨true,by rfl,?_⟩
          walk_at "go"
          refine ⟨false,by rfl,?_⟩
          walk_at "go"
          refine ⟨r,u.c,90,rfl,ro.mono (by decide),uo.c,by decide,?_⟩
          walk_at "go"
          refine IfP.f (by simp) ?_
          walk_at "go"
          exact ⟨_,_,_,rfl⟩
      · rintro ρ ⟨v5,v6,v7,rfl⟩
        walk_at "go"
        exact ⟨_,_,_,_,_,_,_,rfl⟩
    · rintro ρ ⟨v1,v2,v3,v4,v5,v6,v7,rfl⟩
      walk_at "go"
end K
set_option Elab.async false
set_option linter.all false
set_option maxRecDepth 100000
set_option maxHeartbeats 4000000
namespace K
open PySem L2
structure FnIn (K : PySem.W.Frag)(x : Str)(st : Stmt) : Prop where
  ex : ∃ (f : Addr) (fd : FuncData),PySem.W.nsIn K mainGlobals x = some (some (.ref f)) /\ Fun K x x st f fd
theorem fn_in {K : PySem.W.Frag}{x : Str}{st : Stmt}{f : Addr}{oc : Value}{od an : Option Addr}{osl : Array (Option Value)}{kV doc pm cdv ct : Value}(a : PySem.W.nsIn K mainGlobals x = some (some (.ref f)))(l : K.lookup f = some ⟨oc,od,.func (PySem.W.fnOf x x (defArgs st) (defBody st) (defScope st) .none kV doc pm an cdv ct),osl⟩)(c : PySem.W.codeIn K cdv x = true)(k : PySem.W.keepIn K (.ref f) = true) : FnIn K x st := ⟨⟨_,_,a,fun_mk l c k⟩⟩
structure FnInC (K : PySem.W.Frag)(x : Str)(st : Stmt)(cc : Addr) : Prop where
  ex : ∃ (f : Addr) (fd : FuncData),PySem.W.nsIn K mainGlobals x = some (some (.ref f)) /\ FunC K x x st f fd cc
theorem fnc_in {K : PySem.W.Frag}{x : Str}{st : Stmt}{f cc : Addr}{oc : Value}{od an : Option Addr}{osl : Array (Option Value)}{kV doc pm ct : Value}(a : PySem.W.nsIn K mainGlobals x = some (some (.ref f)))(l : K.lookup f = some ⟨oc,od,.func (PySem.W.fnOf x x (defArgs st) (defBody st) (defScope st) .none kV doc pm an (.ref cc) ct),osl⟩)(c : PySem.W.codeIn K (.ref cc) x = true)(k : PySem.W.keepIn K (.ref f) = true) : FnInC K x st cc := ⟨⟨_,_,a,⟨⟨oc,od,kV,doc,pm,an,ct,osl,rfl,l,c⟩,k⟩⟩⟩
local macro_rules | `(tactic| walk_at "b1") => `(tactic| exact fun _ _ _ _ _ _ us hl => match us,hl with | [_],_ => rfl)
local macro_rules | `(tactic| walk_at "b2") => `(tactic| exact fun _ _ _ _ _ _ us hl => match us,hl with | [_,_],_ => rfl)
local macro_rules | `(tactic| walk_at "b4") => `(tactic| exact fun _ _ _ _ _ _ us hl => match us,hl with | [_,_,_,_],_ => rfl)
theorem all_mk {l : PySem.W.OpenLaw}{w : World}{K : PySem.W.Frag}{h : Heap}{mg : Str -> Option Value}{fa : Addr}(X : K.In h)(G : h.Ns mainGlobals mg)(hfa : mg "law" = some (.ref fa))
    (h0 : FnIn K "_law_bag" s__law_bag)
    (h1 : FnIn K "_law_digit" s__law_digit)
    (h2 : FnIn K "_law_number" s__law_number)
    (h3 : FnIn K "_law_drawn_flat" s__law_drawn_flat)
    (h4 : FnIn K "_law_gcd" s__law_gcd)
    (h5 : FnIn K "_law_spot" s__law_spot)
    (h6 : FnIn K "_law_drawn_spot" s__law_drawn_spot)
    (h7 : FnIn K "_law_small_spot" s__law_small_spot)
    (h8 : FnIn K "_law_drawn_face" s__law_drawn_face)
    (h9 : FnIn K "_law_odd" s__law_odd)
    (h10 : FnIn K "_law_spoilt" s__law_spoilt)
    (h11 : FnIn K "is_whole" s_is_whole)
    (h12 : FnIn K "is_whole_tuple" s_is_whole_tuple)
    (h13 : FnIn K "is_flat" s_is_flat)
    (h14 : FnIn K "check_flat" s_check_flat)
    (h15 : FnIn K "products_added" s_products_added)
    (h16 : FnIn K "worth" s_worth)
    (h17 : FnIn K "_law_is_flat" s__law_is_flat)
    (h18 : FnIn K "_law_worth" s__law_worth)
    (h19 : FnIn K "kept_spots" s_kept_spots)
    (h20 : FnIn K "cut" s_cut)
    (h21 : FnIn K "cut_all" s_cut_all)
    (h22 : FnIn K "_law_is" s__law_is)
    (h23 : FnIn K "_law_refused" s__law_refused)
    (h24 : FnInC K "law" s_law 366)
    (ht24 : PySem.W.codeHdIn K 366 362 = true)
    (z_abs : PySem.W.nsIn K mainGlobals "abs" = some none)
    (z_len : PySem.W.nsIn K mainGlobals "len" = some none)
    (z_max : PySem.W.nsIn K mainGlobals "max" = some none)
    (z_min : PySem.W.nsIn K mainGlobals "min" = some none)
    (z_range : PySem.W.nsIn K mainGlobals "range" = some none)
    (z_isinstance : PySem.W.nsIn K mainGlobals "isinstance" = some none)
    (z_int : PySem.W.nsIn K mainGlobals "int" = some none)
    (z_bool : PySem.W.nsIn K mainGlobals "bool" = some none)
    (z_tuple : PySem.W.nsIn K mainGlobals "tuple" = some none)
    (z_zip : PySem.W.nsIn K mainGlobals "zip" = some none)
    (z_sum : PySem.W.nsIn K mainGlobals "sum" = some none)
    (z_all : PySem.W.nsIn K mainGlobals "all" = some none)
    (z_list : PySem.W.nsIn K mainGlobals "list" = some none)
    (z_ValueError : PySem.W.nsIn K mainGlobals "ValueError" = some none)
    {c_ShadeError : Addr} (e_ShadeError : PySem.W.nsIn K mainGlobals "ShadeError" = some (some (.ref c_ShadeError)))
    {c_NoFraction : Addr} (e_NoFraction : PySem.W.nsIn K mainGlobals "NoFraction" = some (some (.ref c_NoFraction)))
    {c_NoSpot : Addr} (e_NoSpot : PySem.W.nsIn K mainGlobals "NoSpot" = some (some (.ref c_NoSpot)))
    {c_NoBody : Addr} (e_NoBody : PySem.W.nsIn K mainGlobals "NoBody" = some (some (.ref c_NoBody)))
    {c_NoMove : Addr} (e_NoMove : PySem.W.nsIn K mainGlobals "NoMove" = some (some (.ref c_NoMove)))
    {c_NoFlat : Addr} (e_NoFlat : PySem.W.nsIn K mainGlobals "NoFlat" = some (some (.ref c_NoFlat)))
    {c_NoFace : Addr} (e_NoFace : PySem.W.nsIn K mainGlobals "NoFace" = some (some (.ref c_NoFace)))
    {c_NoBoard : Addr} (e_NoBoard : PySem.W.nsIn K mainGlobals "NoBoard" = some (some (.ref c_NoBoard)))
    {c_NoLight : Addr} (e_NoLight : PySem.W.nsIn K mainGlobals "NoLight" = some (some (.ref c_NoLight)))
    {c_NoDeed : Addr} (e_NoDeed : PySem.W.nsIn K mainGlobals "NoDeed" = some (some (.ref c_NoDeed)))
    {c_NoText : Addr} (e_NoText : PySem.W.nsIn K mainGlobals "NoText" = some (some (.ref c_NoText)))
    {c_NoName : Addr} (e_NoName : PySem.W.nsIn K mainGlobals "NoName" = some (some (.ref c_NoName)))
    {c_NoRow : Addr} (e_NoRow : PySem.W.nsIn K mainGlobals "NoRow" = some (some (.ref c_NoRow)))
    {c_Behind : Addr} (e_Behind : PySem.W.nsIn K mainGlobals "Behind" = some (some (.ref c_Behind)))
    {c_TooMany : Addr} (e_TooMany : PySem.W.nsIn K mainGlobals "TooMany" = some (some (.ref c_TooMany)))
    (q_NoFlat : PySem.W.excIn K c_NoFlat bmV "ValueError.__new__" = true) (x1_NoFlat : PySem.W.findIn K (.ref c_NoFlat) "__getattribute__" = some (some (.builtin "BaseException.__getattribute__"))) (x5_NoFlat : PySem.W.findIn K (.ref c_NoFlat) "__getattr__" = some none) (x6_NoFlat : PySem.W.subIn K (.ref c_NoFlat) (.type "BaseException") = some true) (x2_NoFlat : PySem.W.findObj K c_NoFlat none "__class__" = some (.bind (.builtin "getset_descriptor.__get__") (.builtin "object.__class__"))) (x3_NoFlat : PySem.W.mroIn K c_NoFlat (.type "object") = some true) (x4_NoFlat : (PySem.W.clsIn K c_NoFlat).isSome = true) (v_NoFlat : PySem.W.subIn K (.ref c_NoFlat) (.type "ValueError") = some true) (s_NoFlat : PySem.W.subIn K (.ref c_NoFlat) (.ref c_ShadeError) = some true)
    (n_NoFlat_NoFraction : PySem.W.kin_not K c_NoFlat c_NoFraction = true)
    (n_NoFlat_NoSpot : PySem.W.kin_not K c_NoFlat c_NoSpot = true)
    (n_NoFlat_NoBody : PySem.W.kin_not K c_NoFlat c_NoBody = true)
    (n_NoFlat_NoMove : PySem.W.kin_not K c_NoFlat c_NoMove = true)
    (n_NoFlat_NoFace : PySem.W.kin_not K c_NoFlat c_NoFace = true)
    (n_NoFlat_NoBoard : PySem.W.kin_not K c_NoFlat c_NoBoard = true)
    (n_NoFlat_NoLight : PySem.W.kin_not K c_NoFlat c_NoLight = true)
    (n_NoFlat_NoDeed : PySem.W.kin_not K c_NoFlat c_NoDeed = true)
    (n_NoFlat_NoText : PySem.W.kin_not K c_NoFlat c_NoText = true)
    (n_NoFlat_NoName : PySem.W.kin_not K c_NoFlat c_NoName = true)
    (n_NoFlat_NoRow : PySem.W.kin_not K c_NoFlat c_NoRow = true)
    (n_NoFlat_Behind : PySem.W.kin_not K c_NoFlat c_Behind = true)
    (n_NoFlat_TooMany : PySem.W.kin_not K c_NoFlat c_TooMany = true)
    (xb1 : (PySem.W.clsIn K c_ShadeError).isSome = true) (xb2 : PySem.W.typeIn K (.ref c_ShadeError) = some (.type "type")) (xb3 : PySem.W.subIn K (.ref c_ShadeError) (.type "BaseException") = some true)
    : ∃ fd : FuncData,(∀ (s : Shared) (v : Value),BindsTo s fd ⟨[v],[]⟩ [("_law_script",v)]) /\ ∀ base : Heap,K.In base -> base.Ns mainGlobals mg -> BM mg base -> FnOk l.prog w K mg base CX0 12 fa fd ["_law_script"] (lawSpT K [(362,("law.<locals>.<lambda>" : Str))]) := by
  obtain ⟨f0,d0,a0,F0⟩ := h0.ex
  obtain ⟨f1,d1,a1,F1⟩ := h1.ex
  obtain ⟨f2,d2,a2,F2⟩ := h2.ex
  obtain ⟨f3,d3,a3,F3⟩ := h3.ex
  obtain ⟨f4,d4,a4,F4⟩ := h4.ex
  obtain ⟨f5,d5,a5,F5⟩ := h5.ex
  obtain ⟨f6,d6,a6,F6⟩ := h6.ex
  obtain ⟨f7,d7,a7,F7⟩ := h7.ex
  obtain ⟨f8,d8,a8,F8⟩ := h8.ex
  obtain ⟨f9,d9,a9,F9⟩ := h9.ex
  obtain ⟨f10,d10,a10,F10⟩ := h10.ex
  obtain ⟨f11,d11,a11,F11⟩ := h11.ex
  obtain ⟨f12,d12,a12,F12⟩ := h12.ex
  obtain ⟨f13,d13,a13,F13⟩ := h13.ex
  obtain ⟨f14,d14,a14,F14⟩ := h14.ex
  obtain ⟨f15,d15,a15,F15⟩ := h15.ex
  obtain ⟨f16,d16,a16,F16⟩ := h16.ex
  obtain ⟨f17,d17,a17,F17⟩ := h17.ex
  obtain ⟨f18,d18,a18,F18⟩ := h18.ex
  obtain ⟨f19,d19,a19,F19⟩ := h19.ex
  obtain ⟨f20,d20,a20,F20⟩ := h20.ex
  obtain ⟨f21,d21,a21,F21⟩ := h21.ex
  obtain ⟨f22,d22,a22,F22⟩ := h22.ex
  obtain ⟨f23,d23,a23,F23⟩ := h23.ex
  obtain ⟨f24,d24,a24,F24⟩ := h24.ex
  have e := hfa.symm.trans (PySem.W.mg_of X G a24)
  cases e
  have Z : Bi mg := ⟨PySem.W.mg_none_of X G z_abs,PySem.W.mg_none_of X G z_len,PySem.W.mg_none_of X G z_max,PySem.W.mg_none_of X G z_min,PySem.W.mg_none_of X G z_range,PySem.W.mg_none_of X G z_isinstance,PySem.W.mg_none_of X G z_int,PySem.W.mg_none_of X G z_bool,PySem.W.mg_none_of X G z_tuple,PySem.W.mg_none_of X G z_zip,PySem.W.mg_none_of X G z_sum,PySem.W.mg_none_of X G z_all,PySem.W.mg_none_of X G z_list,PySem.W.mg_none_of X G z_ValueError⟩
  have bl := F24.plain.binds (ps := ["_law_script"]) fun _ _ _ _ _ _ us hl => match us,hl with | [_],_ => rfl
  obtain ⟨oc,od,kV,doc,pm,an,ct,osl,el,lk,hcd⟩ := F24.ex
  refine ⟨d24,fun s v => by rw [el]; exact .of_eq rfl,?_⟩
  have Y := fun (base : Heap) (kb : K.In base) (gb : base.Ns mainGlobals mg) => (⟨PySem.W.mg_of X G e_ShadeError,PySem.W.mg_of X G e_NoFraction,PySem.W.mg_of X G e_NoSpot,PySem.W.mg_of X G e_NoBody,PySem.W.mg_of X G e_NoMove,PySem.W.mg_of X G e_NoFlat,PySem.W.mg_of X G e_NoFace,PySem.W.mg_of X G e_NoBoard,PySem.W.mg_of X G e_NoLight,PySem.W.mg_of X G e_NoDeed,PySem.W.mg_of X G e_NoText,PySem.W.mg_of X G e_NoName,PySem.W.mg_of X G e_NoRow,PySem.W.mg_of X G e_Behind,PySem.W.mg_of X G e_TooMany,own_K kb gb e_NoFlat q_NoFlat,⟨x1_NoFlat,x5_NoFlat,x2_NoFlat,x3_NoFlat,x4_NoFlat,x6_NoFlat⟩,v_NoFlat,s_NoFlat,n_NoFlat_NoFraction,n_NoFlat_NoSpot,n_NoFlat_NoBody,n_NoFlat_NoMove,n_NoFlat_NoFace,n_NoFlat_NoBoard,n_NoFlat_NoLight,n_NoFlat_NoDeed,n_NoFlat_NoText,n_NoFlat_NoName,n_NoFlat_NoRow,n_NoFlat_Behind,n_NoFlat_TooMany,⟨xb1,xb2,xb3⟩⟩ : Ex K mg base ⟨c_ShadeError,c_NoFraction,c_NoSpot,c_NoBody,c_NoMove,c_NoFlat,c_NoFace,c_NoBoard,c_NoLight,c_NoDeed,c_NoText,c_NoName,c_NoRow,c_Behind,c_TooMany⟩)
  have G0 := fun (base : Heap) (kb : K.In base) (gb : base.Ns mainGlobals mg) => Callee.mk' F0 (ok__law_bag (P := l.prog) (w := w) (base := base) F0 Z (Y base kb gb)) (PySem.W.mg_of X G a0) (F0.binds (by walk_at "b2"))
  have G1 := fun (base : Heap) (kb : K.In base) (gb : base.Ns mainGlobals mg) => Callee.mk' F1 (ok__law_digit (P := l.prog) (w := w) (base := base) F1 Z (Y base kb gb)) (PySem.W.mg_of X G a1) (F1.binds (by walk_at "b2"))
  have G2 := fun (base : Heap) (kb : K.In base) (gb : base.Ns mainGlobals mg) => Callee.mk' F2 (ok__law_number (P := l.prog) (w := w) (base := base) F2 Z (Y base kb gb) ⟨(G1 base kb gb)⟩) (PySem.W.mg_of X G a2) (F2.binds (by walk_at "b2"))
  have G3 := fun (base : Heap) (kb : K.In base) (gb : base.Ns mainGlobals mg) => Callee.mk' F3 (ok__law_drawn_flat (P := l.prog) (w := w) (base := base) F3 Z (Y base kb gb) ⟨(G2 base kb gb),(G1 base kb gb)⟩) (PySem.W.mg_of X G a3) (F3.binds (by walk_at "b2"))
  have G4 := fun (base : Heap) (kb : K.In base) (gb : base.Ns mainGlobals mg) => Callee.mk' F4 (ok__law_gcd (P := l.prog) (w := w) (base := base) F4 Z (Y base kb gb)) (PySem.W.mg_of X G a4) (F4.binds (by walk_at "b2"))
  have G5 := fun (base : Heap) (kb : K.In base) (gb : base.Ns mainGlobals mg) => Callee.mk' F5 (ok__law_spot (P := l.prog) (w := w) (base := base) F5 Z (Y base kb gb) ⟨(G4 base kb gb)⟩) (PySem.W.mg_of X G a5) (F5.binds (by walk_at "b4"))
  have G6 := fun (base : Heap) (kb : K.In base) (gb : base.Ns mainGlobals mg) => Callee.mk' F6 (ok__law_drawn_spot (P := l.prog) (w := w) (base := base) F6 Z (Y base kb gb) ⟨(G5 base kb gb),(G1 base kb gb),(G2 base kb gb)⟩) (PySem.W.mg_of X G a6) (F6.binds (by walk_at "b2"))
  have G7 := fun (base : Heap) (kb : K.In base) (gb : base.Ns mainGlobals mg) => Callee.mk' F7 (ok__law_small_spot (P := l.prog) (w := w) (base := base) F7 Z (Y base kb gb) ⟨(G5 base kb gb),(G1 base kb gb)⟩) (PySem.W.mg_of X G a7) (F7.binds (by walk_at "b1"))
  have G8 := fun (base : Heap) (kb : K.In base) (gb : base.Ns mainGlobals mg) => Callee.mk' F8 (ok__law_drawn_face (P := l.prog) (w := w) (base := base) F8 Z (Y base kb gb) ⟨(G1 base kb gb),(G5 base kb gb),(G6 base kb gb),(G7 base kb gb)⟩) (PySem.W.mg_of X G a8) (F8.binds (by walk_at "b2"))
  have G9 := fun (base : Heap) (kb : K.In base) (gb : base.Ns mainGlobals mg) => Callee.mk' F9 (ok__law_odd (P := l.prog) (w := w) (base := base) F9 Z (Y base kb gb) ⟨(G1 base kb gb)⟩) (PySem.W.mg_of X G a9) (F9.binds (by walk_at "b1"))
  have G10 := fun (base : Heap) (kb : K.In base) (gb : base.Ns mainGlobals mg) => Callee.mk' F10 (ok__law_spoilt (P := l.prog) (w := w) (base := base) F10 Z (Y base kb gb) ⟨(G1 base kb gb),(G9 base kb gb)⟩) (PySem.W.mg_of X G a10) (F10.binds (by walk_at "b2"))
  have G11 := fun (base : Heap) (kb : K.In base) (gb : base.Ns mainGlobals mg) => Callee.mk' F11 (ok_is_whole (P := l.prog) (w := w) (base := base) F11 Z (Y base kb gb)) (PySem.W.mg_of X G a11) (F11.binds (by walk_at "b1"))
  have G12 := fun (base : Heap) (kb : K.In base) (gb : base.Ns mainGlobals mg) => Callee.mk' F12 (ok_is_whole_tuple (P := l.prog) (w := w) (base := base) F12 Z (Y base kb gb) ⟨(G11 base kb gb)⟩) (PySem.W.mg_of X G a12) (F12.binds (by walk_at "b2"))
  have G13 := fun (base : Heap) (kb : K.In base) (gb : base.Ns mainGlobals mg) => Callee.mk' F13 (ok_is_flat (P := l.prog) (w := w) (base := base) F13 Z (Y base kb gb) ⟨(G12 base kb gb)⟩) (PySem.W.mg_of X G a13) (F13.binds (by walk_at "b1"))
  have G14 := fun (base : Heap) (kb : K.In base) (gb : base.Ns mainGlobals mg) => Callee.mk' F14 (ok_check_flat (P := l.prog) (w := w) (base := base) F14 Z (Y base kb gb) ⟨(G13 base kb gb)⟩) (PySem.W.mg_of X G a14) (F14.binds (by walk_at "b1"))
  have G15 := fun (base : Heap) (kb : K.In base) (gb : base.Ns mainGlobals mg) => Callee.mk' F15 (ok_products_added (P := l.prog) (w := w) (base := base) F15 Z (Y base kb gb)) (PySem.W.mg_of X G a15) (F15.binds (by walk_at "b2"))
  have G16 := fun (base : Heap) (kb : K.In base) (gb : base.Ns mainGlobals mg) => Callee.mk' F16 (ok_worth (P := l.prog) (w := w) (base := base) F16 Z (Y base kb gb) ⟨(G14 base kb gb),(G15 base kb gb)⟩) (PySem.W.mg_of X G a16) (F16.binds (by walk_at "b2"))
  have G17 := fun (base : Heap) (kb : K.In base) (gb : base.Ns mainGlobals mg) => Callee.mk' F17 (ok__law_is_flat (P := l.prog) (w := w) (base := base) F17 Z (Y base kb gb)) (PySem.W.mg_of X G a17) (F17.binds (by walk_at "b1"))
  have G18 := fun (base : Heap) (kb : K.In base) (gb : base.Ns mainGlobals mg) => Callee.mk' F18 (ok__law_worth (P := l.prog) (w := w) (base := base) F18 Z (Y base kb gb)) (PySem.W.mg_of X G a18) (F18.binds (by walk_at "b2"))
  have G19 := fun (base : Heap) (kb : K.In base) (gb : base.Ns mainGlobals mg) => Callee.mk' F19 (ok_kept_spots (P := l.prog) (w := w) (base := base) F19 Z (Y base kb gb) ⟨(G16 base kb gb)⟩) (PySem.W.mg_of X G a19) (F19.binds (by walk_at "b2"))
  have G20 := fun (base : Heap) (kb : K.In base) (gb : base.Ns mainGlobals mg) => Callee.mk' F20 (ok_cut (P := l.prog) (w := w) (base := base) F20 Z (Y base kb gb) ⟨(G19 base kb gb)⟩) (PySem.W.mg_of X G a20) (F20.binds (by walk_at "b2"))
  have G21 := fun (base : Heap) (kb : K.In base) (gb : base.Ns mainGlobals mg) => Callee.mk' F21 (ok_cut_all (P := l.prog) (w := w) (base := base) F21 Z (Y base kb gb) ⟨(G14 base kb gb)⟩) (PySem.W.mg_of X G a21) (F21.binds (by walk_at "b2"))
  have G22 := fun (base : Heap) (kb : K.In base) (gb : base.Ns mainGlobals mg) => CalleeM.mk' F22 (ok__law_is (P := l.prog) (w := w) (base := base) F22 Z (Y base kb gb)) (PySem.W.mg_of X G a22) (F22.binds (by walk_at "b2"))
  exact fun base kb gb bm => ok_law (P := l.prog) (w := w) (base := base) (tb := [(362,("law.<locals>.<lambda>" : Str))]) F24 Z (Y base kb gb) ⟨(G0 base kb gb),(G3 base kb gb),(G8 base kb gb),(G10 base kb gb),(G16 base kb gb),(G17 base kb gb),(G18 base kb gb),(G20 base kb gb),(G21 base kb gb)⟩ (PySem.W.codeHd_of_K kb ht24) bm (.head _) (refc0 F23 Z (PySem.W.mg_of X G a23) (F23.binds (by walk_at "b1")) Y (fun base kb gb => ⟨(G22 base kb gb)⟩) (fun base kb gb => G16 base kb gb)) (refc1 F23 Z (PySem.W.mg_of X G a23) (F23.binds (by walk_at "b1")) Y (fun base kb gb => ⟨(G22 base kb gb)⟩) (fun base kb gb => G20 base kb gb)) (refc2 F23 Z (PySem.W.mg_of X G a23) (F23.binds (by walk_at "b1")) Y (fun base kb gb => ⟨(G22 base kb gb)⟩) (fun base kb gb => G21 base kb gb)) (refc3 F23 Z (PySem.W.mg_of X G a23) (F23.binds (by walk_at "b1")) Y (fun base kb gb => ⟨(G22 base kb gb)⟩) (fun base kb gb => G21 base kb gb))
theorem walk {tb : List (Addr × Str)}{l : PySem.W.OpenLaw}{q : Program}{loose : List Str}{XP : (Str -> Option Value) -> Heap -> Prop}{YP : World -> Heap -> Prop}{d : DefRec}{K : Params -> PySem.W.Frag}(hn : l.most = some 63)(hdf : d.params.defaults = [])
    (hI : ∀ (w : World) (h : Heap),YP w h -> (K w.params).In h) (hY : ∀ (w : World) (h : Heap),YP w h -> ∀ p ∈ tb,h.get? p.1 = some (PySem.W.tabObj #[]) /\ (K w.params).lookup p.1 = none /\ ∃ c,PySem.W.CodeHd h c p.1) (hnd : (tb.map (·.1)).Nodup)
    (F : ∀ (w : World) (mg : Str -> Option Value) (fa : Addr) (h : Heap),(K w.params).In h -> h.Ns mainGlobals mg -> mg d.name = some (.ref fa) ->
      ∃ fd : FuncData,(∀ (s : Shared) (u : Value),BindsTo s fd ⟨[u],[]⟩ [("_law_script",u)]) /\ ∀ base : Heap,(K w.params).In base -> base.Ns mainGlobals mg -> BM mg base -> FnOk l.prog w (K w.params) mg base CX0 12 fa fd ["_law_script"] (lawSpT (K w.params) tb)) :
    PySem.W.WalkO q loose XP YP l.row.toRowW d [] (fun f vs => PySem.call f vs) :=
  L2.walk_ofT (tb := tb) (n := 63) (k := 12) (x := "_law_script") (CX := fun _ => CX0) (sp := fun w => lawSpT (K w.params) tb) hn (by decide) hdf ⟨rfl,by decide,by decide,rfl⟩ (fun w h y => ⟨hI w h y,hY w h y⟩) hnd F (fun _ _ a ns hl hT hS => ⟨a,ns,rfl,hS,hl,hT,fun _ h => ⟨rfl,h⟩⟩) fun _ _ _ _ _ z => z
theorem tab_mk {h : Heap}{K : PySem.W.Frag}{c P : Addr}(X : K.In h)(ht : h.get? P = some (PySem.W.tabObj #[]))(hk : K.lookup P = none)(hc : PySem.W.codeHdIn K c P = true) : h.get? P = some (PySem.W.tabObj #[]) /\ K.lookup P = none /\ ∃ c,PySem.W.CodeHd h c P := ⟨ht,hk,c,PySem.W.codeHd_of_K X hc⟩
end K
open PySem PySem.W PyProof.Rows
theorem PySem.W.Fast.tw15703137396996614942 : True := trivial
theorem PySem.W.Fast.tw16881706181334938845 : True := trivial
theorem PySem.W.Fast.tw4261533169547646844 : True := trivial
theorem PySem.W.Fast.tw7012461743597474332 : True := trivial
theorem PySem.W.Fast.tw4831209645159102972 : True := trivial
theorem PySem.W.Fast.tw11680308800846147323 : True := trivial
theorem PySem.W.Fast.tw5761825689119414587 : True := trivial
theorem PySem.W.Fast.tw2026153493153976314 : True := trivial
theorem PySem.W.Fast.tw2875210621025828440 : True := trivial
theorem PySem.W.Fast.tw9919294523036817976 : True := trivial
theorem PySem.W.Fast.tw12430238717012418968 : True := trivial
theorem PySem.W.Fast.tw4953885036592808120 : True := trivial
theorem PySem.W.Fast.tw2125342205531029335 : True := trivial
theorem PySem.W.Fast.tw5240738072890257494 : True := trivial
theorem PySem.W.Fast.tw11384307685629308212 : True := trivial
theorem PySem.W.Fast.tw14521177927697169107 : True := trivial
theorem PySem.W.Fast.tw15455909803040472018 : True := trivial
theorem PySem.W.Fast.tw4077788528991268882 : True := trivial
theorem PySem.W.Fast.tw10513201431972400113 : True := trivial
theorem PySem.W.Fast.tw7404261904281180081 : True := trivial
theorem PySem.W.Fast.tw12632114779474194257 : True := trivial
theorem PySem.W.Fast.tw2676370270007470417 : True := trivial
theorem PySem.W.Fast.tw962554508232957137 : True := trivial
theorem PySem.W.Fast.tw12992070068075903663 : True := trivial
theorem PySem.W.Fast.tw12627154540276200815 : True := trivial
theorem PySem.W.Fast.tw7454857352858603278 : True := trivial
theorem PySem.W.Fast.tw2322335048420512974 : True := trivial
theorem PySem.W.Fast.tw5803245846137133869 : True := trivial
theorem PySem.W.Fast.tw12237135290293792844 : True := trivial
theorem PySem.W.Fast.tw18366167431474762027 : True := trivial
theorem PySem.W.Fast.tw11525831312999975051 : True := trivial
theorem PySem.W.Fast.tw8559615745952389194 : True := trivial
theorem PySem.W.Fast.tw10351651294496724329 : True := trivial
theorem PySem.W.Fast.tw12389055221168987655 : True := trivial
theorem PySem.W.Fast.tw17152794551815809123 : True := trivial
theorem PySem.W.Fast.tw13660769135400684579 : True := trivial
theorem PySem.W.Fast.tw11965796735778616353 : True := trivial
theorem PySem.W.Fast.tw16615250255025840480 : True := trivial
theorem PySem.W.Fast.tw3711815058947708032 : True := trivial
theorem PySem.W.Fast.tw10134585477565922020 : True := trivial
local macro_rules | `(tactic| walk_at "fc") => `(tactic| (refine' _root_.K.fnc_in ?a ?l ?c ?k; (case a => k_is); (case l => k_is); (case c => k_is); (case k => k_is)))
local macro_rules | `(tactic| walk_at "fn") => `(tactic| (refine' _root_.K.fn_in ?a ?l ?c ?k; (case a => k_is); (case l => k_is); (case c => k_is); (case k => k_is)))
set_option maxRecDepth 100000 in
set_option maxHeartbeats 0 in
theorem PySem.Challenge.cw_onceshade_k21_worths_holds : PySem.Challenge.rw_onceshade_k21_worths.Holds := by
  w_on; o_law; k_head; (case hw => w_witness2)
  k_fill
  refine K.walk (tb := [(362,("law.<locals>.<lambda>" : Str))]) (l := PySem.Challenge.rw_onceshade_k21_worths) rfl rfl (fun w h Y => PySem.W.km_in_of Y) ?Y (by decide) ?F
  case Y =>
    intro w h Y
    have KX := PySem.W.km_in_of Y
    have KT := PySem.W.km_tabs_of Y
    intro p hp
    simp only [List.mem_cons,List.not_mem_nil,or_false] at hp
    have e := hp
    · subst e; exact K.tab_mk (c := 366) KX (KT 362 (by simp)) (by kernel_rfl) (by kernel_rfl)
  case F =>
    intro w mg fa h KX G hmg
    refine' K.all_mk KX G hmg ?h0 ?h1 ?h2 ?h3 ?h4 ?h5 ?h6 ?h7 ?h8 ?h9 ?h10 ?h11 ?h12 ?h13 ?h14 ?h15 ?h16 ?h17 ?h18 ?h19 ?h20 ?h21 ?h22 ?h23 ?h24 ?ht24 ?z_abs ?z_len ?z_max ?z_min ?z_range ?z_isinstance ?z_int ?z_bool ?z_tuple ?z_zip ?z_sum ?z_all ?z_list ?z_ValueError ?e_ShadeError ?e_NoFraction ?e_NoSpot ?e_NoBody ?e_NoMove ?e_NoFlat ?e_NoFace ?e_NoBoard ?e_NoLight ?e_NoDeed ?e_NoText ?e_NoName ?e_NoRow ?e_Behind ?e_TooMany ?q_NoFlat ?x1_NoFlat ?x5_NoFlat ?x6_NoFlat ?x2_NoFlat ?x3_NoFlat ?x4_NoFlat ?v_NoFlat ?s_NoFlat ?n_NoFlat_NoFraction ?n_NoFlat_NoSpot ?n_NoFlat_NoBody ?n_NoFlat_NoMove ?n_NoFlat_NoFace ?n_NoFlat_NoBoard ?n_NoFlat_NoLight ?n_NoFlat_NoDeed ?n_NoFlat_NoText ?n_NoFlat_NoName ?n_NoFlat_NoRow ?n_NoFlat_Behind ?n_NoFlat_TooMany ?xb1 ?xb2 ?xb3
    (case h0 => walk_at "fn")
    (case h1 => walk_at "fn")
    (case h2 => walk_at "fn")
    (case h3 => walk_at "fn")
    (case h4 => walk_at "fn")
    (case h5 => walk_at "fn")
    (case h6 => walk_at "fn")
    (case h7 => walk_at "fn")
    (case h8 => walk_at "fn")
    (case h9 => walk_at "fn")
    (case h10 => walk_at "fn")
    (case h11 => walk_at "fn")
    (case h12 => walk_at "fn")
    (case h13 => walk_at "fn")
    (case h14 => walk_at "fn")
    (case h15 => walk_at "fn")
    (case h16 => walk_at "fn")
    (case h17 => walk_at "fn")
    (case h18 => walk_at "fn")
    (case h19 => walk_at "fn")
    (case h20 => walk_at "fn")
    (case h21 => walk_at "fn")
    (case h22 => walk_at "fn")
    (case h23 => walk_at "fn")
    (case h24 => walk_at "fc")
    (case ht24 => kernel_rfl)
    (case z_abs => k_is)
    (case z_len => k_is)
    (case z_max => k_is)
    (case z_min => k_is)
    (case z_range => k_is)
    (case z_isinstance => k_is)
    (case z_int => k_is)
    (case z_bool => k_is)
    (case z_tuple => k_is)
    (case z_zip => k_is)
    (case z_sum => k_is)
    (case z_all => k_is)
    (case z_list => k_is)
    (case z_ValueError => k_is)
    (case e_ShadeError => k_is)
    (case e_NoFraction => k_is)
    (case e_NoSpot => k_is)
    (case e_NoBody => k_is)
    (case e_NoMove => k_is)
    (case e_NoFlat => k_is)
    (case e_NoFace => k_is)
    (case e_NoBoard => k_is)
    (case e_NoLight => k_is)
    (case e_NoDeed => k_is)
    (case e_NoText => k_is)
    (case e_NoName => k_is)
    (case e_NoRow => k_is)
    (case e_Behind => k_is)
    (case e_TooMany => k_is)
    (case q_NoFlat => k_exc)
    (case x1_NoFlat => kernel_rfl)
    (case x5_NoFlat => kernel_rfl)
    (case x6_NoFlat => kernel_rfl)
    (case x2_NoFlat => kernel_rfl)
    (case x3_NoFlat => kernel_rfl)
    (case x4_NoFlat => kernel_rfl)
    (case v_NoFlat => kernel_rfl)
    (case s_NoFlat => kernel_rfl)
    (case n_NoFlat_NoFraction => kernel_rfl)
    (case n_NoFlat_NoSpot => kernel_rfl)
    (case n_NoFlat_NoBody => kernel_rfl)
    (case n_NoFlat_NoMove => kernel_rfl)
    (case n_NoFlat_NoFace => kernel_rfl)
    (case n_NoFlat_NoBoard => kernel_rfl)
    (case n_NoFlat_NoLight => kernel_rfl)
    (case n_NoFlat_NoDeed => kernel_rfl)
    (case n_NoFlat_NoText => kernel_rfl)
    (case n_NoFlat_NoName => kernel_rfl)
    (case n_NoFlat_NoRow => kernel_rfl)
    (case n_NoFlat_Behind => kernel_rfl)
    (case n_NoFlat_TooMany => kernel_rfl)
    (case xb1 => kernel_rfl)
    (case xb2 => kernel_rfl)
    (case xb3 => kernel_rfl)
