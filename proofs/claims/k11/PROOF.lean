import PyProof.Rows.All
import Wide.All
import OpenK.AllK
import Wide.FinOn
import Lean
import PyProof.EqAt
import PyProof.EqKinds
import PyProof.TupleCall
import PySem.Challenge.RW_onceshade_k11_parts
set_option Elab.async false
set_option linter.all false
set_option maxRecDepth 100000
namespace L2
open PySem PySem.Spec PyProof.Rows
abbrev Key := Sum Int Str
def keyIs : Key -> Value -> Bool
  | .inl k,v => Value.isInt k v
  | .inr x,v => Value.isStrOf x v
def keyH (w : World) : Key -> Int
  | .inl k => hashInt k
  | .inr x => hashStr w x
theorem keyIs_shape : ∀ {k : Key} {v : Value},keyIs k v = true -> (∃ i t,k = Sum.inl i /\ v = Value.int i t) \/ (∃ x t,k = Sum.inr x /\ v = Value.str x t)
  | .inl i,v,h => by
    obtain ⟨t,e⟩ := Value.isInt_shape (k := i) (v := v) h
    exact .inl ⟨i,t,rfl,e⟩
  | .inr x,v,h => by
    obtain ⟨t,e⟩ := Value.isStrOf_shape (x := x) (v := v) h
    exact .inr ⟨x,t,rfl,e⟩
theorem key_ll (a b : Int) : decide ((Sum.inl a : Key) = Sum.inl b) = (a == b) := by
  by_cases e : a = b
  · subst e; simp
  · have h : ¬ (Sum.inl a : Key) = Sum.inl b := fun q => e (Sum.inl.inj q)
    rw [decide_eq_false h]
    exact (beq_eq_false_iff_ne.mpr e).symm
theorem key_rr (a b : Str) : decide ((Sum.inr a : Key) = Sum.inr b) = decide (a = b) := by
  by_cases e : a = b
  · subst e; simp
  · have h : ¬ (Sum.inr a : Key) = Sum.inr b := fun q => e (Sum.inr.inj q)
    rw [decide_eq_false h,decide_eq_false e]
theorem key_lr (a : Int)(b : Str) : decide ((Sum.inl a : Key) = Sum.inr b) = false := decide_eq_false (fun q => nomatch q)
theorem key_rl (a : Str)(b : Int) : decide ((Sum.inr a : Key) = Sum.inl b) = false := decide_eq_false (fun q => nomatch q)
def mixKind (prog : Program)(w : World) : PySem.KeyKind prog w Key where
  is := keyIs
  hash := keyH w
  inj := fun v a b ha hb => by
    rcases keyIs_shape ha with ⟨i,t,rfl,rfl⟩ | ⟨x,t,rfl,rfl⟩
    · rcases keyIs_shape hb with ⟨j,u,rfl,e⟩ | ⟨y,u,rfl,e⟩
      · injection e with e1 _; rw [e1]
      · exact nomatch e
    · rcases keyIs_shape hb with ⟨j,u,rfl,e⟩ | ⟨y,u,rfl,e⟩
      · exact nomatch e
      · injection e with e1 _; rw [e1]
  byValue := fun k v h => by
    rcases keyIs_shape h with ⟨i,t,rfl,rfl⟩ | ⟨x,t,rfl,rfl⟩ <;> rfl
  pyHash := fun hv h => by
    rcases keyIs_shape hv with ⟨i,t,rfl,rfl⟩ | ⟨x,t,rfl,rfl⟩
    · exact wpAny_pyHash_int h
    · exact wpAny_pyHash_str h
  eqBool := fun hu hv h => by
    rcases keyIs_shape hu with ⟨i,t,rfl,rfl⟩ | ⟨x,t,rfl,rfl⟩
    · rcases keyIs_shape hv with ⟨j,u,rfl,rfl⟩ | ⟨y,u,rfl,rfl⟩
      · rw [key_ll] at h; exact wpAny_eqBool_int h
      · rw [key_lr] at h; exact SeqAt.EqAt.int_str i t y u _ _ _ _ h
    · rcases keyIs_shape hv with ⟨j,u,rfl,rfl⟩ | ⟨y,u,rfl,rfl⟩
      · rw [key_rl] at h; exact SeqAt.EqAt.str_int x t j u _ _ _ _ h
      · rw [key_rr] at h; exact wpAny_eqBool_str h
  «strs» := fun k x t v h => by
    rcases keyIs_shape h with ⟨i,u,rfl,e⟩ | ⟨y,u,rfl,e⟩
    · exact nomatch e
    · injection e with e1 _
      subst e1
      cases v <;> rfl
end L2
namespace L2
open PySem PySem.Spec PyProof.Rows
inductive V where
  | non | bl (b : Bool) | int (i : Int) | str (x : Str) | byt (b : Array UInt8) | flt (b : UInt64) | ref (a : Addr) | ty (n : String)
  deriving DecidableEq
def RelV : V -> Value -> Prop
  | .non,u => u = Value.none
  | .bl b,u => u = Value.bool b
  | .int i,u => ∃ t,u = Value.int i t
  | .str x,u => ∃ t,u = Value.str x t
  | .byt b,u => ∃ t,u = Value.bytes b t
  | .flt b,u => ∃ t,u = Value.float b t
  | .ref a,u => u = Value.ref a
  | .ty n,u => u = Value.type n
abbrev Vals : List V -> List Value -> Prop := Paired RelV
theorem Vals.length {xs : List V}{us : List Value}(r : Vals xs us) : xs.length = us.length := Paired.length r
theorem Vals.get : ∀ {xs : List V} {us : List Value} {i : Nat} {x : V},Vals xs us -> xs[i]? = some x -> ∃ u,us[i]? = some u /\ RelV x u
  | _,_,_,_,.nil,e => by simp at e
  | _,_,0,_,.cons r _,e => by simp at e; subst e; exact ⟨_,rfl,r⟩
  | _,_,i + 1,x,.cons _ t,e => by
    obtain ⟨u,h1,h2⟩ := Vals.get (i := i) (x := x) t (by simpa using e)
    exact ⟨u,by simpa using h1,h2⟩
theorem Vals.set {x : V}{u : Value}(r : RelV x u) : ∀ {xs : List V} {us : List Value} (i : Nat),Vals xs us -> Vals (xs.set i x) (us.set i u)
  | _,_,_,.nil => .nil
  | _,_,0,.cons _ t => .cons r t
  | _,_,i + 1,.cons q t => .cons q (Vals.set r i t)
theorem Vals.append : ∀ {xs ys : List V} {us ws : List Value},Vals xs us -> Vals ys ws -> Vals (xs ++ ys) (us ++ ws)
  | _,_,_,_,.nil,s => s
  | _,_,_,_,.cons r t,s => .cons r (Vals.append t s)
theorem Vals.take : ∀ {xs : List V} {us : List Value} (n : Nat),Vals xs us -> Vals (xs.take n) (us.take n)
  | _,_,0,_ => .nil
  | _,_,_ + 1,.nil => .nil
  | _,_,n + 1,.cons r t => .cons r (Vals.take n t)
theorem Vals.drop : ∀ {xs : List V} {us : List Value} (n : Nat),Vals xs us -> Vals (xs.drop n) (us.drop n)
  | _,_,0,r => r
  | _,_,_ + 1,.nil => .nil
  | _,_,n + 1,.cons _ t => Vals.drop n t
def RelO : Option V -> Option Value -> Prop
  | some v,some u => RelV v u
  | none,none => True
  | _,_ => False
def KV {κ : Type} : List (κ × V) -> List (κ × Value) -> Prop := Paired fun (p : κ × V) (q : κ × Value) => p.1 = q.1 /\ RelV p.2 q.2
def kV : Key -> V
  | .inl i => .int i
  | .inr x => .str x
inductive HO where
  | lst (xs : List V)
  | tup (xs : List V)
  | dK (kvs : List (Key × V)) | dT (kvs : List (List Key × V))
  | set (S : Int -> Bool) (n : Nat)
  | ins (C dx : Addr) (fs : List (Str × V))
  | own (x : Addr)
  | xd (fs : List (Str × V))
  | met (f x : Addr)
  | rng (lo hi : Int)
  | frz (o : Obj) (u : HO)
  | tbl (ps : Array Value)
  | cod (q : Str)
  | ext (φ : Heap -> Prop)
abbrev Hp := Addr -> Option HO
def upd (H : Hp)(a : Addr)(o : HO) : Hp := fun b => if b = a then some o else H b
theorem upd_same {H : Hp}{a : Addr}{o : HO} : upd H a o a = some o := by unfold upd; rw [if_pos rfl]
theorem upd_ne {H : Hp}{a b : Addr}{o : HO}(h : b ≠ a) : upd H a o b = H b := by unfold upd; rw [if_neg h]
theorem ne_of {H : Hp}{a b : Addr}{o u : HO}(h : H a = some o)(h' : H b = some u)(d : o ≠ u) : a ≠ b := by
  intro e; subst e; rw [h] at h'; exact d (Option.some.inj h')
theorem ne_of_none {H : Hp}{a b : Addr}{o : HO}(h : H a = some o)(h' : H b = none) : a ≠ b := by
  intro e; subst e; rw [h] at h'; cases h'
section
variable (P : Program)(w : World)
def ObjOk (H : Hp)(h : Heap)(a : Addr) : HO -> Prop
  | .lst xs => xs.length <= sizeLine /\ ∃ (its : List Value) (n : Nat),Vals xs its /\ h.get? a = some { cls := .type "list",data := .seq its.toArray n }
  | .tup xs => xs.length <= sizeLine /\ ∃ its : List Value,Vals xs its /\ IsTup h a its.toArray
  | .dK kvs => kvs.length <= sizeLine /\ (a == sysModules) = false /\ ∃ vs,KV kvs vs /\ h.DictOf (mixKind P w) a vs
  | .dT kvs => kvs.length <= sizeLine /\ (a == sysModules) = false /\ ∃ xs : List (List Key × Addr × Value),
      Paired (fun (p : List Key × V) (q : List Key × Addr × Value) => p.1 = q.1 /\ H q.2.1 = some (.tup (p.1.map kV)) /\ RelV p.2 q.2.2) kvs xs /\
      ∃ o es ep,h.get? a = some o /\ o.ExactDict /\ o.data = .dict es ep /\ es.toList = xs.map (entryOfKey (tupleKind (mixKind P w))) /\ (xs.map (·.1)).Nodup
  | .set S n => h.SetOf (intKind P w) a S n
  | .ins C dx fs => H dx = some (.own a) /\ fs.length <= 1000 /\ dx ≠ a /\ h.get? a = some (PySem.W.instObj C dx) /\
      ∃ mA,h.Ns1 dx mA /\ (∀ f,RelO (fs.lookup f) (mA f)) /\ PySem.Within mA (fs.map (·.1))
  | .own _ => ∃ o,h.get? a = some o
  | .xd fs => ∃ mA,h.Ns1 a mA /\ ∀ f,RelO (fs.lookup f) (mA f)
  | .rng lo hi => ∃ t u v,h.get? a = some { cls := .type "range",data := .fields #[.int lo t,.int hi u,.int 1 v] }
  | .frz o u => h.get? a = some o /\ ObjOk H h a u
  | .tbl ps => h.get? a = some { cls := .none,data := .fields ps }
  | .met f x => h.get? a = some (PySem.W.methodObj (.ref f) (.ref x))
  | .cod q => ∃ ps : Array Value,h.get? a = some { cls := .none,data := .fields ps } /\ TriplesOk ps.toList /\ ∀ pos cv,codeAmong pos ps.toList = some cv -> ∃ (c' : Addr) (oc : Obj) (vs : Array Value) (t : Tok),cv = .ref c' /\ H c' = some (.frz oc (.own 0)) /\ oc.data = .fields vs /\ vs[1]? = some (.str q t)
  | .ext φ => φ h /\ (∃ o,h.get? a = some o) /\ ∀ h1 h2 : Heap,φ h1 -> (∀ o,h1.get? a = some o -> h2.get? a = some o) -> φ h2
def HOk (H : Hp)(h : Heap) : Prop := ∀ a o,H a = some o -> ObjOk P w H h a o
end
section
variable {P : Program}{w : World}{H H' : Hp}{h h' : Heap}{a : Addr}{o : HO}
theorem ObjOk.lt (x : ObjOk P w H h a o) : a < h.objs.size := by
  cases o with
  | lst xs => obtain ⟨_,_,_,_,e⟩ := x; exact Heap.lt_size e
  | tup xs => obtain ⟨_,_,_,p⟩ := x; exact p.lt
  | dK kvs => obtain ⟨_,_,_,_,o,_,_,e,_⟩ := x; exact Heap.lt_size e
  | dT kvs => obtain ⟨_,_,_,_,o,_,_,e,_⟩ := x; exact Heap.lt_size e
  | set S n => obtain ⟨o,_,_,_,e,_⟩ := x; exact Heap.lt_size e
  | ins C dx fs => obtain ⟨_,_,_,e,_⟩ := x; exact Heap.lt_size e
  | own y => obtain ⟨_,e⟩ := x; exact Heap.lt_size e
  | xd fs => obtain ⟨_,⟨_,_,_,e,_⟩,_⟩ := x; exact Heap.lt_size e
  | rng lo hi => obtain ⟨_,_,_,e⟩ := x; exact Heap.lt_size e
  | frz ob u => obtain ⟨e,_⟩ := x; exact Heap.lt_size e
  | tbl ps => exact Heap.lt_size (show h.get? a = some _ from x)
  | met f y => exact Heap.lt_size (show h.get? a = some _ from x)
  | cod q => obtain ⟨_,e,_⟩ := x; exact Heap.lt_size e
  | ext φ => obtain ⟨_,⟨_,e⟩,_⟩ := x; exact Heap.lt_size e
theorem Paired.mapP {α β : Type}{F G : α -> β -> Prop} : ∀ {l₁ : List α} {l₂ : List β},Paired F l₁ l₂ -> (∀ a b,F a b -> G a b) -> Paired G l₁ l₂
  | _,_,.nil,_ => .nil
  | _,_,.cons r t,f => .cons (f _ _ r) (Paired.mapP t f)
theorem ObjOk.stay (x : ObjOk P w H h a o)(k : ∀ b u,(b = a \/ H b = some (.own a)) -> h.get? b = some u -> h'.get? b = some u)
    (ho : ∀ b,H b = some (.own a) -> H' b = some (.own a)) (ht : ∀ b xs,H b = some (.tup xs) -> H' b = some (.tup xs)) (hz : ∀ b ob u,H b = some (.frz ob u) -> H' b = some (.frz ob u) := by first | exact fun _ _ _ q => q | (intro c ob uz q; rw [L2.upd_ne (L2.ne_of_none q (by assumption))]; exact q)) : ObjOk P w H' h' a o := by
  induction o with
  | lst xs => obtain ⟨z,its,n,r,e⟩ := x; exact ⟨z,its,n,r,k _ _ (.inl rfl) e⟩
  | tup xs => obtain ⟨z,its,r,ob,e,c⟩ := x; exact ⟨z,its,r,ob,k _ _ (.inl rfl) e,c⟩
  | dK kvs => obtain ⟨z,y,vs,r,ob,es,ep,e,c⟩ := x; exact ⟨z,y,vs,r,ob,es,ep,k _ _ (.inl rfl) e,c⟩
  | dT kvs =>
    obtain ⟨z,y,xs,r,ob,es,ep,e,c⟩ := x
    exact ⟨z,y,xs,Paired.mapP r fun p q z => ⟨z.1,ht _ _ z.2.1,z.2.2⟩,ob,es,ep,k _ _ (.inl rfl) e,c⟩
  | set S n => obtain ⟨ob,es,ep,t,e,c⟩ := x; exact ⟨ob,es,ep,t,k _ _ (.inl rfl) e,c⟩
  | ins C dx fs =>
    obtain ⟨d,z,ne,e,mA,⟨od,es,ep,e2,c⟩,r⟩ := x
    exact ⟨ho _ d,z,ne,k _ _ (.inl rfl) e,mA,⟨od,es,ep,k _ _ (.inr d) e2,c⟩,r⟩
  | own y => obtain ⟨ob,e⟩ := x; exact ⟨ob,k _ _ (.inl rfl) e⟩
  | xd fs => obtain ⟨mA,⟨od,es,ep,e,c⟩,r⟩ := x; exact ⟨mA,⟨od,es,ep,k _ _ (.inl rfl) e,c⟩,r⟩
  | rng lo hi => obtain ⟨t,u,v,e⟩ := x; exact ⟨t,u,v,k _ _ (.inl rfl) e⟩
  | frz ob u ih => obtain ⟨e,q⟩ := x; exact ⟨k _ _ (.inl rfl) e,ih q⟩
  | tbl ps =>
    have e : h.get? a = some { cls := .none,data := .fields ps } := x
    show h'.get? a = some { cls := .none,data := .fields ps }
    exact k a _ (.inl rfl) e
  | met f y =>
    have e : h.get? a = some (PySem.W.methodObj (.ref f) (.ref y)) := x
    show h'.get? a = some (PySem.W.methodObj (.ref f) (.ref y))
    exact k a _ (.inl rfl) e
  | cod q => obtain ⟨ps,e,t,r⟩ := x; exact ⟨ps,k _ _ (.inl rfl) e,t,fun pos cv hc => let ⟨c',oc,vs,tt,z1,z2,z3⟩ := r pos cv hc; ⟨c',oc,vs,tt,z1,hz _ _ _ z2,z3⟩⟩
  | ext φ => obtain ⟨p,⟨o,e⟩,st⟩ := x; exact ⟨st _ _ p fun o q => k _ _ (.inl rfl) q,⟨o,k _ _ (.inl rfl) e⟩,st⟩
theorem HOk.lt (x : HOk P w H h)(e : H a = some o) : a < h.objs.size := (x a o e).lt
theorem HOk.fresh (x : HOk P w H h)(e : h.objs.size <= a) : H a = none := by
  cases q : H a with
  | none => rfl
  | some u => exact absurd (Nat.lt_of_lt_of_le (x.lt q) e) (Nat.lt_irrefl _)
theorem HOk.kept (x : HOk P w H h)(k : ∀ b u,h.get? b = some u -> h'.get? b = some u) : HOk P w H h' := fun a o e =>
  (x a o e).stay (fun b u _ q => k b u q) (fun _ q => q) fun _ _ q => q
theorem HOk.laid (x : HOk P w H h)(k : ∀ b u,h.get? b = some u -> h'.get? b = some u)(hp : h.objs.size <= a)(new : ObjOk P w (upd H a o) h' a o) : HOk P w (upd H a o) h' := fun b u e => by
  have hn := x.fresh hp
  by_cases hb : b = a
  · subst hb; rw [upd_same] at e; cases e; exact new
  · rw [upd_ne hb] at e
    exact (x b u e).stay (fun c v _ q => k c v q) (fun c q => by rw [upd_ne (ne_of_none q hn)]; exact q) fun c xs q => by rw [upd_ne (ne_of_none q hn)]; exact q
end
def Rd (H : Hp)(a : Addr)(u : HO) : Prop := H a = some u \/ ∃ o,H a = some (.frz o u)
theorem Rd.of {H : Hp}{a : Addr}{u : HO}(h : H a = some u) : Rd H a u := .inl h
theorem Rd.ok {P : Program}{w : World}{H : Hp}{h : Heap}{a : Addr}{u : HO}(r : Rd H a u)(x : HOk P w H h) : ObjOk P w H h a u := by
  rcases r with r | ⟨o,r⟩
  · exact x a u r
  · obtain ⟨_,q⟩ := x a _ r
    exact q
def Mut : Option HO -> Prop
  | some (.lst _) => True
  | some (.dK _) => True
  | some (.dT _) => True
  | some (.set _ _) => True
  | some (.ins _ _ _) => True
  | some (.ext _) => True
  | _ => False
section
variable {P : Program}{w : World}{H : Hp}{h h' : Heap}{x e : Addr}{o' : HO}
theorem HOk.write (ok : HOk P w H h)(mu : Mut (H x))(he : e = x \/ H e = some (.own x))(k : ∀ b u,b ≠ e -> h.get? b = some u -> h'.get? b = some u)(heo : ∃ u,h'.get? e = some u)
    (new : ObjOk P w (upd H x o') h' x o') : HOk P w (upd H x o') h' := fun b u q => by
  have nown : ∀ c y,H c = some (.own y) -> c ≠ x := fun c y r z => by subst z; rw [r] at mu; exact mu
  have ntup : ∀ c xs,H c = some (.tup xs) -> c ≠ x := fun c xs r z => by subst z; rw [r] at mu; exact mu
  have nfrz : ∀ c ob uz,H c = some (.frz ob uz) -> c ≠ x := fun c ob uz r z => by subst z; rw [r] at mu; exact mu
  by_cases hb : b = x
  · subst hb; rw [upd_same] at q; cases q; exact new
  · rw [upd_ne hb] at q
    by_cases hbe : b = e
    · have q' : H b = some (.own x) := by
        rcases he with z | z
        · exact absurd (hbe.trans z) hb
        · rw [hbe]; exact z
      rw [q] at q'; cases q'
      obtain ⟨v,hv⟩ := heo
      exact ⟨v,by rw [hbe]; exact hv⟩
    · refine (ok b u q).stay (fun c v hc r => k c v ?_ r) (fun c r => by rw [upd_ne (nown c b r)]; exact r) (fun c xs r => by rw [upd_ne (ntup c xs r)]; exact r) fun c ob uz r => by rw [upd_ne (nfrz c ob uz r)]; exact r
      rcases hc with rfl | hc
      · exact hbe
      · rintro rfl
        rcases he with z | z
        · exact nown c b hc z
        · rw [hc] at z; cases z; exact hb rfl
end
structure Un (fs ex : List Addr)(H H' : Hp)(h h' : Heap) : Prop where
  keep : ∀ b o,h.get? b = some o -> H b = none -> b ∉ fs -> b ∉ ex -> h'.get? b = some o
  slot : ∀ b o,h.get? b = some o -> H b = none -> b ∈ fs -> b ∉ ex -> ∃ sl,h'.get? b = some { o with slots := sl }
  free : ∀ b o,h.get? b = some o -> H b = none -> b ∉ ex -> H' b = none
  there : ∀ b o,h.get? b = some o -> b ∉ ex -> ∃ o',h'.get? b = some o'
  tups : ∀ b xs,H b = some (.tup xs) -> H' b = some (.tup xs)
  frzs : ∀ b o u,H b = some (.frz o u) -> H' b = some (.frz o u)
  tbls : ∀ b ps,H b = some (.tbl ps) -> ∃ more,H' b = some (.tbl (ps ++ more))
section
variable {fs fs' ex ex' : List Addr}{H H1 H2 : Hp}{h h1 h2 h' : Heap}{a x e : Addr}{o : HO}
theorem Un.any (u : Un fs ex H H1 h h1){b : Addr}{ob : Obj}(q : h.get? b = some ob)(n : H b = none)(hx : b ∉ ex) : ∃ sl,h1.get? b = some { ob with slots := sl } := by
  by_cases hb : b ∈ fs
  · exact u.slot b ob q n hb hx
  · exact ⟨ob.slots,u.keep b ob q n hb hx⟩
theorem Un.trans (a : Un fs ex H H1 h h1)(b : Un fs ex H1 H2 h1 h2) : Un fs ex H H2 h h2 where
  keep := fun c ob q n hc hx => b.keep c ob (a.keep c ob q n hc hx) (a.free c ob q n hx) hc hx
  slot := fun c ob q n hc hx => by
    obtain ⟨sl,e1⟩ := a.slot c ob q n hc hx
    obtain ⟨sl',e2⟩ := b.slot c _ e1 (a.free c ob q n hx) hc hx
    exact ⟨sl',e2⟩
  free := fun c ob q n hx => by
    obtain ⟨o',e1⟩ := a.there c ob q hx
    exact b.free c o' e1 (a.free c ob q n hx) hx
  there := fun c ob q hx => by
    obtain ⟨o',e1⟩ := a.there c ob q hx
    exact b.there c o' e1 hx
  tups := fun c xs q => b.tups c xs (a.tups c xs q)
  frzs := fun c ob xs q => b.frzs c ob xs (a.frzs c ob xs q)
  tbls := fun c ps q => by
    obtain ⟨m1,e1⟩ := a.tbls c ps q
    obtain ⟨m2,e2⟩ := b.tbls c _ e1
    exact ⟨m1 ++ m2,by rw [e2,Array.append_assoc]⟩
theorem Un.kept (k : ∀ b u,h.get? b = some u -> h'.get? b = some u) : Un fs ex H H h h' :=
  ⟨fun b ob q _ _ _ => k b ob q,fun b ob q _ _ _ => ⟨ob.slots,k b ob q⟩,fun _ _ _ n _ => n,fun b ob q _ => ⟨ob,k b ob q⟩,fun _ _ q => q,fun _ _ _ q => q,fun _ ps q => ⟨#[],by rw [q]; simp⟩⟩
theorem Un.refl : Un fs ex H H h h := Un.kept fun _ _ q => q
theorem Un.laid (k : ∀ b u,h.get? b = some u -> h'.get? b = some u)(hp : h.objs.size <= a)(hn : H a = none) : Un fs ex H (upd H a o) h h' where
  keep := fun b u q _ _ _ => k b u q
  slot := fun b u q _ _ _ => ⟨u.slots,k b u q⟩
  free := fun b u q n _ => by rw [upd_ne (Nat.ne_of_lt (Nat.lt_of_lt_of_le (Heap.lt_size q) hp))]; exact n
  there := fun b u q _ => ⟨u,k b u q⟩
  tups := fun b xs q => by rw [upd_ne (ne_of_none q hn)]; exact q
  frzs := fun b u xs q => by rw [upd_ne (ne_of_none q hn)]; exact q
  tbls := fun b ps q => ⟨#[],by rw [upd_ne (ne_of_none q hn),q]; simp⟩
theorem Un.write (mu : Mut (H x))(he : e = x \/ H e = some (.own x))(k : ∀ b u,b ≠ e -> h.get? b = some u -> h'.get? b = some u)(heo : ∃ u,h'.get? e = some u) : Un fs ex H (upd H x o) h h' := by
  have hx : ∀ b,H b = none -> b ≠ x := fun b n z => by subst z; rw [n] at mu; exact mu
  have hb : ∀ b,H b = none -> b ≠ e := fun b n z => by
    subst z
    rcases he with r | r
    · exact hx b n r
    · rw [n] at r; cases r
  have hm : ∀ b u,H b = some u -> ¬ Mut (some u) -> b ≠ x := fun b u q nm z => by subst z; rw [q] at mu; exact nm mu
  refine ⟨fun b u q n _ _ => k b u (hb b n) q,fun b u q n _ _ => ⟨u.slots,k b u (hb b n) q⟩,fun b u q n _ => by rw [upd_ne (hx b n)]; exact n,fun b u q _ => ?_,
    fun b xs q => by rw [upd_ne (hm b _ q fun z => z)]; exact q,fun b u xs q => by rw [upd_ne (hm b _ q fun z => z)]; exact q,fun b ps q => ⟨#[],by rw [upd_ne (hm b _ q fun z => z),q]; simp⟩⟩
  by_cases hbe : b = e
  · subst hbe; exact heo
  · exact ⟨u,k b u hbe q⟩
end
def trk (h : Heap)(H : Hp) : List Addr := (List.range h.objs.size).filter fun a => (H a).isSome
def hidT (h : Heap)(H : Hp) : Heap := PySem.W.hideAll h (trk h H)
theorem hidT_size (h : Heap)(H : Hp) : (hidT h H).objs.size = h.objs.size := PySem.W.hideAll_size _ _
theorem hidT_get {h : Heap}{H : Hp}{b : Addr}{o : Obj}(e : h.get? b = some o)(n : H b = none) : (hidT h H).get? b = some o :=
  PySem.W.hideAll_get _ e fun hm => by
    have q : (H b).isSome = true := (List.mem_filter.mp hm).2
    rw [n] at q; simp at q
theorem of_hidT {h : Heap}{H : Hp}{b : Addr}{o : Obj}(e : (hidT h H).get? b = some o) : h.get? b = some o /\ H b = none := by
  have e' : h.get? b = some o := PySem.W.of_hideAll (trk h H) e
  refine ⟨e',?_⟩
  cases q : H b with
  | none => rfl
  | some x =>
    have hm : b ∈ trk h H := List.mem_filter.mpr ⟨List.mem_range.mpr (Heap.lt_size e'),by simp [q]⟩
    have z : (hidT h H).get? b = none := PySem.W.hideAll_none (trk h H) hm
    rw [z] at e; cases e
def allNews (g h : Heap)(L : Addr) : List (Addr × Obj) := (List.range h.objs.size).filterMap fun a => if a = L \/ (g.get? a).isSome = true then none else (h.get? a).map fun o => (a,o)
def rest (g h : Heap)(L d : Addr) : List (Addr × Obj) := (allNews g h L).filter fun p => decide (p.1 ≠ d)
end L2
namespace L2
open PySem PySem.Spec PyProof.Rows
structure Mod (K : PySem.W.Frag)(mg : Str -> Option Value)(base : Heap) : Prop where
  kin : K.In base
  glob : base.Ns mainGlobals mg
  blt : ∃ mb,base.Ns builtinsNs mb /\ ∀ x : Str,x ≠ "__name__" -> mb x = bootBuiltins x
  nolimit : base.NoLimit
structure Cx where
  prog : Program
  w : World
  K : PySem.W.Frag
  mg : Str -> Option Value
  base : Heap
  A : Around
  N : List Str
  s₀ : Shared
  H₀ : Hp
  env : Env
  outer : List Env
  stack : List Env
  ex : List Addr
  fn : Str -> Bool
  calm : Bool
  pn : List (Addr × Obj)
  xe : Value -> Shared -> Prop
def frs (l : List Env) : List Addr := l.filterMap (·.frame)
abbrev Cx.fs (X : Cx) : List Addr := frs X.outer
def Vis (sc : Scope)(x : Str) : Prop := sc.names.lookup x = some .local \/ sc.names.lookup x = some .cell \/ sc.names.lookup x = some .free
def Loc (sc : Scope)(x : Str) : Prop := sc.names.lookup x = some .local \/ sc.names.lookup x = some .cell
def Look (env : Env)(h : Heap)(m : Str -> Option Value)(x : Str)(u : Value) : Prop :=
  (env.kindOf x = some .local /\ m x = some u) \/ ((env.kindOf x = some .cell \/ env.kindOf x = some .free) /\ ∃ c,env.cells.lookup x = some c /\ h.IsCell c (some u))
structure Cx.Ok (X : Cx) : Prop where
  mod : Mod X.K X.mg X.base
  kind : X.env.scope.kind = .function
  glob : X.env.globals = mainGlobals
  blt : X.env.builtins = builtinsNs
  above : X.s₀.heap.objs.size <= X.env.locals
  inj : ∀ x y c,X.env.cells.lookup x = some c -> X.env.cells.lookup y = some c -> x = y
  has : ∀ x,(X.env.kindOf x = some .cell \/ X.env.kindOf x = some .free) -> ∃ c,X.env.cells.lookup x = some c
  cab : ∀ x c,X.fn x = true -> X.env.cells.lookup x = some c -> X.s₀.heap.objs.size <= c
  hd : X.calm = true -> X.A.handled = none
  frames : X.A.frames = some X.stack
  stk : X.stack = X.outer \/ (X.stack = X.env :: X.outer /\ X.env.frame = some X.env.locals)
  exf : ∀ b ∈ X.ex,b ≠ X.env.locals /\ ∀ x c,X.env.cells.lookup x = some c -> c ≠ b
  bs : ∀ b o,X.base.get? b = some o -> X.s₀.heap.get? b = some o /\ X.H₀ b = none
  bsz : X.base.objs.size <= X.s₀.heap.objs.size
  noex : ∀ b o,X.base.get? b = some o -> b ∉ X.ex
  exfs : ∀ b ∈ X.ex,b ∉ X.fs
  funs : X.s₀.heap.FunFrames X.base X.outer
  frf : ∀ b ∈ X.fs,X.H₀ b = none
structure Inv (X : Cx)(pins : List (Addr × Obj))(σ : List (Option V))(H : Hp)(s : Shared) : Prop where
  ok : X.Ok
  os : s.os = X.s₀.os
  bare : AllBare s.gens
  base : Un X.fs X.ex X.H₀ H X.s₀.heap s.heap
  loc : ∃ m,s.heap.Ns X.env.locals m /\ ∀ (i : Nat) (x : Str) (v : V),X.N[i]? = some x -> σ[i]? = some (some v) -> Vis X.env.scope x -> ∃ u,RelV v u /\ Look X.env s.heap m x u
  cell : ∀ x c,X.env.cells.lookup x = some c -> ∃ v,s.heap.IsCell c v
  free : H X.env.locals = none
  freeC : ∀ x c,X.env.cells.lookup x = some c -> H c = none
  pin : ∀ p ∈ X.pn ++ pins,s.heap.get? p.1 = some p.2 /\ H p.1 = none /\ p.1 ≠ X.env.locals /\ p.1 ∉ X.fs /\ ∀ v,p.2.data ≠ .cell v
  hok : HOk X.prog X.w H s.heap
  len : σ.length = X.N.length
section
variable {X : Cx}{pins : List (Addr × Obj)}{σ : List (Option V)}{H H' : Hp}{s : Shared}{h' : Heap}
theorem Cx.Ok.nofr (ok : X.Ok){b : Addr}{o : Obj}(e : X.base.get? b = some o) : b ∉ X.fs := fun hb => by
  have := (ok.funs.mem hb).1
  rw [e] at this; cases this
theorem Inv.bs (I : Inv X pins σ H s) : ∀ b o,X.base.get? b = some o -> s.heap.get? b = some o /\ H b = none := fun b o e =>
  ⟨I.base.keep b o (I.ok.bs b o e).1 (I.ok.bs b o e).2 (I.ok.nofr e) (I.ok.noex b o e),I.base.free b o (I.ok.bs b o e).1 (I.ok.bs b o e).2 (I.ok.noex b o e)⟩
theorem Inv.bk (I : Inv X pins σ H s) : ∀ b o,X.base.get? b = some o -> s.heap.get? b = some o := fun b o e => (I.bs b o e).1
theorem Inv.mod (I : Inv X pins σ H s) : Mod X.K X.mg X.base := I.ok.mod
theorem Inv.kIn (I : Inv X pins σ H s) : X.K.In s.heap := I.ok.mod.kin.keeps I.bk
theorem Inv.lt (I : Inv X pins σ H s) : X.env.locals < s.heap.objs.size := let ⟨_,hn,_⟩ := I.loc; hn.lt
theorem Inv.sz (I : Inv X pins σ H s) : X.s₀.heap.objs.size <= s.heap.objs.size := Nat.le_trans I.ok.above (Nat.le_of_lt I.lt)
theorem Inv.nofs (I : Inv X pins σ H s){a : Addr}(h : s.heap.objs.size <= a) : a ∉ X.fs := fun hb => by
  obtain ⟨_,o,ho,_⟩ := I.ok.funs.mem hb
  exact absurd (Nat.lt_of_lt_of_le (Heap.lt_size ho) (Nat.le_trans I.sz h)) (Nat.lt_irrefl _)
theorem Inv.cne (I : Inv X pins σ H s) : ∀ x c,X.env.cells.lookup x = some c -> c ≠ X.env.locals := fun x c e z => by
  obtain ⟨v,o,ho,hd⟩ := I.cell x c e
  obtain ⟨m,⟨o',es,ep,ho',hd',_⟩,_⟩ := I.loc
  rw [z,ho'] at ho; cases ho; rw [hd'] at hd; cases hd
theorem Inv.funs (I : Inv X pins σ H s) : s.heap.FunFrames X.base X.outer := by
  have all : ∀ (l : List Env),(∀ b ∈ frs l,b ∈ X.fs) -> X.s₀.heap.FunFrames X.base l -> s.heap.FunFrames X.base l := by
    intro l
    induction l with
    | nil => intro _ _; trivial
    | cons env r ih =>
      intro hs hl
      obtain ⟨hk,⟨L,o,hf,hn,ho,hd⟩,hr⟩ := hl
      have hL : L ∈ X.fs := hs L (by unfold frs; rw [List.filterMap_cons,hf]; exact List.mem_cons_self)
      obtain ⟨sl,e⟩ := I.base.slot L o ho (I.ok.frf L hL) hL fun z => I.ok.exfs L z hL
      exact ⟨hk,⟨L,_,hf,hn,e,hd⟩,ih (fun b hb => hs b (by unfold frs; rw [List.filterMap_cons,hf]; exact List.mem_cons_of_mem _ hb)) hr⟩
  exact all X.outer (fun _ hb => hb) I.ok.funs
theorem Inv.stack (I : Inv X pins σ H s) : s.heap.FunFrames X.base X.stack := by
  rcases I.ok.stk with e | ⟨e,hf⟩
  · rw [e]; exact I.funs
  · rw [e]
    obtain ⟨m,hn,_⟩ := I.loc
    refine .cons (by rw [I.ok.kind]; decide) hf hn ?_ I.funs
    exact Heap.get?_none_of_le (Nat.le_trans I.ok.bsz I.ok.above)
theorem Inv.stkSub (I : Inv X pins σ H s) : ∀ b ∈ frs X.stack,b ∈ X.env.locals :: X.fs := fun b hb => by
  rcases I.ok.stk with e | ⟨e,hf⟩
  · rw [e] at hb; exact List.mem_cons_of_mem _ hb
  · rw [e] at hb
    unfold frs at hb
    rw [List.filterMap_cons,hf] at hb
    exact hb
theorem Inv.stkFree (I : Inv X pins σ H s) : ∀ b ∈ frs X.stack,H b = none := fun b hb => by
  rcases List.mem_cons.mp (I.stkSub b hb) with e | hb
  · rw [e]; exact I.free
  · obtain ⟨_,o,ho,_⟩ := I.ok.funs.mem hb
    exact I.base.free b o ho (I.ok.frf b hb) fun z => I.ok.exfs b z hb
theorem Inv.step {g' : Array GenState}{t' : Nat}{d' : Drawn}{ch : List Addr}(I : Inv X pins σ H s)
    (hch : ∀ b ∈ ch,(b ∈ X.ex \/ X.s₀.heap.objs.size <= b) /\ b ≠ X.env.locals /\ (∀ x c,X.env.cells.lookup x = some c -> c ≠ b) /\ ∀ p ∈ X.pn ++ pins,p.1 ≠ b)
    (keep : ∀ b o,b ≠ X.env.locals -> b ∉ X.fs -> b ∉ ch -> s.heap.get? b = some o -> H b = none -> h'.get? b = some o)
    (slot : ∀ b o,b ≠ X.env.locals -> b ∈ X.fs -> b ∉ ch -> s.heap.get? b = some o -> H b = none -> ∃ sl,h'.get? b = some { o with slots := sl }) (free : ∀ b o,b ∉ ch -> s.heap.get? b = some o -> H b = none -> H' b = none)
    (there : ∀ b o,b ∉ ch -> s.heap.get? b = some o -> ∃ o',h'.get? b = some o')
    (tups : ∀ b xs,H b = some (.tup xs) -> H' b = some (.tup xs)) (frzs : ∀ b o u,H b = some (.frz o u) -> H' b = some (.frz o u)) (tbls : ∀ b ps,H b = some (.tbl ps) -> ∃ more,H' b = some (.tbl (ps ++ more)))
    (ns : ∀ m,s.heap.Ns X.env.locals m -> h'.Ns X.env.locals m) (hok : HOk X.prog X.w H' h') (hg : AllBare g') :
    Inv X pins σ H' { s with heap := h',gens := g',drawn := d',toks := t' } := by
  have neL : ∀ b o,X.s₀.heap.get? b = some o -> b ≠ X.env.locals := fun b o e => Nat.ne_of_lt (Nat.lt_of_lt_of_le (Heap.lt_size e) I.ok.above)
  have neC : ∀ b o,X.s₀.heap.get? b = some o -> b ∉ X.ex -> b ∉ ch := fun b o e hx hb => by
    rcases (hch b hb).1 with z | z
    · exact hx z
    · exact absurd (Nat.lt_of_lt_of_le (Heap.lt_size e) z) (Nat.lt_irrefl _)
  have cellK : ∀ x c,X.env.cells.lookup x = some c -> ∀ v,s.heap.IsCell c v -> h'.IsCell c v := fun x c e v ⟨o,ho,hd⟩ => by
    have nch : c ∉ ch := fun z => (hch c z).2.2.1 x c e rfl
    by_cases hc : c ∈ X.fs
    · obtain ⟨sl,q⟩ := slot c o (I.cne x c e) hc nch ho (I.freeC x c e)
      exact ⟨_,q,hd⟩
    · exact ⟨o,keep c o (I.cne x c e) hc nch ho (I.freeC x c e),hd⟩
  refine ⟨I.ok,I.os,hg,⟨fun b o e n hb hx => ?_,fun b o e n hb hx => ?_,fun b o e n hx => ?_,fun b o e hx => ?_,fun b xs e => tups b xs (I.base.tups b xs e),fun b o xs e => frzs b o xs (I.base.frzs b o xs e),fun b ps e => ?_⟩,?_,fun x c e => ?_,?_,fun x c e => ?_,fun p hp => ?_,hok,I.len⟩
  · exact keep b o (neL b o e) hb (neC b o e hx) (I.base.keep b o e n hb hx) (I.base.free b o e n hx)
  · obtain ⟨sl,e1⟩ := I.base.slot b o e n hb hx
    obtain ⟨sl',e2⟩ := slot b _ (neL b o e) hb (neC b o e hx) e1 (I.base.free b o e n hx)
    exact ⟨sl',e2⟩
  · obtain ⟨o',e1⟩ := I.base.there b o e hx
    exact free b o' (neC b o e hx) e1 (I.base.free b o e n hx)
  · obtain ⟨o',e1⟩ := I.base.there b o e hx
    exact there b o' (neC b o e hx) e1
  · obtain ⟨m1,e1⟩ := I.base.tbls b ps e
    obtain ⟨m2,e2⟩ := tbls b _ e1
    exact ⟨m1 ++ m2,by rw [e2,Array.append_assoc]⟩
  · obtain ⟨m,hn,hl⟩ := I.loc
    refine ⟨m,ns m hn,fun i x v e1 e2 e3 => ?_⟩
    obtain ⟨u,r,l⟩ := hl i x v e1 e2 e3
    refine ⟨u,r,?_⟩
    rcases l with l | ⟨k,c,e,z⟩
    · exact .inl l
    · exact .inr ⟨k,c,e,cellK x c e _ z⟩
  · obtain ⟨v,z⟩ := I.cell x c e
    exact ⟨v,cellK x c e v z⟩
  · obtain ⟨m,⟨o,_,_,ho,_⟩,_⟩ := I.loc
    exact free _ o (fun z => (hch _ z).2.1 rfl) ho I.free
  · obtain ⟨v,o,ho,hd⟩ := I.cell x c e
    exact free c o (fun z => (hch c z).2.2.1 x c e rfl) ho (I.freeC x c e)
  · obtain ⟨e,n,ne,nf,d⟩ := I.pin p hp
    have nch : p.1 ∉ ch := fun z => (hch p.1 z).2.2.2 p hp rfl
    exact ⟨keep p.1 p.2 ne nf nch e n,free p.1 p.2 nch e n,ne,nf,d⟩
theorem Inv.un {t' : Nat}(I : Inv X pins σ H s)(u : Un X.fs [] H H' s.heap h')(hok : HOk X.prog X.w H' h') : Inv X pins σ H' { s with heap := h',toks := t' } := by
  obtain ⟨m,⟨o,es,ep,ho,r⟩,_⟩ := id I.loc
  obtain ⟨sl,hL⟩ := u.any ho I.free (by simp)
  exact I.step (g' := s.gens) (d' := s.drawn) (ch := []) (fun _ z => nomatch z) (fun b o _ hb _ e n => u.keep b o e n hb (by simp)) (fun b o _ hb _ e n => u.slot b o e n hb (by simp)) (fun b o _ e n => u.free b o e n (by simp)) (fun b o _ e => u.there b o e (by simp)) u.tups u.frzs u.tbls (fun m' hm => by
    obtain ⟨o',es',ep',ho',r'⟩ := hm
    rw [ho] at ho'; cases ho'
    exact ⟨_,es',ep',hL,r'⟩) hok I.bare
theorem Inv.call {g' : Array GenState}{t' : Nat}{d' : Drawn}{ch : List Addr}(I : Inv X pins σ H s)(u : Un (frs X.stack) ch H H' s.heap h')(hok : HOk X.prog X.w H' h')(hg : AllBare g')
    (hch : ∀ b ∈ ch,(b ∈ X.ex \/ X.s₀.heap.objs.size <= b) /\ b ≠ X.env.locals /\ (∀ x c,X.env.cells.lookup x = some c -> c ≠ b) /\ ∀ p ∈ X.pn ++ pins,p.1 ≠ b) :
    Inv X pins σ H' { s with heap := h',gens := g',drawn := d',toks := t' } := by
  obtain ⟨m,⟨o,es,ep,ho,r⟩,_⟩ := id I.loc
  obtain ⟨sl,hL⟩ := u.any ho I.free fun z => (hch _ z).2.1 rfl
  exact I.step (ch := ch) hch (fun b o hL hb hc e n => u.keep b o e n (fun z => (List.mem_cons.mp (I.stkSub b z)).elim hL hb) hc) (fun b o _ _ hc e n => u.any e n hc) (fun b o hc e n => u.free b o e n hc) (fun b o hc e => u.there b o e hc) u.tups u.frzs u.tbls (fun m' hm => by
    obtain ⟨o',es',ep',ho',r'⟩ := hm
    rw [ho] at ho'; cases ho'
    exact ⟨_,es',ep',hL,r'⟩) hok hg
theorem Inv.turned {t' : Nat}{it : Addr}(I : Inv X pins σ H s)(k : ∀ b o,b ≠ it -> s.heap.get? b = some o -> h'.get? b = some o)(hn : H it = none)(hL : it ≠ X.env.locals)
    (h1 : it ∈ X.ex \/ X.s₀.heap.objs.size <= it) (h2 : ∀ x c,X.env.cells.lookup x = some c -> c ≠ it) (h3 : ∀ p ∈ X.pn ++ pins,p.1 ≠ it) : Inv X pins σ H { s with heap := h',toks := t' } := by
  have nit : ∀ b u,H b = some u -> b ≠ it := fun b u e z => by rw [z,hn] at e; cases e
  refine I.step (g' := s.gens) (d' := s.drawn) (ch := [it]) (fun b hb => ?_) (fun b o _ _ hc e _ => k b o (fun z => hc (by simp [z])) e) (fun b o _ _ hc e _ => ⟨o.slots,k b o (fun z => hc (by simp [z])) e⟩) (fun _ _ _ _ n => n)
    (fun b o hc e => ⟨o,k b o (fun z => hc (by simp [z])) e⟩) (fun _ _ e => e) (fun _ _ _ e => e) (fun b ps e => ⟨#[],by rw [e]; simp⟩) (fun m hm => ?_) (fun b u e => ?_) I.bare
  · have e : b = it := by simpa using hb
    subst e
    exact ⟨h1,hL,h2,h3⟩
  · obtain ⟨o,es,ep,ho,r⟩ := hm
    exact ⟨o,es,ep,k _ o (Ne.symm hL) ho,r⟩
  · refine (I.hok b u e).stay (fun c v hc q => k c v ?_ q) (fun _ q => q) fun _ _ q => q
    rcases hc with z | z
    · rw [z]; exact nit b u e
    · exact nit c _ z
theorem Inv.tok (I : Inv X pins σ H s)(t : Nat) : Inv X pins σ H { s with toks := t } := I.un (h' := s.heap) (t' := t) Un.refl I.hok
theorem Inv.kept {t' : Nat}(I : Inv X pins σ H s)(k : ∀ b u,s.heap.get? b = some u -> h'.get? b = some u) : Inv X pins σ H { s with heap := h',toks := t' } := I.un (Un.kept k) (I.hok.kept k)
theorem Inv.laid {a : Addr}{o : HO}{t' : Nat}(I : Inv X pins σ H s)(k : ∀ b u,s.heap.get? b = some u -> h'.get? b = some u)(hp : s.heap.objs.size <= a)(new : ObjOk X.prog X.w (upd H a o) h' a o) :
    Inv X pins σ (upd H a o) { s with heap := h',toks := t' } := I.un (Un.laid k hp (I.hok.fresh hp)) (I.hok.laid k hp new)
theorem Inv.write {x e : Addr}{o : HO}{t' : Nat}(I : Inv X pins σ H s)(mu : Mut (H x))(he : e = x \/ H e = some (.own x))(k : ∀ b u,b ≠ e -> s.heap.get? b = some u -> h'.get? b = some u)(heo : ∃ u,h'.get? e = some u)
    (new : ObjOk X.prog X.w (upd H x o) h' x o) : Inv X pins σ (upd H x o) { s with heap := h',toks := t' } := I.un (Un.write mu he k heo) (I.hok.write mu he k heo new)
theorem Inv.weak {σ' : List (Option V)}(I : Inv X pins σ H s)(hl : σ'.length = σ.length)(w : ∀ (i : Nat) v,σ'[i]? = some (some v) -> σ[i]? = some (some v)) : Inv X pins σ' H s :=
  ⟨I.ok,I.os,I.bare,I.base,let ⟨m,hn,hl'⟩ := I.loc; ⟨m,hn,fun i x v e1 e2 e3 => hl' i x v e1 (w i v e2) e3⟩,I.cell,I.free,I.freeC,I.pin,I.hok,hl.trans I.len⟩
theorem Inv.pins_of {pins' : List (Addr × Obj)}(I : Inv X pins σ H s)(h : ∀ p ∈ pins',s.heap.get? p.1 = some p.2 /\ H p.1 = none /\ p.1 ≠ X.env.locals /\ p.1 ∉ X.fs /\ ∀ v,p.2.data ≠ .cell v) : Inv X pins' σ H s :=
  ⟨I.ok,I.os,I.bare,I.base,I.loc,I.cell,I.free,I.freeC,fun p hp => (List.mem_append.mp hp).elim (fun z => I.pin p (List.mem_append_left _ z)) (h p),I.hok,I.len⟩
theorem nodup_ix {N : List Str}(hN : N.Nodup){i j : Nat}{x : Str}(a : N[i]? = some x)(b : N[j]? = some x) : i = j := by
  obtain ⟨h1,e1⟩ := List.getElem?_eq_some_iff.mp a
  obtain ⟨h2,e2⟩ := List.getElem?_eq_some_iff.mp b
  exact (List.getElem_inj hN).mp (e1.trans e2.symm)
theorem store_ok2 {M : Model}{A : Around}{E : Value -> Shared -> Prop}{i : Nat}{x : Str}{v : V}{u : Value}{Q : Unit -> Shared -> Prop}(I : Inv X pins σ H s)(hN : X.N.Nodup)(hi : X.N[i]? = some x)(hx : Loc X.env.scope x)(r : RelV v u)
    (h : ∀ s',Inv X pins (σ.set i (some v)) H s' -> (∃ a,Heap.SameBut a s.heap s'.heap /\ (a = X.env.locals \/ X.env.cells.lookup x = some a)) -> Q () s') (hf : X.fn x = true \/ X.env.scope.names.lookup x = some .local := by first | exact .inl rfl | exact .inr rfl | assumption) : wpAny M A (storeName X.env x u) Q E s := by
  obtain ⟨m,hn,hl⟩ := id I.loc
  have hcls : (X.env.scope.kind == .class || (X.env.scope.kind == .module && X.env.locals != X.env.globals)) = false := by rw [I.ok.kind]; rfl
  have hiσ : i < σ.length := by rw [I.len]; exact (List.getElem?_eq_some_iff.mp hi).1
  have cne := I.cne
  have tracked : ∀ {a : Addr} {h' : Heap},(∃ o,s.heap.get? a = some o /\ H a = none) -> Heap.SameBut a s.heap h' -> HOk X.prog X.w H h' := fun {a h'} ha hs b ob e => by
    obtain ⟨_,_,hfree⟩ := ha
    refine (I.hok b ob e).stay (fun c w' hc q => (hs.2 c ?_).trans q) (fun _ q => q) fun _ _ q => q
    rintro rfl
    rcases hc with rfl | hc
    · rw [hfree] at e; cases e
    · rw [hfree] at hc; cases hc
  rcases hx with hk | hk
  · refine wpAny_storeName_local hk hn (fun h' hn' hs => ?_) hcls
    obtain ⟨oL,_,_,hoL,_⟩ := id hn
    refine h _ ⟨I.ok,I.os,I.bare,⟨fun b o e n hb hx => ?_,fun b o e n hb hx => ?_,I.base.free,fun b o e hx => ?_,I.base.tups,I.base.frzs,I.base.tbls⟩,⟨_,hn',fun j y v' e1 e2 e3 => ?_⟩,fun y c e => ?_,I.free,I.freeC,fun p hp => ?_,tracked ⟨oL,hoL,I.free⟩ hs,by simpa using I.len⟩ ⟨_,hs,.inl rfl⟩
    · exact (hs.2 b (Nat.ne_of_lt (Nat.lt_of_lt_of_le (Heap.lt_size e) I.ok.above))).trans (I.base.keep b o e n hb hx)
    · obtain ⟨sl,e1⟩ := I.base.slot b o e n hb hx
      exact ⟨sl,(hs.2 b (Nat.ne_of_lt (Nat.lt_of_lt_of_le (Heap.lt_size e) I.ok.above))).trans e1⟩
    · obtain ⟨o',e1⟩ := I.base.there b o e hx
      exact ⟨o',(hs.2 b (Nat.ne_of_lt (Nat.lt_of_lt_of_le (Heap.lt_size e) I.ok.above))).trans e1⟩
    · by_cases hj : j = i
      · subst hj
        rw [hi] at e1; cases e1
        rw [List.getElem?_set_self hiσ] at e2
        cases e2
        exact ⟨u,r,.inl ⟨hk,by simp⟩⟩
      · rw [List.getElem?_set_ne (Ne.symm hj)] at e2
        obtain ⟨u',r',q⟩ := hl j y v' e1 e2 e3
        refine ⟨u',r',?_⟩
        rcases q with ⟨k,e⟩ | ⟨k,c,e,z⟩
        · refine .inl ⟨k,?_⟩
          have : y ≠ x := fun e => hj (nodup_ix hN e1 (e ▸ hi))
          simp [this,e]
        · exact .inr ⟨k,c,e,z.sameBut hs (cne y c e)⟩
    · obtain ⟨w',z⟩ := I.cell y c e
      exact ⟨w',z.sameBut hs (cne y c e)⟩
    · obtain ⟨e,n,ne,nf,d⟩ := I.pin p hp
      exact ⟨(hs.2 p.1 ne).trans e,n,ne,nf,d⟩
  · have hfn : X.fn x = true := by
      rcases hf with z | z
      · exact z
      · rw [z] at hk; cases hk
    obtain ⟨c,hc⟩ := I.ok.has x (.inl hk)
    obtain ⟨w',z⟩ := I.cell x c hc
    refine wpAny_storeName_cell I.ok.kind hk hc z (fun h' hc' hs => ?_)
    obtain ⟨oc,hoc,hocd⟩ := id z
    refine h { s with heap := h' } ⟨I.ok,I.os,I.bare,⟨fun b o e n hb hx => ?_,fun b o e n hb hx => ?_,I.base.free,fun b o e hx => ?_,I.base.tups,I.base.frzs,I.base.tbls⟩,⟨m,hn.sameBut hs (Ne.symm (cne x c hc)),fun j y v' e1 e2 e3 => ?_⟩,fun y c' e => ?_,I.free,I.freeC,fun p hp => ?_,tracked ⟨oc,hoc,I.freeC x c hc⟩ hs,by simpa using I.len⟩ ⟨c,hs,.inr hc⟩
    · exact (hs.2 b (Nat.ne_of_lt (Nat.lt_of_lt_of_le (Heap.lt_size e) (I.ok.cab x c hfn hc)))).trans (I.base.keep b o e n hb hx)
    · obtain ⟨sl,e1⟩ := I.base.slot b o e n hb hx
      exact ⟨sl,(hs.2 b (Nat.ne_of_lt (Nat.lt_of_lt_of_le (Heap.lt_size e) (I.ok.cab x c hfn hc)))).trans e1⟩
    · obtain ⟨o',e1⟩ := I.base.there b o e hx
      exact ⟨o',(hs.2 b (Nat.ne_of_lt (Nat.lt_of_lt_of_le (Heap.lt_size e) (I.ok.cab x c hfn hc)))).trans e1⟩
    · by_cases hj : j = i
      · subst hj
        rw [hi] at e1; cases e1
        rw [List.getElem?_set_self hiσ] at e2
        cases e2
        exact ⟨u,r,.inr ⟨.inl hk,c,hc,hc'⟩⟩
      · rw [List.getElem?_set_ne (Ne.symm hj)] at e2
        obtain ⟨u',r',q⟩ := hl j y v' e1 e2 e3
        refine ⟨u',r',?_⟩
        rcases q with q | ⟨k,c',e,z'⟩
        · exact .inl q
        · refine .inr ⟨k,c',e,z'.sameBut hs ?_⟩
          rintro rfl
          exact hj (nodup_ix hN e1 (I.ok.inj _ _ _ e hc ▸ hi))
    · by_cases hcc : c' = c
      · subst hcc; exact ⟨_,hc'⟩
      · obtain ⟨w2,z2⟩ := I.cell y c' e
        exact ⟨w2,z2.sameBut hs hcc⟩
    · obtain ⟨e,n,ne,nf,d⟩ := I.pin p hp
      refine ⟨(hs.2 p.1 ?_).trans e,n,ne,nf,d⟩
      intro q
      rw [q,hoc] at e
      have q' : oc = p.2 := Option.some.inj e
      exact d w' (by rw [<- q']; exact hocd)
theorem store_ok {M : Model}{A : Around}{E : Value -> Shared -> Prop}{i : Nat}{x : Str}{v : V}{u : Value}{Q : Unit -> Shared -> Prop}(I : Inv X pins σ H s)(hN : X.N.Nodup)(hi : X.N[i]? = some x)(hx : Loc X.env.scope x)(r : RelV v u)
    (h : ∀ s',Inv X pins (σ.set i (some v)) H s' -> Q () s') (hf : X.fn x = true \/ X.env.scope.names.lookup x = some .local := by first | exact .inl rfl | exact .inr rfl | assumption) : wpAny M A (storeName X.env x u) Q E s :=
  store_ok2 I hN hi hx r (fun s' I' _ => h s' I') hf
theorem Inv.call' {s' : Shared}{ch : List Addr}(I : Inv X pins σ H s)(ho : s'.os = s.os)(u : Un (frs X.stack) ch H H' s.heap s'.heap)(hok : HOk X.prog X.w H' s'.heap)(hg : AllBare s'.gens)
    (hch : ∀ b ∈ ch,(b ∈ X.ex \/ X.s₀.heap.objs.size <= b) /\ b ≠ X.env.locals /\ (∀ x c,X.env.cells.lookup x = some c -> c ≠ b) /\ ∀ p ∈ X.pn ++ pins,p.1 ≠ b) : Inv X pins σ H' s' := by
  obtain ⟨h',g',d',t',o'⟩ := s'
  have e : o' = s.os := ho
  subst e
  exact I.call (g' := g') (t' := t') (d' := d') u hok hg hch
end
abbrev XK := Value -> Option Addr -> Hp -> Prop
abbrev St := List (Option V)
abbrev VK := V -> Hp -> Prop
abbrev TE := St -> Hp -> VK -> Prop
abbrev TT := St -> Hp -> (Bool -> Hp -> Prop) -> Prop
abbrev TA := St -> Hp -> (List V -> Hp -> Prop) -> Prop
structure Ends where
  nx : St -> Hp -> Prop
  rt : VK
  bk : St -> Hp -> Prop := fun _ _ => False
  ct : St -> Hp -> Prop := fun _ _ => False
abbrev TS := Ends -> St -> Hp -> Prop
def EP (X : Cx)(pins : List (Addr × Obj))(σ : St)(Q : VK)(u : Value)(s' : Shared) : Prop := ∃ v H',Inv X pins σ H' s' /\ RelV v u /\ Q v H'
def TP (X : Cx)(pins : List (Addr × Obj))(σ : St)(Q : Bool -> Hp -> Prop)(b : Bool)(s' : Shared) : Prop := ∃ H',Inv X pins σ H' s' /\ Q b H'
def AP (X : Cx)(pins : List (Addr × Obj))(σ : St)(Q : List V -> Hp -> Prop)(us : List Value)(s' : Shared) : Prop := ∃ vs H',Inv X pins σ H' s' /\ Vals vs us /\ Q vs H'
def SP (X : Cx)(pins : List (Addr × Obj))(D : Ends)(f : Flow)(s' : Shared) : Prop :=
  match f with
  | .next => ∃ σ' H',Inv X pins σ' H' s' /\ D.nx σ' H'
  | .brk => ∃ σ' H',Inv X pins σ' H' s' /\ D.bk σ' H'
  | .cont => ∃ σ' H',Inv X pins σ' H' s' /\ D.ct σ' H'
  | .ret u => ∃ v σ' H',Inv X pins σ' H' s' /\ RelV v u /\ D.rt v H'
def PE (X : Cx)(e : Expr)(t : TE) : Prop :=
  ∀ (pins : List (Addr × Obj)) (s : Shared) (σ : St) (H : Hp) (Q : VK),Inv X pins σ H s -> t σ H Q -> wpAny (model X.prog X.w) X.A (eval e X.env) (EP X pins σ Q) X.xe s
def PT (X : Cx)(e : Expr)(t : TT) : Prop :=
  ∀ (pins : List (Addr × Obj)) (s : Shared) (σ : St) (H : Hp) (Q : Bool -> Hp -> Prop),Inv X pins σ H s -> t σ H Q -> wpAny (model X.prog X.w) X.A (isTrue e X.env (eval e X.env)) (TP X pins σ Q) X.xe s
def PW (X : Cx)(e : Expr)(t : TT) : Prop :=
  ∀ (whole : Sem Value) (pins : List (Addr × Obj)) (s : Shared) (σ : St) (H : Hp) (Q : Bool -> Hp -> Prop),Inv X pins σ H s -> t σ H Q -> wpAny (model X.prog X.w) X.A (isTrue e X.env whole) (TP X pins σ Q) X.xe s
theorem PW.pt {X : Cx}{e : Expr}{t : TT}(h : PW X e t) : PT X e t := h _
def PA (X : Cx)(es : List Expr)(t : TA) : Prop :=
  ∀ (pos : Pos) (pins : List (Addr × Obj)) (s : Shared) (σ : St) (H : Hp) (Q : List V -> Hp -> Prop),Inv X pins σ H s -> t σ H Q -> wpAny (model X.prog X.w) X.A (spliced (backTo pos (starEach es X.env))) (AP X pins σ Q) X.xe s
def PS (X : Cx)(st : Stmt)(t : TS) : Prop :=
  ∀ (pins : List (Addr × Obj)) (s : Shared) (σ : St) (H : Hp) (D : Ends),Inv X pins σ H s -> t D σ H -> wpAny (model X.prog X.w) X.A (exec st X.env) (SP X pins D) X.xe s
def PSs (X : Cx)(st : List Stmt)(t : TS) : Prop :=
  ∀ (pins : List (Addr × Obj)) (s : Shared) (σ : St) (H : Hp) (D : Ends),Inv X pins σ H s -> t D σ H -> wpAny (model X.prog X.w) X.A (execs st X.env) (SP X pins D) X.xe s
theorem thn {α : Type}{t : Sem α}{Q Q' : α -> Shared -> Prop}{M : Model}{A : Around}{E : Value -> Shared -> Prop}{s : Shared}(h : wpAny M A t Q E s)(hQ : ∀ a s,Q a s -> Q' a s) : wpAny M A t Q' E s := wpAny_mono h hQ fun _ _ x => x
end L2
namespace L2
open PySem PySem.Spec PyProof.Rows
section
variable {X : Cx}
def tVar (i : Nat) : TE := fun σ H Q => ∃ v,σ[i]? = some (some v) /\ Q v H
def tC (v : V) : TE := fun _ H Q => Q v H
theorem pe_var {i : Nat}{x : Str}{pos : Pos}(hN : X.N[i]? = some x)(hv : Vis X.env.scope x)(hd : (x == ("__debug__" : Str)) = false := by decide) (hcd : (x == ("__classdict__" : Str)) = false := by decide) : PE X (.Name x pos) (tVar i) := by
  intro pins s σ H Q I h
  obtain ⟨v,e,h⟩ := h
  obtain ⟨m,hn,hl⟩ := I.loc
  obtain ⟨u,r,l⟩ := hl i x v hN e hv
  have fin : EP X pins σ Q u s := ⟨v,H,I,r,h⟩
  rcases l with ⟨hk,hm⟩ | ⟨hk,c,hc,hcell⟩
  · exact wpAny_Name (wpAny_loadName_local I.ok.kind hk hn hm fin) hd
  · rcases hk with hk | hk
    · exact wpAny_Name (wpAny_loadName_cell I.ok.kind hk hc hcell fin) hd
    · exact wpAny_Name (wpAny_loadName_free I.ok.kind hk hc hcell fin hcd) hd
theorem pe_int {i j pos} : PE X (.Constant (.int i) j pos) (tC (.int i)) := fun _ _ _ H _ I h => wpAny_Constant_int ⟨.int i,H,I.tok _,⟨_,rfl⟩,h⟩
theorem pe_bl {b j pos} : PE X (.Constant (.bool b) j pos) (tC (.bl b)) := fun _ _ _ H _ I h => Constant_bool ⟨.bl b,H,I,rfl,h⟩
def Gl (X : Cx)(x : Str) : Prop := X.env.kindOf x = some .globalImplicit
theorem ld_glob {E : Value -> Shared -> Prop}{pins : List (Addr × Obj)}{s : Shared}{σ : St}{H : Hp}{x : Str}{u : Value}{pos : Pos}{Q : Value -> Shared -> Prop}(I : Inv X pins σ H s)(hg : Gl X x)(hm : X.mg x = some u)(h : Q u s)
    (hd : (x == ("__debug__" : Str)) = false := by decide) : wpAny (model X.prog X.w) X.A (eval (.Name x pos) X.env) Q E s :=
  Calls.Name_function_global I.ok.kind hg (Calls.loadGlobal_global (by rw [I.ok.glob]; exact I.mod.glob.keeps I.bk) hm h) hd
theorem ld_blt {E : Value -> Shared -> Prop}{pins : List (Addr × Obj)}{s : Shared}{σ : St}{H : Hp}{x : Str}{u : Value}{pos : Pos}{Q : Value -> Shared -> Prop}(I : Inv X pins σ H s)(hg : Gl X x)(hm : X.mg x = none)(hv : bootBuiltins x = some u)(h : Q u s)
    (hn : x ≠ "__name__" := by decide) (hd : (x == ("__debug__" : Str)) = false := by decide) : wpAny (model X.prog X.w) X.A (eval (.Name x pos) X.env) Q E s := by
  obtain ⟨mb,h1,h2⟩ := I.mod.blt
  exact Calls.Name_function_global I.ok.kind hg (Calls.loadGlobal_builtin (by rw [I.ok.glob]; exact I.mod.glob.keeps I.bk) hm (by rw [I.ok.blt]; exact h1.keeps I.bk) ((h2 x hn).trans hv) h) hd
theorem pe_bltn {x : Str}{v : V}{u : Value}{pos : Pos}(hg : Gl X x)(hm : X.mg x = none)(hv : bootBuiltins x = some u)(r : RelV v u)(hn : x ≠ "__name__" := by decide) (hd : (x == ("__debug__" : Str)) = false := by decide) : PE X (.Name x pos) (tC v) :=
  fun _ _ _ H _ I h => ld_blt I hg hm hv ⟨v,H,I,r,h⟩ hn hd
variable {a b : Expr}{ta tb : TE}{pos : Pos}
variable {tA tB' : TT}{rest : List Expr}
def tAnd (t u : TT) : TT := fun σ H Q => t σ H fun c H1 => if c = true then u σ H1 Q else Q false H1
def tOr (t u : TT) : TT := fun σ H Q => t σ H fun c H1 => if c = true then Q true H1 else u σ H1 Q
def tNot (t : TT) : TT := fun σ H Q => t σ H fun c H1 => Q (!c) H1
theorem pw_and1 (ha : PT X a tA) : PW X (.BoolOp .And [a] pos) tA := by
  intro wh pins s σ H Q I h
  refine isTrue_and (thn (ha pins s σ H Q I h) fun c s1 e => ?_)
  cases c with
  | true => exact isTrue_and_nil e
  | false => exact e
theorem pw_or1 (ha : PT X a tA) : PW X (.BoolOp .Or [a] pos) tA := by
  intro wh pins s σ H Q I h
  refine isTrue_or (thn (ha pins s σ H Q I h) fun c s1 e => ?_)
  cases c with
  | false => exact isTrue_or_nil e
  | true => exact e
theorem pw_and (ha : PT X a tA)(hb : PW X (.BoolOp .And (b :: rest) pos) tB') : PW X (.BoolOp .And (a :: b :: rest) pos) (tAnd tA tB') := by
  intro wh pins s σ H Q I h
  refine isTrue_and (thn (ha pins s σ H _ I h) fun c s1 ⟨H1,I1,q1⟩ => ?_)
  cases c with
  | true => exact hb wh pins s1 σ H1 Q I1 q1
  | false => exact ⟨H1,I1,q1⟩
theorem pw_or (ha : PT X a tA)(hb : PW X (.BoolOp .Or (b :: rest) pos) tB') : PW X (.BoolOp .Or (a :: b :: rest) pos) (tOr tA tB') := by
  intro wh pins s σ H Q I h
  refine isTrue_or (thn (ha pins s σ H _ I h) fun c s1 ⟨H1,I1,q1⟩ => ?_)
  cases c with
  | true => exact ⟨H1,I1,q1⟩
  | false => exact hb wh pins s1 σ H1 Q I1 q1
theorem pt_not (ha : PT X a tA) : PT X (.UnaryOp .Not a pos) (tNot tA) := by
  intro pins s σ H Q I h
  exact isTrue_not (ha pins s σ H (fun c H1 => Q (!c) H1) I h)
def tOrV (ta tb : TE) : TE := fun σ H Q => ta σ H fun x H1 => ∃ c,x = .bl c /\ if c = true then Q (.bl true) H1 else tb σ H1 Q
theorem pe_one {op}{t : TE}(h : PE X a t) : PE X (.BoolOp op [a] pos) t := fun pins s σ H Q I hw => BoolOp_one (h pins s σ H Q I hw)
theorem pe_or (ha : PE X a ta)(hb : PE X (.BoolOp .Or (b :: rest) pos) tb) : PE X (.BoolOp .Or (a :: b :: rest) pos) (tOrV ta tb) := by
  intro pins s σ H Q I h
  refine BoolOp_or (thn (ha pins s σ H _ I h) fun v s1 ⟨x,H1,I1,r1,q1⟩ => ?_)
  obtain ⟨c,rfl,q1⟩ := q1
  cases r1
  refine wpAny_truthy_bool ?_
  cases c with
  | false => exact hb pins s1 σ H1 Q I1 q1
  | true => exact ⟨.bl true,H1,I1,rfl,q1⟩
def tIf (t : TT)(ta tb : TE) : TE := fun σ H Q => t σ H fun c H1 => if c = true then ta σ H1 Q else tb σ H1 Q
theorem pe_ifExp {c : Expr}(hc : PT X c tA)(ha : PE X a ta)(hb : PE X b tb) : PE X (.IfExp c a b pos) (tIf tA ta tb) := by
  intro pins s σ H Q I h
  refine wpAny_IfExp (thn (hc pins s σ H _ I h) fun d s1 ⟨H1,I1,q1⟩ => ?_)
  cases d with
  | true => exact ha pins s1 σ H1 Q I1 q1
  | false => exact hb pins s1 σ H1 Q I1 q1
end
end L2
namespace L2
open PySem PySem.Spec PyProof.Rows
def SqL (K : PySem.W.Frag)(H : Hp)(a : Addr)(xs : List V) : Prop :=
  Rd H a (.lst xs) \/
    ∃ (o : Obj) (its : Array Value) (n : Nat),K.lookup a = some o /\ o.cls = .type "list" /\ o.dict = none /\ o.data = .seq its n /\ its.size <= sizeLine /\ Vals xs its.toList
def SqT (K : PySem.W.Frag)(H : Hp)(a : Addr)(xs : List V) : Prop :=
  Rd H a (.tup xs) \/
    ∃ (o : Obj) (its : Array Value) (n : Nat),K.lookup a = some o /\ o.cls = .type "tuple" /\ o.data = .seq its n /\ its.size <= sizeLine /\ Vals xs its.toList
def absV : Value -> Option V
  | .none => some .non
  | .bool b => some (.bl b)
  | .int i _ => some (.int i)
  | .str x _ => some (.str x)
  | .bytes b _ => some (.byt b)
  | .float b _ => some (.flt b)
  | .ref a => some (.ref a)
  | .type n => some (.ty n)
  | _ => none
theorem RelV.abs {x : V}{u : Value}(r : RelV x u) : absV u = some x := by
  cases x with
  | non => cases r; rfl
  | bl _ => cases r; rfl
  | int _ => obtain ⟨t,rfl⟩ := r; rfl
  | str _ => obtain ⟨t,rfl⟩ := r; rfl
  | byt _ => obtain ⟨t,rfl⟩ := r; rfl
  | flt _ => obtain ⟨t,rfl⟩ := r; rfl
  | ref _ => cases r; rfl
  | ty _ => cases r; rfl
theorem RelV.inj {x y : V}{u : Value}(r : RelV x u)(q : RelV y u) : x = y := Option.some.inj (r.abs.symm.trans q.abs)
theorem Vals.inj : ∀ {xs ys : List V} {us : List Value},Vals xs us -> Vals ys us -> xs = ys
  | _,_,_,.nil,.nil => rfl
  | _,_,_,.cons r t,.cons r' t' => by rw [r.inj r',Vals.inj t t']
section
variable {X : Cx}{pins : List (Addr × Obj)}{σ : St}{H : Hp}{s : Shared}{a : Addr}{xs ys : List V}
theorem SqL.of {K : PySem.W.Frag}(h : H a = some (.lst xs)) : SqL K H a xs := .inl (.inl h)
theorem SqT.of {K : PySem.W.Frag}(h : H a = some (.tup xs)) : SqT K H a xs := .inl (.inl h)
theorem Inv.list (I : Inv X pins σ H s)(h : SqL X.K H a xs) : ∃ its : List Value,Vals xs its /\ PlainL s.heap a its.toArray /\ xs.length <= sizeLine := by
  rcases h with h | ⟨o,its,n,hk,hc,hd,hs,hz,r⟩
  · obtain ⟨z,its,n,r,e⟩ := h.ok I.hok
    exact ⟨its,r,⟨_,n,e,rfl,rfl,rfl⟩,z⟩
  · refine ⟨its.toList,r,⟨o,n,I.kIn a o hk,hc,hd,by simpa using hs⟩,?_⟩
    have e := r.length
    simp only [Array.length_toList] at e
    omega
theorem Inv.tuple (I : Inv X pins σ H s)(h : SqT X.K H a xs) : ∃ its : List Value,Vals xs its /\ IsTup s.heap a its.toArray /\ xs.length <= sizeLine := by
  rcases h with h | ⟨o,its,n,hk,hc,hs,hz,r⟩
  · obtain ⟨z,its,r,p⟩ := h.ok I.hok
    exact ⟨its,r,p,z⟩
  · refine ⟨its.toList,r,⟨o,I.kIn a o hk,hc,n,by simpa using hs⟩,?_⟩
    have e := r.length
    simp only [Array.length_toList] at e
    omega
theorem Inv.list_inj (I : Inv X pins σ H s)(h : SqL X.K H a xs)(h' : SqL X.K H a ys) : xs = ys := by
  obtain ⟨its,r,⟨o,n,e,_,_,d⟩,_⟩ := I.list h
  obtain ⟨its',r',⟨o',n',e',_,_,d'⟩,_⟩ := I.list h'
  rw [e] at e'; cases e'
  rw [d] at d'
  injection d' with d1 _
  have : its = its' := by simpa using congrArg Array.toList d1
  subst this
  exact r.inj r'
theorem Inv.tuple_inj (I : Inv X pins σ H s)(h : SqT X.K H a xs)(h' : SqT X.K H a ys) : xs = ys := by
  obtain ⟨its,r,⟨o,e,_,n,d⟩,_⟩ := I.tuple h
  obtain ⟨its',r',⟨o',e',_,n',d'⟩,_⟩ := I.tuple h'
  rw [e] at e'; cases e'
  rw [d] at d'
  injection d' with d1 _
  have : its = its' := by simpa using congrArg Array.toList d1
  subst this
  exact r.inj r'
end
abbrev Cx.wish (X : Cx)(E : Value -> Shared -> Prop) : Cx := { X with xe := E }
abbrev Cx.nox (X : Cx) : Cx := X.wish fun _ _ => False
theorem Cx.Ok.wish {X : Cx}(ok : X.Ok)(E : Value -> Shared -> Prop) : (X.wish E).Ok :=
  ⟨ok.mod,ok.kind,ok.glob,ok.blt,ok.above,ok.inj,ok.has,ok.cab,ok.hd,ok.frames,ok.stk,ok.exf,ok.bs,ok.bsz,ok.noex,ok.exfs,ok.funs,ok.frf⟩
theorem Cx.Ok.unwish {X : Cx}{E : Value -> Shared -> Prop}(ok : (X.wish E).Ok) : X.Ok :=
  ⟨ok.mod,ok.kind,ok.glob,ok.blt,ok.above,ok.inj,ok.has,ok.cab,ok.hd,ok.frames,ok.stk,ok.exf,ok.bs,ok.bsz,ok.noex,ok.exfs,ok.funs,ok.frf⟩
section
variable {X : Cx}{pins : List (Addr × Obj)}{σ : St}{H : Hp}{s : Shared}{E : Value -> Shared -> Prop}
theorem Inv.wish (I : Inv X pins σ H s)(E : Value -> Shared -> Prop) : Inv (X.wish E) pins σ H s := ⟨I.ok.wish E,I.os,I.bare,I.base,I.loc,I.cell,I.free,I.freeC,I.pin,I.hok,I.len⟩
theorem Inv.unwish (I : Inv (X.wish E) pins σ H s) : Inv X pins σ H s := ⟨I.ok.unwish,I.os,I.bare,I.base,I.loc,I.cell,I.free,I.freeC,I.pin,I.hok,I.len⟩
theorem SP.unwish {D : Ends}{f : Flow}{s' : Shared}(h : SP (X.wish E) pins D f s') : SP X pins D f s' := by
  cases f with
  | next => obtain ⟨σ',H',I,q⟩ := h; exact ⟨σ',H',I.unwish,q⟩
  | brk => obtain ⟨σ',H',I,q⟩ := h; exact ⟨σ',H',I.unwish,q⟩
  | cont => obtain ⟨σ',H',I,q⟩ := h; exact ⟨σ',H',I.unwish,q⟩
  | ret u => obtain ⟨v,σ',H',I,r,q⟩ := h; exact ⟨v,σ',H',I.unwish,r,q⟩
theorem PSs.nox {st : List Stmt}{t : TS}(h : PSs X.nox st t) : PSs X st t := fun pins s σ H D I hw =>
  wpAny_mono (h pins s σ H D (I.wish _) hw) (fun _ _ q => q.unwish) fun _ _ z => False.elim z
end
section
variable {X : Cx}{st : Stmt}{rest : List Stmt}{t u : TS}{e : Expr}{te : TE}{pos : Pos}
def tNext : TS := fun D σ H => D.nx σ H
def tSeq (t u : TS) : TS := fun D σ H => t { D with nx := u D } σ H
theorem pss_nil : PSs X [] tNext := fun _ _ σ H _ I h => wpAny_execs_nil ⟨σ,H,I,h⟩
theorem pss_cons (h1 : PS X st t)(h2 : PSs X rest u) : PSs X (st :: rest) (tSeq t u) := by
  intro pins s σ H D I h
  refine wpAny_execs_cons (thn (h1 pins s σ H { D with nx := u D } I h) fun f s1 q => ?_)
  cases f with
  | next =>
    obtain ⟨σ',H',I',q⟩ := q
    exact h2 pins s1 σ' H' D I' q
  | ret v => exact q
  | brk => exact q
  | cont => exact q
theorem pss_one (h1 : PS X st t) : PSs X [st] t := by
  intro pins s σ H D I h
  refine wpAny_execs_cons (thn (h1 pins s σ H D I h) fun f s1 q => ?_)
  cases f with
  | next => exact wpAny_execs_nil q
  | ret v => exact q
  | brk => exact q
  | cont => exact q
theorem Inv.quiet {pins : List (Addr × Obj)}{σ : St}{H : Hp}{s : Shared}(I : Inv X pins σ H s) : interactive X.env = false := by simp [interactive,I.ok.kind]
def tDrop (te : TE) : TS := fun D σ H => te σ H fun _ H1 => D.nx σ H1
theorem ps_expr (he : PE X e te)(hs : swapsWith e none pos.line X.env = pure false := by rfl) : PS X (.Expr e pos) (tDrop te) := by
  intro pins s σ H D I h
  exact wpAny_Expr_any (thn (he pins s σ H _ I h) fun v s1 ⟨x,H1,I1,r1,q1⟩ => ⟨σ,H1,I1,q1⟩) I.quiet hs
def tRet (te : TE) : TS := fun D σ H => te σ H D.rt
theorem ps_ret (he : PE X e te) : PS X (.Return (some e) pos) (tRet te) := by
  intro pins s σ H D I h
  exact wpAny_Return_some (thn (he pins s σ H _ I h) fun v s1 ⟨x,H1,I1,r1,q1⟩ => ⟨x,σ,H1,I1,r1,q1⟩)
def tIfS (c : TT)(t u : TS) : TS := fun D σ H => c σ H fun b H1 => if b = true then t D σ H1 else u D σ H1
theorem ps_if {c : Expr}{a b : List Stmt}{tc : TT}(hc : PT X c tc)(ha : PSs X a t)(hb : PSs X b u) : PS X (.If c a b pos) (tIfS tc t u) := by
  intro pins s σ H D I h
  refine wpAny_If (thn (hc pins s σ H _ I h) fun d s1 ⟨H1,I1,q1⟩ => ?_)
  cases d with
  | true => exact ha pins s1 σ H1 D I1 q1
  | false => exact hb pins s1 σ H1 D I1 q1
end
abbrev TG := V -> St -> Hp -> (St -> Hp -> Prop) -> Prop
abbrev TGs := List V -> St -> Hp -> (St -> Hp -> Prop) -> Prop
def PG (X : Cx)(target : Expr)(t : TG) : Prop :=
  ∀ (pins : List (Addr × Obj)) (s : Shared) (σ : St) (H : Hp) (v : V) (u : Value) (Q : St -> Hp -> Prop),Inv X pins σ H s -> RelV v u -> t v σ H Q ->
    wpAny (model X.prog X.w) X.A (assign target X.env u) (fun _ s' => ∃ σ' H',Inv X pins σ' H' s' /\ Q σ' H') X.xe s
def PGs (X : Cx)(ts : List Expr)(t : TGs) : Prop :=
  ∀ (pins : List (Addr × Obj)) (s : Shared) (σ : St) (H : Hp) (vs : List V) (us : List Value) (Q : St -> Hp -> Prop),Inv X pins σ H s -> Vals vs us -> t vs σ H Q ->
    wpAny (model X.prog X.w) X.A (assignInOrder ((assignEach ts X.env).map (·.2)) us) (fun _ s' => ∃ σ' H',Inv X pins σ' H' s' /\ Q σ' H') X.xe s
abbrev TSet := V -> V -> V -> Hp -> (Hp -> Prop) -> Prop
def PSet (X : Cx)(t : TSet) : Prop :=
  ∀ (pins : List (Addr × Obj)) (s : Shared) (σ : St) (H : Hp) (o i v : V) (ov iv u : Value) (Q : Hp -> Prop),Inv X pins σ H s -> RelV o ov -> RelV i iv -> RelV v u -> t o i v H Q ->
    wpAny (model X.prog X.w) X.A (setItem ov iv u) (fun _ s' => ∃ H',Inv X pins σ H' s' /\ Q H') X.xe s
abbrev TIp := V -> V -> Hp -> VK -> Prop
def PIp (X : Cx)(op : Operator)(t : TIp) : Prop :=
  ∀ (pins : List (Addr × Obj)) (s : Shared) (σ : St) (H : Hp) (x y : V) (v u : Value) (Q : VK),Inv X pins σ H s -> RelV x v -> RelV y u -> t x y H Q ->
    wpAny (model X.prog X.w) X.A (inplaceOp op v u) (EP X pins σ Q) X.xe s
section
variable {X : Cx}{pos : Pos}
def gName (i : Nat) : TG := fun v σ H Q => Q (σ.set i (some v)) H
theorem pg_name {i : Nat} {x : Str} (hN : X.N.Nodup) (hi : X.N[i]? = some x) (hx : Loc X.env.scope x) (hf : X.fn x = true \/ X.env.scope.names.lookup x = some .local := by first | exact .inl rfl | exact .inr rfl | assumption) : PG X (.Name x pos) (gName i) := by
  intro pins s σ H v u Q I r h
  exact wpAny_assign_Name (store_ok I hN hi hx r (fun s' I' => ⟨_,H,I',h⟩) hf)
def gNil : TGs := fun vs σ H Q => vs = [] /\ Q σ H
def gCons (t : TG)(u : TGs) : TGs := fun vs σ H Q => ∃ v r,vs = v :: r /\ t v σ H fun σ' H' => u r σ' H' Q
theorem pgs_nil : PGs X [] gNil := by
  intro pins s σ H vs us Q I r h
  obtain ⟨e,h⟩ := h
  subst e
  cases r
  exact assignInOrder_nil ⟨σ,H,I,h⟩
theorem pgs_cons {e : Expr}{es : List Expr}{t : TG}{u : TGs}(h1 : PG X e t)(h2 : PGs X es u)
    (hs : (assignEach (e :: es) X.env).map (·.2) = assign e X.env :: (assignEach es X.env).map (·.2) := by rfl) : PGs X (e :: es) (gCons t u) := by
  intro pins s σ H vs us Q I r h
  obtain ⟨v,vr,e1,h⟩ := h
  subst e1
  cases r with
  | cons r rr =>
    rw [hs]
    refine assignInOrder_cons (thn (h1 pins s σ H _ _ _ I r h) fun _ s1 ⟨σ1,H1,I1,q1⟩ => ?_)
    exact h2 pins s1 σ1 H1 _ _ Q I1 rr q1
def gTup (K : PySem.W.Frag)(n : Nat)(t : TGs) : TG := fun v σ H Q => ∃ a xs,v = .ref a /\ SqT K H a xs /\ xs.length = n /\ t xs σ H Q
theorem pg_tup {es : List Expr}{k : Nat}{t : TGs}{n : Nat}(hc : X.calm = true)(h : PGs X es t)
    (hn : (assignEach es X.env).length = n := by rfl) (hst : (assignEach es X.env).findIdx? (·.1) = none := by rfl) : PG X (.Tuple es k pos) (gTup X.K n t) := by
  intro pins s σ H v u Q I r hw
  obtain ⟨a,xs,e1,hq,hl,hw⟩ := hw
  subst e1
  cases r
  obtain ⟨its,rv,ht,hz⟩ := I.tuple hq
  refine assign_Tuple_tuple (I.ok.hd hc) ht (by simp [hn,<- hl,rv.length]) hst fun h' hx => ?_
  have I1 : Inv X pins σ H { s with heap := h' } := I.kept (t' := s.toks) fun b o e => hx b o (Nat.ne_of_lt (Heap.lt_size e)) e
  exact h pins _ σ H xs _ Q I1 (by simpa using rv) hw
def gSub (to ti : TE)(t : TSet) : TG := fun v σ H Q => to σ H fun o H1 => ti σ H1 fun i H2 => t o i v H2 fun H3 => Q σ H3
theorem pg_sub {o i : Expr}{to ti : TE}{t : TSet}(ho : PE X o to)(hi : PE X i ti)(hs : PSet X t)
    (ha : ∀ v,assign (.Subscript o i pos) X.env v = (do
      let ov <- holding [v] (eval o X.env)
      let iv <- holding [v,ov] (eval i X.env)
      standAt pos
      holding [v,ov,iv] (setItem ov iv v)
      release [v,ov,iv] []) := by intro _; rfl) : PG X (.Subscript o i pos) (gSub to ti t) := by
  intro pins s σ H v u Q I r h
  rw [ha]
  refine wpAny_bind (wpAny_holding (thn (ho pins s σ H _ I h) fun ov s1 ⟨x,H1,I1,r1,q1⟩ => ?_))
  refine wpAny_bind (wpAny_holding (thn (hi pins s1 σ H1 _ I1 q1) fun iv s2 ⟨y,H2,I2,r2,q2⟩ => ?_))
  refine wpAny_bind (wpAny_standAt (wpAny_bind (wpAny_holding (thn (hs pins s2 σ H2 x y v ov iv u _ I2 r1 r2 r q2) fun _ s3 ⟨H3,I3,q3⟩ => ?_))))
  exact wpAny_release ⟨σ,H3,I3,q3⟩
def tAsg (te : TE)(g : TG) : TS := fun D σ H => te σ H fun x H1 => g x σ H1 D.nx
theorem ps_asg {tg e : Expr}{te : TE}{g : TG}(he : PE X e te)(hg : PG X tg g)(hs : swapsWithSole [tg] e pos.line X.env = pure false := by rfl)(hw : swappedStores [tg] e X.env = pure none := by rfl)
    (h1 : (assignEach [tg] X.env).map (·.2) = [assign tg X.env] := by rfl) : PS X (.Assign [tg] e pos) (tAsg te g) := by
  intro pins s σ H D I h
  refine wpAny_Assign_stores (thn (he pins s σ H _ I h) fun v s1 ⟨x,H1,I1,r1,q1⟩ => ?_) hs hw
  rw [h1]
  exact thn (hg pins s1 σ H1 x v _ I1 r1 q1) fun _ s2 q => q
theorem ps_set {i : Nat} {x : Str} {e : Expr} {te : TE} {pos' : Pos} (hN : X.N.Nodup) (hi : X.N[i]? = some x) (hx : Loc X.env.scope x) (he : PE X e te) (hs : swapsWith e (some (.Name x pos')) pos.line X.env = pure false := by rfl) (hf : X.fn x = true \/ X.env.scope.names.lookup x = some .local := by first | exact .inl rfl | exact .inr rfl | assumption) :
    PS X (.Assign [.Name x pos'] e pos) (tAsg te (gName i)) := by
  intro pins s σ H D I h
  refine wpAny_Assign_Name (thn (he pins s σ H _ I h) fun v s1 ⟨y,H1,I1,r1,q1⟩ => ?_) hs
  exact store_ok I1 hN hi hx r1 (fun s2 I2 => ⟨_,H1,I2,q1⟩) hf
def tAug (i : Nat)(te : TE)(ti : TIp) : TS := fun D σ H => ∃ x,σ[i]? = some (some x) /\ te σ H fun y H1 => ti x y H1 fun z H2 => D.nx (σ.set i (some z)) H2
theorem ps_aug {i : Nat} {x : Str} {e : Expr} {te : TE} {op : Operator} {ti : TIp} {pos' : Pos} (hN : X.N.Nodup) (hi : X.N[i]? = some x) (hx : Loc X.env.scope x) (he : PE X e te) (ho : PIp X op ti) (hf : X.fn x = true \/ X.env.scope.names.lookup x = some .local := by first | exact .inl rfl | exact .inr rfl | assumption) :
    PS X (.AugAssign (.Name x pos') op e pos) (tAug i te ti) := by
  intro pins s σ H D I h
  obtain ⟨v,e1,h⟩ := h
  obtain ⟨m,hn,hl⟩ := I.loc
  have vis : Vis X.env.scope x := by rcases hx with k | k; exact .inl k; exact .inr (.inl k)
  obtain ⟨u,r,l⟩ := hl i x v hi e1 vis
  refine wpAny_AugAssign_Name ?_
  have go : wpAny (model X.prog X.w) X.A (eval e X.env) (fun w s₂ => wpAny (model X.prog X.w) X.A (inplaceOp op u w) (fun r s₃ => wpAny (model X.prog X.w) X.A (storeName X.env x r) (fun _ => SP X pins D .next) X.xe s₃) X.xe s₂) X.xe s := by
    refine thn (he pins s σ H _ I h) fun w s1 ⟨y,H1,I1,r1,q1⟩ => ?_
    refine thn (ho pins s1 σ H1 v y u w _ I1 r r1 q1) fun z s2 ⟨zv,H2,I2,r2,q2⟩ => ?_
    exact store_ok I2 hN hi hx r2 (fun s3 I3 => ⟨_,H2,I3,q2⟩) hf
  rcases l with ⟨hk,hm⟩ | ⟨hk,c,hc,hcell⟩
  · exact wpAny_loadName_local I.ok.kind hk hn hm go
  · rcases hk with hk | hk
    · exact wpAny_loadName_cell I.ok.kind hk hc hcell go
    · rcases hx with k | k
      · have : X.env.scope.names.lookup x = some .free := hk
        rw [k] at this; cases this
      · have : X.env.scope.names.lookup x = some .free := hk
        rw [k] at this; cases this
def ipI (f : Int -> Int -> Int) : TIp := fun x y H Q => ∃ i j,x = .int i /\ y = .int j /\ Q (.int (f i j)) H
theorem ip_add : PIp X .Add (ipI fun i j => i + j) := by
  intro pins s σ H x y v u Q I r1 r2 h
  obtain ⟨i,j,e1,e2,q⟩ := h
  subst e1; subst e2
  obtain ⟨t,rfl⟩ := r1
  obtain ⟨t',rfl⟩ := r2
  exact iadd_int ⟨.int _,H,I.tok _,⟨_,rfl⟩,q⟩
end
section
variable {X : Cx}{pos : Pos}
def tWhile (c : TT)(tb : TS) : TS := fun D σ H => ∃ W : Nat -> St -> Hp -> Prop,(∃ m,W m σ H) /\ ∀ m σ H,W m σ H ->
  c σ H fun b H1 => if b = true then ∃ N : St -> Hp -> Prop,(∀ σ' H',N σ' H' -> ∃ m',m' < m /\ W m' σ' H') /\ tb { D with nx := N,ct := N,bk := D.nx } σ H1 else D.nx σ H1
theorem ps_while {c : Expr}{body : List Stmt}{tc : TT}{tb : TS}(hp : PassesOwn (model X.prog X.w) X.A X.env X.xe)(hc : PT X c tc)(hb : PSs X body tb) : PS X (.While c body [] pos) (tWhile tc tb) := by
  intro pins s σ H D I h
  obtain ⟨W,⟨m0,w0⟩,turn⟩ := h
  refine wpAny_While (codeAny_whileLoop (fun n s' => ∃ σ' H',Inv X pins σ' H' s' /\ W n σ' H') ?_ m0 ⟨σ,H,I,w0⟩)
  rintro n s1 ⟨σ1,H1,I1,w1⟩
  refine wpAny_passesOwn hp (thn (hc pins s1 σ1 H1 _ I1 (turn n σ1 H1 w1)) fun b s2 ⟨H2,I2,q2⟩ => ?_)
  cases b with
  | true =>
    obtain ⟨N,hN,q2⟩ := q2
    rw [if_pos rfl]
    refine wpAny_passesOwn hp (thn (hb pins s2 σ1 H2 _ I2 q2) fun f s3 q3 => ?_)
    cases f with
    | next =>
      obtain ⟨σ3,H3,I3,n3⟩ := q3
      obtain ⟨m',hm,w3⟩ := hN σ3 H3 n3
      exact ⟨m',hm,σ3,H3,I3,w3⟩
    | cont =>
      obtain ⟨σ3,H3,I3,n3⟩ := q3
      obtain ⟨m',hm,w3⟩ := hN σ3 H3 n3
      exact ⟨m',hm,σ3,H3,I3,w3⟩
    | brk => exact q3
    | ret v => exact q3
  | false =>
    rw [if_neg Bool.false_ne_true]
    exact wpAny_execs_nil ⟨σ1,H2,I2,q2⟩
end
structure It where
  go : Nat -> Hp -> Prop
  yld : Nat -> Hp -> V -> Hp -> Prop
  stop : Nat -> Hp -> Prop
def FpOk (X : Cx)(pins : List (Addr × Obj))(H : Hp)(b : Addr) : Prop :=
  H b = none /\ b ≠ X.env.locals /\ b ∉ X.fs /\ (b ∈ X.ex \/ X.s₀.heap.objs.size <= b) /\ (∀ x c,X.env.cells.lookup x = some c -> c ≠ b) /\ ∀ p ∈ X.pn ++ pins,p.1 ≠ b
theorem Inv.fpOk {X : Cx}{pins : List (Addr × Obj)}{σ : St}{H H' : Hp}{s : Shared}{b : Addr}(I : Inv X pins σ H s)(hb : s.heap.objs.size <= b)(hn : H' b = none) : FpOk X pins H' b := by
  refine ⟨hn,Nat.ne_of_gt (Nat.lt_of_lt_of_le I.lt hb),I.nofs hb,.inr (Nat.le_trans I.sz hb),fun x c e z => ?_,fun p hp z => ?_⟩
  · obtain ⟨v,q⟩ := I.cell x c e
    exact absurd (Nat.lt_of_lt_of_le q.lt (by rw [z]; exact hb)) (Nat.lt_irrefl _)
  · exact absurd (Nat.lt_of_lt_of_le (Heap.lt_size (I.pin p hp).1) (by rw [z]; exact hb)) (Nat.lt_irrefl _)
structure Turn (P : Program)(w : World)(K : PySem.W.Frag)(tg : Expr)(J : It)(fp : List Addr)(it : Addr)(tn : Nat -> Heap -> Prop) : Prop where
  mem : it ∈ fp
  obj : ∀ i h,tn i h -> ∀ b ∈ fp,∃ o,h.get? b = some o /\ ∀ v,o.data ≠ .cell v
  keep : ∀ i h h',tn i h -> (∀ b ∈ fp,∀ o,h.get? b = some o -> h'.get? b = some o) -> tn i h'
  item : ∀ (X : Cx),X.prog = P -> X.w = w -> X.K = K -> X.calm = true -> ∀ (i : Nat) (pins : List (Addr × Obj)) (s : Shared) (σ : St) (H : Hp) (E : Value -> Shared -> Prop),Inv X pins σ H s -> (∀ b ∈ fp,FpOk X pins H b) -> tn i s.heap -> J.go i H ->
    wpAny (model P w) X.A (pyNext (.ref it)) (fun r s1 => ∃ u,r = some u /\
      wpAny (model P w) X.A (letOwnedTupleGo tg (.ref it) u) (fun _ s2 => ∃ x H',Inv X pins σ H' s2 /\ RelV x u /\ J.yld i H x H' /\ tn (i + 1) s2.heap /\ ∀ b ∈ fp,H' b = none) E s1) E s
  done : ∀ (X : Cx),X.prog = P -> X.w = w -> X.K = K -> X.calm = true -> ∀ (i : Nat) (pins : List (Addr × Obj)) (s : Shared) (σ : St) (H : Hp) (E : Value -> Shared -> Prop),Inv X pins σ H s -> (∀ b ∈ fp,FpOk X pins H b) -> tn i s.heap -> J.stop i H ->
    wpAny (model P w) X.A (pyNext (.ref it)) (fun r s1 => r = none /\ Inv X pins σ H s1) E s
  self : ∀ (A : Around) (i : Nat) (s : Shared) (Q : Value -> Shared -> Prop) (E : Value -> Shared -> Prop),tn i s.heap -> Q (.ref it) s -> wpAny (model P w) A (pyIter (.ref it)) Q E s
abbrev TI := St -> Hp -> (It -> Hp -> Prop) -> Prop
def PIE (X : Cx)(pins : List (Addr × Obj))(σ : St)(tg : Expr)(R : It -> Hp -> Prop)(itv : Value)(s2 : Shared) : Prop :=
  ∃ (it : Addr) (fp : List Addr) (tn : Nat -> Heap -> Prop) (J : It) (H' : Hp),itv = .ref it /\ Inv X pins σ H' s2 /\ Turn X.prog X.w X.K tg J fp it tn /\ tn 0 s2.heap /\ (∀ b ∈ fp,FpOk X pins H' b) /\ R J H'
def PI (X : Cx)(tg iter : Expr)(wi : TI) : Prop :=
  ∀ (pins : List (Addr × Obj)) (s : Shared) (σ : St) (H : Hp) (R : It -> Hp -> Prop),Inv X pins σ H s -> wi σ H R ->
    wpAny (model X.prog X.w) X.A (eval iter X.env) (fun v s1 => wpAny (model X.prog X.w) X.A (pyIter v) (PIE X pins σ tg R) X.xe s1) X.xe s
theorem go_of {M : Model}{A : Around}{E : Value -> Shared -> Prop}{s : Shared}{tg : Expr}{it : Addr}{u : Value}{o : Obj}{n : String}{vs : Array Value}{Q : Unit -> Shared -> Prop}(ho : s.heap.get? it = some o)(hc : o.cls = .type n)(hd : o.data = .fields vs)
    (hn : ["enumerate","zip","dict_itemiterator","dict_reverseitemiterator","odict_iterator","itertools.zip_longest","itertools.pairwise"].contains n = false) (hQ : Q () s) : wpAny M A (letOwnedTupleGo tg (.ref it) u) Q E s := by
  unfold letOwnedTupleGo
  cases tg <;> first
    | exact wpAny_pure hQ
    | (cases u <;> first
        | exact wpAny_pure hQ
        | (refine wpAny_bind (wpAny_load ho ?_)
           rw [hc,hd]
           show wpAny M A (if (["enumerate","zip","dict_itemiterator","dict_reverseitemiterator","odict_iterator","itertools.zip_longest","itertools.pairwise"].contains n && vs[0]? == some (rawInt _)) = true then _ else _) Q E s
           rw [if_neg (by intro h; rw [hn,Bool.false_and] at h; cases h)]
           exact wpAny_pure hQ))
def Itl (K : PySem.W.Frag)(a : Addr) : It :=
  ⟨fun i H => ∃ xs x,SqL K H a xs /\ xs[i]? = some x,fun i H x H' => H' = H /\ ∀ xs,SqL K H a xs -> xs[i]? = some x,fun i H => ∃ xs,SqL K H a xs /\ xs.length <= i⟩
def Itt (K : PySem.W.Frag)(a : Addr) : It :=
  ⟨fun i H => ∃ xs x,SqT K H a xs /\ xs[i]? = some x,fun i H x H' => H' = H /\ ∀ xs,SqT K H a xs -> xs[i]? = some x,fun i H => ∃ xs,SqT K H a xs /\ xs.length <= i⟩
def Itr (lo : Int)(n : Nat) : It := ⟨fun i _ => i < n,fun i H x H' => H' = H /\ x = .int (lo + i),fun i _ => n <= i⟩
theorem turn_list {P : Program}{w : World}{K : PySem.W.Frag}{tg : Expr}(a it : Addr) : Turn P w K tg (Itl K a) [it] it (fun i h => h.IsListIter it a i) where
  mem := by simp
  obj := fun i h st b hb => by
    have e : b = it := by simpa using hb
    subst e
    obtain ⟨o,e,c,d⟩ := st
    exact ⟨o,e,fun v z => by rw [d] at z; cases z⟩
  keep := fun i h h' st k => st.at fun o e => k it (by simp) o e
  item := by
    intro X hP hw hK hc i pins s σ H E I hf st hg
    subst hP hw hK
    obtain ⟨xs,x,hq,hx⟩ := hg
    obtain ⟨its,rv,p,hz⟩ := I.list hq
    obtain ⟨u,hu,ru⟩ := rv.get hx
    obtain ⟨f0,f1,f2,f3,f4,f5⟩ := hf it (by simp)
    refine wpAny_pyNext_list_item st p.isList (x := u) (by simpa using hu) fun h' st' sb => ?_
    have I1 : Inv X pins σ H { s with heap := h' } := I.turned (t' := s.toks) (fun b o hb e => (sb.2 b hb).trans e) f0 f1 f3 f4 f5
    obtain ⟨o,e,c,d⟩ := id st'
    exact ⟨u,rfl,go_of (s := { s with heap := h' }) e c d (by decide) ⟨x,H,I1,ru,⟨rfl,fun ys hy => by rw [I.list_inj hy hq]; exact hx⟩,st',fun b hb => (hf b hb).1⟩⟩
  done := by
    intro X hP hw hK hc i pins s σ H E I hf st hg
    subst hP hw hK
    obtain ⟨xs,hq,hx⟩ := hg
    obtain ⟨its,rv,p,hz⟩ := I.list hq
    obtain ⟨f0,f1,f2,f3,f4,f5⟩ := hf it (by simp)
    have hl := rv.length
    exact wpAny_pyNext_list_end (I.ok.hd hc) st p.isList (by simp; omega) fun h' eb => ⟨rfl,I.turned (t' := s.toks) (fun b o hb e => eb b o hb e) f0 f1 f3 f4 f5⟩
  self := fun _ _ _ _ _ st h => wpAny_pyIter_listiter st h
theorem turn_tuple {P : Program}{w : World}{K : PySem.W.Frag}{tg : Expr}(a it : Addr) : Turn P w K tg (Itt K a) [it] it (fun i h => h.IsTupleIter it a i) where
  mem := by simp
  obj := fun i h st b hb => by
    have e : b = it := by simpa using hb
    subst e
    obtain ⟨o,e,c,d⟩ := st
    exact ⟨o,e,fun v z => by rw [d] at z; cases z⟩
  keep := fun i h h' st k => st.at fun o e => k it (by simp) o e
  item := by
    intro X hP hw hK hc i pins s σ H E I hf st hg
    subst hP hw hK
    obtain ⟨xs,x,hq,hx⟩ := hg
    obtain ⟨its,rv,p,hz⟩ := I.tuple hq
    obtain ⟨u,hu,ru⟩ := rv.get hx
    obtain ⟨f0,f1,f2,f3,f4,f5⟩ := hf it (by simp)
    refine wpAny_pyNext_tuple_item st (show s.heap.IsTuple a its.toArray from p) (x := u) (by simpa using hu) fun h' st' sb => ?_
    have I1 : Inv X pins σ H { s with heap := h' } := I.turned (t' := s.toks) (fun b o hb e => (sb.2 b hb).trans e) f0 f1 f3 f4 f5
    obtain ⟨o,e,c,d⟩ := id st'
    exact ⟨u,rfl,go_of (s := { s with heap := h' }) e c d (by decide) ⟨x,H,I1,ru,⟨rfl,fun ys hy => by rw [I.tuple_inj hy hq]; exact hx⟩,st',fun b hb => (hf b hb).1⟩⟩
  done := by
    intro X hP hw hK hc i pins s σ H E I hf st hg
    subst hP hw hK
    obtain ⟨xs,hq,hx⟩ := hg
    obtain ⟨its,rv,p,hz⟩ := I.tuple hq
    obtain ⟨f0,f1,f2,f3,f4,f5⟩ := hf it (by simp)
    have hl := rv.length
    exact wpAny_pyNext_tuple_end (I.ok.hd hc) st (show s.heap.IsTuple a its.toArray from p) (by simp; omega) fun h' eb => ⟨rfl,I.turned (t' := s.toks) (fun b o hb e => eb b o hb e) f0 f1 f3 f4 f5⟩
  self := fun _ _ _ _ _ st h => wpAny_pyIter_tupleiter st h
theorem turn_range {P : Program}{w : World}{K : PySem.W.Frag}{tg : Expr}(it : Addr)(lo : Int)(n : Nat) : Turn P w K tg (Itr lo n) [it] it (fun i h => IsRangeIter h it (lo + (i : Nat) * 1) ((n : Int) - (i : Nat)) 1) where
  mem := by simp
  obj := fun i h st b hb => by
    have e : b = it := by simpa using hb
    subst e
    exact ⟨_,st,fun v z => by
      have z' : Data.fields _ = Data.cell v := z
      cases z'⟩
  keep := fun i h h' st k => k it (by simp) _ st
  item := by
    intro X hP hw hK hc i pins s σ H E I hf st hg
    subst hP hw hK
    obtain ⟨f0,f1,f2,f3,f4,f5⟩ := hf it (by simp)
    have W := Walks.range (prog := X.prog) (w := X.w) (I.ok.hd hc) it lo 1 n
    refine W.item i s _ _ hg st fun v h' tk hv st' kk => ?_
    obtain ⟨t,rfl⟩ := hv
    have I1 : Inv X pins σ H { s with heap := h',toks := tk } := I.turned (fun b o hb e => kk b o (by simpa using hb) e) f0 f1 f3 f4 f5
    refine ⟨_,rfl,go_of (s := { s with heap := h',toks := tk }) (n := "range_iterator") st' rfl rfl (by decide) ⟨.int (lo + i),H,I1,⟨t,?_⟩,⟨rfl,rfl⟩,st',fun b hb => (hf b hb).1⟩⟩
    rw [Int.mul_one]
  done := by
    intro X hP hw hK hc i pins s σ H E I hf st hg
    subst hP hw hK
    obtain ⟨f0,f1,f2,f3,f4,f5⟩ := hf it (by simp)
    exact wpAny_pyNext_range_end (I.ok.hd hc) st (by have : n <= i := hg; omega) fun h' eb => ⟨rfl,I.turned (t' := s.toks) (fun b o hb e => eb b o hb e) f0 f1 f3 f4 f5⟩
  self := fun _ _ _ _ _ st h => wpAny_pyIter_rangeiter st h
end L2
namespace L2
open PySem PySem.Spec PyProof.Rows
section
variable {X : Cx}{tg : Expr}
theorem range_it {pins : List (Addr × Obj)}{σ : St}{H : Hp}{s : Shared}{R : It -> Hp -> Prop}{E : Value -> Shared -> Prop}{lo hi : Int}{t u v : Tok}{tk : Nat}(I : Inv X pins σ H s)(h1 : -(2 ^ 62) <= lo)(h2 : lo < 2 ^ 62)(h3 : -(2 ^ 62) <= hi)(h4 : hi < 2 ^ 62)
    (q : R (Itr lo (hi - lo).toNat) H) : wpAny (model X.prog X.w) X.A (pyIter (.ref s.heap.objs.size)) (PIE X pins σ tg R) E { s with heap := s.heap.push { cls := .type "range",data := .fields #[.int lo t,.int hi u,.int 1 v] },toks := tk } := by
  refine wpAny_pyIter_range (IsRange.new ..) (small_one h1 h2 h3 h4) ?_
  have I1 : Inv X pins σ H { s with heap := s.heap.push { cls := .type "range",data := .fields #[.int lo t,.int hi u,.int 1 v] },toks := tk } := I.kept fun b o e => Heap.get?_push_of_some _ e
  refine ⟨(s.heap.push { cls := .type "range",data := .fields #[.int lo t,.int hi u,.int 1 v] }).objs.size,[(s.heap.push { cls := .type "range",data := .fields #[.int lo t,.int hi u,.int 1 v] }).objs.size],_,_,H,rfl,
    I1.kept (t' := tk) fun b o e => Heap.get?_push_of_some _ e,turn_range _ lo (hi - lo).toNat,?_,fun b hb => ?_,q⟩
  · have e1 : lo + ((0 : Nat) : Int) * 1 = lo := by simp
    have e2 : (((hi - lo).toNat : Nat) : Int) - ((0 : Nat) : Int) = Builtin.Range.rangeSize lo hi 1 := by rw [rangeSize_one]; split <;> omega
    show IsRangeIter _ _ (lo + ((0 : Nat) : Int) * 1) ((((hi - lo).toNat : Nat) : Int) - ((0 : Nat) : Int)) 1
    rw [e1,e2]
    exact Heap.get?_push_size _ rfl
  · have e : b = (s.heap.push { cls := .type "range",data := .fields #[.int lo t,.int hi u,.int 1 v] }).objs.size := by simpa using hb
    subst e
    exact I1.fpOk (Nat.le_refl _) (I1.hok.fresh (Nat.le_refl _))
def iRng1 (ta : TA) : TI := fun σ H R => ta σ H fun vs H1 => ∃ j : Int,vs = [.int j] /\ -(2 ^ 62) <= j /\ j < 2 ^ 62 /\ R (Itr 0 j.toNat) H1
theorem pi_range1 {a : Expr}{ta : TA}{p pos : Pos}(hg : Gl X "range") (hm : X.mg "range" = none) (ha : PA X [a] ta) (hs : starEach [a] X.env = [(false,eval a X.env)] := by rfl) : PI X tg (.Call (.Name "range" p) [a] [] pos) (iRng1 ta) := by
  intro pins s σ H R I h
  refine Call_ (ld_blt I hg hm boot_range (PyProof.Rows.callWith_type1 (thn (ha pos pins s σ H _ I h) fun us s1 ⟨vs,H1,I1,r1,q1⟩ => ?_) hs rfl))
  obtain ⟨j,e,q1,q2,q⟩ := q1
  subst e
  cases r1 with
  | cons r rr =>
    cases rr
    obtain ⟨t,rfl⟩ := r
    exact call_range_1 (range_it I1 (by omega) (by omega) q1 q2 (by simpa using q))
def tFor (wi : TI)(g : TG)(tb : TS) : TS := fun D σ H => wi σ H fun J H1 => ∃ W : Nat -> Nat -> St -> Hp -> Prop,(∃ m,W 0 m σ H1) /\ ∀ i m σ H,W i m σ H ->
  (J.stop i H /\ D.nx σ H) \/ (J.go i H /\ ∃ N : St -> Hp -> Prop,(∀ σ' H',N σ' H' -> ∃ m',m' < m /\ W (i + 1) m' σ' H') /\ ∀ x H',J.yld i H x H' -> g x σ H' fun σ2 H2 => tb { D with nx := N,ct := N,bk := D.nx } σ2 H2)
def pinsAt (fp : List Addr)(h : Heap) : List (Addr × Obj) := fp.filterMap fun b => (h.get? b).map fun o => (b,o)
theorem mem_pinsAt {fp : List Addr}{h : Heap}{b : Addr}{o : Obj}(hb : b ∈ fp)(e : h.get? b = some o) : (b,o) ∈ pinsAt fp h := List.mem_filterMap.mpr ⟨b,hb,by rw [e]; rfl⟩
theorem of_pinsAt {fp : List Addr}{h : Heap}{p : Addr × Obj}(hp : p ∈ pinsAt fp h) : p.1 ∈ fp /\ h.get? p.1 = some p.2 := by
  obtain ⟨b,hb,e⟩ := List.mem_filterMap.mp hp
  cases q : h.get? b with
  | none => rw [q] at e; cases e
  | some o =>
    rw [q] at e
    have e' : (b,o) = p := Option.some.inj e
    subst e'
    exact ⟨hb,q⟩
theorem Inv.pinned {pins : List (Addr × Obj)}{σ : St}{H : Hp}{s : Shared}{fp : List Addr}(I : Inv X pins σ H s)(hf : ∀ b ∈ fp,FpOk X pins H b)(ho : ∀ b ∈ fp,∃ o,s.heap.get? b = some o /\ ∀ v,o.data ≠ .cell v) : Inv X (pins ++ pinsAt fp s.heap) σ H s :=
  I.pins_of fun p hp => (List.mem_append.mp hp).elim (fun z => I.pin p (List.mem_append_right _ z)) fun z => by
    obtain ⟨hb,e⟩ := of_pinsAt z
    obtain ⟨f0,f1,f2,_⟩ := hf p.1 hb
    obtain ⟨o,e',d⟩ := ho p.1 hb
    rw [e] at e'; cases e'
    exact ⟨e,f0,f1,f2,d⟩
theorem Inv.unpinned {pins pl : List (Addr × Obj)}{σ : St}{H : Hp}{s : Shared}(I : Inv X (pins ++ pl) σ H s) : Inv X pins σ H s := I.pins_of fun p hp => I.pin p (List.mem_append_right _ (List.mem_append_left _ hp))
theorem ps_for {iter : Expr}{body : List Stmt}{wi : TI}{g : TG}{tb : TS}{pos : Pos}(hp : PassesOwn (model X.prog X.w) X.A X.env X.xe)(hc : X.calm = true)(hi : PI X tg iter wi)(hg : PG X tg g)(hb : PSs X body tb)
    (hs : ∀ x,foldedSetIterable iter X.env x = pure x := by intro _; rfl) : PS X (.For tg iter body [] pos) (tFor wi g tb) := by
  intro pins s σ H D I h
  refine wpAny_For (thn (hi pins s σ H _ I h) fun v s1 h1 => thn h1 fun itv s2 h2 => ?_) hs
  obtain ⟨it,fp,tn,J,H2,e,I2,T,st2,f2,W,⟨m0,w0⟩,turn⟩ := h2
  subst e
  have stat : ∀ {H' : Hp},(∀ b ∈ fp,H' b = none) -> ∀ b ∈ fp,FpOk X pins H' b := fun hn b hb => ⟨hn b hb,(f2 b hb).2⟩
  refine codeAny_forLoop_any (fun n s' => ∃ i σ' H',Inv X pins σ' H' s' /\ tn i s'.heap /\ (∀ b ∈ fp,H' b = none) /\ W i n σ' H') ?_ m0 ⟨0,σ,H2,I2,st2,fun b hb => (f2 b hb).1,w0⟩
  rintro n s3 ⟨i,σ3,H3,I3,st3,fr3,w3⟩
  rcases turn i n σ3 H3 w3 with ⟨stop,qn⟩ | ⟨go,N,hN,step⟩
  · refine wpAny_passesOwn hp (thn (T.done X rfl rfl rfl hc i pins s3 σ3 H3 X.xe I3 (stat fr3) st3 stop) fun r s4 ⟨hr,I4⟩ => ?_)
    subst hr
    exact wpAny_execs_nil ⟨σ3,H3,I4,qn⟩
  · refine wpAny_passesOwn hp (thn (T.item X rfl rfl rfl hc i pins s3 σ3 H3 X.xe I3 (stat fr3) st3 go) fun r s4 ⟨u,hr,h4⟩ => ?_)
    subst hr
    refine wpAny_passesOwn hp (thn h4 fun _ s5 ⟨x,H5,I5,r5,y5,st5,fr5⟩ => ?_)
    have I5' := I5.pinned (stat fr5) (T.obj _ _ st5)
    refine wpAny_passesOwn hp (thn (hg _ s5 σ3 H5 x u _ I5' r5 (step x H5 y5)) fun _ s6 ⟨σ6,H6,I6,q6⟩ => ?_)
    refine wpAny_passesOwn hp (thn (hb _ s6 σ6 H6 _ I6 q6) fun f s7 q7 => ?_)
    have again : ∀ {σ7 : St} {H7 : Hp},Inv X (pins ++ pinsAt fp s5.heap) σ7 H7 s7 -> N σ7 H7 -> ∃ m,m < n /\ ∃ i σ' H',Inv X pins σ' H' s7 /\ tn i s7.heap /\ (∀ b ∈ fp,H' b = none) /\ W i m σ' H' := fun {σ7 H7} I7 n7 => by
      obtain ⟨m',hm,w7⟩ := hN σ7 H7 n7
      refine ⟨m',hm,i + 1,σ7,H7,I7.unpinned,T.keep _ _ _ st5 fun b hb o e => (I7.pin (b,o) (List.mem_append_right _ (List.mem_append_right _ (mem_pinsAt hb e)))).1,fun b hb => ?_,w7⟩
      obtain ⟨o,e,d⟩ := T.obj _ _ st5 b hb
      exact (I7.pin (b,o) (List.mem_append_right _ (List.mem_append_right _ (mem_pinsAt hb e)))).2.1
    cases f with
    | next => obtain ⟨σ7,H7,I7,n7⟩ := q7; exact again I7 n7
    | cont => obtain ⟨σ7,H7,I7,n7⟩ := q7; exact again I7 n7
    | brk => obtain ⟨σ7,H7,I7,q7⟩ := q7; exact ⟨σ7,H7,I7.unpinned,q7⟩
    | ret v => obtain ⟨x7,σ7,H7,I7,r7,q7⟩ := q7; exact ⟨x7,σ7,H7,I7.unpinned,r7,q7⟩
end
end L2
namespace L2
open PySem PySem.Spec PyProof.Rows
abbrev R2 := V -> V -> Hp -> VK -> Prop
def OpR (X : Cx)(f : Value -> Value -> Sem Value)(r : R2) : Prop :=
  ∀ (pins : List (Addr × Obj)) (s : Shared) (σ : St) (H : Hp) (x y : V) (v u : Value) (Q : VK),Inv X pins σ H s -> RelV x v -> RelV y u -> r x y H Q ->
    wpAny (model X.prog X.w) X.A (f v u) (EP X pins σ Q) X.xe s
def UnR (X : Cx)(f : Value -> Sem Value)(r : V -> Hp -> VK -> Prop) : Prop :=
  ∀ (pins : List (Addr × Obj)) (s : Shared) (σ : St) (H : Hp) (x : V) (v : Value) (Q : VK),Inv X pins σ H s -> RelV x v -> r x H Q ->
    wpAny (model X.prog X.w) X.A (f v) (EP X pins σ Q) X.xe s
def CallR (X : Cx)(f : Value)(r : List V -> Hp -> VK -> Prop) : Prop :=
  ∀ (pins : List (Addr × Obj)) (s : Shared) (σ : St) (H : Hp) (xs : List V) (us : List Value) (Q : VK),Inv X pins σ H s -> Vals xs us -> r xs H Q ->
    wpAny (model X.prog X.w) X.A (call f us) (EP X pins σ Q) X.xe s
def TruR (X : Cx)(r : V -> Hp -> (Bool -> Hp -> Prop) -> Prop) : Prop :=
  ∀ (pins : List (Addr × Obj)) (s : Shared) (σ : St) (H : Hp) (x : V) (v : Value) (Q : Bool -> Hp -> Prop),Inv X pins σ H s -> RelV x v -> r x H Q ->
    wpAny (model X.prog X.w) X.A (truthy v) (TP X pins σ Q) X.xe s
def tOp (r : R2)(ta tb : TE) : TE := fun σ H Q => ta σ H fun x H1 => tb σ H1 fun y H2 => r x y H2 Q
def tUn (r : V -> Hp -> VK -> Prop)(ta : TE) : TE := fun σ H Q => ta σ H fun x H1 => r x H1 Q
def rI (C : Int -> Int -> Prop)(g : Int -> Int -> V) : R2 := fun x y H Q => ∃ i j,x = .int i /\ y = .int j /\ C i j /\ Q (g i j) H
def rI0 (g : Int -> Int -> V) : R2 := fun x y H Q => ∃ i j,x = .int i /\ y = .int j /\ Q (g i j) H
def rU (g : Int -> V) : V -> Hp -> VK -> Prop := fun x H Q => ∃ i,x = .int i /\ Q (g i) H
section
variable {X : Cx}{a b c : Expr}{ta tb tc : TE}{pos : Pos}
theorem binT (ha : PE X a ta)(hb : PE X b tb){pins : List (Addr × Obj)}{s : Shared}{σ : St}{H : Hp}{R : V -> V -> Hp -> Prop}(I : Inv X pins σ H s)
    (h : ta σ H fun x H1 => tb σ H1 fun y H2 => R x y H2) {Q : Value -> Shared -> Prop} {f : Value -> Value -> Sem Value}
    (hf : ∀ v u s2 x y H2,Inv X pins σ H2 s2 -> RelV x v -> RelV y u -> R x y H2 -> wpAny (model X.prog X.w) X.A (f v u) Q X.xe s2) :
    wpAny (model X.prog X.w) X.A (eval a X.env) (fun v s₁ => wpAny (model X.prog X.w) X.A (eval b X.env) (fun u s₂ => wpAny (model X.prog X.w) X.A (f v u) Q X.xe s₂) X.xe s₁) X.xe s := by
  refine thn (ha pins s σ H _ I h) fun v s1 ⟨x,H1,I1,r1,q1⟩ => ?_
  refine thn (hb pins s1 σ H1 _ I1 q1) fun u s2 ⟨y,H2,I2,r2,q2⟩ => ?_
  exact hf v u s2 x y H2 I2 r1 r2 q2
theorem pe_op {op : Operator}{r : R2}(ho : OpR X (binaryOp op) r)(ha : PE X a ta)(hb : PE X b tb) : PE X (.BinOp a op b pos) (tOp r ta tb) := by
  intro pins s σ H Q I h
  exact wpAny_BinOp (binT ha hb I h fun v u s2 x y H2 I2 rx ry q => ho pins s2 σ H2 x y v u Q I2 rx ry q)
theorem pe_un {op : UnaryOp}{r : V -> Hp -> VK -> Prop}(ho : UnR X (unaryOp op) r)(ha : PE X a ta) : PE X (.UnaryOp op a pos) (tUn r ta) := by
  intro pins s σ H Q I h
  exact UnaryOp_ (thn (ha pins s σ H _ I h) fun v s1 ⟨x,H1,I1,r1,q1⟩ => ho pins s1 σ H1 x v Q I1 r1 q1)
theorem opI {f : Value -> Value -> Sem Value}{C : Int -> Int -> Prop}{g : Int -> Int -> Int}
    (rule : ∀ (i j : Int) (t u : Tok) (s : Shared) (Q : Value -> Shared -> Prop) (E : Value -> Shared -> Prop),C i j -> Q (.int (g i j) s.toks) { s with toks := s.toks + 1 } -> wpAny (model X.prog X.w) X.A (f (.int i t) (.int j u)) Q E s) :
    OpR X f (rI C fun i j => .int (g i j)) := by
  intro pins s σ H x y v u Q I rx ry h
  obtain ⟨i,j,rfl,rfl,hc,q⟩ := h
  obtain ⟨t,rfl⟩ := rx
  obtain ⟨t',rfl⟩ := ry
  exact rule i j t t' s _ _ hc ⟨.int (g i j),H,I.tok _,⟨_,rfl⟩,q⟩
theorem opI0 {f : Value -> Value -> Sem Value}{g : Int -> Int -> Int}
    (rule : ∀ (i j : Int) (t u : Tok) (s : Shared) (Q : Value -> Shared -> Prop) (E : Value -> Shared -> Prop),Q (.int (g i j) s.toks) { s with toks := s.toks + 1 } -> wpAny (model X.prog X.w) X.A (f (.int i t) (.int j u)) Q E s) :
    OpR X f (rI0 fun i j => .int (g i j)) := by
  intro pins s σ H x y v u Q I rx ry h
  obtain ⟨i,j,rfl,rfl,q⟩ := h
  obtain ⟨t,rfl⟩ := rx
  obtain ⟨t',rfl⟩ := ry
  exact rule i j t t' s _ _ ⟨.int (g i j),H,I.tok _,⟨_,rfl⟩,q⟩
theorem opB0 {f : Value -> Value -> Sem Value}{g : Int -> Int -> Bool}
    (rule : ∀ (i j : Int) (t u : Tok) (s : Shared) (Q : Value -> Shared -> Prop) (E : Value -> Shared -> Prop),Q (.bool (g i j)) s -> wpAny (model X.prog X.w) X.A (f (.int i t) (.int j u)) Q E s) :
    OpR X f (rI0 fun i j => .bl (g i j)) := by
  intro pins s σ H x y v u Q I rx ry h
  obtain ⟨i,j,rfl,rfl,q⟩ := h
  obtain ⟨t,rfl⟩ := rx
  obtain ⟨t',rfl⟩ := ry
  exact rule i j t t' s _ _ ⟨.bl (g i j),H,I,rfl,q⟩
def CPow (i j : Int) : Prop := 0 <= j /\ j <= 1000000 /\ i.natAbs < 2 ^ 64
def CMul (i j : Int) : Prop := (-(2 ^ 64) < i /\ i < 2 ^ 64) \/ (-(2 ^ 64) < j /\ j < 2 ^ 64)
theorem CMul.ok {i j : Int}(h : CMul i j) : IntMulOk i j := by
  rcases h with ⟨h1,h2⟩ | ⟨h1,h2⟩
  · exact .of_left (intBits_le_64 h1 h2)
  · exact .of_right (intBits_le_64 h1 h2)
theorem op_add : OpR X (binaryOp .Add) (rI0 fun i j => .int (i + j)) := opI0 fun _ _ _ _ _ _ _ q => add_int q
theorem op_sub : OpR X (binaryOp .Sub) (rI0 fun i j => .int (i - j)) := opI0 fun _ _ _ _ _ _ _ q => sub_int q
theorem op_mod : OpR X (binaryOp .Mod) (rI (fun _ j => 0 < j) fun i j => .int (i % j)) := opI fun i j _ _ _ _ _ hc q => by
  have h1 : (0 : Int) < j := hc
  exact mod_int' (by omega) (by rw [Int.fmod_eq_emod_of_nonneg i (by omega)]; exact q)
theorem op_pow : OpR X (binaryOp .Pow) (rI CPow fun i j => .int (i ^ j.toNat)) := opI fun _ _ _ _ _ _ _ hc q => pow_int_small hc.1 hc.2.1 hc.2.2 q
theorem unI {f : Value -> Sem Value}{g : Int -> Int}
    (rule : ∀ (i : Int) (t : Tok) (s : Shared) (Q : Value -> Shared -> Prop) (E : Value -> Shared -> Prop),Q (.int (g i) s.toks) { s with toks := s.toks + 1 } -> wpAny (model X.prog X.w) X.A (f (.int i t)) Q E s) :
    UnR X f (rU fun i => .int (g i)) := by
  intro pins s σ H x v Q I rx h
  obtain ⟨i,rfl,q⟩ := h
  obtain ⟨t,rfl⟩ := rx
  exact rule i t s _ _ ⟨.int (g i),H,I.tok _,⟨_,rfl⟩,q⟩
theorem un_neg : UnR X (unaryOp .USub) (rU fun i => .int (-i)) := unI fun _ _ _ _ _ q => neg_int q
end
def scal : V -> V -> Bool
  | .non,.non => true | .non,.int _ => true | .int _,.non => true | .non,.bl _ => true | .bl _,.non => true | .non,.str _ => true | .str _,.non => true
  | .int _,.int _ => true | .bl _,.bl _ => true | .str _,.str _ => true | .byt _,.byt _ => true
  | .int _,.str _ => true | .str _,.int _ => true | .bl _,.str _ => true | .str _,.bl _ => true
  | _,_ => false
def rEq : R2 := fun x y H Q => scal x y = true /\ Q (.bl (decide (x = y))) H
theorem dec_int {i j : Int} : decide (V.int i = V.int j) = (i == j) := by
  rw [Bool.eq_iff_iff]
  simp
theorem dec_bl {i j : Bool} : decide (V.bl i = V.bl j) = (i == j) := by
  rw [Bool.eq_iff_iff]
  simp
theorem dec_str {i j : Str} : decide (V.str i = V.str j) = (i == j) := by
  rw [Bool.eq_iff_iff]
  simp
theorem dec_byt {i j : Array UInt8} : decide (V.byt i = V.byt j) = (i.toList == j.toList) := by
  rw [Bool.eq_iff_iff]
  cases i
  cases j
  simp
section
variable {X : Cx}{a b c : Expr}{ta tb tc : TE}{pos : Pos}
theorem fin_bl {pins : List (Addr × Obj)}{σ : St}{H : Hp}{s : Shared}{Q : VK}{k k' : Bool}(I : Inv X pins σ H s)(q : Q (.bl k) H)(e : k = k') : EP X pins σ Q (.bool k') s := by
  subst e
  exact ⟨.bl k,H,I,rfl,q⟩
theorem op_eq : OpR X (compareOp .Eq) rEq := by
  intro pins s σ H x y v u Q I rx ry h
  obtain ⟨hs,q⟩ := h
  cases x with
  | non =>
    cases rx
    cases y with
    | non => cases ry; exact PySem.EqNone.eq_none_none (fin_bl I q (by simp))
    | bl j => cases ry; exact PySem.EqNone.eq_none_bool (fin_bl I q (by simp))
    | int j => obtain ⟨t',rfl⟩ := ry; exact PySem.EqNone.eq_none_int (fin_bl I q (by simp))
    | str j => obtain ⟨t',rfl⟩ := ry; exact PySem.EqNone.eq_none_str (fin_bl I q (by simp))
    | _ => exact absurd (show false = true from hs) Bool.false_ne_true
  | bl i =>
    cases rx
    cases y with
    | non => cases ry; exact PySem.EqNone.eq_bool_none (fin_bl I q (by simp))
    | bl j => cases ry; exact eq_bool (fin_bl I q dec_bl)
    | str j => obtain ⟨t',rfl⟩ := ry; exact PySem.EqMixed.eq_bool_str (fin_bl I q (by simp))
    | _ => exact absurd (show false = true from hs) Bool.false_ne_true
  | int i =>
    obtain ⟨t,rfl⟩ := rx
    cases y with
    | non => cases ry; exact PySem.EqNone.eq_int_none (fin_bl I q (by simp))
    | int j => obtain ⟨t',rfl⟩ := ry; exact eq_int (fin_bl I q dec_int)
    | str j => obtain ⟨t',rfl⟩ := ry; exact PySem.EqMixed.eq_int_str (fin_bl I q (by simp))
    | _ => exact absurd (show false = true from hs) Bool.false_ne_true
  | str i =>
    obtain ⟨t,rfl⟩ := rx
    cases y with
    | non => cases ry; exact PySem.EqNone.eq_str_none (fin_bl I q (by simp))
    | bl j => cases ry; exact PySem.EqMixed.eq_str_bool (fin_bl I q (by simp))
    | int j => obtain ⟨t',rfl⟩ := ry; exact PySem.EqMixed.eq_str_int (fin_bl I q (by simp))
    | str j => obtain ⟨t',rfl⟩ := ry; exact eq_str (fin_bl I q dec_str)
    | _ => exact absurd (show false = true from hs) Bool.false_ne_true
  | byt i =>
    obtain ⟨t,rfl⟩ := rx
    cases y with
    | byt j => obtain ⟨t',rfl⟩ := ry; exact PySem.W.eq_bytes (fin_bl I q dec_byt)
    | _ => exact absurd (show false = true from hs) Bool.false_ne_true
  | _ => cases y <;> exact absurd (show false = true from hs) Bool.false_ne_true
theorem op_lt : OpR X (compareOp .Lt) (rI0 fun i j => .bl (decide (i < j))) := opB0 fun _ _ _ _ _ _ _ q => lt_int q
theorem op_gt : OpR X (compareOp .Gt) (rI0 fun i j => .bl (decide (j < i))) := opB0 fun _ _ _ _ _ _ _ q => gt_int q
theorem op_ge : OpR X (compareOp .GtE) (rI0 fun i j => .bl (decide (j <= i))) := opB0 fun _ _ _ _ _ _ _ q => ge_int q
theorem nomark (b : Expr){op : CmpOp}(h : op ≠ .In := by decide)(h2 : op ≠ .NotIn := by decide) : behindInMarks op b = false := by
  have e1 : (op == CmpOp.In) = false := by cases op <;> first | rfl | exact absurd rfl h
  have e2 : (op == CmpOp.NotIn) = false := by cases op <;> first | rfl | exact absurd rfl h2
  cases b <;> simp [behindInMarks,e1,e2]
theorem pe_cmpR {op : CmpOp}{r : R2}(ho : OpR X (compareOp op) r)(ha : PE X a ta)(hb : PE X b tb)(hm : behindInMarks op b = false) : PE X (.Compare a [op] [b] pos) (tOp r ta tb) := by
  intro pins s σ H Q I h
  exact wpAny_Compare1 (binT ha hb I h fun v u s2 x y H2 I2 rx ry q => ho pins s2 σ H2 x y v u Q I2 rx ry q) hm
def tTest (t : TE) : TT := fun σ H Q => t σ H fun x H' => ∃ k,x = .bl k /\ Q k H'
theorem pt_cmpR {op : CmpOp}{r : R2}(ho : OpR X (compareOp op) r)(ha : PE X a ta)(hb : PE X b tb)(hm : behindInMarks op b = false) : PT X (.Compare a [op] [b] pos) (tTest (tOp r ta tb)) := by
  intro pins s σ H Q I h
  refine wpAny_isTrue_Compare1 (thn (ha pins s σ H _ I h) fun v s1 ⟨x,H1,I1,r1,q1⟩ => thn (hb pins s1 σ H1 _ I1 q1) fun u s2 ⟨y,H2,I2,r2,q2⟩ =>
    thn (ho pins s2 σ H2 x y v u _ I2 r1 r2 q2) fun c s3 ⟨z,H3,I3,r3,k,e,q3⟩ => ?_) hm
  subst e
  cases r3
  exact wpAny_truthy_bool ⟨H3,I3,q3⟩
def TruV (K : PySem.W.Frag)(x : V)(H : Hp)(k : Bool) : Prop :=
  match x with
  | .non => k = false
  | .bl b => k = b
  | .int i => k = (i != 0)
  | .str y => y.length <= sizeLine /\ k = ((y.length : Int) != 0)
  | .byt y => y.size <= sizeLine /\ k = ((y.size : Int) != 0)
  | .ref p => (∃ xs,SqL K H p xs /\ k = !xs.isEmpty) \/ (∃ xs,SqT K H p xs /\ k = !xs.isEmpty) \/ ∃ kvs,H p = some (.dK kvs) /\ k = !kvs.isEmpty
  | _ => False
theorem isEmpty_kv {κ : Type}{kvs : List (κ × V)}{vs : List (κ × Value)}(r : KV kvs vs) : (!vs.isEmpty) = !kvs.isEmpty := by
  cases r <;> rfl
theorem isEmpty_of {xs : List V}{its : List Value}(r : Vals xs its) : (!its.toArray.isEmpty) = !xs.isEmpty := by
  cases r <;> simp
theorem line63 : (sizeLine : Nat) < 2 ^ 63 := by rw [sizeLine_eq]; decide
theorem tru_ok : TruR X (fun x H Q => ∃ k,TruV X.K x H k /\ Q k H) := by
  intro pins s σ H x v Q I rx h
  obtain ⟨k,e,q⟩ := h
  have hl := line63
  have hs : sizeLine = 16777216 := sizeLine_eq
  cases x with
  | non =>
    cases rx
    have e' : k = false := e
    subst e'
    exact truthy_none ⟨H,I,q⟩
  | bl b =>
    cases rx
    have e' : k = b := e
    subst e'
    exact wpAny_truthy_bool ⟨H,I,q⟩
  | int i =>
    obtain ⟨t,rfl⟩ := rx
    have e' : k = (i != 0) := e
    subst e'
    exact PySem.P.truthy_int ⟨H,I,q⟩
  | str y =>
    obtain ⟨t,rfl⟩ := rx
    obtain ⟨hy,e'⟩ : y.length <= sizeLine /\ k = ((y.length : Int) != 0) := e
    subst e'
    exact PySem.P.truthy_str (by omega) ⟨H,I.tok _,q⟩
  | byt y =>
    obtain ⟨t,rfl⟩ := rx
    obtain ⟨hy,e'⟩ : y.size <= sizeLine /\ k = ((y.size : Int) != 0) := e
    subst e'
    exact PySem.W.truthy_bytes (by omega) ⟨H,I.tok _,q⟩
  | ref p =>
    cases rx
    have e' : (∃ xs,SqL X.K H p xs /\ k = !xs.isEmpty) \/ (∃ xs,SqT X.K H p xs /\ k = !xs.isEmpty) \/ ∃ kvs,H p = some (.dK kvs) /\ k = !kvs.isEmpty := e
    rcases e' with ⟨xs,hx,e'⟩ | ⟨xs,hx,e'⟩ | ⟨kvs,hx,e'⟩
    · subst e'
      obtain ⟨its,r,pl,hz⟩ := I.list hx
      have hlen := r.length
      exact wpAny_truthy_list pl.isList (by simp only [List.size_toArray]; omega) ⟨H,I.tok _,by rw [isEmpty_of r]; exact q⟩
    · subst e'
      obtain ⟨its,r,pl,hz⟩ := I.tuple hx
      have hlen := r.length
      exact truthy_tuple pl (by simp only [List.size_toArray]; omega) ⟨H,I.tok _,by rw [isEmpty_of r]; exact q⟩
    · subst e'
      obtain ⟨hz,hS,vs,r,m⟩ : kvs.length <= sizeLine /\ (p == sysModules) = false /\ ∃ vs,KV kvs vs /\ s.heap.DictOf (mixKind X.prog X.w) p vs := I.hok p _ hx
      have hlen : kvs.length = vs.length := Paired.length r
      exact wpAny_truthy_dict hS m (by omega) ⟨H,I.tok _,by rw [isEmpty_kv r]; exact q⟩
  | _ => exact (show False from e).elim
theorem pt_truth (ha : PE X a ta)(he : ∀ whole,isTrue a X.env whole = (do let v <- whole; standAt a.pos; holding [v] (truthy v))) :
    PT X a (fun σ H Q => ta σ H fun x H' => ∃ k,TruV X.K x H' k /\ Q k H') := by
  intro pins s σ H Q I h
  exact isTrue_plain (thn (ha pins s σ H _ I h) fun v s1 ⟨x,H1,I1,r1,q1⟩ => tru_ok pins s1 σ H1 x v Q I1 r1 q1) (he _)
theorem vals1 {x : V}{us : List Value}(r : Vals [x] us) : ∃ u,us = [u] /\ RelV x u := by
  cases r with
  | cons r1 r2 => cases r2; exact ⟨_,rfl,r1⟩
theorem vals2 {x y : V}{us : List Value}(r : Vals [x,y] us) : ∃ u w',us = [u,w'] /\ RelV x u /\ RelV y w' := by
  cases r with
  | cons r1 r2 =>
    cases r2 with
    | cons r3 r4 => cases r4; exact ⟨_,_,rfl,r1,r3⟩
theorem call_max2 (hc : X.calm = true) : CallR X (.builtin "max") (fun xs H Q => ∃ i j,xs = [.int i,.int j] /\ Q (.int (if j > i then j else i)) H) := by
  intro pins s σ H xs us Q I r h
  obtain ⟨i,j,rfl,q⟩ := h
  obtain ⟨u,w',rfl,⟨t,rfl⟩,⟨t',rfl⟩⟩ := vals2 r
  refine max_two_ints (I.ok.hd hc) fun h' tk k => ⟨_,H,I.kept k,?_,q⟩
  by_cases hj : j > i
  · rw [if_pos hj,if_pos hj]; exact ⟨_,rfl⟩
  · rw [if_neg hj,if_neg hj]; exact ⟨_,rfl⟩
theorem call_min2 (hc : X.calm = true) : CallR X (.builtin "min") (fun xs H Q => ∃ i j,xs = [.int i,.int j] /\ Q (.int (if j < i then j else i)) H) := by
  intro pins s σ H xs us Q I r h
  obtain ⟨i,j,rfl,q⟩ := h
  obtain ⟨u,w',rfl,⟨t,rfl⟩,⟨t',rfl⟩⟩ := vals2 r
  refine min_two_ints (I.ok.hd hc) fun h' tk k => ⟨_,H,I.kept k,?_,q⟩
  by_cases hj : j < i
  · rw [if_pos hj,if_pos hj]; exact ⟨_,rfl⟩
  · rw [if_neg hj,if_neg hj]; exact ⟨_,rfl⟩
end
end L2
namespace L2
open PySem PySem.Spec PyProof.Rows
structure ObjM (h : Heap)(x dx C : Addr)(mA : Str -> Option Value) : Prop where
  obj : h.get? x = some (PySem.W.instObj C dx)
  ns : h.Ns1 dx mA
  ne : dx ≠ x
theorem lookIn_ns {h : Heap}{dx : Addr}{mA : Str -> Option Value}(n : h.Ns1 dx mA) : ∃ od,h.get? dx = some od /\ ∀ name,PySem.W.lookIn name od = some (mA name) := by
  obtain ⟨o,es,ep,ho,hd,hk,_,hm⟩ := n
  refine ⟨o,ho,fun name => ?_⟩
  have e := hm name
  unfold nsFind findBy at e
  rw [<- Array.find?_toList] at e
  unfold PySem.W.lookIn
  rw [hd]
  dsimp only
  split
  · rename_i y q
    rw [q] at e
    exact congrArg some e
  · rename_i q
    rw [q] at e
    have a : es.toList.any (·.refKey) = false := by
      rw [List.any_eq_false]
      intro y hy
      obtain ⟨z,t,hkey⟩ := hk y (Array.mem_toList_iff.mp hy)
      simp [DictEntry.refKey,hkey]
    have a' : ¬ es.toList.any (·.refKey) = true := by rw [a]; exact Bool.false_ne_true
    rw [if_neg a']
    exact congrArg some e
theorem ObjM.look {h : Heap}{x dx C : Addr}{mA : Str -> Option Value}(I : ObjM h x dx C mA) : ∃ od,PySem.W.InstAt h x (PySem.W.instObj C dx) C (some od) /\ ∀ name,PySem.W.lookIn name od = some (mA name) :=
  let ⟨od,ho,hl⟩ := lookIn_ns I.ns
  ⟨od,⟨I.obj,rfl,rfl,ho⟩,hl⟩
section
variable {prog : Program}{w : World}{A : Around}{E : Value -> Shared -> Prop}{s : Shared}{K : PySem.W.Frag}{x dx C f : Addr}{mA : Str -> Option Value}{name : Str}{v : Value}
end
section
variable {P : Program}{w : World}{H H' : Hp}{h h' : Heap}{a C dx : Addr}{fs fs' : List (Str × V)}
theorem ins_get (hok : HOk P w H h)(e : H a = some (.ins C dx fs)) : ∃ mA,ObjM h a dx C mA /\ (∀ f,RelO (fs.lookup f) (mA f)) /\ PySem.Within mA (fs.map (·.1)) /\ fs.length <= 1000 /\ H dx = some (.own a) := by
  obtain ⟨d,z,ne,ob,mA,n,r,q⟩ := (show ObjOk P w H h a (.ins C dx fs) from hok a _ e)
  exact ⟨mA,⟨ob,n,ne⟩,r,q,z,d⟩
end
structure Cls (K : PySem.W.Frag)(C : Addr) : Prop where
  pg : PySem.W.plainGet K C Str.empty = true
  hd : PySem.W.hasDictIn K C = true
  po : PySem.W.plainOver K C = true
  sa : PySem.W.findIn K (.ref C) "__setattr__" = some (some (.builtin "object.__setattr__"))
theorem Cls.get {K : PySem.W.Frag}{C : Addr}(c : Cls K C)(f : Str) : PySem.W.plainGet K C f = true := c.pg
def NoAttr (K : PySem.W.Frag)(C : Addr)(f : Str) : Prop := PySem.W.findIn K (.ref C) f = some none
section
variable {X : Cx}{pins : List (Addr × Obj)}{σ : St}{H : Hp}{s : Shared}{a C dx : Addr}{fs : List (Str × V)}{f : Str}{v : V}{A : Around}{E : Value -> Shared -> Prop}
end
def tFld (K : PySem.W.Frag)(ta : TE)(f : Str) : TE := fun σ H Q => ta σ H fun x H1 => ∃ a C dx fs v,x = .ref a /\ H1 a = some (.ins C dx fs) /\ Cls K C /\ NoAttr K C f /\ fs.lookup f = some v /\ Q v H1
section
variable {X : Cx}{o e value : Expr}{f : Str}{pos pos' tpos : Pos}{ta tv : TE}
end
section
variable {X : Cx}{pins : List (Addr × Obj)}{σ : St}{H : Hp}{s : Shared}{A : Around}{E : Value -> Shared -> Prop}{Q : Value -> Shared -> Prop}{c : Value}{b : Bool}
inductive TyOf (K : PySem.W.Frag)(H : Hp) : V -> Value -> Prop where
  | non : TyOf K H .non (.type "NoneType")
  | bl (x : Bool) : TyOf K H (.bl x) (.type "bool")
  | int (i : Int) : TyOf K H (.int i) (.type "int")
  | str (x : Str) : TyOf K H (.str x) (.type "str")
  | flt (x : UInt64) : TyOf K H (.flt x) (.type "float")
  | lst {a : Addr} {xs : List V} (e : H a = some (.lst xs)) : TyOf K H (.ref a) (.type "list")
  | frz {a : Addr} {o : Obj} {xs : List V} (e : H a = some (.frz o (.lst xs))) : TyOf K H (.ref a) (.type "list")
  | tup {a : Addr} {xs : List V} (e : H a = some (.tup xs)) : TyOf K H (.ref a) (.type "tuple")
  | dK {a : Addr} {kvs : List (Key × V)} (e : H a = some (.dK kvs)) : TyOf K H (.ref a) (.type "dict")
  | dT {a : Addr} {kvs : List (List Key × V)} (e : H a = some (.dT kvs)) : TyOf K H (.ref a) (.type "dict")
  | ins {a C dx : Addr} {fs : List (Str × V)} (e : H a = some (.ins C dx fs)) (cl : Cls K C) (ha : PySem.W.findIn K (.ref C) "__class__" = some (some (.builtin "object.__class__")))
      (hn : PySem.W.specialIn K (.builtin "object.__class__") "__get__" = some (some (.builtin "getset_descriptor.__get__"))) (htk : PySem.W.takesIn K (.builtin "object.__class__") = some true)
      (hm : PySem.W.mroIn K C (.type "object") = some true) : TyOf K H (.ref a) (.ref C)
theorem isinst_ok {x : V}{u t : Value}(I : Inv X pins σ H s)(rx : RelV x u)(ty : TyOf X.K H x t)(e : PySem.W.kitOne X.K t c = some b)(h : ∀ tk,Q (.bool b) { s with toks := tk }) :
    wpAny (model X.prog X.w) A (call (.builtin "isinstance") [u,c]) Q E s := by
  cases ty with
  | non => cases (show u = Value.none from rx); exact PySem.W.kia_one PySem.W.kitx_none I.kIn True.intro e (fun z => nomatch z) h
  | bl y => cases (show u = Value.bool y from rx); exact PySem.W.kia_one PySem.W.kitx_bool I.kIn True.intro e (fun z => nomatch z) h
  | int i => obtain ⟨t,q⟩ := (show ∃ t,u = Value.int i t from rx); cases q; exact PySem.W.kia_one PySem.W.kitx_int I.kIn True.intro e (fun z => nomatch z) h
  | str y => obtain ⟨t,q⟩ := (show ∃ t,u = Value.str y t from rx); cases q; exact PySem.W.kia_one PySem.W.kitx_str I.kIn True.intro e (fun z => nomatch z) h
  | flt y => obtain ⟨t,q⟩ := (show ∃ t,u = Value.float y t from rx); cases q; exact PySem.W.kia_one PySem.W.kitx_float I.kIn True.intro e (fun z => nomatch z) h
  | @lst a xs ea =>
    cases (show u = Value.ref a from rx)
    obtain ⟨_,_,n,_,h1⟩ := (show ObjOk X.prog X.w H s.heap a (.lst xs) from I.hok a _ ea)
    exact PySem.W.kia_one PySem.W.kitx_list I.kIn ⟨_,h1,rfl⟩ e (fun z => nomatch z) h
  | @frz a ob xs ea =>
    cases (show u = Value.ref a from rx)
    obtain ⟨_,_,_,n,_,h1⟩ := (show ObjOk X.prog X.w H s.heap a (.frz ob (.lst xs)) from I.hok a _ ea)
    exact PySem.W.kia_one PySem.W.kitx_list I.kIn ⟨_,h1,rfl⟩ e (fun z => nomatch z) h
  | @tup a xs ea =>
    cases (show u = Value.ref a from rx)
    obtain ⟨_,_,_,p⟩ := (show ObjOk X.prog X.w H s.heap a (.tup xs) from I.hok a _ ea)
    obtain ⟨o,h1,h2,_⟩ := p
    exact PySem.W.kia_one PySem.W.kitx_tuple I.kIn ⟨o,h1,h2⟩ e (fun z => nomatch z) h
  | @dK a kvs ea =>
    cases (show u = Value.ref a from rx)
    obtain ⟨_,_,vs,_,p⟩ := (show ObjOk X.prog X.w H s.heap a (.dK kvs) from I.hok a _ ea)
    obtain ⟨o,es,ep,h1,h2,_⟩ := p
    exact PySem.W.kia_one PySem.W.kitx_dict I.kIn ⟨o,h1,h2.1⟩ e (fun z => nomatch z) h
  | @dT a kvs ea =>
    cases (show u = Value.ref a from rx)
    obtain ⟨_,_,xs,_,o,es,ep,h1,h2,_⟩ := (show ObjOk X.prog X.w H s.heap a (.dT kvs) from I.hok a _ ea)
    exact PySem.W.kia_one PySem.W.kitx_dict I.kIn ⟨o,h1,h2.1⟩ e (fun z => nomatch z) h
  | @ins a C dx fs ea cl ha hn htk hm =>
    cases (show u = Value.ref a from rx)
    obtain ⟨mA,O,_⟩ := ins_get I.hok ea
    obtain ⟨od,J,_⟩ := O.look
    exact PySem.W.kia_one (PySem.W.kitx_own (cl.get _) cl.hd ha hn htk hm) I.kIn J e (fun z => nomatch z) h
end
end L2
namespace L2
open PySem PySem.Spec PyProof.Rows
structure Room (k : Nat)(A : Around) : Prop where
  hd : A.handled = none
  dp : A.depth + 3 * k + 5 < recursionLimit
  un : A.units + 16 * k + 200 < cLine
  gd : A.guards = some []
theorem Room.mono {j k : Nat}{A : Around}(r : Room k A)(h : j <= k) : Room j A := ⟨r.hd,by have := r.dp; omega,by have := r.un; omega,r.gd⟩
theorem Room.deeper {k : Nat}{A : Around}(r : Room (k + 1) A)(env : Env) : Room k (A.deeper env) :=
  ⟨r.hd,by have := r.dp; show A.depth + 1 + 3 * k + 5 < _; omega,by have := r.un; show A.units + 3 + 16 * k + 200 < _; omega,r.gd⟩
theorem Room.depth {k : Nat}{A : Around}(r : Room k A) : A.depth < recursionLimit := by have := r.dp; omega
theorem Room.units {k : Nat}{A : Around}(r : Room k A) : A.units + 64 < cLine := by have := r.un; omega
def tNil : TA := fun _ H Q => Q [] H
def tCons (ta : TE)(tr : TA) : TA := fun σ H Q => ta σ H fun x H1 => tr σ H1 fun xs H2 => Q (x :: xs) H2
section
variable {X : Cx}{e : Expr}{es : List Expr}{te : TE}{t : TA}{pos : Pos}
theorem pa_nil : PA X [] tNil := fun _ _ _ _ H Q I h => Calls.spliced_nil ⟨[],H,I,.nil,h⟩
theorem pa_cons (ha : PE X e te)(hr : PA X es t)(hs : starEach (e :: es) X.env = (false,eval e X.env) :: starEach es X.env := by rfl) : PA X (e :: es) (tCons te t) := by
  intro pos pins s σ H Q I h
  rw [hs]
  show wpAny _ _ (spliced ((false,eval e X.env) :: backTo pos (starEach es X.env))) _ _ s
  refine Calls.spliced_cons (thn (ha pins s σ H _ I h) fun u s1 ⟨x,H1,I1,r1,q1⟩ => ?_)
  exact thn (hr pos pins s1 σ H1 _ I1 q1) fun us s2 ⟨xs,H2,I2,r2,q2⟩ => ⟨x :: xs,H2,I2,.cons r1 r2,q2⟩
def tTup (t : TA) : TE := fun σ H Q => t σ H fun xs H1 => xs.length <= sizeLine /\ ∀ p,H1 p = none -> Q (.ref p) (upd H1 p (.tup xs))
def tLst (t : TA) : TE := fun σ H Q => t σ H fun xs H1 => xs.length <= sizeLine /\ ∀ p,H1 p = none -> Q (.ref p) (upd H1 p (.lst xs))
theorem pe_tup {x1}(h : PA X es t) : PE X (.Tuple es x1 pos) (tTup t) := by
  intro pins s σ H Q I hq
  refine wpAny_Tuple_spliced (thn (h pos pins s σ H _ I hq) fun us s1 ⟨xs,H1,I1,r,z,q⟩ => ⟨by rw [<- r.length]; exact z,?_⟩)
  have hf : H1 s1.heap.objs.size = none := I1.hok.fresh (Nat.le_refl _)
  refine ⟨.ref s1.heap.objs.size,upd H1 s1.heap.objs.size (.tup xs),I1.laid (t' := s1.toks) (fun b u e => Heap.get?_push_of_some _ e) (Nat.le_refl _) ?_,rfl,q _ hf⟩
  exact ⟨z,us,r,⟨_,Heap.get?_push_size _ rfl,rfl,_,rfl⟩⟩
theorem pe_lst (h : PA X es t) : PE X (.List es pos) (tLst t) := by
  intro pins s σ H Q I hq
  refine wpAny_List_spliced (thn (h pos pins s σ H _ I hq) fun us s1 ⟨xs,H1,I1,r,z,q⟩ => ⟨by rw [<- r.length]; exact z,?_⟩)
  have hf : H1 s1.heap.objs.size = none := I1.hok.fresh (Nat.le_refl _)
  refine ⟨.ref s1.heap.objs.size,upd H1 s1.heap.objs.size (.lst xs),I1.laid (t' := s1.toks) (fun b u e => Heap.get?_push_of_some _ e) (Nat.le_refl _) ?_,rfl,q _ hf⟩
  exact ⟨z,us,0,r,Heap.get?_push_size _ rfl⟩
end
abbrev Sp := List V -> Hp -> VK -> XK -> Prop
abbrev CXT := List Env -> Hp -> Shared -> XK -> Value -> Shared -> Prop
structure Env0 (P : Program)(w : World)(K : PySem.W.Frag)(mg : Str -> Option Value)(base : Heap)(A : Around)(outer : List Env)(s : Shared)(H : Hp) : Prop where
  frames : A.frames = some outer
  mod : Mod K mg base
  bs : ∀ b o,base.get? b = some o -> s.heap.get? b = some o /\ H b = none
  bsz : base.objs.size <= s.heap.objs.size
  funs : s.heap.FunFrames base outer
  frf : ∀ b ∈ frs outer,H b = none
  hok : HOk P w H s.heap
  bare : AllBare s.gens
def CE (outer : List Env)(P : Program)(w : World)(H : Hp)(s : Shared)(Q : VK)(u : Value)(s' : Shared) : Prop :=
  ∃ v H',s'.os = s.os /\ AllBare s'.gens /\ Un (frs outer) [] H H' s.heap s'.heap /\ HOk P w H' s'.heap /\ RelV v u /\ Q v H'
def CR (CX : CXT)(outer : List Env)(P : Program)(w : World)(H : Hp)(s : Shared)(Q : VK)(E : XK)(r : Result)(s' : Shared) : Prop :=
  match r with
  | .ok (.ret u) => CE outer P w H s Q u s'
  | .ok _ => False
  | .error e => CX outer H s E e s'
structure FnOk (P : Program)(w : World)(K : PySem.W.Frag)(mg : Str -> Option Value)(base : Heap)(CX : CXT)(k : Nat)(f : Addr)(fd : FuncData)(ps : List Str)(sp : Sp) : Prop where
  len : ∀ vs H Q E,sp vs H Q E -> vs.length = ps.length
  run : ∀ (A : Around) (outer : List Env) (s : Shared) (H : Hp) (args : Args) (us : List Value) (vs : List V) (Q : VK) (E : XK),Room k A -> Env0 P w K mg base A outer s H -> BindsTo s fd args (ps.zip us) -> Vals vs us -> sp vs H Q E ->
    codeAny (model P w) A (.call (.ref f) args) (CR CX outer P w H s Q E) s
theorem FnOk.imp {P : Program}{w : World}{K : PySem.W.Frag}{mg : Str -> Option Value}{base : Heap}{CX : CXT}{k : Nat}{f : Addr}{fd : FuncData}{ps : List Str}{sp sp' : Sp}(F : FnOk P w K mg base CX k f fd ps sp)
    (h : ∀ vs H Q E,sp' vs H Q E -> sp vs H Q E) : FnOk P w K mg base CX k f fd ps sp' :=
  ⟨fun vs H Q E q => F.len vs H Q E (h _ _ _ _ q),fun A outer s H args us vs Q E hr he hb hv hs => F.run A outer s H args us vs Q E hr he hb hv (h _ _ _ _ hs)⟩
section
variable {X : Cx}{pins : List (Addr × Obj)}{σ : St}{H : Hp}{s s' : Shared}
theorem Inv.env0 (I : Inv X pins σ H s) : Env0 X.prog X.w X.K X.mg X.base X.A X.stack s H :=
  ⟨I.ok.frames,I.ok.mod,I.bs,Nat.le_trans I.ok.bsz I.sz,I.stack,I.stkFree,I.hok,I.bare⟩
theorem Inv.after {Q : VK}{u : Value}(I : Inv X pins σ H s)(h : CE X.stack X.prog X.w H s Q u s') : EP X pins σ Q u s' := by
  obtain ⟨v,H',os,bare,un,hok,r,q⟩ := h
  obtain ⟨hh,g,d,t,os'⟩ := s'
  obtain rfl : os' = s.os := os
  exact ⟨v,H',I.call (h' := hh) (g' := g) (d' := d) (t' := t) (ch := []) un hok bare (fun b z => absurd z (by simp)),r,q⟩
end
def tCall (sp : Sp)(dvs : List V)(E : XK)(t : TA) : TE := fun σ H Q => t σ H fun vs H1 => sp (vs ++ dvs) H1 Q E
def tMeth (C : Addr)(m : Str)(sp : Sp)(dvs : List V)(E : XK)(ta : TE)(t : TA) : TE := fun σ H Q => ta σ H fun x H1 => ∃ a dx fs,x = .ref a /\ H1 a = some (.ins C dx fs) /\ fs.lookup m = none /\
  t σ H1 fun vs H2 => sp (x :: (vs ++ dvs)) H2 Q E
def tMake (C : Addr)(sp : Sp)(dvs : List V)(E : XK)(t : TA) : TE := fun σ H Q => t σ H fun vs H1 => ∀ x dx,H1 x = none -> H1 dx = none -> dx ≠ x ->
  sp (.ref x :: (vs ++ dvs)) (upd (upd H1 dx (.own x)) x (.ins C dx [])) (fun v H2 => v = .non /\ Q (.ref x) H2) E
def Binds (K : PySem.W.Frag)(fd : FuncData)(ps : List Str)(ds : List Value) : Prop :=
  ∀ (s : Shared) (us : List Value),K.In s.heap -> (us ++ ds).length = ps.length -> BindsTo s fd ⟨us,[]⟩ (ps.zip (us ++ ds))
theorem Binds.all {K : PySem.W.Frag}{fd : FuncData}{ps : List Str}(h : ∀ us : List Value,us.length = ps.length -> bindArgs fd ⟨us,[]⟩ = pure (ps.zip us)) : Binds K fd ps [] := fun s us _ hl => by
  rw [List.append_nil] at hl ⊢
  exact .of_eq (h us hl)
def Passes (CX : CXT)(X : Cx)(E : XK) : Prop := ∀ (pins : List (Addr × Obj)) (σ : St) (H : Hp) (s : Shared) (e : Value) (s' : Shared),Inv X pins σ H s -> CX X.stack H s E e s' -> X.xe e s'
section
variable {X : Cx}{CX : CXT}{k : Nat}{f C : Addr}{fd : FuncData}{ps : List Str}{sp : Sp}{dvs : List V}{ds : List Value}{E : XK}{x m : Str}{p pos apos : Pos}{e o : Expr}{es : List Expr}{ta : TE}{t : TA}
theorem run_fn {pins : List (Addr × Obj)}{σ : St}{H : Hp}{s : Shared}{Q : VK}{us : List Value}{vs : List V}(F : FnOk X.prog X.w X.K X.mg X.base CX k f fd ps sp)(hr : Room k X.A)(hb : Binds X.K fd ps ds)(hd : Vals dvs ds)(hx : Passes CX X E)
    (I : Inv X pins σ H s) (r : Vals vs us) (h : sp (vs ++ dvs) H Q E) : wpAny (model X.prog X.w) X.A (call (.ref f) us) (EP X pins σ Q) X.xe s := by
  have r2 : Vals (vs ++ dvs) (us ++ ds) := r.append hd
  have hl : (us ++ ds).length = ps.length := by rw [<- r2.length]; exact F.len _ _ _ _ h
  refine wpAny_call (codeAny_mono (F.run X.A X.stack s H ⟨us,[]⟩ (us ++ ds) (vs ++ dvs) Q E hr I.env0 (hb s us I.kIn hl) r2 h) fun r s' hq => ?_)
  cases r with
  | error e => exact hx pins σ H s e s' I hq
  | ok fl =>
    cases fl with
    | ret u => exact I.after hq
    | next => exact False.elim hq
    | brk => exact False.elim hq
    | cont => exact False.elim hq
theorem pe_call (F : FnOk X.prog X.w X.K X.mg X.base CX k f fd ps sp)(hr : Room k X.A)(hg : Gl X x)(hm : X.mg x = some (.ref f))(hk : PySem.W.keepIn X.K (.ref f) = true)(hb : Binds X.K fd ps ds)(hd : Vals dvs ds)(hx : Passes CX X E)
    (ha : PA X (e :: es) t) (hdb : (x == ("__debug__" : Str)) = false := by decide) (he : starEach (e :: es) X.env = (false,eval e X.env) :: starEach es X.env := by rfl) (hpl : (backTo pos (starEach es X.env)).any (·.1) = false := by rfl) :
    PE X (.Call (.Name x p) (e :: es) [] pos) (tCall sp dvs E t) := by
  intro pins s σ H Q I h
  refine wpAny_Call_Name_kw (ld_glob I hg hm ?_ hdb)
  refine PySem.W.callWith_K (h₀ := X.base) I.ok.mod.kin hk (thn (ha pos pins s σ H _ I h) fun us s1 ⟨vs,H1,I1,r,q⟩ => ⟨I1.kIn,?_⟩) he hpl
  exact run_fn F hr hb hd hx I1 r q
end
section
variable {X : Cx}{CX : CXT}{k : Nat}{f C : Addr}{fd : FuncData}{ps ks : List Str}{sp : Sp}{E : XK}{x m : Str}{p pos apos kpos : Pos}{e o : Expr}{es : List Expr}{kws : List Keyword}{te ta : TE}{t tk : TA}{nm : Option Str}
variable {g : List Value -> List Value -> List Value}{gV : List V -> List V -> List V}
end
structure FnScope (N P : List Str)(sc : Scope) : Prop where
  kind : sc.kind = .function
  co : sc.isCoroutine = false
  gen : sc.isGenerator = false
  nd : N.Nodup
  pre : N.take P.length = P
  par : ∀ x ∈ P,sc.names.lookup x = some .local \/ sc.names.lookup x = some .cell
  nofree : ∀ y ∈ sc.names,y.2 ≠ .free
theorem bindL_out {kindOf : Str -> Option NameKind}{x : Str} : ∀ {binds : List (Str × Value)} {m : Str -> Option Value},(∀ v,(x,v) ∉ binds) -> bindL kindOf binds m x = m x
  | [],_,_ => rfl
  | (n,v) :: r,m,h => by
    unfold bindL
    rw [bindL_out fun w hw => h w (List.mem_cons_of_mem _ hw)]
    split
    · have : x ≠ n := by rintro rfl; exact h v List.mem_cons_self
      simp [this]
    · rfl
theorem bindC_out {kindOf : Str -> Option NameKind}{x : Str} : ∀ {binds : List (Str × Value)} {m : Str -> Option Value},(∀ v,(x,v) ∉ binds) -> bindC kindOf binds m x = m x
  | [],_,_ => rfl
  | (n,v) :: r,m,h => by
    unfold bindC
    rw [bindC_out fun w hw => h w (List.mem_cons_of_mem _ hw)]
    split
    · rfl
    · have : x ≠ n := by rintro rfl; exact h v List.mem_cons_self
      simp [this]
theorem bindL_get {kindOf : Str -> Option NameKind}{x : Str}{v : Value} : ∀ {P : List Str} {vs : List Value} {i : Nat} {m : Str -> Option Value},P.Nodup -> P[i]? = some x -> vs[i]? = some v -> kindOf x = some .local ->
    bindL kindOf (P.zip vs) m x = some v
  | [],_,_,_,_,h,_,_ => by simp at h
  | _ :: _,[],_,_,_,_,h,_ => by simp at h
  | p :: P,w :: vs,0,m,nd,h1,h2,hk => by
    simp at h1 h2; subst h1; subst h2
    show bindL kindOf ((p,w) :: P.zip vs) m p = _
    unfold bindL
    rw [bindL_out fun v hv => (List.nodup_cons.mp nd).1 (List.of_mem_zip hv).1,if_pos hk]
    simp
  | p :: P,w :: vs,i + 1,m,nd,h1,h2,hk => by
    show bindL kindOf ((p,w) :: P.zip vs) m x = _
    unfold bindL
    exact bindL_get (i := i) (List.nodup_cons.mp nd).2 (by simpa using h1) (by simpa using h2) hk
theorem bindC_get {kindOf : Str -> Option NameKind}{x : Str}{v : Value} : ∀ {P : List Str} {vs : List Value} {i : Nat} {m : Str -> Option Value},P.Nodup -> P[i]? = some x -> vs[i]? = some v -> kindOf x ≠ some .local ->
    bindC kindOf (P.zip vs) m x = some v
  | [],_,_,_,_,h,_,_ => by simp at h
  | _ :: _,[],_,_,_,_,h,_ => by simp at h
  | p :: P,w :: vs,0,m,nd,h1,h2,hk => by
    simp at h1 h2; subst h1; subst h2
    show bindC kindOf ((p,w) :: P.zip vs) m p = _
    unfold bindC
    rw [bindC_out fun v hv => (List.nodup_cons.mp nd).1 (List.of_mem_zip hv).1,if_neg hk]
    simp
  | p :: P,w :: vs,i + 1,m,nd,h1,h2,hk => by
    show bindC kindOf ((p,w) :: P.zip vs) m x = _
    unfold bindC
    exact bindC_get (i := i) (List.nodup_cons.mp nd).2 (by simpa using h1) (by simpa using h2) hk
def start (N : List Str)(vs : List V) : St := vs.map some ++ List.replicate (N.length - vs.length) none
def cxOf (CX : CXT)(P : Program)(w : World)(K : PySem.W.Frag)(mg : Str -> Option Value)(base : Heap)(N : List Str)(qual : Str)(scope : Scope)(f : Addr)(cd : Value)(A : Around)(outer : List Env)(s : Shared)(H : Hp)(E : XK) : Cx where
  prog := P
  w := w
  K := K
  mg := mg
  base := base
  A := A.deeper (envOfC qual scope s.heap.objs.size f cd)
  N := N
  s₀ := s
  H₀ := H
  env := envOfC qual scope s.heap.objs.size f cd
  outer := outer
  stack := envOfC qual scope s.heap.objs.size f cd :: outer
  ex := []
  calm := true
  fn := fun _ => true
  pn := []
  xe := fun e s' => wpAny (model P w) (A.deeper (envOfC qual scope s.heap.objs.size f cd)) (leaving (envOfC qual scope s.heap.objs.size f cd) e) (fun _ s'' => CX outer H s E e s'') (fun e' s'' => CX outer H s E e' s'') s'
theorem cell_has {sc : Scope}{n : Nat}{x : Str}(h : sc.names.lookup x = some .cell) : ∃ c,(cellsFrom n sc.names []).lookup x = some c := by
  have q := PySem.W.cellsFrom_some sc.names n [] (.inl h)
  exact Option.isSome_iff_exists.mp q
theorem inv_start {CX : CXT}{P : Program}{w : World}{K : PySem.W.Frag}{mg : Str -> Option Value}{base : Heap}{N ps : List Str}{qual : Str}{scope : Scope}{f : Addr}{cd : Value}{A : Around}{outer : List Env}{s s1 : Shared}{H : Hp}{E : XK}{us : List Value}{vs : List V}
    (S : FnScope N ps scope) (hd : A.handled = none) (e0 : Env0 P w K mg base A outer s H) (hl : vs.length = ps.length) (r : Vals vs us)
    (x : InCallC s s.heap.objs.size (bindL (envOfC qual scope s.heap.objs.size f cd).kindOf (ps.zip us) fun _ => none) (cellsFrom (s.heap.objs.size + 1) scope.names []) (bindC (envOfC qual scope s.heap.objs.size f cd).kindOf (ps.zip us) fun _ => none) s1) :
    Inv (cxOf CX P w K mg base N qual scope f cd A outer s H E) [] (start N vs) H s1 := by
  have hpl : ps.length <= N.length := by have := congrArg List.length S.pre; rw [List.length_take] at this; omega
  obtain ⟨h1,tk,rfl,hk⟩ := x.done
  have noA : ∀ b : Addr,b ∉ (cxOf CX P w K mg base N qual scope f cd A outer s H E).ex := fun b z => absurd (show b ∈ ([] : List Addr) from z) (by simp)
  refine ⟨⟨e0.mod,S.kind,rfl,rfl,Nat.le_refl _,fun y z c h1 h2 => ?_,fun y hy => ?_,fun y c _ h => ?_,fun _ => hd,Around.frames_deeper e0.frames,.inr ⟨rfl,rfl⟩,fun b z => absurd z (noA b),e0.bs,e0.bsz,fun b _ _ => noA b,fun b z => absurd z (noA b),e0.funs,e0.frf⟩,
    rfl,e0.bare,Un.kept hk,⟨_,x.toInCall.ns,fun i y v h1 h2 h3 => ?_⟩,fun y c h => ⟨_,x.cell y c h⟩,e0.hok.fresh (Nat.le_refl _),fun y c h => ?_,fun p hp => absurd (show p ∈ ([] : List (Addr × Obj)) from hp) (by simp),e0.hok.kept hk,?_⟩
  · exact name_of_addr x.apart (PySem.mem_of_lookup h1) (PySem.mem_of_lookup h2)
  · have hy : scope.names.lookup y = some .cell \/ scope.names.lookup y = some .free := hy
    rcases hy with hy | hy
    · exact cell_has hy
    · exact absurd rfl (S.nofree _ (PySem.mem_of_lookup hy))
  · exact Nat.le_of_lt (x.above y c (PySem.mem_of_lookup h))
  · have hi : i < vs.length := by
      unfold start at h2
      by_cases hi : i < vs.length
      · exact hi
      · rw [List.getElem?_append_right (by simpa using hi)] at h2
        rw [List.getElem?_replicate] at h2
        split at h2 <;> cases h2
    have ha : vs[i]? = some v := by
      unfold start at h2
      rw [List.getElem?_append_left (by simpa using hi),List.getElem?_map] at h2
      cases e : vs[i]? with
      | none => rw [e] at h2; cases h2
      | some a => rw [e] at h2; cases h2; rfl
    obtain ⟨u,hu,rv⟩ := r.get ha
    have hp : ps[i]? = some y := by
      rw [<- S.pre,List.getElem?_take_of_lt (by omega)]; exact h1
    have ndP : ps.Nodup := by rw [<- S.pre]; exact S.nd.sublist (List.take_sublist _ _)
    refine ⟨u,rv,?_⟩
    rcases S.par y (List.mem_of_getElem? hp) with k | k
    · exact .inl ⟨k,bindL_get ndP hp hu k⟩
    · obtain ⟨c,e⟩ := cell_has (n := s.heap.objs.size + 1) k
      refine .inr ⟨.inl k,c,e,?_⟩
      have q := x.cell y c e
      rw [bindC_get ndP hp hu (by show scope.names.lookup y ≠ _; rw [k]; decide)] at q
      exact q
  · exact e0.hok.fresh (Nat.le_of_lt (x.above y c (PySem.mem_of_lookup h)))
  · unfold start
    show _ = N.length
    rw [List.length_append,List.length_map,List.length_replicate]
    omega
theorem fn_of {CX : CXT}{P : Program}{w : World}{K : PySem.W.Frag}{mg : Str -> Option Value}{base : Heap}{k : Nat}{f : Addr}{name qual : Str}{params : Arguments}{body : List Stmt}{scope : Scope}{dV kV doc pm cdv ct oc : Value}{an od : Option Addr}
    {osl : Array (Option Value)} {N ps : List Str} {sp : Sp} (lk : K.lookup f = some ⟨oc,od,.func (PySem.W.fnOf name qual params body scope dV kV doc pm an cdv ct),osl⟩) (hcd : PySem.W.codeIn K cdv qual = true) (S : FnScope N ps scope)
    (len : ∀ vs H Q E,sp vs H Q E -> vs.length = ps.length)
    (hbody : ∀ (A : Around) (outer : List Env) (s : Shared) (H : Hp) (vs : List V) (Q : VK) (E : XK),Room k (A.deeper (envOfC qual scope s.heap.objs.size f cdv)) -> sp vs H Q E ->
      ∃ t,PSs (cxOf CX P w K mg base N qual scope f cdv A outer s H E) body t /\ t { nx := fun _ H' => Q .non H',rt := Q } (start N vs) H) :
    FnOk P w K mg base CX (k + 1) f (PySem.W.fnOf name qual params body scope dV kV doc pm an cdv ct) ps sp := by
  refine ⟨len,fun A outer s H args us vs Q E hr e0 hb r hsp => ?_⟩
  have hl := len _ _ _ _ hsp
  have KX : K.In s.heap := e0.mod.kin.keeps fun b o e => (e0.bs b o e).1
  have lim : s.heap.NoLimit := e0.mod.nolimit.keeps fun b o e => (e0.bs b o e).1
  have hkind : ∀ y ∈ ps.zip us,scope.names.lookup y.1 = some .local \/ (scope.names.lookup y.1 = some .cell /\ ((cellsFrom (s.heap.objs.size + 1) scope.names []).lookup y.1).isSome = true) := fun ⟨n,v⟩ hy => by
    rcases S.par n (List.of_mem_zip hy).1 with q | q
    · exact .inl q
    · exact .inr ⟨q,PySem.W.cellsFrom_some _ _ _ (.inl q)⟩
  refine codeAny_call_function hr.depth (KX _ _ lk) rfl S.co S.gen rfl (PySem.W.codeRec_of KX hcd) (hb _ _ _ _ ?_)
  refine wpAny_newFunctionEnv_cells S.kind hkind fun env he s1 x => ?_
  subst he
  refine ⟨lim.keeps x.toInCall.keep,codeAny_func ?_⟩
  obtain ⟨t,ht,hq⟩ := hbody A outer s H vs Q E (hr.deeper _) hsp
  have I : Inv (cxOf CX P w K mg base N qual scope f cdv A outer s H E) [] (start N vs) H s1 := inv_start S hr.hd e0 hl r x
  refine wpAny_mono (ht [] s1 (start N vs) H _ I hq) (fun fl s' hs => ?_) fun e s' hs => hs
  have fin : ∀ {σ' : St} {H' : Hp} {v : V} {u : Value},Inv (cxOf CX P w K mg base N qual scope f cdv A outer s H E) [] σ' H' s' -> RelV v u -> Q v H' -> CE outer P w H s Q u s' :=
    fun {σ' H' v u} J rv q => ⟨v,H',J.os,J.bare,J.base,J.hok,rv,q⟩
  cases fl with
  | ret u =>
    obtain ⟨v,σ',H',J,rv,q⟩ := hs
    exact fin J rv q
  | next =>
    obtain ⟨σ',H',J,q⟩ := hs
    exact fin (v := V.non) (u := Value.none) J rfl q
  | brk =>
    obtain ⟨_,_,_,q⟩ := hs
    exact False.elim q
  | cont =>
    obtain ⟨_,_,_,q⟩ := hs
    exact False.elim q
end L2
namespace L2
open PySem PySem.Spec PyProof.Rows
section
variable {X : Cx}{x : Str}{p pos : Pos}{e : Expr}{es : List Expr}{t : TA}{id T : String}{r : List V -> Hp -> VK -> Prop}
def tCB (r : List V -> Hp -> VK -> Prop)(t : TA) : TE := fun σ H Q => t σ H fun vs H1 => r vs H1 Q
theorem pe_callB (hc : CallR X (.builtin id) r)(hg : Gl X x)(hm : X.mg x = none)(hv : bootBuiltins x = some (.builtin id))(ha : PA X (e :: es) t)(hn : x ≠ "__name__" := by decide) (hdb : (x == ("__debug__" : Str)) = false := by decide)
    (he : starEach (e :: es) X.env = (false,eval e X.env) :: starEach es X.env := by rfl) (hpl : (backTo pos (starEach es X.env)).any (·.1) = false := by rfl) : PE X (.Call (.Name x p) (e :: es) [] pos) (tCB r t) := by
  intro pins s σ H Q I h
  refine wpAny_Call_Name_kw (ld_blt I hg hm hv ?_ hn hdb)
  exact PyProof.Rows.callWith_builtin1 (thn (ha pos pins s σ H _ I h) fun us s1 ⟨vs,H1,I1,r1,q1⟩ => hc pins s1 σ H1 vs us Q I1 r1 q1) he hpl
theorem pe_callTy (hc : CallR X (.type T) r)(hg : Gl X x)(hm : X.mg x = none)(hv : bootBuiltins x = some (.type T))(ha : PA X (e :: es) t)(hn : x ≠ "__name__" := by decide) (hdb : (x == ("__debug__" : Str)) = false := by decide)
    (he : starEach (e :: es) X.env = (false,eval e X.env) :: starEach es X.env := by rfl) (hpl : (backTo pos (starEach es X.env)).any (·.1) = false := by rfl) : PE X (.Call (.Name x p) (e :: es) [] pos) (tCB r t) := by
  intro pins s σ H Q I h
  refine wpAny_Call_Name_kw (ld_blt I hg hm hv ?_ hn hdb)
  exact PyProof.Rows.callWith_type1 (thn (ha pos pins s σ H _ I h) fun us s1 ⟨vs,H1,I1,r1,q1⟩ => hc pins s1 σ H1 vs us Q I1 r1 q1) he hpl
end
end L2
namespace HT
open PySem PyProof.Rows
section
open PySem.SeqAt
open PySem.AutoSeq1 (wpAny_loadPart')
open PySem.MeetsSeq PySem.MeetsSeq2 PySem.MeetsSeq3
end
section
variable {prog : Program}{w : World}{A : Around}{E : Value -> Shared -> Prop}{s : Shared}
def sIx (n d : Nat) : Option Int -> Nat
  | none => d
  | some v => if v < 0 then (v + (n : Int)).toNat else min v.toNat n
theorem sIx_nat (n d k : Nat) : sIx n d (some (k : Int)) = min k n := by
  show (if (k : Int) < 0 then ((k : Int) + (n : Int)).toNat else min (k : Int).toNat n) = min k n
  rw [if_neg (by omega),Int.toNat_natCast]
theorem sIx_le (n d : Nat)(hd : d <= n)(o : Option Int) : sIx n d o <= n := by
  cases o with
  | none => exact hd
  | some v =>
    show (if v < 0 then (v + (n : Int)).toNat else min v.toNat n) <= n
    by_cases hv : v < 0
    · rw [if_pos hv]; omega
    · rw [if_neg hv]; exact Nat.min_le_right _ _
theorem clip_eq (v : Int)(n d : Nat) : (if v < 0 then max (v + (n : Int)) 0 else min v (n : Int)) = ((sIx n d (some v) : Nat) : Int) := by
  show (if v < 0 then max (v + (n : Int)) 0 else min v (n : Int)) = (((if v < 0 then (v + (n : Int)).toNat else min v.toNat n) : Nat) : Int)
  by_cases hv : v < 0
  · simp only [if_pos hv]; omega
  · simp only [if_neg hv]; omega
theorem adjust_gen (lo hi : Option Int)(n : Nat) : Builtin.Slice.sliceAdjust lo hi 1 (n : Int) = (((sIx n 0 lo : Nat) : Int),((sIx n n hi : Nat) : Int)) := by
  have h1 : ¬ ((1 : Int) < 0) := by omega
  unfold Builtin.Slice.sliceAdjust
  simp only [h1,if_false]
  refine Prod.ext ?_ ?_
  · cases lo with
    | none => rfl
    | some v => exact clip_eq v n 0
  · cases hi with
    | none => rfl
    | some v => exact clip_eq v n n
theorem places_gen (i j : Nat) : Builtin.Slice.slicePlaces (i : Int) (j : Int) 1 = j - i := by
  unfold Builtin.Slice.slicePlaces
  have h1 : (1 : Int) > 0 := by omega
  simp only [h1,if_true,Int.ediv_one]
  split <;> omega
theorem slicePart_ {v : Value}{o : Option Int}{Q : Option Int -> Shared -> Prop}(p : IsPart v o)(h : Q o s) : wpAny (model prog w) A (Builtin.Slice.slicePartIndex v) Q E s := by
  cases p with
  | none => exact slicePart_none h
  | int i t => exact slicePart_int h
theorem sliceApplied_gen {sl : Addr}{vl vu : Value}{lo hi : Option Int}{n : Nat}{Q : Int × Int × Nat -> Shared -> Prop}(hs : s.heap.IsSliceOf sl vl vu .none)(pl : IsPart vl lo)(pu : IsPart vu hi)
    (h : Q (((sIx n 0 lo : Nat) : Int),1,sIx n n hi - sIx n 0 lo) s) : wpAny (model prog w) A (Builtin.Slice.sliceApplied (.ref sl) (pure (n : Int))) Q E s := by
  obtain ⟨os,hos,hcs,hds⟩ := id hs
  unfold Builtin.Slice.sliceApplied Builtin.Slice.sliceFields
  refine wpAny_bind (wpAny_bind (wpAny_field hos hds (x := vl) rfl (wpAny_bind (wpAny_field hos hds (x := vu) rfl (wpAny_bind (wpAny_field hos hds (x := .none) rfl (wpAny_pure ?_)))))))
  refine wpAny_bind (slicePart_none ?_)
  show wpAny _ _ (if ((1 : Int) == 0) = true then _ else _) _ _ s
  rw [if_neg (by decide)]
  refine wpAny_bind (slicePart_ pl (wpAny_bind (slicePart_ pu (wpAny_bind (wpAny_pure ?_)))))
  show wpAny _ _ (match Builtin.Slice.sliceAdjust lo hi 1 (n : Int) with | (lo,hi) => pure (lo,(1 : Int),Builtin.Slice.slicePlaces lo hi 1)) _ _ s
  rw [adjust_gen lo hi n]
  show wpAny _ _ (pure (((sIx n 0 lo : Nat) : Int),(1 : Int),Builtin.Slice.slicePlaces ((sIx n 0 lo : Nat) : Int) ((sIx n n hi : Nat) : Int) 1)) _ _ s
  rw [places_gen]
  exact wpAny_pure h
theorem pick_gen (xs : Array Value)(i k : Nat) : ((List.range k).filterMap fun (m : Nat) => xs[((i : Int) + (m : Int) * 1).toNat]?).toArray = ((xs.toList.drop i).take k).toArray := by
  have e : (fun (m : Nat) => xs[((i : Int) + (m : Int) * 1).toNat]?) = fun m => xs[i + m]? := by
    funext m
    have : ((i : Int) + (m : Int) * 1).toNat = i + m := by omega
    rw [this]
  rw [e]
  have := pick_run xs i k
  rw [List.filterMap_map] at this
  have e2 : ((fun x => xs[x]?) ∘ fun x => i + x) = fun m => xs[i + m]? := rfl
  rw [e2] at this
  rw [this]
theorem getItem_tuple_cut {t sl : Addr}{items : Array Value}{vl vu : Value}{lo hi : Option Int}{Q : Value -> Shared -> Prop}(ht : IsTup s.heap t items)(hs : s.heap.IsSliceOf sl vl vu .none)(pl : IsPart vl lo)(pu : IsPart vu hi)
    (hw : ¬ (sIx items.size 0 lo = 0 /\ sIx items.size items.size hi = items.size))
    (h : Q (.ref s.heap.objs.size) { s with heap := s.heap.push { cls := .type "tuple",data := .seq ((items.toList.drop (sIx items.size 0 lo)).take (sIx items.size items.size hi - sIx items.size 0 lo)).toArray } })
    (hsz : items.size <= sizeLine) : wpAny (model prog w) A (getItem (.ref t) (.ref sl)) Q E s := by
  have htake : sizeOk (.seq ((items.toList.drop (sIx items.size 0 lo)).take (sIx items.size items.size hi - sIx items.size 0 lo)).toArray) := by
    show ((items.toList.drop (sIx items.size 0 lo)).take (sIx items.size items.size hi - sIx items.size 0 lo)).toArray.size <= sizeLine
    rw [List.size_toArray,List.length_take,List.length_drop,Array.length_toList]
    omega
  have hj : sIx items.size items.size hi <= items.size := sIx_le _ _ (Nat.le_refl _) hi
  obtain ⟨os,hos,hcs,hds⟩ := id hs
  have hTs : s.TypeIs (.ref sl) "slice" := ⟨os,hos,hcs⟩
  unfold getItem
  try with_reducible refine wpAny_holding ?_
  first | refine wpAny_bind (wpAny_pure ?_) | skip
  refine wpAny_bind (wpAny_sequenceKey ht.typeIs (by decide) ?_)
  refine wpAny_bind (wpAny_callSpecial?_slot (name := Str.ofString "__getitem__") ht.typeIs PyProof.Rows.slot_tuple_getitem
    (wpAny_call_entry PyProof.Rows.slot_tuple_getitem ht.typeIs entry_tuple_getitem ?_ (args_tuple_getitem _ _)))
  show wpAny _ _ (Builtin.Tuple.tupleItemsOf (.ref t) >>= _) _ _ s
  refine wpAny_bind (tupleItemsOf_ ht ?_)
  refine wpAny_bind (wpAny_typeOf hTs ?_)
  rw [if_pos (by decide)]
  refine wpAny_bind (sliceApplied_gen hs pl pu ?_)
  have hno : ¬ ((((sIx items.size 0 lo : Nat) : Int) == 0 && (1 : Int) == 1 && (sIx items.size items.size hi - sIx items.size 0 lo) == items.size) = true) := by
    intro q
    rw [Bool.and_eq_true,Bool.and_eq_true] at q
    have q1 : ((sIx items.size 0 lo : Nat) : Int) = 0 := eq_of_beq q.1.1
    have q2 : sIx items.size items.size hi - sIx items.size 0 lo = items.size := eq_of_beq q.2
    exact hw ⟨by omega,by omega⟩
  show wpAny _ _ (if (((sIx items.size 0 lo : Nat) : Int) == 0 && (1 : Int) == 1 && (sIx items.size items.size hi - sIx items.size 0 lo) == items.size) = true then _ else _) _ _ s
  rw [if_neg hno,pick_gen]
  first
    | exact wpAny_bind (m := Builtin.Tuple.tupleExact _) (wpAny_newObj_type (wpAny_pure ⟨_,rfl,wpAny_pure h⟩) htake)
    | exact wpAny_bind (m := Builtin.Tuple.tupleExact _) (wpAny_newObj_type (wpAny_bind (wpAny_pure (wpAny_pure ⟨_,rfl,wpAny_pure h⟩))) htake)
    | exact wpAny_bind (wpAny_bind (m := Builtin.Tuple.tupleExact _) (wpAny_newObj_type (wpAny_pure (wpAny_pure ⟨_,rfl,wpAny_pure h⟩)) htake))
    | exact wpAny_bind (wpAny_bind (m := Builtin.Tuple.tupleExact _) (wpAny_newObj_type (wpAny_pure ⟨_,rfl,wpAny_pure h⟩) htake))
end
end HT
namespace L2
open PySem PySem.Spec PyProof.Rows
abbrev TO := St -> Hp -> (Option Int -> Hp -> Prop) -> Prop
def PO (X : Cx)(e : Option Expr)(t : TO) : Prop :=
  ∀ (pins : List (Addr × Obj)) (s : Shared) (σ : St) (H : Hp) (Q : Option Int -> Hp -> Prop),Inv X pins σ H s -> t σ H Q ->
    wpAny (model X.prog X.w) X.A (evalPart e X.env) (fun u s' => ∃ o H',Inv X pins σ H' s' /\ IsPart u o /\ Q o H') X.xe s
def tNoPart : TO := fun _ H Q => Q none H
def tPart (t : TE) : TO := fun σ H Q => t σ H fun x H1 => ∃ i,x = .int i /\ Q (some i) H1
theorem intsAre_of {ns : List Int} : ∀ {us : List Value},Vals (ns.map V.int) us -> IntsAre us ns := by
  induction ns with
  | nil => intro us r; rw [List.map_nil] at r; cases r; exact .nil
  | cons n ns ih =>
    intro us r
    rw [List.map_cons] at r
    cases r with
    | cons r1 r2 =>
      obtain ⟨t,e⟩ := r1
      subst e
      exact .cons n t (ih r2)
section
variable {X : Cx}{e : Expr}{te : TE}{lo hi : Option Expr}{tl th : TO}{pos p2 : Pos}
theorem po_none : PO X none tNoPart := by
  intro pins s σ H Q I h
  rw [evalPart_none]
  exact wpAny_pure ⟨none,H,I,.none,h⟩
theorem po_some (h : PE X e te) : PO X (some e) (tPart te) := by
  intro pins s σ H Q I hw
  rw [evalPart_some]
  refine thn (h pins s σ H _ I hw) fun u s1 ⟨x,H1,I1,r1,q1⟩ => ?_
  obtain ⟨i,rfl,q⟩ := q1
  obtain ⟨t,rfl⟩ := r1
  exact ⟨some i,H1,I1,.int i t,q⟩
def SlR (X : Cx)(r : V -> Option Int -> Option Int -> Hp -> VK -> Prop) : Prop :=
  ∀ (pins : List (Addr × Obj)) (s : Shared) (σ : St) (H : Hp) (x : V) (v vl vu : Value) (lo hi : Option Int) (sl : Addr) (Q : VK),Inv X pins σ H s -> RelV x v -> s.heap.IsSliceOf sl vl vu .none -> IsPart vl lo -> IsPart vu hi -> r x lo hi H Q ->
    ∃ T id,typeLookup (.type T) "__getitem__" = pure (some (.builtin id)) /\ s.TypeIs v T /\ wpAny (model X.prog X.w) X.A (getItem v (.ref sl)) (EP X pins σ Q) X.xe s
theorem SlR.or {r r' : V -> Option Int -> Option Int -> Hp -> VK -> Prop}(h : SlR X r)(h' : SlR X r') : SlR X (fun x lo hi H Q => r x lo hi H Q \/ r' x lo hi H Q) := by
  intro pins s σ H x v vl vu lo hi sl Q I rx hs pl pu q
  rcases q with q | q
  · exact h pins s σ H x v vl vu lo hi sl Q I rx hs pl pu q
  · exact h' pins s σ H x v vl vu lo hi sl Q I rx hs pl pu q
def tSl (r : V -> Option Int -> Option Int -> Hp -> VK -> Prop)(te : TE)(tl th : TO) : TE := fun σ H Q => te σ H fun x H1 => tl σ H1 fun l H2 => th σ H2 fun u H3 => r x l u H3 Q
theorem pe_slice {r : V -> Option Int -> Option Int -> Hp -> VK -> Prop}(hr : SlR X r)(he : PE X e te)(hl : PO X lo tl)(hu : PO X hi th) : PE X (.Subscript e (.Slice lo hi none p2) pos) (tSl r te tl th) := by
  intro pins s σ H Q I h
  refine Subscript_ (thn (he pins s σ H _ I h) fun v s1 ⟨x,H1,I1,r1,q1⟩ => ?_)
  refine wpAny_Slice (thn (hl pins s1 σ H1 _ I1 q1) fun vl s2 ⟨l,H2,I2,pl,q2⟩ => thn (hu pins s2 σ H2 _ I2 q2) fun vu s3 ⟨u,H3,I3,pu,q3⟩ => ?_)
  rw [evalPart_none]
  refine wpAny_pure ?_
  have I4 : Inv X pins σ H3 { s3 with heap := s3.heap.push { cls := .type "slice",data := .fields #[vl,vu,.none] } } := I3.kept (t' := s3.toks) fun b ob q => Heap.get?_push_of_some _ q
  obtain ⟨T,id,hT,ht,hg⟩ := hr pins { s3 with heap := s3.heap.push { cls := .type "slice",data := .fields #[vl,vu,.none] } } σ H3 x v vl vu l u s3.heap.objs.size Q I4 r1 (Heap.IsSliceOf.new ..) pl pu q3
  show wpAny (model X.prog X.w) X.A (subscriptTail e (.Slice lo hi none p2) v (.ref s3.heap.objs.size)) (EP X pins σ Q) X.xe { s3 with heap := s3.heap.push { cls := .type "slice",data := .fields #[vl,vu,.none] } }
  exact tail_any (ops := [.ref s3.heap.objs.size,v]) ht hT hg (by with_unfolding_all rfl)
def cutV (xs : List V)(lo hi : Option Int) : List V := (xs.drop (HT.sIx xs.length 0 lo)).take (HT.sIx xs.length xs.length hi - HT.sIx xs.length 0 lo)
theorem cutV_length (xs : List V)(lo hi : Option Int) : (cutV xs lo hi).length <= xs.length := by
  unfold cutV
  rw [List.length_take,List.length_drop]
  omega
def rSlT (K : PySem.W.Frag) : V -> Option Int -> Option Int -> Hp -> VK -> Prop := fun x lo hi H Q => ∃ a xs,x = .ref a /\ SqT K H a xs /\
  ¬ (HT.sIx xs.length 0 lo = 0 /\ HT.sIx xs.length xs.length hi = xs.length) /\ ∀ p,H p = none -> Q (.ref p) (upd H p (.tup (cutV xs lo hi)))
theorem sl_tup : SlR X (rSlT X.K) := by
  intro pins s σ H x v vl vu lo hi sl Q I rx hs pl pu h
  obtain ⟨a,xs,rfl,hx,hw,q⟩ := h
  cases rx
  obtain ⟨its,r,ht,hz⟩ := I.tuple hx
  have hlen : its.toArray.size = xs.length := by rw [List.size_toArray]; exact r.length.symm
  refine ⟨"tuple",_,PyProof.Rows.slot_tuple_getitem.lookup,ht.typeIs,?_⟩
  refine HT.getItem_tuple_cut ht hs pl pu (by rw [hlen]; exact hw) ?_ (by rw [hlen]; exact hz)
  rw [hlen]
  refine ⟨.ref s.heap.objs.size,_,I.laid (t' := s.toks) (o := .tup (cutV xs lo hi)) (fun b ob q => Heap.get?_push_of_some _ q) (Nat.le_refl _) ?_,rfl,q _ (I.hok.fresh (Nat.le_refl _))⟩
  exact ⟨Nat.le_trans (cutV_length xs lo hi) hz,_,(r.drop (HT.sIx xs.length 0 lo)).take (HT.sIx xs.length xs.length hi - HT.sIx xs.length 0 lo),IsTup.new _ _⟩
end
end L2
namespace L2
open PySem PySem.Spec PyProof.Rows
def ixN (n : Nat)(i : Int) : Option Nat := if 0 <= i then (if i < n then some i.toNat else none) else if -(n : Int) <= i then some (i + n).toNat else none
def atI {α : Type}(xs : List α)(i : Int) : Option α := (ixN xs.length i).bind fun j => xs[j]?
theorem ixN_seq {n : Nat}{i : Int}{j : Nat}(h : ixN n i = some j) : seqIndex? i n = some j /\ j < n /\ -(n : Int) <= i /\ i < n := by
  unfold ixN at h
  by_cases h0 : 0 <= i
  · rw [if_pos h0] at h
    by_cases h1 : i < n
    · rw [if_pos h1] at h
      have e : i.toNat = j := Option.some.inj h
      exact ⟨by rw [seqIndex_of h0 h1,e],by omega,by omega,h1⟩
    · rw [if_neg h1] at h; cases h
  · rw [if_neg h0] at h
    by_cases h1 : -(n : Int) <= i
    · rw [if_pos h1] at h
      have e : (i + n).toNat = j := Option.some.inj h
      exact ⟨by rw [seqIndex_neg (by omega) h1,e],by omega,h1,by omega⟩
    · rw [if_neg h1] at h; cases h
theorem atI_get {α : Type}{xs : List α}{i : Int}{v : α}(h : atI xs i = some v) : ∃ j,seqIndex? i xs.length = some j /\ xs[j]? = some v /\ j < xs.length /\ -(xs.length : Int) <= i /\ i < xs.length := by
  unfold atI at h
  cases e : ixN xs.length i with
  | none => rw [e] at h; cases h
  | some j =>
    rw [e] at h
    obtain ⟨h1,h2,h3,h4⟩ := ixN_seq e
    exact ⟨j,h1,h,h2,h3,h4⟩
theorem atI_nat {α : Type}{xs : List α}{j : Nat}{v : α}(h : xs[j]? = some v) : atI xs (j : Int) = some v := by
  have hj : j < xs.length := (List.getElem?_eq_some_iff.mp h).1
  have e : ixN xs.length (j : Int) = some j := by
    unfold ixN
    rw [if_pos (by omega),if_pos (by omega)]; simp
  unfold atI; rw [e]; exact h
theorem atI_last {α : Type}(xs : List α)(v : α) : atI (xs ++ [v]) (-1) = some v := by
  have hl : (xs ++ [v]).length = xs.length + 1 := by simp
  have e : ixN (xs ++ [v]).length (-1) = some xs.length := by
    unfold ixN
    rw [hl,if_neg (by decide),if_pos (by omega)]
    congr 1
    omega
  unfold atI
  rw [e]
  show (xs ++ [v])[xs.length]? = some v
  simp
def PlainIx (b : Expr) : Prop := ∀ o i,subscripted b false o i = operate [o,i] (getItem o i)
def IxR (X : Cx)(r : R2) : Prop :=
  ∀ (value slice : Expr) (pins : List (Addr × Obj)) (s : Shared) (σ : St) (H : Hp) (x y : V) (v u : Value) (Q : VK),Inv X pins σ H s -> RelV x v -> RelV y u -> r x y H Q ->
    subscripted slice false v u = operate [v,u] (getItem v u) -> wpAny (model X.prog X.w) X.A (subscriptTail value slice v u) (EP X pins σ Q) X.xe s
def MtR (X : Cx)(id : String)(r : V -> List V -> Hp -> VK -> Prop) : Prop :=
  ∀ (pins : List (Addr × Obj)) (s : Shared) (σ : St) (H : Hp) (x : V) (xs : List V) (v : Value) (us : List Value) (Q : VK),Inv X pins σ H s -> RelV x v -> Vals xs us -> r x xs H Q ->
    wpAny (model X.prog X.w) X.A (call (.builtin id) (v :: us)) (EP X pins σ Q) X.xe s
section
variable {X : Cx}{a b : Expr}{ta tb : TE}{pos : Pos}
theorem IxR.or {r r' : R2}(h : IxR X r)(h' : IxR X r') : IxR X (fun x y H Q => r x y H Q \/ r' x y H Q) := by
  intro value slice pins s σ H x y v u Q I rx ry q hs
  rcases q with q | q
  · exact h value slice pins s σ H x y v u Q I rx ry q hs
  · exact h' value slice pins s σ H x y v u Q I rx ry q hs
theorem pe_ix {r : R2}(hr : IxR X r)(ha : PE X a ta)(hb : PE X b tb)(hs : PlainIx b) : PE X (.Subscript a b pos) (tOp r ta tb) := by
  intro pins s σ H Q I h
  exact Subscript_ (binT ha hb I h fun v u s2 x y H2 I2 rx ry q => hr a b pins s2 σ H2 x y v u Q I2 rx ry q (hs _ _))
def rIxL (K : PySem.W.Frag) : R2 := fun x y H Q => ∃ p xs i v,x = .ref p /\ y = .int i /\ SqL K H p xs /\ atI xs i = some v /\ Q v H
def rIxT (K : PySem.W.Frag) : R2 := fun x y H Q => ∃ p xs i v,x = .ref p /\ y = .int i /\ SqT K H p xs /\ atI xs i = some v /\ Q v H
theorem ix_list : IxR X (rIxL X.K) := by
  intro value slice pins s σ H x y v u Q I rx ry h hs
  obtain ⟨p,xs,i,z,rfl,rfl,hq,he,q⟩ := h
  cases rx
  obtain ⟨t,rfl⟩ := ry
  obtain ⟨its,r,pl,hz⟩ := I.list hq
  obtain ⟨j,h1,h2,h3,h4,h5⟩ := atI_get he
  obtain ⟨w,ew,rw'⟩ := r.get h2
  have hl := r.length
  have hn := line63
  have fin : EP X pins σ Q w s := ⟨z,H,I,rw',q⟩
  by_cases h0 : 0 <= i
  · have hj : i.toNat = j := by
      rw [seqIndex_of h0 h5] at h1
      exact Option.some.inj h1
    exact item_listR pl.isList h0 (by omega) (by rw [hj]; simpa using ew) fin hs
  · have hj : (i + (its.toArray.size : Int)).toNat = j := by
      rw [seqIndex_neg (by omega) h4] at h1
      rw [List.size_toArray,<- hl]
      exact Option.some.inj h1
    exact subscriptTail_builtinR (x := w) pl.isList.typeIs slot_list_getitem.lookup
      (wpAny_getItem_list_neg (Q := fun r s' => r = w /\ EP X pins σ Q r s') pl.isList (by omega) (by rw [List.size_toArray] <;> omega) (by omega) (by rw [hj]; simpa using ew) ⟨rfl,fin⟩) hs
theorem ix_tup : IxR X (rIxT X.K) := by
  intro value slice pins s σ H x y v u Q I rx ry h hs
  obtain ⟨p,xs,i,z,rfl,rfl,hq,he,q⟩ := h
  cases rx
  obtain ⟨t,rfl⟩ := ry
  obtain ⟨its,r,pl,hz⟩ := I.tuple hq
  obtain ⟨j,h1,h2,h3,h4,h5⟩ := atI_get he
  obtain ⟨w,ew,rw'⟩ := r.get h2
  have hl := r.length
  have hn := line63
  have fin : EP X pins σ Q w s := ⟨z,H,I,rw',q⟩
  exact subscriptTail_builtinR (x := w) pl.typeIs slot_tuple_getitem.lookup
    (getItem_tuple (j := j) (Q := fun r s' => r = w /\ EP X pins σ Q r s') pl (by omega) (by omega) (by rw [List.size_toArray,<- hl]; exact h1) (by simpa using ew) ⟨rfl,fin⟩) hs
theorem mapSeq_set (its : List Value)(n j : Nat)(u : Value) : Obj.mapSeq (·.setIfInBounds j u) { cls := .type "list",data := .seq its.toArray n } = { cls := .type "list",data := .seq (its.set j u).toArray n } := by
  simp [Obj.mapSeq]
theorem Inv.lst {pins : List (Addr × Obj)}{σ : St}{H : Hp}{s : Shared}{p : Addr}{xs : List V}(I : Inv X pins σ H s)(h : H p = some (.lst xs)) :
    ∃ (its : List Value) (n : Nat),Vals xs its /\ s.heap.get? p = some { cls := .type "list",data := .seq its.toArray n } /\ xs.length <= sizeLine := by
  obtain ⟨z,its,n,r,e⟩ := I.hok p _ h
  exact ⟨its,n,r,e,z⟩
theorem Inv.lstUpd {pins : List (Addr × Obj)}{σ : St}{H : Hp}{s : Shared}{p : Addr}{xs ys : List V}{its its' : List Value}{n n' : Nat}{f : Obj -> Obj}(I : Inv X pins σ H s)(h : H p = some (.lst xs))
    (ho : s.heap.get? p = some { cls := .type "list",data := .seq its.toArray n }) (hf : f { cls := .type "list",data := .seq its.toArray n } = { cls := .type "list",data := .seq its'.toArray n' }) (r : Vals ys its') (hz : ys.length <= sizeLine) (t : Nat) :
    Inv X pins σ (upd H p (.lst ys)) { s with heap := s.heap.update p f,toks := t } := by
  have e : (s.heap.update p f).get? p = some { cls := .type "list",data := .seq its'.toArray n' } := by
    rw [Heap.get?_update_self f ho (by rw [hf] <;> rfl),hf]
  refine I.write (x := p) (e := p) (by rw [h]; trivial) (.inl rfl) (fun b u hb q => (Heap.get?_update_other _ _ (Ne.symm hb)).trans q) ⟨_,e⟩ ?_
  exact ⟨hz,its',n',r,e⟩
def rSetL : V -> V -> V -> Hp -> (Hp -> Prop) -> Prop := fun o i v H Q => ∃ p xs k j,o = .ref p /\ i = .int k /\ H p = some (.lst xs) /\ ixN xs.length k = some j /\ Q (upd H p (.lst (xs.set j v)))
theorem set_list : PSet X rSetL := by
  intro pins s σ H o i v ov iv u Q I ro ri rv h
  obtain ⟨p,xs,k,j,rfl,rfl,hp,hj,q⟩ := h
  cases ro
  obtain ⟨t,rfl⟩ := ri
  obtain ⟨its,n,r,ho,hz⟩ := I.lst hp
  obtain ⟨h1,h2,h3,h4⟩ := ixN_seq hj
  have hl := r.length
  have hn := line63
  have I' : Inv X pins σ (upd H p (.lst (xs.set j v))) { s with heap := s.heap.update p (Obj.mapSeq (·.setIfInBounds j u)) } :=
    I.lstUpd hp ho (mapSeq_set its n j u) (r.set rv j) (by rw [List.length_set]; exact hz) s.toks
  by_cases h0 : 0 <= k
  · have hk : k.toNat = j := by
      rw [seqIndex_of h0 h4] at h1
      exact Option.some.inj h1
    exact PySem.W.ki_setAt ho h0 (by omega) (by rw [List.size_toArray,<- hl]; exact h4) (by rw [hk]; exact ⟨_,I',q⟩)
  · have hk : (k + (its.toArray.size : Int)).toNat = j := by
      rw [seqIndex_neg (by omega) h3] at h1
      rw [List.size_toArray,<- hl]
      exact Option.some.inj h1
    exact PySem.W.ki_setBack ho (by omega) (by rw [List.size_toArray,<- hl]; exact h3) (by omega) (by rw [hk]; exact ⟨_,I',q⟩)
theorem slice_bounds (lo hi : Option Int)(n : Nat) : (sliceBounds lo hi none n).1 = ((HT.sIx n 0 lo : Nat) : Int) /\ (sliceBounds lo hi none n).2.1 = ((HT.sIx n n hi : Nat) : Int) /\ (sliceBounds lo hi none n).2.2 = 1 := by
  refine ⟨?_,?_,rfl⟩
  · cases lo with
    | none => simp [sliceBounds,HT.sIx]
    | some i =>
      simp only [sliceBounds,HT.sIx,Option.getD_none,show (1 : Int) > 0 by decide,if_true]
      by_cases h : i < 0
      · simp only [h,if_true] <;> omega
      · simp only [h,if_false] <;> omega
  · cases hi with
    | none => simp [sliceBounds,HT.sIx]
    | some i =>
      simp only [sliceBounds,HT.sIx,Option.getD_none,show (1 : Int) > 0 by decide,if_true]
      by_cases h : i < 0
      · simp only [h,if_true] <;> omega
      · simp only [h,if_false] <;> omega
theorem slicePick_cut (its : List Value)(lo hi : Option Int) : slicePick its.toArray lo hi none = ((its.drop (HT.sIx its.length 0 lo)).take (HT.sIx its.length its.length hi - HT.sIx its.length 0 lo)).toArray := by
  obtain ⟨h1,h2,h3⟩ := slice_bounds lo hi its.toArray.size
  unfold slicePick
  rw [h1,h2,h3]
  simp only [sliceRange_one,pick_run,List.size_toArray] <;> rfl
def rSlL (K : PySem.W.Frag) : V -> Option Int -> Option Int -> Hp -> VK -> Prop := fun x lo hi H Q => ∃ a xs,x = .ref a /\ SqL K H a xs /\ ∀ p,H p = none -> Q (.ref p) (upd H p (.lst (cutV xs lo hi)))
theorem sl_list : SlR X (rSlL X.K) := by
  intro pins s σ H x v vl vu lo hi sl Q I rx hs pl pu h
  obtain ⟨a,xs,rfl,hx,q⟩ := h
  cases rx
  obtain ⟨its,r,ht,hz⟩ := I.list hx
  have hlen := r.length
  refine ⟨"list",_,slot_list_getitem.lookup,ht.isList.typeIs,?_⟩
  refine wpAny_getItem_list_slice ht.isList hs pl pu .none (by simp) ?_ (by rw [List.size_toArray] <;> omega)
  rw [slicePick_cut,<- hlen]
  refine ⟨.ref s.heap.objs.size,_,I.laid (t' := s.toks) (o := .lst (cutV xs lo hi)) (fun b ob q => Heap.get?_push_of_some _ q) (Nat.le_refl _) ?_,rfl,q _ (I.hok.fresh (Nat.le_refl _))⟩
  exact ⟨Nat.le_trans (cutV_length xs lo hi) hz,_,0,(r.drop (HT.sIx xs.length 0 lo)).take (HT.sIx xs.length xs.length hi - HT.sIx xs.length 0 lo),Heap.get?_push_size _ rfl⟩
def eqV : V -> V -> Bool
  | .non,.non => true
  | .bl a,.bl b => a == b
  | .bl a,.int b => (if a then 1 else 0) == b
  | .int a,.bl b => a == (if b then 1 else 0)
  | .int a,.int b => a == b
  | .str a,.str b => a == b
  | _,_ => false
def inV (x : V)(xs : List V) : Bool := xs.any fun y => eqV y x
theorem call_len_seq : CallR X (.builtin "len") (fun xs H Q => ∃ p ys,xs = [.ref p] /\ (SqL X.K H p ys \/ SqT X.K H p ys) /\ Q (.int ys.length) H) := by
  intro pins s σ H xs us Q I r h
  obtain ⟨p,ys,rfl,hq,q⟩ := h
  obtain ⟨u,rfl,rx⟩ := vals1 r
  cases rx
  have hn := line63
  rcases hq with hq | hq
  · obtain ⟨its,r',pl,hz⟩ := I.list hq
    have hlen := r'.length
    exact Calls.call_len_list pl.isList (by simp only [List.size_toArray] <;> omega) ⟨.int ys.length,H,I.tok _,⟨s.toks + 1,by rw [List.size_toArray,hlen]⟩,q⟩
  · obtain ⟨its,r',pl,hz⟩ := I.tuple hq
    have hlen := r'.length
    exact len_tuple pl (by simp only [List.size_toArray] <;> omega) ⟨.int ys.length,H,I.tok _,⟨s.toks + 1,by rw [List.size_toArray,hlen]⟩,q⟩
theorem call_list_of : CallR X (.type "list") (fun xs H Q => ∃ p ys,xs = [.ref p] /\ (SqL X.K H p ys \/ SqT X.K H p ys) /\ ∀ l,H l = none -> Q (.ref l) (upd H l (.lst ys))) := by
  intro pins s σ H xs us Q I r h
  obtain ⟨p,ys,rfl,hq,q⟩ := h
  obtain ⟨u,rfl,rx⟩ := vals1 r
  cases rx
  have fin : ∀ (its : List Value),Vals ys its -> ys.length <= sizeLine -> ∀ (h' : Heap) (c' : Nat),(∀ b o',s.heap.get? b = some o' -> h'.get? b = some o') ->
      h'.get? s.heap.objs.size = some { cls := .type "list",dict := none,data := .seq its.toArray c',slots := #[] } -> EP X pins σ Q (.ref s.heap.objs.size) { s with heap := h' } := fun its r' hz h' c' kp e =>
    ⟨.ref s.heap.objs.size,_,I.laid (t' := s.toks) kp (Nat.le_refl _) (show ObjOk X.prog X.w _ h' _ (.lst ys) from ⟨hz,its,c',r',e⟩),rfl,q _ (I.hok.fresh (Nat.le_refl _))⟩
  rcases hq with hq | hq
  · obtain ⟨its,r',pl,hz⟩ := I.list hq
    have hlen := r'.length
    obtain ⟨o,ho,hc,n,hd⟩ := pl.isList
    exact call_list_seq p (.inl rfl) ho hc hd (fun h' c' kp e => fin its r' hz h' c' kp e) (by simp only [List.size_toArray] <;> omega)
  · obtain ⟨its,r',pl,hz⟩ := I.tuple hq
    have hlen := r'.length
    obtain ⟨o,ho,hc,n,hd⟩ := pl
    exact call_list_seq p (.inr rfl) ho hc hd (fun h' c' kp e => fin its r' hz h' c' kp e) (by simp only [List.size_toArray] <;> omega)
theorem call_tuple_of : CallR X (.type "tuple") (fun xs H Q => ∃ p ys,xs = [.ref p] /\ ((SqL X.K H p ys /\ ∀ l,H l = none -> Q (.ref l) (upd H l (.tup ys))) \/ (SqT X.K H p ys /\ Q (.ref p) H))) := by
  intro pins s σ H xs us Q I r h
  obtain ⟨p,ys,rfl,h⟩ := h
  obtain ⟨u,rfl,rx⟩ := vals1 r
  cases rx
  rcases h with ⟨hq,q⟩ | ⟨hq,q⟩
  · obtain ⟨its,r',pl,hz⟩ := I.list hq
    have hlen := r'.length
    refine call_tuple_list pl.isList (fun h' kp => ?_) (by simp only [List.size_toArray] <;> omega)
    have I1 : Inv X pins σ H { s with heap := h' } := I.kept (t' := s.toks) kp
    have I2 : Inv X pins σ (upd H h'.objs.size (.tup ys)) { s with heap := h'.push { cls := .type "tuple",data := .seq its.toArray } } :=
      I1.laid (t' := s.toks) (fun b o e => Heap.get?_push_of_some _ e) (Nat.le_refl _) (show ObjOk X.prog X.w _ _ _ (.tup ys) from ⟨hz,its,r',IsTup.new _ _⟩)
    exact ⟨.ref h'.objs.size,_,I2,rfl,q _ (I1.hok.fresh (Nat.le_refl _))⟩
  · obtain ⟨its,r',pl,hz⟩ := I.tuple hq
    exact call_tuple_same pl ⟨.ref p,H,I,rfl,q⟩
def tyV (K : PySem.W.Frag)(T : String)(x : V)(H : Hp) : Prop := match x with
  | .str _ => T = "str"
  | .int _ => T = "int"
  | .ref p => (T = "list" /\ ∃ xs,SqL K H p xs) \/ (T = "tuple" /\ ∃ o,K.lookup p = some o /\ o.cls = .type "tuple" /\ o.dict = none) \/
      (T = "dict" /\ ((∃ kvs,H p = some (.dK kvs)) \/ ∃ kvs,H p = some (.dT kvs))) \/ (T = "set" /\ ∃ S n,H p = some (.set S n))
  | _ => False
theorem tyV_is {pins : List (Addr × Obj)}{σ : St}{H : Hp}{s : Shared}{T : String}{x : V}{v : Value}(I : Inv X pins σ H s)(r : RelV x v)(ty : tyV X.K T x H) :
    s.TypeIs v T /\ ∀ a,v = .ref a -> ∃ ob,s.heap.get? a = some ob /\ ob.dict = none := by
  cases x with
  | str z =>
    obtain ⟨t,rfl⟩ := r
    cases (show T = "str" from ty)
    exact ⟨typeIs_str s z t,fun _ e => nomatch e⟩
  | int i =>
    obtain ⟨t,rfl⟩ := r
    cases (show T = "int" from ty)
    exact ⟨typeIs_int s i t,fun _ e => nomatch e⟩
  | ref p =>
    cases r
    rcases ty with ⟨rfl,xs,hq⟩ | ⟨rfl,o,hk,hc,hd⟩ | ⟨rfl,hk⟩ | ⟨rfl,S,n,hk⟩
    · obtain ⟨its,_,pl,_⟩ := I.list hq
      refine ⟨pl.isList.typeIs,fun a e => ?_⟩
      cases e
      obtain ⟨o,n,e,c,hd,_⟩ := pl
      exact ⟨o,e,hd⟩
    · refine ⟨⟨o,I.kIn p o hk,hc⟩,fun a e => ?_⟩
      cases e
      exact ⟨o,I.kIn _ o hk,hd⟩
    · have z : ∃ o,s.heap.get? p = some o /\ o.ExactDict := by
        rcases hk with ⟨kvs,hk⟩ | ⟨kvs,hk⟩
        · obtain ⟨_,_,_,_,o,_,_,e,ex,_⟩ := I.hok p _ hk
          exact ⟨o,e,ex⟩
        · obtain ⟨_,_,_,_,o,_,_,e,ex,_⟩ := I.hok p _ hk
          exact ⟨o,e,ex⟩
      obtain ⟨o,e,ex⟩ := z
      refine ⟨⟨o,e,ex.1⟩,fun a e2 => ?_⟩
      cases e2
      exact ⟨o,e,ex.2.1⟩
    · obtain ⟨o,_,_,_,e,ex,_⟩ := I.hok p _ hk
      refine ⟨⟨o,e,ex.1⟩,fun a e2 => ?_⟩
      cases e2
      exact ⟨o,e,ex.2.1⟩
  | _ => exact False.elim ty
def tBM (K : PySem.W.Frag)(T : String)(r : V -> List V -> Hp -> VK -> Prop)(to : TE)(t : TA) : TE := fun σ H Q => to σ H fun x H1 => tyV K T x H1 /\ t σ H1 fun xs H2 => r x xs H2 Q
variable {o e : Expr}{es : List Expr}{to : TE}{t : TA}{name : Str}{apos cpos : Pos}{T id : String}{r : V -> List V -> Hp -> VK -> Prop}
theorem pe_bm (pa : PlainAttrs T)(slot : Slot T name id)(hty : typeOf (.builtin id) = pure (.type "method_descriptor")) (hm : MtR X id r) (ho : PE X o to) (ha : PA X (e :: es) t)
    (hbase : attributeBase o name X.env (eval o X.env) = eval o X.env := by rfl)
    (hfew : ((backTo cpos (starEach (e :: es) X.env)).all (fun x => !x.1) && (backToKw cpos (keywordEach [] X.env)).all (fun x => x.1.isSome)
      && decide ((e :: es).length + ([] : List Keyword).length + (if ([] : List Keyword).isEmpty then 0 else 1) < 30)) = true := by rfl)
    (hline : (apos.endLine == cpos.line) = true := by rfl) (hs : starEach (e :: es) X.env = (false,eval e X.env) :: starEach es X.env := by rfl) (hplain : (backTo cpos (starEach es X.env)).any (·.1) = false := by rfl) :
    PE X (.Call (.Attribute o name apos) (e :: es) [] cpos) (tBM X.K T r to t) := by
  intro pins s σ H Q I h
  refine wpAny_Call_method_late hbase hfew hline rfl (thn (ho pins s σ H _ I h) fun v s1 ⟨x,H1,I1,r1,ty,q1⟩ => ?_)
  obtain ⟨h1,h2⟩ := tyV_is I1 r1 ty
  refine ⟨T,id,pa,slot,hty,h1,h2,?_⟩
  have hA := ha cpos pins s1 σ H1 _ I1 q1
  rw [hs] at hA ⊢
  refine Calls.callWith_builtin (by show (false || (backTo cpos (starEach es X.env)).any (·.1)) = false; rw [hplain] <;> rfl) (Calls.evalArgs_plain ?_)
  exact thn hA fun us s2 ⟨vs,H2,I2,r2,q2⟩ => hm pins s2 σ H2 x vs v us Q I2 r1 r2 q2
end
end L2
namespace L2
open PySem PySem.Spec PyProof.Rows
def MtM (X : Cx)(id : String)(r : V -> List V -> Hp -> VK -> Prop) : Prop :=
  ∀ (pins : List (Addr × Obj)) (s : Shared) (σ : St) (H : Hp) (x : V) (xs : List V) (v : Value) (us : List Value) (Q : VK),Inv X pins σ H s -> RelV x v -> Vals xs us -> r x xs H Q ->
    wpAny (model X.prog X.w) X.A (call (.builtin id) (v :: us)) (EP X pins σ Q) X.xe s
theorem Vals.one : ∀ {x : V} {us : List Value},Vals [x] us -> ∃ u,us = [u] /\ RelV x u
  | _,_,.cons r .nil => ⟨_,rfl,r⟩
theorem Vals.two : ∀ {x y : V} {us : List Value},Vals [x,y] us -> ∃ u v,us = [u,v] /\ RelV x u /\ RelV y v
  | _,_,_,.cons r (.cons q .nil) => ⟨_,_,rfl,r,q⟩
theorem Vals.eraseIdx : ∀ {xs : List V} {us : List Value} (i : Nat),Vals xs us -> Vals (xs.eraseIdx i) (us.eraseIdx i)
  | _,_,_,.nil => .nil
  | _,_,0,.cons _ t => t
  | _,_,i + 1,.cons r t => .cons r (Vals.eraseIdx i t)
theorem Vals.reverse {xs : List V}{us : List Value}(h : Vals xs us) : Vals xs.reverse us.reverse := by
  induction h with
  | nil => exact .nil
  | cons r t ih => rw [List.reverse_cons,List.reverse_cons]; exact Vals.append ih (.cons r .nil)
theorem Vals.rep {xs : List V}{us : List Value}(h : Vals xs us) : ∀ k : Nat,Vals (List.replicate k xs).flatten (List.replicate k us).flatten
  | 0 => .nil
  | k + 1 => by
    rw [List.replicate_succ,List.replicate_succ,List.flatten_cons,List.flatten_cons]
    exact Vals.append h (Vals.rep h k)
section
variable {X : Cx}{pins : List (Addr × Obj)}{σ : St}{H : Hp}{s : Shared}{l b : Addr}{xs ys zs : List V}
theorem Inv.lset {its its' : List Value}{n : Nat}{f : Array Value -> Array Value}{t' : Nat}(I : Inv X pins σ H s)(hH : H l = some (.lst xs))
    (e : s.heap.get? l = some { cls := .type "list",data := .seq its.toArray n }) (hf : f its.toArray = its'.toArray) (hv : Vals ys its') (hz : ys.length <= sizeLine) :
    Inv X pins σ (upd H l (.lst ys)) { s with heap := s.heap.update l (Obj.mapSeq f),toks := t' } := by
  have q := PySem.IsL.update e f
  rw [hf] at q
  refine I.write (x := l) (e := l) (by rw [hH]; exact trivial) (.inl rfl) (fun b' u hb hu => (Heap.get?_update_other s.heap (Obj.mapSeq f) (Ne.symm hb)).trans hu) ⟨_,q⟩ ?_
  exact ⟨hz,its',_,hv,q⟩
theorem Inv.lnew {its : List Value}{t' : Nat}(I : Inv X pins σ H s)(hv : Vals ys its)(hz : ys.length <= sizeLine) :
    Inv X pins σ (upd H s.heap.objs.size (.lst ys)) { s with heap := s.heap.push { cls := .type "list",data := .seq its.toArray },toks := t' } :=
  I.laid (fun _ _ q => Heap.get?_push_of_some _ q) (Nat.le_refl _) ⟨hz,its,0,hv,Heap.get?_push_size _ rfl⟩
theorem Inv.fresh (I : Inv X pins σ H s) : H s.heap.objs.size = none := I.hok.fresh (Nat.le_refl _)
theorem Inv.lstM (I : Inv X pins σ H s)(hH : H l = some (.lst xs)) : xs.length <= sizeLine /\ ∃ (its : List Value) (n : Nat),Vals xs its /\ xs.length = its.length /\ s.heap.get? l = some { cls := .type "list",data := .seq its.toArray n } := by
  obtain ⟨z,its,n,r,e⟩ := I.hok l _ hH
  exact ⟨z,its,n,r,r.length,e⟩
theorem notLongL {n : Nat}(h : n <= sizeLine) : Builtin.List.listTooLong n = false := by
  unfold Builtin.List.listTooLong
  exact decide_eq_false (by omega)
end
section
variable {X : Cx}
def rAppend : V -> List V -> Hp -> VK -> Prop := fun x vs H Q => ∃ l xs y,x = .ref l /\ vs = [y] /\ H l = some (.lst xs) /\ xs.length < sizeLine /\ Q .non (upd H l (.lst (xs ++ [y])))
theorem mt_append : MtM X "list.append" rAppend := by
  intro pins s σ H x vs v us Q I rx rv h
  obtain ⟨l,xs,y,rfl,rfl,hH,hz,q⟩ := h
  cases rx
  obtain ⟨u,rfl,ru⟩ := rv.one
  obtain ⟨z,its,n,r,hl,e⟩ := I.lstM hH
  refine call_meets F.slot_list_append ⟨_,e,rfl⟩ F.entry_list_append (F.args_list_append_2 _ _) (PySem.list_append l its.toArray n u (by rw [List.size_toArray]; omega)) ⟨e,?_⟩
  refine ⟨.non,_,I.lset (its' := its ++ [u]) hH e (by simp) (r.append (.cons ru .nil)) ?_,rfl,q⟩
  rw [List.length_append,List.length_singleton]
  omega
def rExtend : V -> List V -> Hp -> VK -> Prop := fun x vs H Q => ∃ l b xs zs,x = .ref l /\ vs = [.ref b] /\ H l = some (.lst xs) /\ H b = some (.lst zs) /\ xs.length + zs.length <= sizeLine /\ Q .non (upd H l (.lst (xs ++ zs)))
theorem mt_extend : MtM X "list.extend" rExtend := by
  intro pins s σ H x vs v us Q I rx rv h
  obtain ⟨l,b,xs,zs,rfl,rfl,hH,hB,hz,q⟩ := h
  cases rx
  obtain ⟨u,rfl,ru⟩ := rv.one
  cases ru
  obtain ⟨z,its,n,r,hl,e⟩ := I.lstM hH
  obtain ⟨z2,its2,n2,r2,hl2,e2⟩ := I.lstM hB
  have hsz : its.toArray.size + its2.toArray.size <= sizeLine := by rw [List.size_toArray,List.size_toArray]; omega
  have hlong : ¬ (!its.toArray.isEmpty && Builtin.List.listTooLong (its.toArray.size + its2.toArray.size)) = true := by
    rw [notLongL hsz,Bool.and_false]
    exact Bool.false_ne_true
  refine call_meets F.slot_list_extend ⟨_,e,rfl⟩ F.entry_list_extend (F.args_list_extend_2 _ _)
    (AutoSeq1.list_extend_list_list_0 l its.toArray n b its2.toArray n2 hlong (by rw [List.size_toArray]; omega) (by omega)) ⟨e,e2,?_⟩
  refine ⟨.non,_,I.lset (its' := its ++ its2) hH e (by simp) (r.append r2) ?_,rfl,q⟩
  rw [List.length_append]
  omega
def rCat : R2 := fun x y H Q => ∃ l b xs zs,x = .ref l /\ y = .ref b /\ H l = some (.lst xs) /\ H b = some (.lst zs) /\ xs.length + zs.length <= sizeLine /\ ∀ p,H p = none -> Q (.ref p) (upd H p (.lst (xs ++ zs)))
theorem op_cat : OpR X (binaryOp .Add) rCat := by
  intro pins s σ H x y v u Q I rx ry h
  obtain ⟨l,b,xs,zs,rfl,rfl,hH,hB,hz,q⟩ := h
  cases rx
  cases ry
  obtain ⟨z,its,n,r,hl,e⟩ := I.lstM hH
  obtain ⟨z2,its2,n2,r2,hl2,e2⟩ := I.lstM hB
  refine PySem.P.add_list e e2 ?_ (by rw [List.size_toArray,List.size_toArray]; omega)
  have ea : its.toArray ++ its2.toArray = (its ++ its2).toArray := by simp
  rw [ea]
  exact ⟨.ref _,_,I.lnew (t' := s.toks) (r.append r2) (by rw [List.length_append]; omega),rfl,q _ I.fresh⟩
end
section
variable {prog : Program}{w : World}{A : Around}{E : Value -> Shared -> Prop}{s : Shared}
end
section
variable {X : Cx}
end
end L2
namespace Att
open PySem PySem.W PySem.Calls PyProof.Rows
theorem ints_of_wellAll {P : Params}{h : Heap} : ∀ (ns : List Int) (vs : List Value),WellAll P h vs (ns.map WData.int) -> IntsAre vs ns := by
  intro ns
  induction ns with
  | nil =>
    intro vs w
    rw [List.map_nil] at w
    cases w
    exact .nil
  | cons n ns ih =>
    intro vs w
    rw [List.map_cons] at w
    cases w with
    | cons a b =>
      cases a
      exact .cons _ _ (ih _ b)
theorem script_of {l : OpenLaw}{n : Nat}(hn : l.most = some n){P : Params}{h : Heap}{args : List WData}{vals : List Value}
    (hpre : l.row.toRowW.claim.pre args = true) (hwl : WellAll P h vals args) :
    ∃ a vs ns,vals = [Value.ref a] /\ args = [WData.list (ns.map WData.int)] /\ h.get? a = some { cls := .type "list",data := .seq vs.toArray } /\ IntsAre vs ns /\ ns.length <= n := by
  have hsh : WShape.hasAll [] args [.list .int] = true := (pre_splitW hpre).1
  have hc : l.pre.holds [] { args := args } = true := (pre_splitW hpre).2
  obtain ⟨d,r,rfl,h1,h2⟩ := hasAllW_cons hsh
  obtain rfl := hasAllW_nil h2
  obtain ⟨xs,rfl,h3⟩ := hasW_list h1
  obtain ⟨ns,rfl⟩ := items_int h3
  have hlen : ns.length <= n := by
    unfold OpenLaw.pre at hc
    have h4 : (WTm.not (.lt (.lit (.int (n : Int))) (.len (.arg 0)))).holds [] { args := [.list (ns.map .int)] } = true := by
      have h4 := (holds_andW hc).1
      rw [hn] at h4
      exact h4
    have h5 := condW_of h4 (w_not (w_lt w_lit (w_len_list (w_arg rfl))))
    rw [List.length_map] at h5
    refine Nat.le_of_not_lt fun q => ?_
    have q' : (n : Int) < ((ns.length : Nat) : Int) := by omega
    first
      | (rw [decide_eq_true q'] at h5; exact absurd h5 (by decide))
      | (simp at h5; omega)
  cases hwl with
  | cons w1 w2 =>
    cases w2
    cases w1 with
    | list ho hall => exact ⟨_,_,ns,rfl,rfl,ho,ints_of_wellAll ns _ hall,hlen⟩
theorem post_true (l : OpenLaw)(args : List WData) : l.row.toRowW.claim.post args (.bool true) args = true :=
  postW_of (r := l.row.toRowW) (X := (true == true))
    (show WShape.has [] (.bool true) .bool = true by first | rfl | decide | simp [WShape.has,WShape.arms,WShape.armsAll])
    (show (WTm.eq .res (.lit (.bool true))).value [] { args := args,res := some (.bool true),after := args } = some (.bool (true == true)) from w_eq_bool (w_res rfl) w_lit) rfl
theorem attach_call {l : OpenLaw}{n : Nat}{q : Program}{loose : List Str}{XP : (Str -> Option Value) -> Heap -> Prop}{YP : World -> Heap -> Prop}{d : DefRec}
    (hn : l.most = some n) (hdf : d.params.defaults = [])
    (call : ∀ (w : World) (s₀ s₁ : Shared) (mg mb : Str -> Option Value) (fa : Addr) (o : Obj) (pm cd doc : Value) (a : Addr) (vs : List Value) (ns : List Int),
      Ground q loose [] XP w s₀ mg mb s₁.heap -> YP w s₁.heap ->
      s₁.heap.get? fa = some o -> o.data = .func (docDef d.name d.params d.body d.scope pm cd doc) -> s₁.heap.CodeRec cd d.name -> mg d.name = some (.ref fa) ->
      s₁.heap.get? a = some { cls := .type "list",data := .seq vs.toArray } -> IntsAre vs ns -> ns.length <= n -> s₁.gens = #[] ->
      codeAny (model l.prog w) callerA (.call (.ref fa) ⟨[.ref a],[]⟩) (fun r s' => r = .ok (.ret (.bool true)) /\ OldK s₁.heap s'.heap /\ s'.os = s₁.os /\ AllBare s'.gens) s₁) :
    WalkO q loose XP YP l.row.toRowW d [] (fun f vs => PySem.call f vs) := by
  intro w s₀ s₁ mg mb G Y fa o pm cd doc dV kV ho hd hcd hD hmg hg args vals as hpre hlay hrd hwl hlo
  obtain rfl : dV = .none := Dflts.none hD hdf
  obtain rfl : kV = .none := Dflts.noKw hD
  obtain ⟨a,vs,ns,rfl,rfl,hobj,hints,hlen⟩ := script_of hn hpre hwl
  refine enter_call (codeAny_mono (call w s₀ s₁ mg mb fa o pm cd doc a vs ns G Y ho (fd_plain hd) hcd hmg hobj hints hlen hg) fun r s' hq => ?_)
  obtain ⟨rfl,h2,h3,h4⟩ := hq
  exact ⟨.inl ⟨.bool true,.bool true,[],rfl,fun _ => rfl,.bool true,post_true l _,fun _ => ⟨List.Pairwise.nil,fun _ hm => (nomatch hm)⟩⟩,h2,h3,h4⟩
section
variable {prog : Program}{w : World}{A : Around}{E : Value -> Shared -> Prop}{s : Shared}{K : Frag}
def ledger (h : Heap)(L d : Addr) : List (Addr × Obj) := (List.range h.objs.size).filterMap fun a => if a = L \/ a = d then none else (h.get? a).map fun o => (a,o)
end
end Att
namespace L2
open PySem PySem.Spec PyProof.Rows
theorem vals_ints : ∀ {vs : List Value} {ns : List Int},IntsAre vs ns -> Vals (ns.map V.int) vs
  | _,_,.nil => .nil
  | _,_,.cons n t h => .cons ⟨t,rfl⟩ (vals_ints h)
def Only (H : Hp) : Prop := ∀ b,H b = none \/ ∃ o xs,H b = some (.frz o (.lst xs))
theorem law_call {P : Program}{w : World}{K : PySem.W.Frag}{mg mb : Str -> Option Value}{CX : CXT}{k : Nat}{fa a : Addr}{fd : FuncData}{x : Str}{sp : Sp}{s₁ : Shared}{vs : List Value}{ns : List Int}
    (KX : K.In s₁.heap) (hns : s₁.heap.Ns mainGlobals mg) (hb : s₁.heap.Ns builtinsNs mb) (hbb : ∀ x : Str,x ≠ "__name__" -> mb x = bootBuiltins x) (hlim : s₁.heap.NoLimit) (hg : s₁.gens = #[])
    (ha : s₁.heap.get? a = some { cls := .type "list",data := .seq vs.toArray }) (hi : IntsAre vs ns) (hl : ns.length <= sizeLine) (hr : Room k callerA)
    (F : ∀ base : Heap,K.In base -> base.Ns mainGlobals mg -> FnOk P w K mg base CX k fa fd [x] sp) (hbind : ∀ (s : Shared) (u : Value),BindsTo s fd ⟨[u],[]⟩ [(x,u)])
    (hsp : ∀ H : Hp,Only H -> SqL K H a (ns.map V.int) -> sp [.ref a] H (fun v _ => v = .bl true) fun _ _ _ => False)
    (hCX : ∀ H e s',CX [] H s₁ (fun _ _ _ => False) e s' -> False) :
    codeAny (model P w) callerA (.call (.ref fa) ⟨[.ref a],[]⟩) (fun r s' => r = .ok (.ret (.bool true)) /\ OldK s₁.heap s'.heap /\ s'.os = s₁.os /\ AllBare s'.gens) s₁ := by
  have rv := vals_ints hi
  have lenV := hi.length
  have core : ∀ H : Hp,Only H -> SqL K H a (ns.map V.int) -> HOk P w H s₁.heap -> (∀ b,H b ≠ none -> b = a) -> (H a ≠ none -> K.lookup a = none) ->
      codeAny (model P w) callerA (.call (.ref fa) ⟨[.ref a],[]⟩) (fun r s' => r = .ok (.ret (.bool true)) /\ OldK s₁.heap s'.heap /\ s'.os = s₁.os /\ AllBare s'.gens) s₁ := by
    intro H hO hS hok hA hK
    have base_of : ∀ {b : Addr} {o : Obj},s₁.heap.get? b = some o -> H b = none -> (hidT s₁.heap H).get? b = some o := fun e n => hidT_get e n
    have noA : ∀ {b : Addr} {o : Obj} {es : Array DictEntry} {ep : Nat},s₁.heap.get? b = some o -> o.data = .dict es ep -> H b = none := fun {b o es ep} e d => by
      cases q : H b with
      | none => rfl
      | some u =>
        have e' : b = a := hA b (by rw [q]; simp)
        subst e'
        rw [ha] at e; cases e
        have d' : Data.seq vs.toArray _ = Data.dict es ep := d
        cases d'
    have nsK : ∀ {b : Addr} {m : Str -> Option Value},s₁.heap.Ns b m -> (hidT s₁.heap H).Ns b m := fun {b m} ⟨o,es,ep,e,d,r⟩ => ⟨o,es,ep,base_of e (noA e d),d,r⟩
    have hKb : K.In (hidT s₁.heap H) := fun b o e => base_of (KX b o e) (by
      cases q : H b with
      | none => rfl
      | some u =>
        have e' : b = a := hA b (by rw [q]; simp)
        subst e'
        rw [hK (by rw [q]; simp)] at e; cases e)
    have hM : Mod K mg (hidT s₁.heap H) := ⟨hKb,nsK hns,⟨mb,nsK hb,hbb⟩,let ⟨mc,h1,h2⟩ := hlim; ⟨mc,nsK h1,h2⟩⟩
    have e0 : Env0 P w K mg (hidT s₁.heap H) callerA [] s₁ H := ⟨rfl,hM,fun b o e => of_hidT e,Nat.le_of_eq (hidT_size _ _),trivial,fun b hb => absurd (show b ∈ ([] : List Addr) from hb) (by simp),hok,.of_eq hg⟩
    refine codeAny_mono ((F _ hKb (nsK hns)).run callerA [] s₁ H ⟨[.ref a],[]⟩ [.ref a] [.ref a] _ _ hr e0 (hbind s₁ (.ref a)) (.cons rfl .nil) (hsp H hO hS)) fun r s' h => ?_
    cases r with
    | error e => exact (hCX H e s' h).elim
    | ok fl =>
      cases fl with
      | next => exact False.elim h
      | brk => exact False.elim h
      | cont => exact False.elim h
      | ret u =>
        obtain ⟨v,H',os,bare,un,hok',r',q⟩ := h
        have q' : v = .bl true := q
        subst q'
        obtain rfl : u = Value.bool true := r'
        refine ⟨rfl,OldK.of_keep fun b o e => ?_,os,bare⟩
        cases q : H b with
        | none => exact un.keep b o e q (by intro z; exact absurd (show b ∈ ([] : List Addr) from z) (by simp)) (by simp)
        | some u =>
          rcases hO b with z | ⟨ob,xs,z⟩
          · rw [q] at z; cases z
          · have z2 := un.frzs b ob _ z
            obtain ⟨e1,_⟩ := hok b _ z
            obtain ⟨e2,_⟩ := hok' b _ z2
            rw [e] at e1; cases e1
            exact e2
  cases hk : K.lookup a with
  | some o =>
    have e := KX a o hk
    rw [ha] at e
    cases e
    refine core (fun _ => none) (fun _ => .inl rfl) (.inr ⟨_,vs.toArray,_,hk,rfl,rfl,rfl,by rw [List.size_toArray,lenV]; exact hl,by simpa using rv⟩) (fun b u z => by have z' : (none : Option HO) = some u := z; cases z') (fun b z => absurd rfl z) fun z => absurd rfl z
  | none =>
    refine core (fun b => if b = a then some (.frz { cls := .type "list",data := .seq vs.toArray } (.lst (ns.map V.int))) else none) (fun b => ?_) (.inl (.inr ⟨{ cls := .type "list",data := .seq vs.toArray },if_pos rfl⟩)) (fun b u z => ?_) (fun b z => ?_) fun _ => hk
    · by_cases hb : b = a
      · exact .inr ⟨_,_,if_pos hb⟩
      · exact .inl (if_neg hb)
    · by_cases hb : b = a
      · have z' := (if_pos hb).symm.trans z
        cases z'
        subst hb
        exact ⟨ha,by rw [List.length_map]; exact hl,vs,_,rv,ha⟩
      · have z' := (if_neg hb).symm.trans z
        cases z'
    · by_cases hb : b = a
      · exact hb
      · exact absurd (if_neg hb) z
end L2
namespace L2
open PySem PySem.Spec PyProof.Rows
theorem walk_of {l : PySem.W.OpenLaw}{n k : Nat}{q : Program}{loose : List Str}{XP : (Str -> Option Value) -> Heap -> Prop}{YP : World -> Heap -> Prop}{d : DefRec}{K : Params -> PySem.W.Frag}{CX : World -> CXT}{sp : World -> Sp}{x : Str}
    (hn : l.most = some n) (hn2 : n <= sizeLine) (hdf : d.params.defaults = []) (hr : Room k callerA)
    (hY : ∀ (w : World) (h : Heap),YP w h -> (K w.params).In h)
    (F : ∀ (w : World) (mg : Str -> Option Value) (fa : Addr) (h : Heap),(K w.params).In h -> h.Ns mainGlobals mg -> mg d.name = some (.ref fa) ->
      ∃ fd : FuncData,(∀ (s : Shared) (u : Value),BindsTo s fd ⟨[u],[]⟩ [(x,u)]) /\
        ∀ base : Heap,(K w.params).In base -> base.Ns mainGlobals mg -> FnOk l.prog w (K w.params) mg base (CX w) k fa fd [x] (sp w))
    (hsp : ∀ (w : World) (H : Hp) (a : Addr) (ns : List Int),ns.length <= n -> Only H -> SqL (K w.params) H a (ns.map V.int) -> sp w [.ref a] H (fun v _ => v = .bl true) fun _ _ _ => False)
    (hCX : ∀ (w : World) (H : Hp) (s : Shared) (e : Value) (s' : Shared),CX w [] H s (fun _ _ _ => False) e s' -> False) :
    PySem.W.WalkO q loose XP YP l.row.toRowW d [] (fun f vs => PySem.call f vs) := by
  refine Att.attach_call hn hdf fun w s₀ s₁ mg mb fa o pm cd doc a vs ns G Y ho hd hcd hmg hobj hints hlen hg => ?_
  have KX := hY w _ Y
  obtain ⟨fd,hb,hF⟩ := F w mg fa _ KX G.T.g hmg
  exact law_call KX G.T.g G.T.b G.T.builtins G.T.nolimit hg hobj hints (Nat.le_trans hlen hn2) hr hF hb (fun H hO hS => hsp w H a ns hlen hO hS) fun H e s' => hCX w H s₁ e s'
end L2
namespace L2
open PySem PySem.Spec PyProof.Rows
def defArgs (s : Stmt) : Arguments := match s with
  | .FunctionDef _ a _ _ _ _ _ _ _ _ => a
  | _ => { posonlyargs := [],args := [],vararg := none,kwonlyargs := [],kw_defaults := [],kwarg := none,defaults := [] }
def defBody (s : Stmt) : List Stmt := match s with
  | .FunctionDef _ _ b _ _ _ _ _ _ _ => b
  | _ => []
def defScope (s : Stmt) : Scope := match s with
  | .FunctionDef _ _ _ _ _ _ sc _ _ _ => sc
  | _ => { kind := .function,names := [],isGenerator := false,isCoroutine := false }
abbrev CX0 : CXT := fun _ _ _ _ _ _ => False
abbrev E0 : XK := fun _ _ _ => False
theorem pass0 {X : Cx} : Passes CX0 X E0 := fun _ _ _ _ _ _ _ h => h.elim
structure Fun (K : PySem.W.Frag)(x qual : Str)(st : Stmt)(f : Addr)(fd : FuncData) : Prop where
  ex : ∃ (oc : Value) (od : Option Addr) (kV doc pm : Value) (an : Option Addr) (cdv ct : Value) (osl : Array (Option Value)),
    fd = PySem.W.fnOf x qual (defArgs st) (defBody st) (defScope st) .none kV doc pm an cdv ct /\ K.lookup f = some ⟨oc,od,.func fd,osl⟩ /\ PySem.W.codeIn K cdv qual = true
  kp : PySem.W.keepIn K (.ref f) = true
section
variable {P : Program}{w : World}{K : PySem.W.Frag}{mg : Str -> Option Value}{base : Heap}
theorem Fun.ok {x qual : Str}{st : Stmt}{f : Addr}{fd : FuncData}{N ps : List Str}{k : Nat}{sp : Sp}(F : Fun K x qual st f fd)(S : FnScope N ps (defScope st))(len : ∀ vs H Q E,sp vs H Q E -> vs.length = ps.length)
    (hbody : ∀ (cdv : Value) (A : Around) (outer : List Env) (s : Shared) (H : Hp) (vs : List V) (Q : VK) (E : XK),Room k (A.deeper (envOfC qual (defScope st) s.heap.objs.size f cdv)) -> sp vs H Q E ->
      ∃ t,PSs (cxOf CX0 P w K mg base N qual (defScope st) f cdv A outer s H E).nox (defBody st) t /\ t { nx := fun _ H' => Q .non H',rt := Q } (start N vs) H) : FnOk P w K mg base CX0 (k + 1) f fd ps sp := by
  obtain ⟨oc,od,kV,doc,pm,an,cdv,ct,osl,rfl,lk,hcd⟩ := F.ex
  refine fn_of lk hcd S len fun A outer s H vs Q E hr hsp => ?_
  obtain ⟨t,h,q⟩ := hbody cdv A outer s H vs Q E hr hsp
  exact ⟨t,h.nox,q⟩
theorem Fun.binds {x qual : Str}{st : Stmt}{f : Addr}{fd : FuncData}{ps : List Str}(F : Fun K x qual st f fd)
    (h : ∀ (kV doc pm : Value) (an : Option Addr) (cdv ct : Value) (us : List Value),us.length = ps.length -> bindArgs (PySem.W.fnOf x qual (defArgs st) (defBody st) (defScope st) .none kV doc pm an cdv ct) ⟨us,[]⟩ = pure (ps.zip us)) : Binds K fd ps [] := by
  obtain ⟨oc,od,kV,doc,pm,an,cdv,ct,osl,rfl,lk,hcd⟩ := F.ex
  exact .all (h kV doc pm an cdv ct)
theorem fun_mk {x qual : Str}{st : Stmt}{f : Addr}{oc : Value}{od an : Option Addr}{osl : Array (Option Value)}{kV doc pm cdv ct : Value}(l : K.lookup f = some ⟨oc,od,.func (PySem.W.fnOf x qual (defArgs st) (defBody st) (defScope st) .none kV doc pm an cdv ct),osl⟩)
    (c : PySem.W.codeIn K cdv qual = true) (k : PySem.W.keepIn K (.ref f) = true) : Fun K x qual st f (PySem.W.fnOf x qual (defArgs st) (defBody st) (defScope st) .none kV doc pm an cdv ct) := ⟨⟨oc,od,kV,doc,pm,an,cdv,ct,osl,rfl,l,c⟩,k⟩
end
section
variable {X : Cx}
theorem pv (i : Nat) {x : Str} {pos : Pos} (hN : X.N[i]? = some x := by rfl) (hv : Vis X.env.scope x := by first | exact Or.inl rfl | exact Or.inr (Or.inl rfl) | exact Or.inr (Or.inr rfl)) (hd : (x == ("__debug__" : Str)) = false := by decide)
    (hcd : (x == ("__classdict__" : Str)) = false := by decide) : PE X (.Name x pos) (tVar i) := pe_var hN hv hd hcd
end
theorem iteF {A B : Prop}(h : B) : if false = true then A else B := by
  rw [if_neg Bool.false_ne_true]
  exact h
theorem iteT {A B : Prop}(h : A) : if true = true then A else B := by
  rw [if_pos rfl]
  exact h
def Same (H H' : Hp) : Prop := ∀ b o,H b = some o -> H' b = some o
theorem Same.refl (H : Hp) : Same H H := fun _ _ h => h
theorem Same.trans {H H1 H2 : Hp}(a : Same H H1)(b : Same H1 H2) : Same H H2 := fun c o h => b c o (a c o h)
theorem Same.free {H H' : Hp}(e : Same H H'){l : Addr}(h : H' l = Option.none) : H l = Option.none := by
  cases q : H l with
  | none => rfl
  | some o =>
    rw [e l o q] at h
    cases h
end L2
set_option Elab.async false
set_option linter.all false
set_option maxRecDepth 100000
set_option maxHeartbeats 4000000
namespace L2
open PySem PySem.Spec PyProof.Rows
theorem cf_keep {x : Str}{lo : Nat} : ∀ (names : List (Str × NameKind)) (n : Nat) (acc : List (Str × Addr)),lo <= n -> (∀ c,acc.lookup x = some c -> lo <= c) -> ∀ c,(cellsFrom n names acc).lookup x = some c -> lo <= c
  | [],_,_,_,h,c,e => h c e
  | (y,k) :: r,n,acc,hn,h,c,e => by
    unfold cellsFrom at e
    split at e
    · refine cf_keep r (n + 1) ((y,n) :: acc) (by omega) (fun c' e' => ?_) c e
      rw [List.lookup_cons] at e'
      cases hb : x == y with
      | true => rw [hb] at e'; cases e'; exact hn
      | false => rw [hb] at e'; exact h c' e'
    · exact cf_keep r n acc hn h c e
theorem cf_own {x : Str}{lo : Nat} : ∀ (names : List (Str × NameKind)) (n : Nat) (acc : List (Str × Addr)),lo <= n -> (x,NameKind.cell) ∈ names -> ∀ c,(cellsFrom n names acc).lookup x = some c -> lo <= c
  | [],_,_,_,hm,_,_ => by cases hm
  | (y,k) :: r,n,acc,hn,hm,c,e => by
    unfold cellsFrom at e
    split at e
    · rcases List.mem_cons.mp hm with z | z
      · cases z
        refine cf_keep r (n + 1) ((x,n) :: acc) (by omega) (fun c' e' => ?_) c e
        rw [List.lookup_cons,beq_self_eq_true] at e'
        cases e'
        exact hn
      · exact cf_own r (n + 1) ((y,n) :: acc) (by omega) z c e
    · rename_i hk
      rcases List.mem_cons.mp hm with z | z
      · cases z
        exact absurd rfl hk
      · exact cf_own r n acc hn z c e
theorem cf_not {x : Str} : ∀ (names : List (Str × NameKind)) (n : Nat) (acc : List (Str × Addr)),¬ (x,NameKind.cell) ∈ names -> (cellsFrom n names acc).lookup x = acc.lookup x
  | [],_,_,_ => rfl
  | (y,k) :: r,n,acc,hm => by
    unfold cellsFrom
    have hr : ¬ (x,NameKind.cell) ∈ r := fun z => hm (List.mem_cons_of_mem _ z)
    split
    · rename_i hk
      rw [cf_not r (n + 1) _ hr,List.lookup_cons]
      have hxy : (x == y) = false := by
        cases hb : x == y with
        | false => rfl
        | true =>
          have e1 : x = y := beq_iff_eq.mp hb
          have e2 : k = NameKind.cell := beq_iff_eq.mp hk
          subst e1 e2
          exact absurd List.mem_cons_self hm
      rw [hxy]
    · exact cf_not r n acc hr
theorem cf_inj : ∀ (names : List (Str × NameKind)) (n : Nat) (acc : List (Str × Addr)),(∀ x c,acc.lookup x = some c -> c < n) -> (∀ x y c,acc.lookup x = some c -> acc.lookup y = some c -> x = y) ->
    ∀ x y c,(cellsFrom n names acc).lookup x = some c -> (cellsFrom n names acc).lookup y = some c -> x = y
  | [],_,_,_,h,x,y,c,e1,e2 => h x y c e1 e2
  | (z,k) :: r,n,acc,hb,h,x,y,c,e1,e2 => by
    unfold cellsFrom at e1 e2
    split at e1
    · rename_i hk
      rw [if_pos hk] at e2
      refine cf_inj r (n + 1) ((z,n) :: acc) (fun x' c' e' => ?_) (fun x' y' c' e1' e2' => ?_) x y c e1 e2
      · rw [List.lookup_cons] at e'
        cases q : x' == z with
        | true => rw [q] at e'; cases e'; exact Nat.lt_succ_self _
        | false => rw [q] at e'; exact Nat.lt_succ_of_lt (hb x' c' e')
      · rw [List.lookup_cons] at e1' e2'
        cases q1 : x' == z with
        | true =>
          rw [q1] at e1'
          cases e1'
          cases q2 : y' == z with
          | true => rw [beq_iff_eq.mp q1,beq_iff_eq.mp q2]
          | false =>
            rw [q2] at e2'
            exact absurd (hb y' _ e2') (Nat.lt_irrefl _)
        | false =>
          rw [q1] at e1'
          cases q2 : y' == z with
          | true =>
            rw [q2] at e2'
            cases e2'
            exact absurd (hb x' _ e1') (Nat.lt_irrefl _)
          | false =>
            rw [q2] at e2'
            exact h x' y' c' e1' e2'
    · rename_i hk
      rw [if_neg hk] at e2
      exact cf_inj r n acc hb h x y c e1 e2
theorem cf_of : ∀ (names : List (Str × NameKind)) (n : Nat) (acc : List (Str × Addr)) (x : Str) (c : Addr),(cellsFrom n names acc).lookup x = some c -> acc.lookup x = some c \/ n <= c
  | [],_,_,_,_,e => .inl e
  | (z,k) :: r,n,acc,x,c,e => by
    unfold cellsFrom at e
    split at e
    · rcases cf_of r (n + 1) ((z,n) :: acc) x c e with q | q
      · rw [List.lookup_cons] at q
        cases hb : x == z with
        | true => rw [hb] at q; cases q; exact .inr (Nat.le_refl _)
        | false => rw [hb] at q; exact .inl q
      · exact .inr (by omega)
    · exact cf_of r n acc x c e
theorem cf_cell : ∀ (names : List (Str × NameKind)) (h : Heap) (acc : List (Str × Addr)),(∀ x c,acc.lookup x = some c -> ∃ v,h.IsCell c v) ->
    ∀ x c,(cellsFrom h.objs.size names acc).lookup x = some c -> ∃ v,(pushCells h names).IsCell c v
  | [],_,_,hh,x,c,e => hh x c e
  | (z,k) :: r,h,acc,hh,x,c,e => by
    unfold cellsFrom at e
    unfold pushCells
    split at e
    · rename_i hk
      rw [if_pos hk]
      have e' : (cellsFrom (h.push { cls := .type "cell",data := .cell none }).objs.size r ((z,h.objs.size) :: acc)).lookup x = some c := by rw [Heap.size_push]; exact e
      refine cf_cell r _ _ (fun x' c' q => ?_) x c e'
      rw [List.lookup_cons] at q
      cases hb : x' == z with
      | true =>
        rw [hb] at q
        cases q
        exact ⟨none,_,Heap.get?_push_size _ rfl,rfl⟩
      | false =>
        rw [hb] at q
        obtain ⟨v,w⟩ := hh x' c' q
        exact ⟨v,w.keeps fun b o e => Heap.get?_push_of_some _ e⟩
    · rename_i hk
      rw [if_neg hk]
      exact cf_cell r h acc hh x c e
theorem clos_ok {env : Env}(f : Str × NameKind -> List (Str × Addr) -> Sem (ForInStep (List (Str × Addr))))
    (hf : ∀ name kind cs,f (name,kind) cs = if kind == .free then (do let a <- cellOf env name; pure (.yield ((name,a) :: cs))) else pure (.yield cs)) :
    ∀ (names : List (Str × NameKind)) (acc : List (Str × Addr)),(∀ x,(x,NameKind.free) ∈ names -> ∃ c,env.cells.lookup x = some c) -> (∀ x c,acc.lookup x = some c -> env.cells.lookup x = some c) ->
      ∃ cl,forIn names acc f = pure cl /\ (∀ x c,cl.lookup x = some c -> env.cells.lookup x = some c) /\ ∀ x,((acc.lookup x).isSome = true \/ (x,NameKind.free) ∈ names) -> (cl.lookup x).isSome = true
  | [],acc,_,ha => ⟨acc,by rw [List.forIn_nil],ha,fun x h => h.elim id fun z => by cases z⟩
  | (name,kind) :: r,acc,hn,ha => by
    have hr : ∀ x,(x,NameKind.free) ∈ r -> ∃ c,env.cells.lookup x = some c := fun x hx => hn x (List.mem_cons_of_mem _ hx)
    by_cases hk : (kind == NameKind.free) = true
    · have ek : kind = NameKind.free := beq_iff_eq.mp hk
      subst ek
      obtain ⟨c,hc⟩ := hn name List.mem_cons_self
      obtain ⟨cl,e1,e2,e3⟩ := clos_ok f hf r ((name,c) :: acc) hr (fun x c' e => by
        rw [List.lookup_cons] at e
        cases hb : x == name with
        | true => rw [hb] at e; cases e; rw [beq_iff_eq.mp hb]; exact hc
        | false => rw [hb] at e; exact ha x c' e)
      refine ⟨cl,?_,e2,fun x hx => e3 x ?_⟩
      · rw [List.forIn_cons,hf,if_pos hk]
        unfold cellOf
        rw [hc]
        simpa using e1
      · rcases hx with hx | hx
        · left
          rw [List.lookup_cons]
          cases hb : x == name with
          | true => rfl
          | false => exact hx
        · rcases List.mem_cons.mp hx with z | z
          · cases z
            left
            rw [List.lookup_cons,beq_self_eq_true]
            rfl
          · exact .inr z
    · obtain ⟨cl,e1,e2,e3⟩ := clos_ok f hf r acc hr ha
      refine ⟨cl,?_,e2,fun x hx => e3 x ?_⟩
      · rw [List.forIn_cons,hf,if_neg hk]
        simpa using e1
      · rcases hx with hx | hx
        · exact .inl hx
        · rcases List.mem_cons.mp hx with z | z
          · cases z
            exact absurd rfl hk
          · exact .inr z
theorem closureFor_ok {scope : Scope}{env : Env}(hn : ∀ x,(x,NameKind.free) ∈ scope.names -> ∃ c,env.cells.lookup x = some c) :
    ∃ cl,closureFor scope env = pure cl /\ (∀ x c,cl.lookup x = some c -> env.cells.lookup x = some c) /\ ∀ x,(x,NameKind.free) ∈ scope.names -> (cl.lookup x).isSome = true := by
  obtain ⟨cl,e1,e2,e3⟩ := clos_ok (env := env) (fun x cs => match x with
    | (name,kind) => if (kind == NameKind.free) = true then (do let a <- cellOf env name; pure (ForInStep.yield ((name,a) :: cs))) else pure (ForInStep.yield cs)) (fun name kind cs => rfl) scope.names [] hn (fun x c e => by cases e)
  refine ⟨cl,?_,e2,fun x hx => e3 x (.inr hx)⟩
  show (forIn scope.names [] _ >>= fun r => pure r) = _
  refine Eq.trans (congrArg (fun m => m >>= fun r => pure r) e1) ?_
  simp
def tries (ifs : List Expr)(env : Env) : Sem Bool := forIn ifs true fun c r => if r = true then do let ok <- isTrue c env (eval c env); pure (ForInStep.yield ok) else pure (ForInStep.yield r)
theorem compLoop_any {prog : Program}{w : World}{A : Around}{R : Result -> Shared -> Prop}{s : Shared}{elt target iter : Expr}{ifs : List Expr}{scope : Scope}{pos : Pos}{it acc : Value}{env : Env}(J : Nat -> Shared -> Prop)
    (turn : ∀ n s,J n s -> wpAny (model prog w) A (pyNext it) (fun r s₁ => match r with
      | none => R (.ok .next) s₁
      | some v => wpAny (model prog w) A (letOwnedTupleGo target it v) (fun _ s₁' => wpAny (model prog w) A (assign target env v) (fun _ s₂ => wpAny (model prog w) A (tries ifs env) (fun ok s₃ =>
            if ok = true then wpAny (model prog w) A (eval elt env) (fun x s₄ => wpAny (model prog w) A (call (.builtin "list.append") [acc,x]) (fun _ s₅ => ∃ m,m < n /\ J m s₅) (notedBy (model prog w) A env fun e s' => R (.error e) s') s₄)
                (notedBy (model prog w) A env fun e s' => R (.error e) s') s₃
            else ∃ m,m < n /\ J m s₃) (notedBy (model prog w) A env fun e s' => R (.error e) s') s₂) (notedBy (model prog w) A env fun e s' => R (.error e) s') s₁') (notedBy (model prog w) A env fun e s' => R (.error e) s') s₁)
        (notedBy (model prog w) A env fun e s' => R (.error e) s') s) (n : Nat) (h : J n s) :
    codeAny (model prog w) A (.compLoop (.ListComp elt [⟨target,iter,ifs,0⟩] scope pos) 0 it acc env) R s := by
  refine codeAny_loop rfl J (fun n s hJ => ?_) n h
  show wpAny _ _ (Sem.onRaise (compTurn (.ListComp elt [⟨target,iter,ifs,0⟩] scope pos) 0 it acc env) fun x => do noteFrame x env; theTreesLotGoes x) _ _ _
  refine wpAny_noted ?_
  rw [compTurn_list]
  refine wpAny_bind (wpAny_standAt (wpAny_bind (thn (turn n s hJ) fun r s₁ h₁ => ?_)))
  cases r with
  | none => exact wpAny_pure h₁
  | some v =>
    refine wpAny_bind (thn h₁ fun _ s₁' h₁' => wpAny_bind (thn h₁' fun _ s₂ h₂ => wpAny_bind (thn h₂ fun ok s₃ h₃ => ?_)))
    cases ok with
    | true => exact wpAny_bind (wpAny_bind (thn h₃ fun x s₄ h₄ => wpAny_bind (thn h₄ fun _ s₅ h₅ => wpAny_pure (wpAny_pure ⟨rfl,h₅⟩))))
    | false => exact wpAny_pure ⟨rfl,h₃⟩
def CErr (X : Cx)(C : Addr)(e : Value)(s' : Shared) : Prop :=
  ∃ m,s'.heap.Ns C m /\ ∀ h',Heap.SameBut C s'.heap h' -> ∀ cenv : Env,cenv.locals = C -> wpAny (model X.prog X.w) X.A (passOn "comprehension.variables-let-go" e cenv : Sem Value) (fun _ _ => False) X.xe { s' with heap := h' }
def cxComp (X : Cx)(N : List Str)(scope : Scope)(cells : List (Str × Addr))(C : Addr)(fp : List Addr)(s : Shared)(H : Hp) : Cx where
  prog := X.prog
  w := X.w
  K := X.K
  mg := X.mg
  base := X.base
  A := X.A
  N := N
  s₀ := s
  H₀ := H
  env := compEnvC scope cells C X.env
  outer := X.stack
  stack := X.stack
  ex := fp
  fn := fun x => decide (scope.names.lookup x = some NameKind.cell)
  calm := X.calm
  pn := []
  xe := notedBy (model X.prog X.w) X.A (compEnvC scope cells C X.env) (CErr X C)
def capt (σ : St)(map : List (Option Nat)) : St := map.map fun o => o.bind fun i => (σ[i]?).join
def CapOk (X : Cx)(scope : Scope) : List (Option Nat) -> List Str -> Prop
  | [],[] => True
  | none :: m,_ :: n => CapOk X scope m n
  | some i :: m,x :: n => (X.N[i]? = some x /\ scope.names.lookup x = some .free /\ (scope.names.all fun p => !(p.1 == x && p.2 == NameKind.cell)) = true /\ (X.env.kindOf x = some .cell \/ X.env.kindOf x = some .free)) /\ CapOk X scope m n
  | _,_ => False
theorem CapOk.length {X : Cx}{scope : Scope} : ∀ {m : List (Option Nat)} {n : List Str},CapOk X scope m n -> m.length = n.length
  | [],[],_ => rfl
  | none :: m,_ :: n,h => by simp [CapOk.length (m := m) (n := n) h]
  | some i :: m,x :: n,h => by simp [CapOk.length (m := m) (n := n) h.2]
  | [],_ :: _,h => h.elim
  | some _ :: _,[],h => h.elim
  | none :: _,[],h => h.elim
theorem CapOk.get {X : Cx}{scope : Scope} : ∀ {m : List (Option Nat)} {n : List Str} {j i : Nat} {x : Str},CapOk X scope m n -> m[j]? = some (some i) -> n[j]? = some x ->
    X.N[i]? = some x /\ scope.names.lookup x = some .free /\ ¬ (x,NameKind.cell) ∈ scope.names /\ (X.env.kindOf x = some .cell \/ X.env.kindOf x = some .free)
  | [],[],_,_,_,_,e,_ => by simp at e
  | none :: m,_ :: n,0,_,_,_,e,_ => by simp at e
  | none :: m,_ :: n,j + 1,i,x,h,e,e' => CapOk.get (m := m) (n := n) (j := j) h (by simpa using e) (by simpa using e')
  | some k :: m,y :: n,0,i,x,h,e,e' => by
    have e1 : k = i := by simpa using e
    have e2 : y = x := by simpa using e'
    subst e1 e2
    obtain ⟨⟨h1,h2,h3,h4⟩,_⟩ := h
    refine ⟨h1,h2,fun hm => ?_,h4⟩
    have q := List.all_eq_true.mp h3 _ hm
    simp at q
  | some k :: m,y :: n,j + 1,i,x,h,e,e' => CapOk.get (m := m) (n := n) (j := j) h.2 (by simpa using e) (by simpa using e')
  | [],_ :: _,_,_,_,h,_,_ => h.elim
  | some _ :: _,[],_,_,_,h,_,_ => h.elim
  | none :: _,[],_,_,_,h,_,_ => h.elim
def GKeep (g : TG)(map : List (Option Nat)) : Prop := ∀ v σ H Q,g v σ H Q -> g v σ H fun σ' H' => (σ'.length = σ.length /\ ∀ j i : Nat,map[j]? = some (some i) -> σ'[j]? = σ[j]?) /\ Q σ' H'
def PIf (X : Cx)(ifs : List Expr)(t : TT) : Prop :=
  ∀ (pins : List (Addr × Obj)) (s : Shared) (σ : St) (H : Hp) (Q : Bool -> Hp -> Prop),Inv X pins σ H s -> t σ H Q -> wpAny (model X.prog X.w) X.A (tries ifs X.env) (TP X pins σ Q) X.xe s
def tTrue : TT := fun _ H Q => Q true H
theorem pif_nil {X : Cx} : PIf X [] tTrue := fun _ _ _ H _ I h => wpAny_pure ⟨H,I,h⟩
theorem pif_one {X : Cx}{c : Expr}{t : TT}(hc : PT X c t) : PIf X [c] t := fun pins s σ H Q I h => by
  unfold tries
  simp only [List.forIn_cons,List.forIn_nil,if_true]
  exact wpAny_bind (wpAny_bind (thn (hc pins s σ H Q I h) fun b s' hb => wpAny_pure (wpAny_pure hb)))
theorem lookup_relabel {env : Env}{x : Str}{k : NameKind} : ∀ {names : List (Str × NameKind)},
    (names.map fun (p : Str × NameKind) => match p with | (n,k) => if (k == NameKind.free && env.scope.kind == .function && env.kindOf n == some .cell) then (n,NameKind.cell) else (n,k)).lookup x = some k ->
    ∃ k',names.lookup x = some k' /\ (k' = k \/ (k' = .free /\ k = .cell))
  | [],h => by simp at h
  | (n,k') :: r,h => by
    rw [List.map_cons] at h
    by_cases hc : (k' == NameKind.free && env.scope.kind == .function && env.kindOf n == some .cell) = true
    · simp only [if_pos hc,List.lookup_cons] at h
      rw [List.lookup_cons]
      cases hx : x == n with
      | true =>
        rw [hx] at h
        cases h
        refine ⟨k',rfl,.inr ⟨?_,rfl⟩⟩
        simp only [Bool.and_eq_true,beq_iff_eq] at hc
        exact hc.1.1
      | false =>
        rw [hx] at h
        exact lookup_relabel h
    · simp only [if_neg hc,List.lookup_cons] at h
      rw [List.lookup_cons]
      cases hx : x == n with
      | true =>
        rw [hx] at h
        cases h
        exact ⟨_,rfl,.inl rfl⟩
      | false =>
        rw [hx] at h
        exact lookup_relabel h
theorem relabel_free {env : Env}{x : Str} : ∀ {names : List (Str × NameKind)},names.lookup x = some .free ->
    (names.map fun (p : Str × NameKind) => match p with | (n,k) => if (k == NameKind.free && env.scope.kind == .function && env.kindOf n == some .cell) then (n,NameKind.cell) else (n,k)).lookup x = some .cell \/
    (names.map fun (p : Str × NameKind) => match p with | (n,k) => if (k == NameKind.free && env.scope.kind == .function && env.kindOf n == some .cell) then (n,NameKind.cell) else (n,k)).lookup x = some .free
  | [],h => by simp at h
  | (n,k') :: r,h => by
    rw [List.map_cons]
    rw [List.lookup_cons] at h
    by_cases hc : (k' == NameKind.free && env.scope.kind == .function && env.kindOf n == some .cell) = true
    · simp only [if_pos hc,List.lookup_cons]
      cases hx : x == n with
      | true => exact .inl rfl
      | false =>
        rw [hx] at h
        exact relabel_free h
    · simp only [if_neg hc,List.lookup_cons]
      cases hx : x == n with
      | true =>
        rw [hx] at h
        cases h
        exact .inr rfl
      | false =>
        rw [hx] at h
        exact relabel_free h
end L2
set_option Elab.async false
set_option linter.all false
set_option maxRecDepth 100000
set_option maxHeartbeats 4000000
namespace L2
open PySem PySem.Spec PyProof.Rows
section
variable {X : Cx}{elt iter tg : Expr}{ifs : List Expr}{scope : Scope}{pos : Pos}{N' : List Str}{map : List (Option Nat)}{wi : TI}{g : TG}{tt : TT}{te : TE}
def Turns (J : It)(g : TG)(tt : TT)(te : TE)(σc : St)(Fin : List V -> Hp -> Prop)(W : Nat -> Nat -> List V -> Hp -> Prop) : Prop :=
  ∀ i m acc H2,W i m acc H2 -> (J.stop i H2 /\ acc.length <= sizeLine /\ Fin acc H2) \/
    (J.go i H2 /\ acc.length < sizeLine /\ ∃ N : List V -> Hp -> Prop,(∀ acc' H',N acc' H' -> ∃ m',m' < m /\ W (i + 1) m' acc' H') /\ ∀ x H3,J.yld i H2 x H3 -> g x σc H3 fun σ4 H4 => tt σ4 H4 fun b H5 => if b = true then te σ4 H5 fun v H6 => N (acc ++ [v]) H6 else N acc H5)
structure TurnG (R : Cx -> Prop)(P : Program)(w : World)(K : PySem.W.Frag)(tg : Expr)(J : It)(fp : List Addr)(it : Addr)(tn : Nat -> Heap -> Prop) : Prop where
  mem : it ∈ fp
  obj : ∀ i h,tn i h -> ∀ b ∈ fp,∃ o,h.get? b = some o /\ ∀ v,o.data ≠ .cell v
  keep : ∀ i h h',tn i h -> (∀ b ∈ fp,∀ o,h.get? b = some o -> h'.get? b = some o) -> tn i h'
  item : ∀ (X : Cx),X.prog = P -> X.w = w -> X.K = K -> R X -> ∀ (i : Nat) (pins : List (Addr × Obj)) (s : Shared) (σ : St) (H : Hp) (E : Value -> Shared -> Prop),Inv X pins σ H s -> (∀ b ∈ fp,FpOk X pins H b) -> tn i s.heap -> J.go i H -> wpAny (model P w) X.A (pyNext (.ref it)) (fun r s1 => ∃ u,r = some u /\
      wpAny (model P w) X.A (letOwnedTupleGo tg (.ref it) u) (fun _ s2 => ∃ x H',Inv X pins σ H' s2 /\ RelV x u /\ J.yld i H x H' /\ tn (i + 1) s2.heap /\ ∀ b ∈ fp,H' b = none) E s1) E s
  done : ∀ (X : Cx),X.prog = P -> X.w = w -> X.K = K -> R X -> ∀ (i : Nat) (pins : List (Addr × Obj)) (s : Shared) (σ : St) (H : Hp) (E : Value -> Shared -> Prop),Inv X pins σ H s -> (∀ b ∈ fp,FpOk X pins H b) -> tn i s.heap -> J.stop i H -> wpAny (model P w) X.A (pyNext (.ref it)) (fun r s1 => r = none /\ Inv X pins σ H s1) E s
  self : ∀ (A : Around) (i : Nat) (s : Shared) (Q : Value -> Shared -> Prop) (E : Value -> Shared -> Prop),tn i s.heap -> Q (.ref it) s -> wpAny (model P w) A (pyIter (.ref it)) Q E s
theorem Turn.gen {P : Program}{w : World}{K : PySem.W.Frag}{tg : Expr}{J : It}{fp : List Addr}{it : Addr}{tn : Nat -> Heap -> Prop}(T : Turn P w K tg J fp it tn) : TurnG (fun X => X.calm = true) P w K tg J fp it tn := ⟨T.mem,T.obj,T.keep,T.item,T.done,T.self⟩
def CompIn (X : Cx)(C : Addr)(fp : List Addr)(s : Shared)(H : Hp) : Prop := ∃ pins σ,Inv X pins σ H s /\ (∀ b ∈ fp,FpOk X pins H b) /\ s.heap.objs.size <= C
structure BlkM (X : Cx)(N' : List Str)(scope : Scope)(map : List (Option Nat))(tg elt : Expr)(ifs : List Expr)(g : TG)(tt : TT)(te : TE) : Prop where
  kind : scope.kind = .function
  loc : ∀ x ∈ scope.names,x.2 = .local -> scope.names.lookup x.1 = some .local
  free : (scope.names.all fun p => !(p.2 == NameKind.free) || (X.env.kindOf p.1 == some .cell || X.env.kindOf p.1 == some .free)) = true
  cap : CapOk X scope map N'
  keep : GKeep g map
  run : ∀ cells C fp s H,CompIn X C fp s H -> PG (cxComp X N' scope cells C fp s H) tg g /\ PIf (cxComp X N' scope cells C fp s H) ifs tt /\ PE (cxComp X N' scope cells C fp s H) elt te
structure Blk (X : Cx)(N' : List Str)(scope : Scope)(map : List (Option Nat))(tg elt : Expr)(ifs : List Expr)(g : TG)(tt : TT)(te : TE) : Prop where
  calm : X.calm = true
  kind : scope.kind = .function
  loc : ∀ x ∈ scope.names,x.2 = .local -> scope.names.lookup x.1 = some .local
  free : (scope.names.all fun p => !(p.2 == NameKind.free) || (X.env.kindOf p.1 == some .cell || X.env.kindOf p.1 == some .free)) = true
  cap : CapOk X scope map N'
  keep : GKeep g map
  run : ∀ cells C fp s H,CompIn X C fp s H -> PG (cxComp X N' scope cells C fp s H) tg g /\ PIf (cxComp X N' scope cells C fp s H) ifs tt /\ PE (cxComp X N' scope cells C fp s H) elt te
theorem Blk.m (B : Blk X N' scope map tg elt ifs g tt te) : BlkM X N' scope map tg elt ifs g tt te := ⟨B.kind,B.loc,B.free,B.cap,B.keep,B.run⟩
theorem blk_inv {pins : List (Addr × Obj)}{σ : St}{H1 : Hp}{s2 : Shared}{cl : List (Str × Addr)}{fp : List Addr}(I : Inv X pins σ H1 s2)(B : BlkM X N' scope map tg elt ifs g tt te)
    (hsub : ∀ x c,cl.lookup x = some c -> X.env.cells.lookup x = some c) (hhas : ∀ x,(x,NameKind.free) ∈ scope.names -> (cl.lookup x).isSome = true)
    (hf : ∀ b ∈ fp,FpOk X pins H1 b) (hfo : ∀ b ∈ fp,∃ o,s2.heap.get? b = some o) (C : Addr) (h3 : Heap) (hC : s2.heap.objs.size <= C) (k3 : ∀ b o,s2.heap.get? b = some o -> h3.get? b = some o) (hCsz : C < h3.objs.size) (hns : h3.Ns C fun _ => none) (tk : Nat) :
    Inv (cxComp X N' scope (cellsFrom h3.objs.size scope.names cl) C fp s2 H1) [] (capt σ map) H1 { s2 with heap := pushCells h3 scope.names,toks := tk } := by
  have kk : ∀ b o,s2.heap.get? b = some o -> (pushCells h3 scope.names).get? b = some o := fun b o e => pushCells_keeps _ _ b o (k3 b o e)
  have fsz : ∀ b ∈ fp,b < s2.heap.objs.size := fun b hb => by obtain ⟨o,e⟩ := hfo b hb; exact Heap.lt_size e
  have clz : ∀ x c,cl.lookup x = some c -> c < s2.heap.objs.size := fun x c e => by
    obtain ⟨v,o,ho,_⟩ := I.cell x c (hsub x c e)
    exact Heap.lt_size ho
  have h3sz : s2.heap.objs.size < h3.objs.size := Nat.lt_of_le_of_lt hC hCsz
  have cof : ∀ x c,(cellsFrom h3.objs.size scope.names cl).lookup x = some c -> X.env.cells.lookup x = some c \/ h3.objs.size <= c := fun x c e => (cf_of _ _ _ x c e).imp (hsub x c) id
  have cnb : ∀ x c,(cellsFrom h3.objs.size scope.names cl).lookup x = some c -> ∀ b ∈ fp,c ≠ b := fun x c e b hb z => by
    rcases cof x c e with q | q
    · exact (hf b hb).2.2.2.2.1 x c q z
    · have h1 := fsz b hb
      rw [<- z] at h1
      exact absurd (Nat.lt_of_lt_of_le (Nat.lt_trans h1 h3sz) q) (Nat.lt_irrefl _)
  have fnf : ∀ b ∈ fp,b ∉ frs X.stack := fun b hb hm => by
    obtain ⟨_,f1,f2,_⟩ := hf b hb
    rcases List.mem_cons.mp (I.stkSub b hm) with z | z
    · exact f1 z
    · exact f2 z
  have cellI : ∀ x c,(cellsFrom h3.objs.size scope.names cl).lookup x = some c -> ∃ v,(pushCells h3 scope.names).IsCell c v := fun x c e =>
    cf_cell scope.names h3 cl (fun x' c' q => by
      obtain ⟨v,w⟩ := I.cell x' c' (hsub x' c' q)
      exact ⟨v,w.keeps k3⟩) x c e
  have hC0 : H1 C = none := I.hok.fresh hC
  have ok : (cxComp X N' scope (cellsFrom h3.objs.size scope.names cl) C fp s2 H1).Ok :=
    { mod := I.ok.mod
      kind := B.kind
      glob := I.ok.glob
      blt := I.ok.blt
      above := hC
      inj := cf_inj scope.names h3.objs.size cl (fun x c e => Nat.lt_trans (clz x c e) h3sz) fun x y c e1 e2 => I.ok.inj x y c (hsub x c e1) (hsub y c e2)
      has := fun x hx => by
        have hx : (relabel scope X.env).names.lookup x = some .cell \/ (relabel scope X.env).names.lookup x = some .free := hx
        have goal : (scope.names.lookup x = some .cell \/ (cl.lookup x).isSome = true) := by
          rcases hx with q | q
          · obtain ⟨k',e1,e2⟩ := lookup_relabel q
            rcases e2 with z | ⟨z,_⟩
            · exact .inl (by rw [e1,z])
            · exact .inr (hhas x (PySem.mem_of_lookup (by rw [e1,z])))
          · obtain ⟨k',e1,e2⟩ := lookup_relabel q
            rcases e2 with z | ⟨z,z'⟩
            · exact .inr (hhas x (PySem.mem_of_lookup (by rw [e1,z])))
            · cases z'
        exact Option.isSome_iff_exists.mp (PySem.W.cellsFrom_some scope.names h3.objs.size cl goal)
      cab := fun x c hx e => Nat.le_of_lt (Nat.lt_of_lt_of_le h3sz (cf_own scope.names h3.objs.size cl (Nat.le_refl _) (PySem.mem_of_lookup (of_decide_eq_true hx)) c e))
      hd := I.ok.hd
      frames := I.ok.frames
      stk := .inl rfl
      exf := fun b hb => ⟨fun z => absurd (fsz b hb) (by rw [z]; exact Nat.not_lt.mpr hC),fun x c e => cnb x c e b hb⟩
      bs := I.bs
      bsz := Nat.le_trans I.ok.bsz I.sz
      noex := fun b o e hb => by
        rcases (hf b hb).2.2.2.1 with z | z
        · exact I.ok.noex b o e z
        · exact absurd (Heap.lt_size (I.ok.bs b o e).1) (Nat.not_lt.mpr z)
      exfs := fnf
      funs := I.stack
      frf := I.stkFree }
  refine ⟨ok,rfl,I.bare,Un.kept kk,⟨fun _ => none,hns.keeps fun b o e => pushCells_keeps _ _ b o e,fun j x v e1 e2 e3 => ?_⟩,cellI,hC0,fun x c e => ?_,fun p hp => absurd (show p ∈ ([] : List (Addr × Obj)) from hp) (by simp),I.hok.kept kk,?_⟩
  · have e2' : (capt σ map)[j]? = some (some v) := e2
    unfold capt at e2'
    rw [List.getElem?_map] at e2'
    cases hm : map[j]? with
    | none => rw [hm] at e2'; cases e2'
    | some o =>
      rw [hm] at e2'
      cases o with
      | none => simp at e2'
      | some i =>
        have e2'' : (σ[i]?).join = some v := by simpa using e2'
        have hσ : σ[i]? = some (some v) := by
          cases q : σ[i]? with
          | none => rw [q] at e2''; cases e2''
          | some o' =>
            rw [q] at e2''
            have : o' = some v := by simpa using e2''
            rw [this]
        obtain ⟨c1,c2,c3,c4⟩ := B.cap.get hm e1
        obtain ⟨m,hn,hl⟩ := I.loc
        have vis : Vis X.env.scope x := by
          rcases c4 with z | z
          · exact .inr (.inl z)
          · exact .inr (.inr z)
        obtain ⟨u,r,l⟩ := hl i x v c1 hσ vis
        refine ⟨u,r,?_⟩
        rcases l with ⟨z,_⟩ | ⟨_,c,ec,hcell⟩
        · rcases c4 with q | q
          · rw [q] at z; cases z
          · rw [q] at z; cases z
        · right
          refine ⟨relabel_free c2,c,?_,hcell.keeps kk⟩
          show (cellsFrom h3.objs.size scope.names cl).lookup x = some c
          rw [cf_not _ _ _ c3]
          obtain ⟨c',hc'⟩ := Option.isSome_iff_exists.mp (hhas x (PySem.mem_of_lookup c2))
          have := hsub x c' hc'
          rw [ec] at this
          cases this
          exact hc'
  · rcases cof x c e with q | q
    · exact I.freeC x c q
    · exact I.hok.fresh (Nat.le_trans (Nat.le_of_lt h3sz) q)
  · show (capt σ map).length = N'.length
    unfold capt
    rw [List.length_map]
    exact B.cap.length
theorem blk_run {pins : List (Addr × Obj)}{σ : St}{H1 : Hp}{s2 : Shared}{cl : List (Str × Addr)}{fp : List Addr}{it : Addr}{tn : Nat -> Heap -> Prop}{J : It}{E : Value -> Shared -> Prop}(I : Inv X pins σ H1 s2)(B : BlkM X N' scope map tg elt ifs g tt te)
    (hsub : ∀ x c,cl.lookup x = some c -> X.env.cells.lookup x = some c) (hhas : ∀ x,(x,NameKind.free) ∈ scope.names -> (cl.lookup x).isSome = true)
    {R : Cx -> Prop} (hR : ∀ cells C fp s H,R (cxComp X N' scope cells C fp s H)) (T : TurnG R X.prog X.w X.K tg J fp it tn) (st : tn 0 s2.heap) (hf : ∀ b ∈ fp,FpOk X pins H1 b) {Fin : List V -> Hp -> Prop} {W : Nat -> Nat -> List V -> Hp -> Prop} {m0 : Nat} (w0 : W 0 m0 [] H1) (ht : Turns J g tt te (capt σ map) Fin W)
    {RR : Value -> Addr -> Result -> Shared -> Prop}
    (hOk : ∀ D C acc H' s' m,Inv X pins σ (upd H' D (.lst acc)) s' -> H' D = none -> s'.heap.Ns C m -> upd H' D (.lst acc) C = none -> C ≠ X.env.locals -> X.s₀.heap.objs.size <= C -> (∀ x c,X.env.cells.lookup x = some c -> c ≠ C) -> (∀ p ∈ X.pn ++ pins,p.1 ≠ C) -> Fin acc H' -> RR (.ref D) C (.ok .next) s')
    (hErr : ∀ D C e s',CErr X C e s' -> RR (.ref D) C (.error e) s') :
    wpAny (model X.prog X.w) X.A (newList []) (fun acc s3 => wpAny (model X.prog X.w) X.A (newFunctionEnv scope X.env.globals cl [] X.env.qual none .none (some X.env)) (fun cenv s4 =>
      codeAny (model X.prog X.w) X.A (.compStart (.ListComp elt [⟨tg,iter,ifs,0⟩] scope pos) 0 (.ref it) acc { cenv with scope := relabel scope X.env }) (RR acc cenv.locals) s4) E s3) E s2 := by
  have fo : ∀ b ∈ fp,∃ o,s2.heap.get? b = some o := fun b hb => by obtain ⟨o,e,_⟩ := T.obj 0 _ st b hb; exact ⟨o,e⟩
  refine wpAny_newObj_type ?_
  generalize hH2 : s2.heap.push { cls := .type "list",dict := none,data := .seq ([] : List Value).toArray } = H2
  have szD : H2.objs.size = s2.heap.objs.size + 1 := by rw [<- hH2,Heap.size_push]
  have kD : ∀ b o,s2.heap.get? b = some o -> H2.get? b = some o := fun b o e => hH2 ▸ Heap.get?_push_of_some _ e
  simp only [newFunctionEnv,Option.isSome_some,if_true]
  refine wpAny_bind (wpAny_alloc ?_)
  refine wpAny_bind (wpAny_layCells _ (fun name kind cells => by cases hkc : kind == NameKind.cell <;> simp [hkc]) _ _ _ _ ?_)
  dsimp only
  generalize hH3 : H2.push { cls := .type "dict",dict := none,data := .dict #[] } = h3
  have sz3 : h3.objs.size = H2.objs.size + 1 := by rw [<- hH3,Heap.size_push]
  have kC : ∀ b o,H2.get? b = some o -> h3.get? b = some o := fun b o e => hH3 ▸ Heap.get?_push_of_some _ e
  have nsC : h3.Ns H2.objs.size fun _ => none := hH3 ▸ Heap.Ns.new H2 (.type "dict")
  refine wpAny_bind (wpAny_pure (wpAny_pure ?_))
  show codeAny _ _ (.compStart (.ListComp elt [⟨tg,iter,ifs,0⟩] scope pos) 0 (.ref it) (.ref s2.heap.objs.size) (compEnvC scope (cellsFrom h3.objs.size scope.names cl) H2.objs.size X.env)) _ _
  generalize hX' : cxComp X N' scope (cellsFrom h3.objs.size scope.names cl) H2.objs.size fp s2 H1 = X'
  have I4 : Inv X' [] (capt σ map) H1 { s2 with heap := pushCells h3 scope.names } := hX' ▸ blk_inv I B hsub hhas hf fo H2.objs.size h3 (by rw [szD]; exact Nat.le_succ _) (fun b o e => kC b o (kD b o e)) (by rw [sz3]; exact Nat.lt_succ_self _) nsC s2.toks
  obtain ⟨pg,pif,pel⟩ := B.run (cellsFrom h3.objs.size scope.names cl) H2.objs.size fp s2 H1 ⟨pins,σ,I,hf,by rw [szD]; exact Nat.le_succ _⟩
  rw [hX'] at pg pif pel
  have eprog : X'.prog = X.prog := by rw [<- hX']; rfl
  have ew : X'.w = X.w := by rw [<- hX']; rfl
  have eK : X'.K = X.K := by rw [<- hX']; rfl
  have eA : X'.A = X.A := by rw [<- hX']; rfl
  have ecalm : R X' := by rw [<- hX']; exact hR _ _ _ _ _
  have eenv : X'.env = compEnvC scope (cellsFrom h3.objs.size scope.names cl) H2.objs.size X.env := by rw [<- hX']; rfl
  have exe : X'.xe = notedBy (model X.prog X.w) X.A (compEnvC scope (cellsFrom h3.objs.size scope.names cl) H2.objs.size X.env) (CErr X H2.objs.size) := by rw [<- hX']; rfl
  have es0 : X'.s₀ = s2 := by rw [<- hX']; rfl
  have eH0 : X'.H₀ = H1 := by rw [<- hX']; rfl
  have eex : X'.ex = fp := by rw [<- hX']; rfl
  have efs : X'.fs = frs X.stack := by rw [<- hX']; rfl
  have epn : X'.pn = [] := by rw [<- hX']; rfl
  have eL : X'.env.locals = H2.objs.size := by rw [eenv]; rfl
  generalize hDd : s2.heap.objs.size = D at *
  have fD : ∀ b ∈ fp,b ≠ D := fun b hb => by obtain ⟨o,e⟩ := fo b hb; exact Nat.ne_of_lt (hDd ▸ Heap.lt_size e)
  have nfsD : D ∉ X'.fs := fun hb => by
    rw [efs] at hb
    have h1 := I.stkSub D hb
    rcases List.mem_cons.mp h1 with z | z
    · have := I.lt; rw [hDd,<- z] at this; exact Nat.lt_irrefl _ this
    · exact I.nofs (by rw [hDd]; exact Nat.le_refl _) z
  have ncD : ∀ x c,X'.env.cells.lookup x = some c -> c ≠ D := fun x c e z => by
    rw [eenv] at e
    rcases cf_of _ _ _ x c e with q | q
    · obtain ⟨v,o,ho,_⟩ := I.cell x c (hsub x c q)
      have := Heap.lt_size ho
      rw [hDd,z] at this
      exact Nat.lt_irrefl _ this
    · rw [z,sz3,szD] at q
      exact absurd (Nat.lt_of_lt_of_le (Nat.lt_succ_of_lt (Nat.lt_succ_self D)) q) (Nat.lt_irrefl _)
  have f4 : ∀ {H' : Hp} {pl : List (Addr × Obj)},(∀ b ∈ fp,H' b = none) -> (∀ p ∈ pl,p.1 = D) -> ∀ b ∈ fp,FpOk X' pl H' b := fun {H' pl} hn hpl b hb => by
    have q := hf b hb
    refine ⟨hn b hb,?_,?_,.inl (by rw [eex]; exact hb),fun x c e => ?_,fun p hp => ?_⟩
    · rw [eL]
      obtain ⟨o,e⟩ := fo b hb
      have := Heap.lt_size e
      rw [hDd] at this
      intro z
      rw [z,szD] at this
      exact absurd (Nat.lt_of_succ_lt this) (Nat.lt_irrefl _)
    · have := I4.ok.exfs b (by rw [eex]; exact hb)
      exact this
    · exact (I4.ok.exf b (by rw [eex]; exact hb)).2 x c e
    · rw [epn] at hp
      have hp : p ∈ pl := by simpa using hp
      rw [hpl p hp]
      exact (fD b hb).symm
  have noCell : ∀ {its : Array Value} {n : Nat} (v : Option Value),({ cls := .type "list",data := .seq its n } : Obj).data ≠ .cell v := fun v z => by cases z
  have hD4 : (pushCells h3 scope.names).get? D = some { cls := .type "list",data := .seq ([] : List Value).toArray 0 } := pushCells_keeps _ _ _ _ (kC _ _ (by rw [<- hH2,<- hDd]; exact Heap.get?_push_size _ rfl))
  have loop : codeAny (model X.prog X.w) X.A (.compLoop (.ListComp elt [⟨tg,iter,ifs,0⟩] scope pos) 0 (.ref it) (.ref D) (compEnvC scope (cellsFrom h3.objs.size scope.names cl) H2.objs.size X.env)) (RR (.ref D) H2.objs.size) { s2 with heap := pushCells h3 scope.names } := by
    refine compLoop_any (fun n s' => ∃ i acc H' its k,Inv X' [] (capt σ map) H' s' /\ tn i s'.heap /\ (∀ b ∈ fp,H' b = none) /\ H' D = none /\ s'.heap.get? D = some { cls := .type "list",data := .seq (List.toArray its) k } /\ Vals acc its /\ W i n acc H') ?_ m0
      ⟨0,[],H1,[],0,I4,T.keep _ _ _ st fun b hb o e => pushCells_keeps _ _ _ _ (kC _ _ (kD _ _ e)),fun b hb => (hf b hb).1,I.hok.fresh (by rw [hDd]; exact Nat.le_refl _),hD4,.nil,w0⟩
    rintro n s5 ⟨i,acc,H5,its,k,I5,st5,fr5,hD5,oD5,rv5,w5⟩
    have pinD : Inv X' [(D,{ cls := .type "list",data := .seq (List.toArray its) k })] (capt σ map) H5 s5 := I5.pins_of fun p hp => by
      have e : p = (D,{ cls := .type "list",data := .seq (List.toArray its) k }) := by simpa using hp
      subst e
      refine ⟨oD5,hD5,?_,nfsD,fun v => noCell v⟩
      rw [eL,szD]
      exact Nat.ne_of_lt (Nat.lt_succ_self _)
    have plD : ∀ p ∈ [(D,({ cls := .type "list",data := .seq (List.toArray its) k } : Obj))],p.1 = D := fun p hp => by
      have e : p = (D,{ cls := .type "list",data := .seq (List.toArray its) k }) := by simpa using hp
      rw [e]
    have err : ∀ e s',X'.xe e s' -> notedBy (model X.prog X.w) X.A (compEnvC scope (cellsFrom h3.objs.size scope.names cl) H2.objs.size X.env) (fun e s' => RR (.ref D) H2.objs.size (.error e) s') e s' := fun e s' he => by
      rw [exe] at he
      exact wpAny_mono he (fun _ s'' q => hErr D _ e s'' q) fun e'' s'' q => hErr D _ e'' s'' q
    rcases ht i n acc H5 w5 with ⟨stop,hsz,fin⟩ | ⟨go,hsz,NN,hNN,step⟩
    · have dn := T.done X' eprog ew eK ecalm i _ s5 (capt σ map) H5 (notedBy (model X.prog X.w) X.A (compEnvC scope (cellsFrom h3.objs.size scope.names cl) H2.objs.size X.env) fun e s' => RR (.ref D) H2.objs.size (.error e) s') pinD (f4 fr5 plD) st5 stop
      rw [eA] at dn
      refine thn dn fun r s6 ⟨hr,I6⟩ => ?_
      subst hr
      obtain ⟨oD6,hD6,_⟩ := I6.pin (D,_) (by rw [epn]; exact List.mem_cons_self)
      obtain ⟨m,nsm,_⟩ := I6.loc
      rw [eL] at nsm
      have un := I6.base
      rw [efs,eex,eH0,es0] at un
      have hok := I6.hok
      rw [eprog,ew] at hok
      have os6 := I6.os
      rw [es0] at os6
      have fC : H5 H2.objs.size = none := by rw [<- eL]; exact I6.free
      have nDC : H2.objs.size ≠ D := by rw [szD]; exact Nat.ne_of_gt (Nat.lt_succ_self _)
      refine hOk D H2.objs.size acc H5 s6 m (I.call' (ch := fp) os6 ?_ ?_ I6.bare fun b hb => ?_) hD5 nsm (by rw [upd_ne nDC]; exact fC) ?_ ?_ ?_ ?_ fin
      · refine ⟨un.keep,un.slot,fun b o e n hx => ?_,un.there,fun b xs e => ?_,fun b o u e => ?_,fun b ps e => ?_⟩
        · rw [upd_ne (Nat.ne_of_lt (hDd ▸ Heap.lt_size e))]
          exact un.free b o e n hx
        · have := un.tups b xs e
          rw [upd_ne (ne_of_none this hD5)]
          exact this
        · have := un.frzs b o u e
          rw [upd_ne (ne_of_none this hD5)]
          exact this
        · obtain ⟨more,this⟩ := un.tbls b ps e
          exact ⟨more,by rw [upd_ne (ne_of_none this hD5)]; exact this⟩
      · intro b o e
        by_cases hb : b = D
        · subst hb
          rw [upd_same] at e
          cases e
          exact ⟨hsz,its,k,rv5,oD6⟩
        · rw [upd_ne hb] at e
          exact (hok b o e).stay (fun _ _ _ q => q) (fun c q => by rw [upd_ne (ne_of_none q hD5)]; exact q) fun c xs q => by rw [upd_ne (ne_of_none q hD5)]; exact q
      · obtain ⟨f0,f1,f2,f3,f4',f5⟩ := hf b hb
        exact ⟨f3,f1,f4',f5⟩
      · have := I.lt
        rw [hDd] at this
        intro z
        rw [<- z,szD] at this
        exact absurd (Nat.lt_of_succ_lt this) (Nat.lt_irrefl _)
      · have := I.sz
        rw [hDd] at this
        omega
      · intro x c e z
        obtain ⟨v,o,ho,_⟩ := I.cell x c e
        have := Heap.lt_size ho
        rw [hDd,z,szD] at this
        exact absurd (Nat.lt_of_succ_lt this) (Nat.lt_irrefl _)
      · intro p hp z
        have := Heap.lt_size (I.pin p hp).1
        rw [hDd,z,szD] at this
        exact absurd (Nat.lt_of_succ_lt this) (Nat.lt_irrefl _)
    · have im := T.item X' eprog ew eK ecalm i _ s5 (capt σ map) H5 (notedBy (model X.prog X.w) X.A (compEnvC scope (cellsFrom h3.objs.size scope.names cl) H2.objs.size X.env) fun e s' => RR (.ref D) H2.objs.size (.error e) s') pinD (f4 fr5 plD) st5 go
      rw [eA] at im
      refine thn im fun r s6 ⟨u,hr,h6⟩ => ?_
      subst hr
      refine thn h6 fun _ s7 ⟨x,H7,I7,r7,y7,st7,fr7⟩ => ?_
      have I7' := I7.pinned (f4 fr7 plD) (T.obj _ _ st7)
      have stp := B.keep _ _ _ _ (step x H7 y7)
      have pgx := pg _ s7 (capt σ map) H7 x u _ I7' r7 stp
      rw [eprog,ew,eA,eenv] at pgx
      refine wpAny_mono pgx (fun _ s8 ⟨σ8,H8,I8,⟨kl,k8⟩,q8⟩ => ?_) err
      have pix := pif _ s8 σ8 H8 _ I8 q8
      rw [eprog,ew,eA,eenv] at pix
      refine wpAny_mono pix (fun b s9 ⟨H9,I9,q9⟩ => ?_) err
      have wk : ∀ {σa : St} {Ha : Hp} {sa : Shared},σa = σ8 -> Inv X' ([(D,({ cls := .type "list",data := .seq (List.toArray its) k } : Obj))] ++ pinsAt fp s7.heap) σa Ha sa ->
          Inv X' [] (capt σ map) Ha sa /\ tn (i + 1) sa.heap /\ (∀ b ∈ fp,Ha b = none) /\ Ha D = none /\ sa.heap.get? D = some { cls := .type "list",data := .seq (List.toArray its) k } := fun {σa Ha sa} ea Ia => by
        subst ea
        refine ⟨(Ia.pins_of (pins' := []) fun p hp => absurd hp (by simp)).weak kl.symm fun j v e => ?_,T.keep _ _ _ st7 fun b hb o e => (Ia.pin (b,o) (List.mem_append_right _ (List.mem_append_right _ (mem_pinsAt hb e)))).1,fun b hb => ?_,?_,?_⟩
        · have e' := e
          unfold capt at e'
          rw [List.getElem?_map] at e'
          cases hm : map[j]? with
          | none => rw [hm] at e'; cases e'
          | some o =>
            rw [hm] at e'
            cases o with
            | none => simp at e'
            | some i' => rw [k8 j i' hm]; exact e
        · obtain ⟨o,e,d⟩ := T.obj _ _ st7 b hb
          exact (Ia.pin (b,o) (List.mem_append_right _ (List.mem_append_right _ (mem_pinsAt hb e)))).2.1
        · exact (Ia.pin (D,_) (List.mem_append_right _ (List.mem_append_left _ List.mem_cons_self))).2.1
        · exact (Ia.pin (D,_) (List.mem_append_right _ (List.mem_append_left _ List.mem_cons_self))).1
      cases b with
      | false =>
        rw [if_neg Bool.false_ne_true] at q9 ⊢
        obtain ⟨m',hm',w9⟩ := hNN _ _ q9
        obtain ⟨a1,a2,a3,a4,a5⟩ := wk rfl I9
        exact ⟨m',hm',i + 1,acc,H9,its,k,a1,a2,a3,a4,a5,rv5,w9⟩
      | true =>
        rw [if_pos rfl] at q9 ⊢
        have pex := pel _ s9 σ8 H9 _ I9 q9
        rw [eprog,ew,eA,eenv] at pex
        refine wpAny_mono pex (fun v s10 ⟨y,H10,I10,r10,q10⟩ => ?_) err
        obtain ⟨m',hm',w10⟩ := hNN _ _ q10
        obtain ⟨a1,a2,a3,a4,a5⟩ := wk rfl I10
        have hl := rv5.length
        refine wpAny_list_append_plain (items := List.toArray its) ⟨k,a5⟩ (fun h11 pl11 sb11 => ?_) (by simp only [List.size_toArray]; omega)
        obtain ⟨k',e11⟩ := pl11
        refine ⟨m',hm',i + 1,acc ++ [y],H10,its ++ [v],k',a1.turned (t' := s10.toks) (it := D) (fun b o hb e => (sb11.2 b hb).trans e) a4 ?_ (.inr (by rw [es0,hDd]; exact Nat.le_refl _)) ncD (fun p hp => absurd hp (by rw [epn]; simp)),T.keep _ _ _ a2 fun b hb o e => (sb11.2 b (fD b hb)).trans e,a3,a4,?_,rv5.append (.cons r10 .nil),w10⟩
        · rw [eL,szD]
          exact Nat.ne_of_lt (Nat.lt_succ_self _)
        · rw [e11,List.push_toArray]
  exact codeAny_compStart_list loop (T.self _ 0 _ _ _ (T.keep _ _ _ st fun b hb o e => pushCells_keeps _ _ _ _ (kC _ _ (kD _ _ e))) loop)
theorem Blk.clos {pins : List (Addr × Obj)}{σ : St}{H : Hp}{s : Shared}(B : Blk X N' scope map tg elt ifs g tt te)(I : Inv X pins σ H s) :
    ∃ cl,closureFor scope X.env = pure cl /\ (∀ x c,cl.lookup x = some c -> X.env.cells.lookup x = some c) /\ ∀ x,(x,NameKind.free) ∈ scope.names -> (cl.lookup x).isSome = true :=
  closureFor_ok fun x hx => I.ok.has x (by
    have q := List.all_eq_true.mp B.free _ hx
    simpa using q)
def tComp (wi : TI)(map : List (Option Nat))(g : TG)(tt : TT)(te : TE) : TE := fun σ H Q => wi σ H fun J H1 => ∃ W : Nat -> Nat -> List V -> Hp -> Prop,(∃ m,W 0 m [] H1) /\
  Turns J g tt te (capt σ map) (fun acc H' => ∀ D,H' D = none -> Q (.ref D) (upd H' D (.lst acc))) W
theorem pe_comp (B : Blk X N' scope map tg elt ifs g tt te)(hi : PI X tg iter wi)(hs : ∀ x,foldedSetIterable iter X.env x = pure x := by intro _; rfl) : PE X (.ListComp elt [⟨tg,iter,ifs,0⟩] scope pos) (tComp wi map g tt te) := by
  intro pins s σ H Q I h
  obtain ⟨cl,hcl,hsub,hhas⟩ := B.clos I
  rw [eval_ListComp]
  refine wpAny_comprehension_free (use := none) rfl hs hcl B.kind B.loc (thn (hi pins s σ H _ I h) fun v s1 h1 => thn h1 fun itv s2 h2 => ?_)
  obtain ⟨it,fp,tn,J,H2,e,I2,T,st2,f2,W,⟨m0,w0⟩,turn⟩ := h2
  subst e
  refine blk_run (RR := fun acc C => compPost (model X.prog X.w) X.A X.xe none (EP X pins σ Q) acc C) I2 B.m hsub hhas (R := fun X => X.calm = true) (fun _ _ _ _ _ => B.calm) T.gen st2 f2 w0 turn (fun D C acc H' s' m I' hD nsm fC c1 c2 c3 c4 fin => ?_) fun D C e s' z => z
  refine ⟨m,nsm,fun h' sb => ⟨.ref D,_,?_,rfl,fin D hD⟩⟩
  exact I'.turned (t' := s'.toks) (fun b o hb e => (sb.2 b hb).trans e) fC c1 (.inr c2) c3 c4
def tSetComp (i : Nat)(wi : TI)(map : List (Option Nat))(g : TG)(tt : TT)(te : TE) : TS := fun D σ H => wi σ H fun J H1 => ∃ W : Nat -> Nat -> List V -> Hp -> Prop,(∃ m,W 0 m [] H1) /\
  Turns J g tt te (capt σ map) (fun acc H' => ∀ d,H' d = none -> D.nx (σ.set i (some (.ref d))) (upd H' d (.lst acc))) W
theorem ps_setComp {i : Nat}{y : Str}{py spos : Pos}(hN : X.N.Nodup)(hiN : X.N[i]? = some y)(hy : Loc X.env.scope y)(B : Blk X N' scope map tg elt ifs g tt te)(hi : PI X tg iter wi)
    (hsw : swapsWith (.ListComp elt [⟨tg,iter,ifs,0⟩] scope pos) (some (.Name y py)) spos.line X.env = pure true := by rfl) (hfn : X.fn y = true \/ X.env.scope.names.lookup y = some .local := by first | exact .inl rfl | exact .inr rfl)
    (hs : ∀ x,foldedSetIterable iter X.env x = pure x := by intro _; rfl) : PS X (.Assign [.Name y py] (.ListComp elt [⟨tg,iter,ifs,0⟩] scope pos) spos) (tSetComp i wi map g tt te) := by
  intro pins s σ H D I h
  obtain ⟨cl,hcl,hsub,hhas⟩ := B.clos I
  rw [exec_Assign_Name_used _ _ _ _ hsw]
  refine wpAny_bind (wpAny_standAt (wpAny_bind ?_))
  show wpAny _ _ (do let _ <- comprehension (.ListComp elt [⟨tg,iter,ifs,0⟩] scope pos) scope X.env _ (newList []) false (eval iter X.env) (some (assign (.Name y py) X.env))) _ _ _
  refine wpAny_bind (thn (wpAny_comprehension_free (use := some (assign (.Name y py) X.env)) (Q := fun _ s' => SP X pins D .next s') rfl hs hcl B.kind B.loc (thn (hi pins s σ H _ I h) fun v s1 h1 => thn h1 fun itv s2 h2 => ?_)) fun _ s' hq => wpAny_pure (wpAny_pure hq))
  obtain ⟨it,fp,tn,J,H2,e,I2,T,st2,f2,W,⟨m0,w0⟩,turn⟩ := h2
  subst e
  refine blk_run (RR := fun acc C => compPost (model X.prog X.w) X.A X.xe (some (assign (.Name y py) X.env)) (fun _ s' => SP X pins D .next s') acc C) I2 B.m hsub hhas (R := fun X => X.calm = true) (fun _ _ _ _ _ => B.calm) T.gen st2 f2 w0 turn (fun d C acc H' s' m I' hD nsm fC c1 c2 c3 c4 fin => ?_) fun D C e s' z => z
  refine wpAny_assign_Name (store_ok2 I' hN hiN hy (v := .ref d) rfl (fun s'' I'' ⟨a,sb,ha⟩ => ?_) hfn)
  have hCa : C ≠ a := by
    rcases ha with z | z
    · rw [z]; exact c1
    · exact (c3 y a z).symm
  refine ⟨m,nsm.sameBut sb hCa,fun h' sb' => ⟨_,_,?_,fin d hD⟩⟩
  exact I''.turned (t' := s''.toks) (fun b o hb e => (sb'.2 b hb).trans e) fC c1 (.inr c2) c3 c4
end
theorem gkeep_name {j : Nat}{map : List (Option Nat)}(h : map[j]? = some none) : GKeep (gName j) map := fun v σ H Q q => by
  refine ⟨⟨by simp,fun j' i hm => ?_⟩,q⟩
  have : j ≠ j' := fun z => by rw [z,hm] at h; cases h
  rw [List.getElem?_set_ne this]
end L2
set_option Elab.async false
set_option linter.all false
set_option maxRecDepth 100000
set_option maxHeartbeats 4000000
namespace L2
open PySem PySem.Spec PyProof.Rows
def Bd (n : Nat)(i : Int) : Prop := i.natAbs < 2 ^ n
theorem Bd.mono {m n : Nat}{i : Int}(h : Bd m i)(k : m <= n) : Bd n i := Nat.lt_of_lt_of_le h (Nat.pow_le_pow_right (by decide) k)
theorem Bd.of {n : Nat}{i : Int}(h1 : -(2 ^ n : Nat) < i)(h2 : i < (2 ^ n : Nat)) : Bd n i := by
  unfold Bd
  omega
theorem Bd.lt {n : Nat}{i : Int}(h : Bd n i) : -((2 ^ n : Nat) : Int) < i /\ i < ((2 ^ n : Nat) : Int) := by
  unfold Bd at h
  omega
theorem bits_of {n : Nat}{i : Int}(h : Bd n i) : Builtin.Int.intBits i <= n := by
  unfold Builtin.Int.intBits
  split
  · exact Nat.zero_le _
  · rename_i hz
    have h0 : i.natAbs ≠ 0 := fun z => hz (by have : i = 0 := Int.natAbs_eq_zero.mp z; simp [this])
    exact (Nat.log2_lt h0).mpr h
def CMulB (i j : Int) : Prop := (∃ m n,Bd m i /\ Bd n j /\ m + n <= 100000000) \/ Bd 64 j
def CDivB (i j : Int) : Prop := 0 < j /\ ∃ n,Bd n j /\ n <= 9000
section
variable {X : Cx}
theorem op_mulB : OpR X (binaryOp .Mult) (rI CMulB fun i j => .int (i * j)) := opI fun i j _ _ _ _ _ hc q => mul_int q (by
  rcases hc with ⟨m,n,h1,h2,h3⟩ | h1
  case inr => exact .of_right (bits_of h1)
  have e1 := bits_of h1
  have e2 := bits_of h2
  unfold IntMulOk
  have e3 : Builtin.Int.intTooBig (Builtin.Int.intBits i + Builtin.Int.intBits j) = false := by
    unfold Builtin.Int.intTooBig
    refine decide_eq_false ?_
    have : bitsLine = 134217728 := by unfold bitsLine; decide
    rw [this]
    omega
  rw [e3]
  simp)
theorem op_fdivB : OpR X (binaryOp .FloorDiv) (rI CDivB fun i j => .int (i / j)) := opI fun i j _ _ _ _ _ hc q => by
  obtain ⟨h1,n,h2,h3⟩ := hc
  refine floordiv_int (by omega) (by rw [Int.fdiv_eq_ediv_of_nonneg i (by omega)]; exact q) (.inl (PyProof.noPylong_of_log2 ?_))
  have h0 : j.natAbs ≠ 0 := by omega
  exact (Nat.log2_lt h0).mpr (h2.mono h3)
end
theorem Same.upd {H : Hp}{p : Addr}{o : HO}(h : H p = none) : Same H (upd H p o) := fun b u e => by rw [upd_ne (ne_of_none e h)]; exact e
def Keep (p : Addr)(H H' : Hp) : Prop := ∀ b o,b ≠ p -> H b = some o -> H' b = some o
theorem Keep.trans {p : Addr}{H H1 H2 : Hp}(a : Keep p H H1)(b : Keep p H1 H2) : Keep p H H2 := fun c o n e => b c o n (a c o n e)
theorem Keep.upd {p : Addr}{H : Hp}{o : HO} : Keep p H (upd H p o) := fun b u n e => by rw [upd_ne n]; exact e
theorem Same.keep {p : Addr}{H H' : Hp}(h : Same H H') : Keep p H H' := fun b o _ e => h b o e
structure Callee (P : Program)(w : World)(K : PySem.W.Frag)(mg : Str -> Option Value)(base : Heap)(CX : CXT)(x : Str)(k : Nat)(ps : List Str)(sp : Sp) : Prop where
  ex : ∃ f fd,FnOk P w K mg base CX k f fd ps sp /\ mg x = some (.ref f) /\ PySem.W.keepIn K (.ref f) = true /\ Binds K fd ps []
section
variable {X : Cx}{CX : CXT}{k : Nat}{ps : List Str}{sp : Sp}{E : XK}{x : Str}{p pos : Pos}{e : Expr}{es : List Expr}{t : TA}
theorem pe_own (G : Callee X.prog X.w X.K X.mg X.base CX0 x k ps sp)(hr : Room k X.A)(hg : Gl X x)(ha : PA X (e :: es) t)(hdb : (x == ("__debug__" : Str)) = false := by decide) (he : starEach (e :: es) X.env = (false,eval e X.env) :: starEach es X.env := by rfl) (hpl : (backTo pos (starEach es X.env)).any (·.1) = false := by rfl) :
    PE X (.Call (.Name x p) (e :: es) [] pos) (tCall sp [] E0 t) := by
  obtain ⟨f,fd,F,hm,hk,hb⟩ := G.ex
  exact pe_call F hr hg hm hk hb .nil pass0 ha hdb he hpl
theorem call_isinst : CallR X (.builtin "isinstance") (fun xs H Q => ∃ y c t b,xs = [y,.ty c] /\ TyOf X.K H y t /\ PySem.W.kitOne X.K t (.type c) = some b /\ Q (.bl b) H) := by
  intro pins s σ H xs us Q I r h
  obtain ⟨y,c,t,b,rfl,ty,e,q⟩ := h
  obtain ⟨u,w',rfl,r1,r2⟩ := vals2 r
  cases (show w' = Value.type c from r2)
  exact isinst_ok I r1 ty e fun tk => ⟨.bl b,H,I.tok _,rfl,q⟩
end
theorem Callee.mk' {P : Program}{w : World}{K : PySem.W.Frag}{mg : Str -> Option Value}{base : Heap}{CX : CXT}{x qual : Str}{st : Stmt}{f : Addr}{fd : FuncData}{k : Nat}{ps : List Str}{sp : Sp}(F : Fun K x qual st f fd)(G : FnOk P w K mg base CX k f fd ps sp)(hm : mg x = some (.ref f))(hb : Binds K fd ps []) :
    Callee P w K mg base CX x k ps sp := ⟨f,fd,G,hm,F.kp,hb⟩
theorem iteB {c : Bool}{A B : Prop}(h1 : c = true -> A)(h2 : c = false -> B) : if c = true then A else B := by
  cases c with
  | true => exact iteT (h1 rfl)
  | false => exact iteF (h2 rfl)
theorem bt_len : bootBuiltins "len" = some (.builtin "len") := by decide +kernel
theorem bt_isinstance : bootBuiltins "isinstance" = some (.builtin "isinstance") := by decide +kernel
theorem bt_max : bootBuiltins "max" = some (.builtin "max") := by decide +kernel
theorem bt_min : bootBuiltins "min" = some (.builtin "min") := by decide +kernel
theorem bt_any : bootBuiltins "any" = some (.builtin "any") := by decide +kernel
theorem bt_sorted : bootBuiltins "sorted" = some (.builtin "sorted") := by decide +kernel
theorem bt_bool : bootBuiltins "bool" = some (.type "bool") := by decide +kernel
theorem bt_tuple : bootBuiltins "tuple" = some (.type "tuple") := by decide +kernel
theorem bt_list : bootBuiltins "list" = some (.type "list") := by decide +kernel
theorem bt_enumerate : bootBuiltins "enumerate" = some (.type "enumerate") := by decide +kernel
theorem Same.get {H H' : Hp}{a : Addr}{o : HO}(S : Same H H')(h : H a = some o) : H' a = some o := S a o h
theorem Keep.get {p : Addr}{H H' : Hp}{a : Addr}{o : HO}(S : Keep p H H')(n : a ≠ p)(h : H a = some o) : H' a = some o := S a o n h
theorem Bd.num (i : Int)(h : i.natAbs < 18446744073709551616) : Bd 64 i := h
theorem le1000 : 1000 <= sizeLine := by decide
theorem dec_t {p : Prop}[Decidable p](h : decide p = true) : p := of_decide_eq_true h
def Bag (H : Hp)(p : Addr) : Prop := ∃ f m : Int,H p = some (.lst [.int f,.int m]) /\ 0 <= f /\ 0 <= m /\ m < 2147483647
theorem Bag.ne {H : Hp}{p a : Addr}{xs : List V}(b : Bag H p)(h : H a = some (.tup xs)) : a ≠ p := by
  obtain ⟨f,m,e,_⟩ := b
  exact ne_of h e (by intro z; cases z)
theorem CMulB.right {i j : Int}(h : Bd 64 j) : CMulB i j := .inr h
theorem Keep.tup {p : Addr}{H H' : Hp}{a : Addr}{xs : List V}(S : Keep p H H')(b : Bag H p)(h : H a = some (.tup xs)) : H' a = some (.tup xs) := S a _ (b.ne h) h
theorem atI_some {xs : List V}{i : Int}(h0 : 0 <= i)(h1 : i < xs.length) : ∃ v,atI xs i = some v /\ v ∈ xs := by
  obtain ⟨j,rfl⟩ : ∃ j : Nat,i = j := ⟨i.toNat,by omega⟩
  have hj : j < xs.length := by omega
  exact ⟨xs[j],atI_nat (List.getElem?_eq_getElem hj),List.getElem_mem hj⟩
end L2
set_option Elab.async false
set_option linter.all false
set_option maxRecDepth 100000
set_option maxHeartbeats 4000000
namespace L2
open PySem PySem.Spec PyProof.Rows
theorem nodupS (l : List Str)(h : l.Nodup) : l.Nodup := h
section
variable {X : Cx}{tg l : Expr}{tl : TE}
theorem ix_tupK (K : PySem.W.Frag)(h : X.K = K) : IxR X (rIxT K) := by subst h; exact ix_tup
theorem ix_listK (K : PySem.W.Frag)(h : X.K = K) : IxR X (rIxL K) := by subst h; exact ix_list
theorem pg_tupK {es : List Expr}{k : Nat}{t : TGs}{n : Nat}{pos : Pos}(K : PySem.W.Frag)(h : X.K = K)(hc : X.calm = true)(hs : PGs X es t)(hn : (assignEach es X.env).length = n := by rfl)(hst : (assignEach es X.env).findIdx? (·.1) = none := by rfl) : PG X (.Tuple es k pos) (gTup K n t) := by subst h; exact pg_tup hc hs hn hst
theorem call_len_seqK (K : PySem.W.Frag)(h : X.K = K) : CallR X (.builtin "len") (fun xs H Q => ∃ p ys,xs = [.ref p] /\ (SqL K H p ys \/ SqT K H p ys) /\ Q (.int ys.length) H) := by subst h; exact call_len_seq
theorem call_tuple_ofK (K : PySem.W.Frag)(h : X.K = K) : CallR X (.type "tuple") (fun xs H Q => ∃ p ys,xs = [.ref p] /\ ((SqL K H p ys /\ ∀ l,H l = none -> Q (.ref l) (upd H l (.tup ys))) \/ (SqT K H p ys /\ Q (.ref p) H))) := by subst h; exact call_tuple_of
theorem call_list_ofK (K : PySem.W.Frag)(h : X.K = K) : CallR X (.type "list") (fun xs H Q => ∃ p ys,xs = [.ref p] /\ (SqL K H p ys \/ SqT K H p ys) /\ ∀ l,H l = none -> Q (.ref l) (upd H l (.lst ys))) := by subst h; exact call_list_of
theorem pt_truthK {a : Expr}{ta : TE}(K : PySem.W.Frag)(h : X.K = K)(ha : PE X a ta)(he : ∀ whole,isTrue a X.env whole = (do let v <- whole; standAt a.pos; holding [v] (truthy v))) : PT X a (fun σ H Q => ta σ H fun x H' => ∃ k,TruV K x H' k /\ Q k H') := by subst h; exact pt_truth ha he
end
section
variable {X : Cx}
end
end L2
set_option Elab.async false
set_option linter.all false
set_option maxRecDepth 100000
set_option maxHeartbeats 4000000
namespace L2
open PySem PySem.Spec PyProof.Rows
section
variable {X : Cx}
theorem bools_are : ∀ {bs : List Bool} {us : List Value},Vals (bs.map V.bl) us -> us = bs.map Value.bool
  | [],us,r => by
    cases r
    rfl
  | b :: bs,us,r => by
    cases r with
    | cons r1 r2 =>
      cases r1
      rw [bools_are r2]
      rfl
theorem range_bools (bs : List Bool) : (List.range bs.length).map (fun i => bs[i]?.getD false) = bs := by
  apply List.ext_getElem
  · simp
  · intro i h1 h2
    simp at h1
    simp [h1]
theorem call_anyL (K : PySem.W.Frag)(hK : X.K = K)(hc : X.calm = true) : CallR X (.builtin "any") (fun xs H Q => ∃ (p : Addr) (bs : List Bool),xs = [.ref p] /\ SqL K H p (bs.map V.bl) /\ Q (.bl (bs.any id)) H) := by
  subst hK
  intro pins s σ H xs us Q I r h
  obtain ⟨p,bs,rfl,hq,q⟩ := h
  obtain ⟨u,rfl,rx⟩ := vals1 r
  cases rx
  obtain ⟨its,rv,pl,hz⟩ := I.list hq
  have e1 := bools_are rv
  subst e1
  have hl := pl.isList
  have hlt : p < s.heap.objs.size := by obtain ⟨_,e,_⟩ := hl; exact Heap.lt_size e
  refine call_any_walk (wpAny_pyIter_list hl ?_)
  refine ⟨_,_,_,_,_,_,(fun i => bs[i]?.getD false),rfl,Walks.list (A := X.A.in1) (I.ok.hd hc) _ p (Nat.ne_of_lt hlt) (bs.map Value.bool).toArray,⟨⟨_,Heap.get?_push_size _ rfl,rfl,rfl⟩,hl.push _⟩,?_,fun h' tk hk => ?_⟩
  · intro i v s' Q' E' hv hq'
    have e : bs[i]?.map Value.bool = some v := by simpa using hv
    cases hb : bs[i]? with
    | none => rw [hb] at e; cases e
    | some b =>
      rw [hb] at e
      cases e
      have hq'' : Q' (bs[i]?.getD false) s' := hq'
      rw [hb] at hq''
      exact wpAny_truthy_bool hq''
  · have ea : (List.range (bs.map Value.bool).toArray.size).any (fun i => bs[i]?.getD false) = bs.any id := by
      have := congrArg (fun l : List Bool => l.any id) (range_bools bs)
      simpa [List.any_map] using this
    rw [ea]
    refine ⟨.bl (bs.any id),H,I.kept fun b o e => hk b o (fun hm => ?_) (Heap.get?_push_of_some _ e),rfl,q⟩
    have : b = s.heap.objs.size := by simpa using hm
    exact absurd (this ▸ Heap.lt_size e) (Nat.lt_irrefl _)
end
section
variable {X : Cx}
end
end L2
set_option Elab.async false
set_option linter.all false
set_option maxRecDepth 100000
set_option maxHeartbeats 4000000
namespace L2
open PySem PySem.Spec PyProof.Rows
section
variable {prog : Program}{w : World}{A : Around}{E : Value -> Shared -> Prop}{s : Shared}
def ItAt (b : Bool)(h : Heap)(u l : Addr)(j : Nat) : Prop := match b with | false => h.IsListIter u l j | true => h.IsTupleIter u l j
def SeqAt (b : Bool)(h : Heap)(l : Addr)(xs : Array Value) : Prop := match b with | false => h.IsList l xs | true => h.IsTuple l xs
theorem ItAt.at {b : Bool}{h h' : Heap}{u l : Addr}{j : Nat}(x : ItAt b h u l j)(k : ∀ o,h.get? u = some o -> h'.get? u = some o) : ItAt b h' u l j := by
  cases b with
  | false => exact Heap.IsListIter.at x k
  | true => exact Heap.IsTupleIter.at x k
theorem SeqAt.at {b : Bool}{h h' : Heap}{l : Addr}{xs : Array Value}(x : SeqAt b h l xs)(k : ∀ o,h.get? l = some o -> h'.get? l = some o) : SeqAt b h' l xs := by
  cases b with
  | false => obtain ⟨o,e,r⟩ := x; exact ⟨o,k o e,r⟩
  | true => obtain ⟨o,e,r⟩ := x; exact ⟨o,k o e,r⟩
theorem ItAt.obj {b : Bool}{h : Heap}{u l : Addr}{j : Nat}(x : ItAt b h u l j) : ∃ o,h.get? u = some o /\ ∀ v,o.data ≠ .cell v := by
  cases b with
  | false => obtain ⟨o,e,c,d⟩ := x; exact ⟨o,e,fun v z => by rw [d] at z; cases z⟩
  | true => obtain ⟨o,e,c,d⟩ := x; exact ⟨o,e,fun v z => by rw [d] at z; cases z⟩
end
section
variable {X : Cx}{pins : List (Addr × Obj)}{σ : St}{H : Hp}{s : Shared}{h' : Heap}
theorem Inv.zipped {fp : List Addr}{T : Addr}{o : HO}{t' : Nat}(I : Inv X pins σ H s)(hf : ∀ b ∈ fp,FpOk X pins H b)(k : ∀ b o,b ∉ fp -> s.heap.get? b = some o -> h'.get? b = some o)(hT : s.heap.objs.size <= T)
    (new : ObjOk X.prog X.w (upd H T o) h' T o) : Inv X pins σ (upd H T o) { s with heap := h',toks := t' } := by
  have hn : H T = none := I.hok.fresh hT
  have ne : ∀ b u,s.heap.get? b = some u -> b ≠ T := fun b u e z => absurd (Heap.lt_size e) (by rw [z]; exact Nat.not_lt.mpr hT)
  have nfp : ∀ b u,H b = some u -> b ∉ fp := fun b u e hb => by rw [(hf b hb).1] at e; cases e
  refine I.step (g' := s.gens) (d' := s.drawn) (ch := fp) (fun b hb => ?_) (fun b o _ _ hc e _ => k b o hc e) (fun b o _ _ hc e _ => ⟨o.slots,k b o hc e⟩) (fun b u _ e n => by rw [upd_ne (ne b u e)]; exact n)
    (fun b o hc e => ⟨o,k b o hc e⟩) (fun b xs e => by rw [upd_ne (ne_of_none e hn)]; exact e) (fun b o u e => by rw [upd_ne (ne_of_none e hn)]; exact e) (fun b ps e => ⟨#[],by rw [upd_ne (ne_of_none e hn),e]; simp⟩) (fun m hm => ?_) (fun b u e => ?_) I.bare
  · obtain ⟨_,f1,_,f3,f4,f5⟩ := hf b hb
    exact ⟨f3,f1,f4,f5⟩
  · obtain ⟨o,es,ep,ho,r⟩ := hm
    exact ⟨o,es,ep,k _ o (fun hb => (hf _ hb).2.1 rfl) ho,r⟩
  · by_cases hb : b = T
    · subst hb
      rw [upd_same] at e
      cases e
      exact new
    · rw [upd_ne hb] at e
      refine (I.hok b u e).stay (fun c v hc q => k c v ?_ q) (fun c q => by rw [upd_ne (ne_of_none q hn)]; exact q) fun c xs q => by rw [upd_ne (ne_of_none q hn)]; exact q
      rcases hc with z | z
      · rw [z]; exact nfp b u e
      · exact nfp c _ z
theorem Inv.turnedL {fp : List Addr}{t' : Nat}(I : Inv X pins σ H s)(hf : ∀ b ∈ fp,FpOk X pins H b)(k : ∀ b o,b ∉ fp -> s.heap.get? b = some o -> h'.get? b = some o) : Inv X pins σ H { s with heap := h',toks := t' } := by
  have nfp : ∀ b u,H b = some u -> b ∉ fp := fun b u e hb => by rw [(hf b hb).1] at e; cases e
  refine I.step (g' := s.gens) (d' := s.drawn) (ch := fp) (fun b hb => ?_) (fun b o _ _ hc e _ => k b o hc e) (fun b o _ _ hc e _ => ⟨o.slots,k b o hc e⟩) (fun b u _ e n => n)
    (fun b o hc e => ⟨o,k b o hc e⟩) (fun b xs e => e) (fun b o u e => e) (fun b ps e => ⟨#[],by rw [e]; simp⟩) (fun m hm => ?_) (fun b u e => ?_) I.bare
  · obtain ⟨_,f1,_,f3,f4,f5⟩ := hf b hb
    exact ⟨f3,f1,f4,f5⟩
  · obtain ⟨o,es,ep,ho,r⟩ := hm
    exact ⟨o,es,ep,k _ o (fun hb => (hf _ hb).2.1 rfl) ho,r⟩
  · refine (I.hok b u e).stay (fun c v hc q => k c v ?_ q) (fun c q => q) fun c xs q => q
    rcases hc with z | z
    · rw [z]; exact nfp b u e
    · exact nfp c _ z
def SqX (K : PySem.W.Frag)(b : Bool)(H : Hp)(a : Addr)(xs : List V) : Prop := match b with | false => SqL K H a xs | true => SqT K H a xs
end
section
variable {prog : Program}{w : World}{A : Around}{E : Value -> Shared -> Prop}{s : Shared}
end
section
variable {prog : Program}{w : World}{A : Around}{E : Value -> Shared -> Prop}{s : Shared}
end
end L2
set_option Elab.async false
set_option linter.all false
set_option maxRecDepth 100000
set_option maxHeartbeats 4000000
namespace L2
open PySem PySem.Spec PyProof.Rows
section
variable {prog : Program}{w : World}{A : Around}{E : Value -> Shared -> Prop}{s : Shared}
end
section
variable {prog : Program}{w : World}{A : Around}{E : Value -> Shared -> Prop}{s : Shared}
end
section
variable {prog : Program}{w : World}{A : Around}{E : Value -> Shared -> Prop}{s : Shared}
end
end L2
set_option Elab.async false
set_option linter.all false
set_option maxRecDepth 100000
set_option maxHeartbeats 4000000
namespace L2
open PySem PySem.Spec PyProof.Rows
end L2
set_option Elab.async false
set_option linter.all false
set_option maxRecDepth 100000
set_option maxHeartbeats 4000000
namespace L2
open PySem PySem.Spec PyProof.Rows
section
variable {X : Cx}
theorem pa_ints : ∀ cs : List (Int × Nat × Pos),PA X (cs.map fun c => .Constant (.int c.1) c.2.1 c.2.2) (fun σ H Q => Q (cs.map fun c => V.int c.1) H)
  | [] => pa_nil
  | c :: cs => by
    intro pos pins s σ H Q I h
    exact pa_cons (e := .Constant (.int c.1) c.2.1 c.2.2) pe_int (pa_ints cs) (by rfl) pos pins s σ H Q I h
theorem pe_tupInts {es : List Expr}{x1}{pos : Pos}(cs : List (Int × Nat × Pos))(h : es = cs.map fun c => .Constant (.int c.1) c.2.1 c.2.2) : PE X (.Tuple es x1 pos) (tTup fun σ H Q => Q (cs.map fun c => V.int c.1) H) := by
  subst h
  exact pe_tup (pa_ints cs)
theorem pss_says {sts0 : List Stmt}{t : TS}(h : PSs X sts0 t) : ∀ {sts : List Stmt},PSs X sts (fun D σ H => sts = sts0 /\ t D σ H) := by
  intro sts pins s σ H D I q
  obtain ⟨e,q⟩ := q
  subst e
  exact h pins s σ H D I q
end
end L2
set_option Elab.async false
set_option linter.all false
set_option maxRecDepth 100000
set_option maxHeartbeats 4000000
namespace L2
open PySem PySem.Spec PyProof.Rows
section
variable {X : Cx}{pins : List (Addr × Obj)}{σ : St}{H : Hp}{s : Shared}
end
end L2
set_option Elab.async false
set_option linter.all false
set_option maxRecDepth 100000
set_option maxHeartbeats 4000000
namespace L2
open PySem PySem.Spec PyProof.Rows
section
variable {X : Cx}{pins : List (Addr × Obj)}{σ : St}{H : Hp}{s : Shared}
end
theorem sl_listK' {X : Cx}(K : PySem.W.Frag)(h : X.K = K) : SlR X (rSlL K) := by subst h; exact sl_list
end L2
set_option Elab.async false
set_option linter.all false
set_option maxRecDepth 100000
set_option maxHeartbeats 4000000
namespace L2
open PySem PySem.Spec PyProof.Rows
section
variable {X : Cx}{x : Str}{C : Addr}{bm bmN : List Value}{newId Bn inN B nid initId : String}{e0 : Expr}{rest : List Expr}{t : TA}{np cpos pos : Pos}
end
end L2
set_option Elab.async false
set_option linter.all false
set_option maxRecDepth 100000
set_option maxHeartbeats 4000000
namespace L2
open PySem PySem.Spec PyProof.Rows
section
variable {M : Model}{A : Around}{E : Value -> Shared -> Prop}{s : Shared}
end
end L2
set_option Elab.async false
set_option linter.all false
set_option maxRecDepth 100000
set_option maxHeartbeats 4000000
namespace L2
open PySem PySem.Spec PyProof.Rows
theorem ObjOk.ex {P : Program}{w : World}{H : Hp}{h : Heap}{a : Addr}{o : HO}(x : ObjOk P w H h a o) : ∃ ob,h.get? a = some ob := by
  cases o with
  | lst xs => obtain ⟨_,_,_,_,e⟩ := x; exact ⟨_,e⟩
  | tup xs => obtain ⟨_,_,_,ob,e,_⟩ := x; exact ⟨_,e⟩
  | dK kvs => obtain ⟨_,_,_,_,o,_,_,e,_⟩ := x; exact ⟨_,e⟩
  | dT kvs => obtain ⟨_,_,_,_,o,_,_,e,_⟩ := x; exact ⟨_,e⟩
  | set S n => obtain ⟨o,_,_,_,e,_⟩ := x; exact ⟨_,e⟩
  | ins C dx fs => obtain ⟨_,_,_,e,_⟩ := x; exact ⟨_,e⟩
  | own y => exact x
  | xd fs => obtain ⟨_,⟨_,_,_,e,_⟩,_⟩ := x; exact ⟨_,e⟩
  | rng lo hi => obtain ⟨_,_,_,e⟩ := x; exact ⟨_,e⟩
  | frz ob u => obtain ⟨e,_⟩ := x; exact ⟨_,e⟩
  | tbl ps => exact ⟨_,(show h.get? a = some _ from x)⟩
  | cod q => obtain ⟨_,e,_⟩ := x; exact ⟨_,e⟩
  | met f y => exact ⟨_,(show h.get? a = some _ from x)⟩
  | ext φ => obtain ⟨_,e,_⟩ := x; exact e
def Exd (H : Hp)(base g h : Heap)(x C : Addr) : Prop := H x = none /\ base.get? x = none /\ g.get? x = none /\ ∃ ox vs T oT ts,h.get? x = some ox /\ ox.cls = .ref C /\ ox.dict = none /\ ox.data = .fields vs /\ vs[1]? = some (.ref T) /\ vs[2]? = some .none /\
  T ≠ x /\ H T = none /\ base.get? T = none /\ g.get? T = none /\ h.get? T = some oT /\ oT.data = .fields ts /\ ts[3]? = some .none
def CX1 (P : Program)(w : World)(base : Heap) : CXT := fun outer H s E e s' => ∃ (x C : Addr) (H' : Hp),e = .ref x /\ s'.os = s.os /\ AllBare s'.gens /\ Un (frs outer) [] H H' s.heap s'.heap /\ HOk P w H' s'.heap /\ Exd H' base s.heap s'.heap x C /\ E (.ref C) none H'
end L2
set_option Elab.async false
set_option linter.all false
set_option maxRecDepth 100000
set_option maxHeartbeats 4000000
namespace L2
open PySem PySem.Spec PyProof.Rows
theorem Fun.okX {P : Program}{w : World}{K : PySem.W.Frag}{mg : Str -> Option Value}{base : Heap}{CX : CXT}{x qual : Str}{st : Stmt}{f : Addr}{fd : FuncData}{N ps : List Str}{k : Nat}{sp : Sp}(F : Fun K x qual st f fd)(S : FnScope N ps (defScope st))(len : ∀ vs H Q E,sp vs H Q E -> vs.length = ps.length)
    (hbody : ∀ (cdv : Value) (A : Around) (outer : List Env) (s : Shared) (H : Hp) (vs : List V) (Q : VK) (E : XK),Room k (A.deeper (envOfC qual (defScope st) s.heap.objs.size f cdv)) -> sp vs H Q E ->
      ∃ t,PSs (cxOf CX P w K mg base N qual (defScope st) f cdv A outer s H E) (defBody st) t /\ t { nx := fun _ H' => Q .non H',rt := Q } (start N vs) H) : FnOk P w K mg base CX (k + 1) f fd ps sp := by
  obtain ⟨oc,od,kV,doc,pm,an,cdv,ct,osl,rfl,lk,hcd⟩ := F.ex
  exact fn_of lk hcd S len fun A outer s H vs Q E hr hsp => hbody cdv A outer s H vs Q E hr hsp
theorem pe_ownX {X : Cx}{CX : CXT}{k : Nat}{ps : List Str}{sp : Sp}{E : XK}{x : Str}{p pos : Pos}{e : Expr}{es : List Expr}{t : TA}(hp : Passes CX X E)(G : Callee X.prog X.w X.K X.mg X.base CX x k ps sp)(hr : Room k X.A)(hg : Gl X x)(ha : PA X (e :: es) t)
    (hdb : (x == ("__debug__" : Str)) = false := by decide) (he : starEach (e :: es) X.env = (false,eval e X.env) :: starEach es X.env := by rfl) (hpl : (backTo pos (starEach es X.env)).any (·.1) = false := by rfl) : PE X (.Call (.Name x p) (e :: es) [] pos) (tCall sp [] E t) := by
  obtain ⟨f,fd,F,hm,hk,hb⟩ := G.ex
  exact pe_call F hr hg hm hk hb .nil hp ha hdb he hpl
end L2
set_option Elab.async false
set_option linter.all false
set_option maxRecDepth 100000
set_option maxHeartbeats 4000000
namespace L2
open PySem PySem.Spec PyProof.Rows
section
variable {prog : Program}{w : World}{A : Around}{E : Value -> Shared -> Prop}{s : Shared}
end
end L2
set_option Elab.async false
set_option linter.all false
set_option maxRecDepth 100000
set_option maxHeartbeats 4000000
namespace L2
open PySem PySem.Spec PyProof.Rows
def ExcO (x C : Addr) : HO := .ext fun h => ∃ (ox : Obj) (vs : Array Value),h.get? x = some ox /\ ox.cls = .ref C /\ ox.dict = none /\ ox.data = .fields vs /\ vs[2]? = some .none
theorem ExcO.ok {P : Program}{w : World}{H : Hp}{h : Heap}{x C : Addr}{ox : Obj}{vs : Array Value}(e : h.get? x = some ox)(c : ox.cls = .ref C)(d : ox.dict = none)(f : ox.data = .fields vs)(v : vs[2]? = some .none) : ObjOk P w H h x (ExcO x C) :=
  ⟨⟨ox,vs,e,c,d,f,v⟩,⟨ox,e⟩,fun h1 h2 ⟨ox',vs',e',c',d',f',v'⟩ k => ⟨ox',vs',k _ e',c',d',f',v'⟩⟩
section
variable {X : Cx}{tg : Expr}
end
section
variable {X : Cx}{elt iter tg : Expr}{ifs : List Expr}{scope : Scope}{pos : Pos}{N' : List Str}{map : List (Option Nat)}{wi : TI}{g : TG}{tt : TT}{te : TE}
end
end L2
set_option Elab.async false
set_option linter.all false
set_option maxRecDepth 100000
set_option maxHeartbeats 4000000
namespace L2
open PySem PySem.Spec PyProof.Rows
end L2
set_option Elab.async false
set_option linter.all false
set_option maxRecDepth 100000
set_option maxHeartbeats 4000000
namespace L2
open PySem PySem.Spec PyProof.Rows
section
variable {prog : Program}{w : World}{A : Around}{E : Value -> Shared -> Prop}{s : Shared}{K : PySem.W.Frag}{x C D : Addr}{ox : Obj}{T : String}{Q : Value -> Shared -> Prop}
end
section
variable {X : Cx}
end
end L2
set_option Elab.async false
set_option linter.all false
set_option maxRecDepth 100000
set_option maxHeartbeats 4000000
namespace L2
open PySem PySem.Spec PyProof.Rows
abbrev Cx.re (X : Cx)(E : Value -> Shared -> Prop)(pn : List (Addr × Obj)) : Cx := { X with xe := E,pn := pn }
section
variable {X : Cx}{pins pl : List (Addr × Obj)}{σ : St}{H : Hp}{s : Shared}{E : Value -> Shared -> Prop}{x : Addr}
end
end L2
set_option Elab.async false
set_option linter.all false
set_option maxRecDepth 100000
set_option maxHeartbeats 4000000
namespace L2
open PySem PySem.Spec PyProof.Rows
theorem pass10 {P : Program}{w : World}{base : Heap}{X : Cx} : Passes (CX1 P w base) X E0 := fun _ _ _ _ _ _ _ h => by
  obtain ⟨_,_,_,_,_,_,_,_,_,q⟩ := h
  exact q.elim
section
variable {X : Cx}
end
end L2
set_option Elab.async false
set_option linter.all false
set_option maxRecDepth 100000
set_option maxHeartbeats 4000000
namespace L2
open PySem PySem.Spec PyProof.Rows
section
variable {M : Model}{A : Around}{E : Value -> Shared -> Prop}{s : Shared}
end
section
variable {P : Program}{w : World}{K : PySem.W.Frag}{mg : Str -> Option Value}{base : Heap}{N : List Str}{qual : Str}{scope : Scope}{f : Addr}{cd : Value}{A : Around}{outer : List Env}{s : Shared}{H : Hp}{E : XK}
end
end L2
set_option Elab.async false
set_option linter.all false
set_option maxRecDepth 100000
set_option maxHeartbeats 4000000
namespace L2
open PySem PySem.Spec PyProof.Rows
abbrev nSet (led : Bool) : Obj := { cls := .type "set",dict := none,data := .set #[] 0 (.fresh 0 0 led) }
abbrev met (ns : List Int)(k : Nat) : List Int := firstMet (fun i => ns.getD i 0) k
section
variable {prog : Program}{w : World}{A : Around}{E : Value -> Shared -> Prop}{s : Shared}
end
end L2
set_option Elab.async false
set_option linter.all false
set_option maxRecDepth 100000
set_option maxHeartbeats 4000000
namespace L2
open PySem PySem.Spec PyProof.Rows
def Asc (xs : Array Nat) : Prop := xs.toList.Pairwise (· < ·)
theorem Asc.lt {xs : Array Nat}(h : Asc xs){i j : Nat}(hij : i < j)(hj : j < xs.size) : xs[i]'(by omega) < xs[j] := by
  have := List.pairwise_iff_getElem.mp h i j (by simp; omega) (by simpa using hj) hij
  simpa using this
theorem below_spec {xs : Array Nat}(h : Asc xs)(j : Nat) : SetTable.below xs j <= xs.size /\ (∀ i (hi : i < xs.size),i < SetTable.below xs j -> xs[i] < j) /\ ∀ i (hi : i < xs.size),SetTable.below xs j <= i -> j <= xs[i] := by
  have go : ∀ fuel lo hi,lo <= hi -> hi <= xs.size -> hi - lo <= fuel -> (∀ i (q : i < xs.size),i < lo -> xs[i] < j) -> (∀ i (q : i < xs.size),hi <= i -> j <= xs[i]) ->
      SetTable.below.go xs j fuel lo hi <= xs.size /\ (∀ i (q : i < xs.size),i < SetTable.below.go xs j fuel lo hi -> xs[i] < j) /\ ∀ i (q : i < xs.size),SetTable.below.go xs j fuel lo hi <= i -> j <= xs[i] := by
    intro fuel
    induction fuel with
    | zero =>
      intro lo hi h1 h2 h3 h4 h5
      have : lo = hi := by omega
      subst this
      exact ⟨h2,h4,h5⟩
    | succ fuel ih =>
      intro lo hi h1 h2 h3 h4 h5
      unfold SetTable.below.go
      by_cases hl : lo < hi
      · rw [if_pos hl]
        have hm : (lo + hi) / 2 < xs.size := by omega
        have hg : xs.getD ((lo + hi) / 2) j = xs[(lo + hi) / 2] := by simp [Array.getD,hm]
        dsimp only
        rw [hg]
        by_cases hx : xs[(lo + hi) / 2] < j
        · rw [if_pos hx]
          refine ih _ _ (by omega) h2 (by omega) (fun i q hi' => ?_) h5
          by_cases e : i = (lo + hi) / 2
          · subst e; exact hx
          · exact Nat.lt_trans (h.lt (show i < (lo + hi) / 2 by omega) hm) hx
        · rw [if_neg hx]
          refine ih _ _ (by omega) (by omega) (by omega) h4 fun i q hi' => ?_
          by_cases e : i = (lo + hi) / 2
          · subst e; omega
          · have := h.lt (show (lo + hi) / 2 < i by omega) q
            omega
      · rw [if_neg hl]
        have : lo = hi := by omega
        subst this
        exact ⟨h2,h4,h5⟩
  unfold SetTable.below
  exact go xs.size 0 xs.size (Nat.zero_le _) (Nat.le_refl _) (by omega) (fun i _ z => absurd z (Nat.not_lt_zero i)) fun i q z => absurd q (by omega)
theorem below_next {xs : Array Nat}(h : Asc xs){i : Nat}(hi : i < xs.size) : SetTable.below xs (xs[i] + 1) = i + 1 := by
  obtain ⟨b1,b2,b3⟩ := below_spec h (xs[i] + 1)
  generalize SetTable.below xs (xs[i] + 1) = k at *
  rcases Nat.lt_trichotomy k (i + 1) with z | z | z
  · have := b3 i hi (by omega); omega
  · exact z
  · have a := b2 (i + 1) (by omega) (by omega)
    have b := h.lt (show i < i + 1 by omega) (show i + 1 < xs.size by omega)
    omega
theorem below_zero {xs : Array Nat}(h : Asc xs) : SetTable.below xs 0 = 0 := by
  obtain ⟨b1,b2,b3⟩ := below_spec h 0
  generalize SetTable.below xs 0 = k at *
  rcases Nat.eq_zero_or_pos k with z | z
  · exact z
  · have := b2 0 (by omega) z; omega
theorem asc_put {t : SetTable}{j : Nat}(h : Asc t.place)(hn : t.place[SetTable.below t.place j]? ≠ some j) : Asc (t.put j).1.place := by
  obtain ⟨b1,b2,b3⟩ := below_spec h j
  show Asc (SetTable.insertAt t.place (SetTable.below t.place j) j)
  generalize t.place = xs at *
  generalize SetTable.below xs j = k at *
  unfold Asc
  rw [SetTable.toList_insertAt]
  have e1 : ∀ x ∈ xs.toList.take k,x < j := fun x hx => by
    obtain ⟨i,hi,rfl⟩ := List.mem_iff_getElem.mp hx
    rw [List.length_take] at hi
    have hs : i < xs.size := by have : xs.toList.length = xs.size := Array.length_toList; omega
    have := b2 i hs (by omega)
    simpa using this
  have e2 : ∀ x ∈ xs.toList.drop k,j < x := fun x hx => by
    obtain ⟨i,hi,rfl⟩ := List.mem_iff_getElem.mp hx
    rw [List.length_drop] at hi
    have hs : k + i < xs.size := by have : xs.toList.length = xs.size := Array.length_toList; omega
    have a := b3 (k + i) hs (by omega)
    have b : xs[k + i] ≠ j := by
      intro z
      by_cases i0 : i = 0
      · subst i0
        refine hn ?_
        have hk : k < xs.size := by omega
        rw [Array.getElem?_eq_getElem hk]
        simpa using z
      · have hk : k < xs.size := by omega
        have c := h.lt (show k < k + i by omega) hs
        have d := b3 k hk (Nat.le_refl _)
        omega
    simp only [List.getElem_drop,Array.getElem_toList]
    omega
  have hp : xs.toList.Pairwise (· < ·) := h
  rw [<- List.take_append_drop k xs.toList] at hp
  obtain ⟨p1,p2,p3⟩ := List.pairwise_append.mp hp
  refine List.pairwise_append.mpr ⟨p1,List.pairwise_cons.mpr ⟨e2,p2⟩,fun a ha b hb => ?_⟩
  rcases List.mem_cons.mp hb with z | z
  · rw [z]; exact e1 a ha
  · exact Nat.lt_trans (e1 a ha) (e2 b z)
theorem live_filter (g : Nat -> Option Nat) : ∀ l : List Nat,((l.filterMap fun j => (g j).map (j,·)).map (·.1)) = l.filter fun j => (g j).isSome
  | [] => rfl
  | a :: l => by
    have := live_filter g l
    rw [List.filterMap_cons,List.filter_cons]
    cases g a with
    | none => simpa using this
    | some b => simpa using this
structure Tb (w : World)(t : SetTable) : Prop where
  dum : t.dummies = #[]
  led : w.params.followText "set-order" = false -> t.led = true
  asc : t.plain = true -> Asc t.place
theorem Tb.standIn {w : World}{t : SetTable}(h : Tb w t)(n : Nat) : Tb w (t.standIn n) := ⟨rfl,h.led,fun z => by cases z⟩
theorem Tb.fresh (w : World) : Tb w (.fresh 0 0 (!w.params.followText "set-order")) := ⟨rfl,fun z => by simp [SetTable.fresh,z],fun _ => by simp [SetTable.fresh,Asc]⟩
theorem relaid_tb {w : World}{t t' : SetTable}{hs : Array Int}{n : Nat}{o : Array Nat}(h : Tb w t)(e : t.relaid hs n = some (t',o)) : Tb w t' := by
  unfold SetTable.relaid SetTable.laid at e
  cases q : SetTable.layClean (SetTable.sizeAbove n - 1) hs with
  | none => rw [q] at e; cases e
  | some owner =>
    rw [q] at e
    simp only [Option.bind_eq_bind,Option.bind_some] at e
    cases e
    refine ⟨rfl,h.led,fun _ => ?_⟩
    unfold Asc
    simp only [List.toList_toArray]
    rw [live_filter]
    exact List.Pairwise.filter _ List.pairwise_lt_range
theorem relayAll_tb {w : World}{t : SetTable}{es : Array (Int × Value)}{n : Nat}(h : Tb w t) : Tb w (relayAll t es n).2.1 := by
  unfold relayAll
  cases q : t.relaid (es.map (·.1)) n with
  | none => exact h.standIn _
  | some r =>
    obtain ⟨t',o⟩ := r
    dsimp only
    split
    · exact relaid_tb h q
    · exact h.standIn _
theorem probe_go {t : SetTable}{hashAt : Nat -> Int}{h : Int}(hd : t.dummies = #[]) : ∀ (fuel : Nat) (p : SetTable.Probe) (j : Nat) (d : Option Nat),p.dummy = none -> SetTable.probe.go t hashAt h fuel p = some (.empty j d) -> d = none /\ t.slot j = .empty
  | 0,p,j,d,_,e => by cases e
  | fuel + 1,p,j,d,hp,e => by
    unfold SetTable.probe.go at e
    cases q : t.slot p.j with
    | empty =>
      rw [q] at e
      simp only [Option.some.injEq,SetTable.Met.empty.injEq] at e
      obtain ⟨rfl,rfl⟩ := e
      exact ⟨hp,q⟩
    | dummy =>
      exfalso
      unfold SetTable.slot at q
      dsimp only at q
      split at q
      · cases q
      · rw [hd] at q
        simp [SetTable.has] at q
    | live i =>
      rw [q] at e
      dsimp only at e
      split at e
      · cases e
      · refine probe_go hd fuel _ j d ?_ e
        unfold SetTable.advance
        split
        · exact hp
        · exact hp
theorem layNew_tb {w : World}{t : SetTable}{es : Array (Int × Value)}{h : Int}{x : Value}(H : Tb w t) : Tb w (layNew t es h x).2.1 := by
  unfold layNew
  cases q : t.freeSlot h with
  | none => exact H.standIn _
  | some r =>
    obtain ⟨slot,wd⟩ := r
    dsimp only
    have hs : t.place[SetTable.below t.place slot]? ≠ some slot := by
      unfold SetTable.freeSlot SetTable.probe at q
      split at q
      · rename_i j d e
        obtain ⟨rfl,z⟩ := probe_go H.dum _ _ _ _ rfl e
        simp only [Option.getD_none,Option.isSome_none,Option.some.injEq,Prod.mk.injEq] at q
        rw [<- q.1]
        intro k
        unfold SetTable.slot at z
        dsimp only at z
        rw [k] at z
        simp at z
      · cases q
    have tp : Tb w (t.put slot).1 := by
      refine ⟨?_,H.led,fun z => asc_put (H.asc z) hs⟩
      show (if SetTable.has t.dummies slot then _ else t.dummies) = _
      rw [H.dum]
      simp [SetTable.has]
    unfold SetTable.orStandIn
    split
    · exact tp
    · exact tp.standIn _
end L2
set_option Elab.async false
set_option linter.all false
set_option maxRecDepth 100000
set_option maxHeartbeats 4000000
namespace L2
open PySem PySem.Spec PyProof.Rows
def iv : Value -> Int
  | .int n _ => n
  | _ => 0
theorem iv_is {k : Int}{v : Value}(h : Value.isInt k v = true) : iv v = k /\ ∃ t,v = .int k t := by
  obtain ⟨t,rfl⟩ := Value.isInt_shape h
  exact ⟨rfl,t,rfl⟩
abbrev nums (es : Array (Int × Value)) : List Int := es.toList.map fun e => iv e.2
structure ISo (prog : Program)(w : World)(ns : List Int)(o : Obj)(es : Array (Int × Value))(ep : Nat)(t : SetTable) : Prop where
  ex : o.ExactSet
  da : o.data = .set es ep t
  el : ElemsOf (intKind prog w) es.toList
  nd : (nums es).Nodup
  me : ∀ z,z ∈ nums es ↔ z ∈ ns
  sz : es.size <= ns.length
  ft : t.fits es.size = true
  tb : Tb w t
structure WSo (w : World)(o : Obj)(es : Array (Int × Value))(ep : Nat)(t : SetTable) : Prop where
  ex : o.ExactSet
  da : o.data = .set es ep t
  ft : t.fits es.size = true
  tb : Tb w t
theorem ISo.w {prog : Program}{w : World}{ns : List Int}{o : Obj}{es : Array (Int × Value)}{ep : Nat}{t : SetTable}(I : ISo prog w ns o es ep t) : WSo w o es ep t := ⟨I.ex,I.da,I.ft,I.tb⟩
def ISet (prog : Program)(w : World)(ns : List Int)(a : Addr)(h : Heap) : Prop := ∃ o es ep t,h.get? a = some o /\ ISo prog w ns o es ep t
section
variable {prog : Program}{w : World}{A : Around}{E : Value -> Shared -> Prop}{s : Shared}{ns : List Int}{a : Addr}
theorem put_get {h : Heap}{o : Obj}{es es' : Array (Int × Value)}{ep : Nat}{t t' : SetTable}(g : h.get? a = some o)(d : o.data = .set es ep t) : (h.update a (Obj.putSet es' t')).get? a = some { o with data := .set es' (ep + 1) t' } := by
  have q := Heap.get?_update_self (Obj.putSet es' t') g (by rw [putSet_of es' t' d]; rfl)
  rwa [putSet_of es' t' d] at q
theorem setAdd_i {n : Int}{k : Tok}{Q : Bool -> Shared -> Prop}(hS : ISet prog w ns a s.heap)(hl : ns.length <= 2000)
    (fin : ∀ r h',Heap.SameBut a s.heap h' -> ISet prog w (ns ++ [n]) a h' -> Q r { s with heap := h',toks := s.toks + 1 }) : wpAny (model prog w) A (setAdd a (.int n k)) Q E s := by
  obtain ⟨o,es,ep,t,g,I⟩ := hS
  have key : (intKind prog w).is n (.int n k) = true := by simp [intKind,Value.isInt]
  have sc : (Value.int n k).scannable = true := rfl
  have sb : es.size < scanBound := by have := I.sz; show es.size < 4096; omega
  unfold setAdd
  refine wpAny_holding (wpAny_bind ((intKind prog w).pyHash key ?_))
  generalize hs1 : ({ s with toks := s.toks + 1 } : Shared) = s1
  have g1 : s1.heap.get? a = some o := by rw [<- hs1]; exact g
  have fin' : ∀ r h',Heap.SameBut a s1.heap h' -> ISet prog w (ns ++ [n]) a h' -> Q r { s1 with heap := h' } := fun r h' x y => by
    subst hs1
    exact fin r h' x y
  unfold setAddHashed setAddHashedIn
  refine wpAny_holding (wpAny_bind (wpAny_setState_of g1 I.da I.ft ?_))
  dsimp only
  rw [byScan_of sc sb I.el,if_pos rfl]
  unfold setAddByScan
  refine wpAny_bind (wpAny_bind (wpAny_rule (wpAny_bind (wpAny_setScan_of key g1 I.da I.ft I.el ?_))))
  cases hr : List.findIdx? (fun e => (intKind prog w).is n e.2) es.toList with
  | some j =>
    obtain ⟨hj,hp,_⟩ := List.findIdx?_eq_some_iff_getElem.mp hr
    have mem : n ∈ nums es := List.mem_map.mpr ⟨_,List.getElem_mem hj,(iv_is hp).1⟩
    dsimp only
    refine wpAny_pure (wpAny_pure ?_)
    have e1 : s1 = { s1 with heap := s1.heap } := by cases s1; rfl
    rw [e1]
    refine fin' _ s1.heap (Heap.SameBut.refl a s1.heap) ⟨o,es,ep,t,g1,I.ex,I.da,I.el,I.nd,fun z => ?_,by have := I.sz; rw [List.length_append]; omega,I.ft,I.tb⟩
    rw [I.me z,List.mem_append,List.mem_singleton]
    exact ⟨.inl,fun q => q.elim id fun e => by rw [e]; exact (I.me n).mp mem⟩
  | none =>
    have nm : n ∉ nums es := fun z => by
      obtain ⟨e,he,q⟩ := List.mem_map.mp z
      obtain ⟨⟨m,hm,_⟩,_⟩ := I.el e he
      have hm : Value.isInt m e.2 = true := hm
      have := (iv_is hm).1
      rw [this] at q
      subst q
      have := List.findIdx?_eq_none_iff.mp hr e he
      rw [show (intKind prog w).is m e.2 = true from hm] at this
      cases this
    dsimp only
    have gw : ∀ (b : Bool) {s₁ : Shared} {Q' : Unit -> Shared -> Prop},Q' () s₁ -> wpAny (model prog w) A (match b with | true => rule "set.scan.the-table-gave-way" | false => pure ()) Q' E s₁ := fun b s₁ Q' q => by
      cases b
      · exact wpAny_pure q
      · exact wpAny_rule q
    have pm := layNew_perm t es ((intKind prog w).hash n) (.int n k)
    have lf := layNew_fits t es ((intKind prog w).hash n) (.int n k)
    have lt := layNew_tb (es := es) (h := (intKind prog w).hash n) (x := .int n k) I.tb
    generalize layNew t es ((intKind prog w).hash n) (.int n k) = L at pm lf lt ⊢
    obtain ⟨es1,t1,wd,gv⟩ := L
    dsimp only at pm lf lt ⊢
    have J : ∀ {es2 : Array (Int × Value)} {ep2 : Nat} {t2 : SetTable},es2.toList.Perm es1.toList -> t2.fits es2.size = true -> Tb w t2 -> ISo prog w (ns ++ [n]) { o with data := .set es2 ep2 t2 } es2 ep2 t2 := fun {es2 ep2 t2} p f b => by
      have p2 : es2.toList.Perm (es.toList ++ [((intKind prog w).hash n,.int n k)]) := by rw [<- Array.toList_push]; exact p.trans pm
      have pn : (nums es2).Perm (nums es ++ [n]) := by
        have := p2.map fun e => iv e.2
        rwa [List.map_append] at this
      refine ⟨I.ex,rfl,(I.el.push key sc).perm p2,pn.nodup_iff.mpr ?_,fun z => ?_,?_,f,b⟩
      · rw [List.nodup_append]
        refine ⟨I.nd,by simp,fun x hx y hy e => ?_⟩
        rw [List.mem_singleton] at hy
        subst hy; subst e
        exact nm hx
      · rw [pn.mem_iff,List.mem_append,List.mem_append,I.me z]
      · have := p2.length_eq
        rw [Array.length_toList,List.length_append,Array.length_toList] at this
        have h2 := I.sz
        rw [List.length_append]
        simp only [List.length_cons,List.length_nil] at this ⊢
        omega
    have z1 : es1.size <= 4000 := by
      have := (J (ep2 := 0) (List.Perm.refl _) lf lt).sz
      rw [List.length_append] at this
      simp only [List.length_cons,List.length_nil] at this
      omega
    refine wpAny_bind (gw _ ?_)
    have tail : wpAny (model prog w) A (do
        storeSet a es1 t1
        if (!wd && t1.tooFull) = true then do
          (match (relayAll t1 es1 (SetTable.grown es1.size)).2.2 with | true => rule "set.scan.the-table-gave-way" | false => pure ())
          storeSet a (relayAll t1 es1 (SetTable.grown es1.size)).1 (relayAll t1 es1 (SetTable.grown es1.size)).2.1
          pure (some true)
        else pure (some true)) (fun r s' => r = some true /\ ∃ h',s' = { s1 with heap := h' } /\ Heap.SameBut a s1.heap h' /\ ISet prog w (ns ++ [n]) a h') E s1 := by
      refine wpAny_bind (wpAny_storeSet_of g1 I.da ?_ (by rw [sizeLine_eq]; omega))
      have g2 := put_get (es' := es1) (t' := t1) g1 I.da
      have sb2 := Heap.SameBut.update s1.heap a (Obj.putSet es1 t1)
      split
      · have rp := relayAll_perm t1 es1 (SetTable.grown es1.size)
        have rf := relayAll_fits t1 es1 (SetTable.grown es1.size)
        have rt := relayAll_tb (es := es1) (n := SetTable.grown es1.size) lt
        generalize relayAll t1 es1 (SetTable.grown es1.size) = R at rp rf rt ⊢
        obtain ⟨es2,t2,gv2⟩ := R
        dsimp only at rp rf rt ⊢
        have z2 : es2.size = es1.size := by rw [<- Array.length_toList,rp.length_eq,Array.length_toList]
        refine wpAny_bind (gw _ (wpAny_bind (wpAny_storeSet_of g2 rfl ?_ (by rw [sizeLine_eq]; omega))))
        exact wpAny_pure ⟨rfl,_,rfl,sb2.trans (Heap.SameBut.update _ a _),_,_,_,_,put_get g2 rfl,J rp rf rt⟩
      · exact wpAny_pure ⟨rfl,_,rfl,sb2,_,_,_,_,g2,J (List.Perm.refl _) lf lt⟩
    have tl2 : wpAny (model prog w) A (do
        storeSet a es1 t1
        if (!wd && t1.tooFull) = true then do
          (match (relayAll t1 es1 (SetTable.grown es1.size)).2.2 with | true => rule "set.scan.the-table-gave-way" | false => pure ())
          storeSet a (relayAll t1 es1 (SetTable.grown es1.size)).1 (relayAll t1 es1 (SetTable.grown es1.size)).2.1
          pure (some true)
        else pure (some true)) (fun r s' => wpAny (model prog w) A (match r with | some added => pure added | none => setAddHashedIn a (.int n k) ((intKind prog w).hash n) 99999) Q E s') E s1 := wpAny_mono tail (fun r s' ⟨e,h',e2,x,y⟩ => by subst e; subst e2; exact wpAny_pure (fin' _ h' x y)) fun _ _ z => z
    split
    · refine wpAny_bind ?_
      rw [hashByValue_scannable 8 sc]
      refine wpAny_pure ?_
      exact tl2
    · refine wpAny_bind (wpAny_pure ?_)
      exact tl2
end
end L2
set_option Elab.async false
set_option linter.all false
set_option maxRecDepth 100000
set_option maxHeartbeats 4000000
namespace L2
open PySem PySem.Spec PyProof.Rows
theorem sit_slot : Slot "set_iterator" "__next__" "set_iterator.__next__" :=
  .of (owner := "set_iterator") (n := "__next__") (by rw [typeLookup_type,builtinLookup_eq_fast]; kernel_rfl) (by decide +kernel) (by decide +kernel) (by decide +kernel) (by first | exact .inl (by decide +kernel) | exact .inr (by decide +kernel)) (by rw [isSubtype_type]; kernel_rfl)
theorem sit_self : Slot "set_iterator" "__iter__" "set_iterator.__iter__" :=
  .of (owner := "set_iterator") (n := "__iter__") (by rw [typeLookup_type,builtinLookup_eq_fast]; kernel_rfl) (by decide +kernel) (by decide +kernel) (by decide +kernel) (by first | exact .inl (by decide +kernel) | exact .inr (by decide +kernel)) (by rw [isSubtype_type]; kernel_rfl)
theorem sit_entry : entryFor table "set_iterator.__next__" = some Builtin.«set_iterator.__next__» := entryFor_of_fast (by kernel_rfl)
theorem sit_args (a : Value) : argsOk "set_iterator.__next__" ⟨[a],[]⟩ := by unfold argsOk; kernel_rfl
theorem sie_entry : entryFor table "set.__iter__" = some Builtin.«frozenset.__iter__» := entryFor_alias (id' := "frozenset.__iter__") (by kernel_rfl) rfl (by decide +kernel) (by kernel_rfl)
theorem erase_perm {α : Type} : ∀ (l : List α) (i : Nat) (hi : i < l.length),(l[i] :: l.eraseIdx i).Perm l
  | [],i,hi => absurd hi (Nat.not_lt_zero i)
  | x :: xs,0,hi => List.Perm.refl _
  | x :: xs,i + 1,hi => (List.Perm.swap ..).trans (List.Perm.cons _ (erase_perm xs i (Nat.lt_of_succ_lt_succ hi)))
section
variable {prog : Program}{w : World}{A : Around}{E : Value -> Shared -> Prop}{s : Shared}
theorem wpAny_choose {src : Source}{n : Nat}{Q : Nat -> Shared -> Prop}(hn : n ≠ 0)(h : ∀ i d,i < n -> Q i { s with drawn := d }) : wpAny (model prog w) A (choose src n) Q E s := fun Γ p _ => by
  show n ≠ 0 /\ _
  exact ⟨hn,h _ _ (Nat.mod_lt _ (Nat.pos_of_ne_zero hn))⟩
theorem wpAny_drawOrder {α : Type} : ∀ (n : Nat) (xs : List α) (s : Shared) {Q : List α -> Shared -> Prop},xs.length = n -> (∀ l d,l.Perm xs -> Q l { s with drawn := d }) -> wpAny (model prog w) A (drawOrder n xs) Q E s
  | 0,xs,s,Q,hl,h => by
    have : xs = [] := List.length_eq_zero_iff.mp hl
    subst this
    exact wpAny_pure (h [] s.drawn (List.Perm.refl _))
  | n + 1,[],s,Q,hl,h => by cases hl
  | n + 1,x :: xs,s,Q,hl,h => by
    refine wpAny_bind (wpAny_choose (by simp) fun i d hi => ?_)
    have e : (x :: xs)[i]? = some ((x :: xs)[i]'hi) := List.getElem?_eq_getElem hi
    rw [e]
    dsimp only
    refine wpAny_bind (wpAny_drawOrder n _ _ (by rw [List.length_eraseIdx_of_lt hi]; omega) fun l d' p => wpAny_pure ?_)
    exact h _ d' (List.Perm.trans (List.Perm.cons _ p) (erase_perm _ _ hi))
end
theorem pick_perm {α : Type}(next : Nat -> Nat) : ∀ (f k : Nat) (l : List α) (o : Array α),l.length <= f -> (pickOrder.go next f k l o).toList.Perm (o.toList ++ l)
  | 0,k,l,o,h => by
    have : l = [] := List.length_eq_zero_iff.mp (by omega)
    subst this
    simp [pickOrder.go]
  | f + 1,k,l,o,h => by
    unfold pickOrder.go
    by_cases hl : l.length = 0
    · have : l = [] := List.length_eq_zero_iff.mp hl
      subst this
      simp
    · have hi : next k % l.length < l.length := Nat.mod_lt _ (by omega)
      rw [List.getElem?_eq_getElem hi]
      dsimp only
      refine (pick_perm next f (k + 1) _ _ (by rw [List.length_eraseIdx_of_lt hi]; omega)).trans ?_
      rw [Array.toList_push,List.append_assoc]
      exact List.Perm.append_left _ (erase_perm _ _ hi)
end L2
set_option Elab.async false
set_option linter.all false
set_option maxRecDepth 100000
set_option maxHeartbeats 4000000
namespace L2
open PySem PySem.Spec PyProof.Rows
abbrev byT (w : World) : Bool := w.params.followText "set-order"
abbrev sitO (first : Value)(i : Nat)(a : Addr)(n ep : Nat) : Obj := { cls := .type "set_iterator",data := .fields #[first,.int i 0,.ref a,.int n 0,.int ep 0] }
inductive Way (w : World)(a : Addr)(es : Array (Int × Value))(ep : Nat)(t : SetTable)(ord : List (Int × Value))(fx : List Addr)(h : Heap)(i : Nat)(first : Value) : Prop
  | text (k : Nat) (b : byT w = true) (f : first = .int k 0) (o : ord = (pickOrder (w.params.setOrder a ep) es).toList)
  | place (k : Nat) (b : byT w = false) (d : (!t.plain && decide (es.size > 1)) = false) (c : Asc t.place) (f : first = .int k 0) (e : SetTable.below t.place k = i) (o : ord = es.toList)
  | drawn (p : Addr) (ps : List Nat) (b : byT w = false) (d : (!t.plain && decide (es.size > 1)) = true) (f : first = .ref p) (m : p ∈ fx) (q : h.get? p = some { cls := .type "tuple",data := .seq (ps.map fun x : Nat => Value.int (x : Int) 0).toArray 0 }) (o : ps.map (fun x => es[x]?) = ord.map some)
section
variable {prog : Program}{w : World}{A : Around}{E : Value -> Shared -> Prop}{s : Shared}{a it : Addr}{o : Obj}{es : Array (Int × Value)}{ep : Nat}{t : SetTable}{ns : List Int}{ord : List (Int × Value)}{fx : List Addr}{i : Nat}{first : Value}
theorem walk_text (b : byT w = true)(g : s.heap.get? a = some o)(d : o.data = .set es ep t)(f : t.fits es.size = true){Q : Array (Int × Value) -> Shared -> Prop}(h : Q (pickOrder (w.params.setOrder a ep) es) s) : wpAny (model prog w) A (setWalk a) Q E s := by
  unfold setWalk setsByText
  refine wpAny_bind (wpAny_setState_of g d f ?_)
  dsimp only
  refine wpAny_bind (wpAny_bind (wpAny_askSetting (wpAny_pure ?_)))
  rw [show (model prog w).w.params.followText "set-order" = true from b,if_pos rfl]
  exact wpAny_bind (wpAny_askSetting (wpAny_pure h))
theorem set_field {f0 f1 : Value}{k : Nat}{v : Value}{fs : Array Value}{Q : Unit -> Shared -> Prop}(gi : s.heap.get? it = some { cls := .type "set_iterator",data := .fields fs }) (hk : k < fs.size)
    (h : ∀ h',Heap.SameBut it s.heap h' -> h'.get? it = some { cls := .type "set_iterator",data := .fields (fs.setIfInBounds k v) } -> Q () { s with heap := h' }) : wpAny (model prog w) A (setField (.ref it) k v) Q E s := by
  refine wpAny_setField gi rfl hk (h _ (Heap.SameBut.update ..) ?_)
  have q := Heap.get?_update_self (Obj.mapFields (·.setIfInBounds k v)) gi (Obj.isFreed_of_fields (Obj.data_mapFields rfl _))
  exact q
theorem next_set {e : Int × Value}{Q : Option Value -> Shared -> Prop}(g : s.heap.get? a = some o)(I : WSo w o es ep t)(gi : s.heap.get? it = some (sitO first i a es.size ep))(W : Way w a es ep t ord fx s.heap i first)(ne : it ≠ a)(hx : ord[i]? = some e)
    (hQ : ∀ f' h',Heap.SameBut it s.heap h' -> h'.get? it = some (sitO f' (i + 1) a es.size ep) -> Way w a es ep t ord fx h' (i + 1) f' -> Q (some e.2) { s with heap := h' }) : wpAny (model prog w) A (pyNext (.ref it)) Q E s := by
  have ty : s.TypeIs (.ref it) "set_iterator" := ⟨_,gi,rfl⟩
  unfold pyNext
  refine wpAny_bind (wpAny_attempt (wpAny_callSpecial?_slot (name := Str.ofString "__next__") ty sit_slot (wpAny_call_entry sit_slot ty sit_entry ?_ (sit_args _))))
  unfold Builtin.«set_iterator.__next__»
  refine wpAny_bind (wpAny_pure (wpAny_bind (wpAny_fieldsOf gi rfl ?_)))
  dsimp only
  refine wpAny_bind ?_
  unfold setEntries
  refine wpAny_bind (wpAny_setState_of g I.da I.ft (wpAny_pure ?_))
  rw [if_neg (show ¬ ((((es.size : Int) != (es.size : Int))) = true) by simp)]
  cases W with
  | text k b f od =>
    subst f
    dsimp only
    refine wpAny_bind ?_
    have tn : (fun fin s' => ∃ v,fin = Fin.done (Flow.ret v) /\ wpAny (model prog w) A (pure (some v)) Q E s') = (fun fin s' => ∃ v,fin = Fin.done (Flow.ret v) /\ wpAny (model prog w) A (pure (some v)) Q E s') := rfl
    unfold setNext setsByText
    refine wpAny_bind (wpAny_setState_of g I.da I.ft ?_)
    dsimp only
    refine wpAny_bind (wpAny_bind (wpAny_askSetting (wpAny_pure ?_)))
    rw [show (model prog w).w.params.followText "set-order" = true from b,if_pos rfl]
    rw [if_neg (show ¬ ((ep != (ep : Int).toNat) = true) by simp)]
    refine wpAny_bind (walk_text b g I.da I.ft ?_)
    rw [od,Array.getElem?_toList] at hx
    simp only [Int.toNat_natCast]
    rw [hx]
    refine wpAny_pure ?_
    dsimp only [Option.map]
    refine wpAny_bind (set_field (f0 := .none) (f1 := .none) gi (by simp) fun h1 b1 g1 => ?_)
    refine wpAny_bind (set_field (f0 := .none) (f1 := .none) (s := { s with heap := h1 }) g1 (by simp) fun h2 b2 g2 => ?_)
    refine wpAny_pure ⟨_,rfl,wpAny_pure (hQ (.int k 0) h2 (b1.trans b2) ?_ ?_)⟩
    · rw [g2]; simp [rawInt]
    · exact .text k b rfl od
  | place k b d c f e2 od =>
    subst f
    dsimp only
    refine wpAny_bind ?_
    unfold setNext setsByText
    refine wpAny_bind (wpAny_setState_of g I.da I.ft ?_)
    dsimp only
    refine wpAny_bind (wpAny_bind (wpAny_askSetting (wpAny_pure ?_)))
    rw [show (model prog w).w.params.followText "set-order" = false from b,if_neg Bool.false_ne_true]
    have led := I.tb.led b
    have hp : t.place.size = es.size := by have := I.ft; simp only [SetTable.fits,Bool.and_eq_true,beq_iff_eq] at this; exact this.1
    rw [od,Array.getElem?_toList] at hx
    have hi : i < es.size := (Array.getElem?_eq_some_iff.mp hx).1
    split
    · rename_i z
      have z : (!t.plain && decide (es.size > 1)) = true := z
      rw [d] at z; cases z
    · refine wpAny_bind ?_
      show wpAny _ _ (if (!t.led && !es.isEmpty) = true then unsupported "set:maker-not-led" else pure ()) _ _ _
      rw [if_neg (by rw [led]; simp)]
      refine wpAny_pure (wpAny_pure ?_)
      simp only [Int.toNat_natCast]
      rw [e2,hx,Array.getElem?_eq_getElem (show i < t.place.size by omega)]
      dsimp only
      refine wpAny_bind (set_field (f0 := .none) (f1 := .none) gi (by simp) fun h1 b1 g1 => ?_)
      refine wpAny_bind (set_field (f0 := .none) (f1 := .none) (s := { s with heap := h1 }) g1 (by simp) fun h2 b2 g2 => ?_)
      refine wpAny_pure ⟨_,rfl,wpAny_pure (hQ (.int (t.place[i]'(by omega) + 1 : Nat) 0) h2 (b1.trans b2) ?_ ?_)⟩
      · rw [g2]; simp [rawInt]
      · exact .place _ b d c rfl (below_next c _) od
  | drawn p ps b d f m q od =>
    subst f
    have hl : ps.length = ord.length := by have := congrArg List.length od; simpa using this
    have hi : i < ps.length := by rw [hl]; exact (List.getElem?_eq_some_iff.mp hx).1
    have pe : ps[i]? = some (ps[i]'hi) := List.getElem?_eq_getElem hi
    have ee : es[ps[i]'hi]? = some e := by
      have := congrArg (fun l => l[i]?) od
      simp only [List.getElem?_map,pe,hx,Option.map_some,Option.some.injEq] at this
      exact this
    dsimp only
    refine wpAny_bind ?_
    unfold seqItems?
    dsimp only
    refine wpAny_bind (wpAny_load q ?_)
    dsimp only
    refine wpAny_pure ?_
    dsimp only
    simp only [Int.toNat_natCast,List.getElem?_toArray,List.getElem?_map,pe,Option.map_some]
    refine wpAny_bind ?_
    unfold setNextDrawn
    refine wpAny_bind (wpAny_setState_of g I.da I.ft ?_)
    dsimp only
    rw [if_neg (show ¬ ((ep != ep) = true) by simp),ee]
    dsimp only
    refine wpAny_pure ?_
    refine wpAny_bind (set_field (f0 := .none) (f1 := .none) gi (by simp) fun h1 b1 g1 => ?_)
    have pn : p ≠ it := fun z => by subst z; rw [gi] at q; exact absurd (Value.type.inj (congrArg Obj.cls (Option.some.inj q))) (by decide)
    refine wpAny_pure ⟨_,rfl,wpAny_pure (hQ (.ref p) h1 b1 ?_ ?_)⟩
    · rw [g1]; simp [rawInt]
    · exact .drawn p ps b d rfl m ((b1.2 p pn).trans q) od
theorem end_set {Q : Option Value -> Shared -> Prop}(hh : A.handled = none)(g : s.heap.get? a = some o)(I : WSo w o es ep t)(gi : s.heap.get? it = some (sitO first i a es.size ep))(W : Way w a es ep t ord fx s.heap i first)(ne : it ≠ a)(hi : i = es.size)(hl : ord.length = es.size)
    (hQ : ∀ h',Heap.ExtBut it s.heap h' -> Q none { s with heap := h' }) : wpAny (model prog w) A (pyNext (.ref it)) Q E s := by
  have ty : s.TypeIs (.ref it) "set_iterator" := ⟨_,gi,rfl⟩
  unfold pyNext
  refine wpAny_bind (wpAny_attempt (wpAny_callSpecial?_slot (name := Str.ofString "__next__") ty sit_slot (wpAny_call_entry sit_slot ty sit_entry ?_ (sit_args _))))
  unfold Builtin.«set_iterator.__next__»
  refine wpAny_bind (wpAny_pure (wpAny_bind (wpAny_fieldsOf gi rfl ?_)))
  dsimp only
  refine wpAny_bind ?_
  unfold setEntries
  refine wpAny_bind (wpAny_setState_of g I.da I.ft (wpAny_pure ?_))
  rw [if_neg (show ¬ ((((es.size : Int) != (es.size : Int))) = true) by simp)]
  have stop : ∀ (h1 : Heap),Heap.SameBut it s.heap h1 -> wpAny (model prog w) A.in1 (newExc (.type "StopIteration") [] >>= raiseNew) (fun fin s' => ∃ v,fin = Fin.done (Flow.ret v) /\ wpAny (model prog w) A (pure (some v)) Q E s') (fun e s' => wpAny (model prog w) A (do if <- isInstance e (.type "StopIteration") then pure none else throw e) Q E s') { s with heap := h1 } := fun h1 b1 => by
    refine wpAny_bind ?_
    simp only [newExc,newTuple]
    refine wpAny_bind (wpAny_newObj_type ?_ (by size_fits))
    refine wpAny_bind (m := firstArgMember _ _) (wpAny_of_eq (a := Value.none) (by first | rfl | (simp only [firstArgMember]; rfl)) (wpAny_newObj_type ?_ (by size_fits)))
    simp only [raiseNew]
    refine wpAny_bind (wpAny_handled ?_)
    rw [show A.in1.handled = none from hh]
    refine wpAny_bind (wpAny_pure (wpAny_throw ?_))
    refine wpAny_bind (wpAny_isInstance (T := "StopIteration") (b := true) ⟨_,Heap.get?_push_size _ rfl,rfl⟩ isSubtype_stop (wpAny_pure (hQ _ ((b1.extBut.push _).push _))))
  cases W with
  | text k b f od =>
    subst f
    dsimp only
    refine wpAny_bind ?_
    unfold setNext setsByText
    refine wpAny_bind (wpAny_setState_of g I.da I.ft ?_)
    dsimp only
    refine wpAny_bind (wpAny_bind (wpAny_askSetting (wpAny_pure ?_)))
    rw [show (model prog w).w.params.followText "set-order" = true from b,if_pos rfl]
    rw [if_neg (show ¬ ((ep != (ep : Int).toNat) = true) by simp)]
    refine wpAny_bind (walk_text b g I.da I.ft ?_)
    have hx : (pickOrder (w.params.setOrder a ep) es)[i]? = none := by
      rw [<- Array.getElem?_toList,<- od,List.getElem?_eq_none_iff]; omega
    simp only [Int.toNat_natCast]
    rw [hx]
    refine wpAny_pure ?_
    dsimp only [Option.map]
    exact wpAny_bind (set_field (f0 := .none) (f1 := .none) gi (by simp) fun h1 b1 g1 => stop h1 b1)
  | place k b d c f e2 od =>
    subst f
    dsimp only
    refine wpAny_bind ?_
    unfold setNext setsByText
    refine wpAny_bind (wpAny_setState_of g I.da I.ft ?_)
    dsimp only
    refine wpAny_bind (wpAny_bind (wpAny_askSetting (wpAny_pure ?_)))
    rw [show (model prog w).w.params.followText "set-order" = false from b,if_neg Bool.false_ne_true]
    have led := I.tb.led b
    split
    · rename_i z
      have z : (!t.plain && decide (es.size > 1)) = true := z
      rw [d] at z; cases z
    · refine wpAny_bind ?_
      show wpAny _ _ (if (!t.led && !es.isEmpty) = true then unsupported "set:maker-not-led" else pure ()) _ _ _
      rw [if_neg (by rw [led]; simp)]
      refine wpAny_pure (wpAny_pure ?_)
      simp only [Int.toNat_natCast]
      rw [e2,Array.getElem?_eq_none (show es.size <= i by omega)]
      dsimp only
      exact wpAny_bind (set_field (f0 := .none) (f1 := .none) gi (by simp) fun h1 b1 g1 => stop h1 b1)
  | drawn p ps b d f m q od =>
    subst f
    have hl2 : ps.length = ord.length := by have := congrArg List.length od; simpa using this
    dsimp only
    refine wpAny_bind ?_
    unfold seqItems?
    dsimp only
    refine wpAny_bind (wpAny_load q ?_)
    dsimp only
    refine wpAny_pure ?_
    dsimp only
    have pe : ps[i]? = none := by rw [List.getElem?_eq_none_iff]; omega
    simp only [Int.toNat_natCast,List.getElem?_toArray,List.getElem?_map,pe,Option.map_none]
    refine wpAny_bind (set_field (f0 := .none) (f1 := .none) gi (by simp) fun h1 b1 g1 => ?_)
    exact wpAny_bind (set_field (f0 := .none) (f1 := .none) (s := { s with heap := h1 }) g1 (by simp) fun h2 b2 g2 => stop h2 (b1.trans b2))
end
end L2
set_option Elab.async false
set_option linter.all false
set_option maxRecDepth 100000
set_option maxHeartbeats 4000000
namespace L2
open PySem PySem.Spec PyProof.Rows
section
variable {prog : Program}{w : World}{A : Around}{E : Value -> Shared -> Prop}{s : Shared}{a it : Addr}{o : Obj}{es : Array (Int × Value)}{ep : Nat}{t : SetTable}{ns : List Int}{ord : List (Int × Value)}{i : Nat}{first : Value}
theorem iter_set {Q : Value -> Shared -> Prop}(g : s.heap.get? a = some o)(I : WSo w o es ep t)(hz : es.size <= 2000)
    (hQ : ∀ it h' d ord fx first,ord.Perm es.toList -> h'.get? it = some (sitO first 0 a es.size ep) -> Way w a es ep t ord fx h' 0 first -> (∀ b o,s.heap.get? b = some o -> h'.get? b = some o) -> s.heap.objs.size <= it -> (∀ p ∈ fx,s.heap.objs.size <= p /\ p ≠ it) -> Q (.ref it) { s with heap := h',drawn := d }) : wpAny (model prog w) A (pyIter (.ref a)) Q E s := by
  have hT : s.TypeIs (.ref a) "set" := ⟨o,g,I.ex.1⟩
  refine wpAny_pyIter_slot hT PySem.F.slot_set_iter (wpAny_call_entry PySem.F.slot_set_iter hT sie_entry ?_ (PySem.F.args_set_iter_1 _))
  unfold Builtin.«frozenset.__iter__»
  refine wpAny_bind ?_
  unfold Builtin.Frozenset.slot0
  refine wpAny_bind (wpAny_pure ?_)
  show wpAny _ _ (pure a) _ _ s
  refine wpAny_pure (wpAny_bind ?_)
  unfold Builtin.Frozenset.sizeOf setEntries
  refine wpAny_bind (wpAny_bind (wpAny_setState_of g I.da I.ft (wpAny_pure (wpAny_pure ?_))))
  refine wpAny_bind ?_
  unfold setDrawn setsByText
  refine wpAny_bind (wpAny_setState_of g I.da I.ft ?_)
  dsimp only
  refine wpAny_bind (wpAny_bind (wpAny_askSetting (wpAny_pure (wpAny_pure ?_))))
  have hp : t.place.size = es.size := by have := I.ft; simp only [SetTable.fits,Bool.and_eq_true,beq_iff_eq] at this; exact this.1
  have ends : ∀ (s1 : Shared) (first : Value) (fx : List Addr) (ord : List (Int × Value)),(∃ h1 d,s1 = { s with heap := h1,drawn := d } /\ (∀ b o,s.heap.get? b = some o -> h1.get? b = some o) /\ s.heap.objs.size <= h1.objs.size) -> ord.Perm es.toList -> (∀ h',(∀ b o,s1.heap.get? b = some o -> h'.get? b = some o) -> Way w a es ep t ord fx h' 0 first) -> (∀ p ∈ fx,s.heap.objs.size <= p /\ p < s1.heap.objs.size) ->
      wpAny (model prog w) A.in1 (do
        let __do_lift <- setEpoch a
        let __do_lift <- newFields "set_iterator" [first,rawInt 0,Value.ref a,rawInt es.size,rawInt __do_lift]
        ret __do_lift) (fun fin s' => ∃ v,fin = Fin.done (Flow.ret v) /\ ∃ T id,s'.TypeIs v T /\ typeLookup (Value.type T) "__next__" = pure (some id) /\ Q v s') E s1 := by
    rintro s1 first fx ord ⟨h1,d,rfl,k1,z1⟩ po W hf
    refine wpAny_bind (wpAny_setEpoch_of (k1 _ _ g) I.da I.ft ?_)
    refine wpAny_bind (wpAny_newObj_type (wpAny_pure ⟨_,rfl,"set_iterator",_,⟨_,Heap.get?_push_size _ rfl,rfl⟩,sit_slot.lookup,?_⟩))
    refine hQ _ _ d ord fx first po ?_ (W _ fun b o e => Heap.get?_push_of_some _ e) (fun b o e => Heap.get?_push_of_some _ (k1 b o e)) z1 fun p m => ⟨(hf p m).1,Nat.ne_of_lt (hf p m).2⟩
    rw [Heap.get?_push_size _ rfl]
    simp [rawInt]
  cases b : byT w with
  | true =>
    rw [show (model prog w).w.params.followText "set-order" = true from b]
    simp only [Bool.not_true,Bool.false_and,Bool.false_eq_true,if_false]
    refine wpAny_bind (wpAny_pure ?_)
    refine ends s (rawInt 0) [] (pickOrder (w.params.setOrder a ep) es).toList ⟨s.heap,s.drawn,rfl,fun _ _ e => e,Nat.le_refl _⟩ ?_ (fun h' _ => .text 0 b rfl rfl) fun p z => by cases z
    have := pick_perm (w.params.setOrder a ep) es.size 0 es.toList #[] (by simp)
    simpa [pickOrder] using this
  | false =>
    rw [show (model prog w).w.params.followText "set-order" = false from b]
    simp only [Bool.not_false,Bool.true_and]
    split
    · rename_i z
      have z : (!t.plain && decide (es.size > 1)) = true := z
      refine wpAny_bind (wpAny_drawOrder es.size (List.range es.size) s List.length_range fun l d p => ?_)
      have lz : l.length <= 2000 := by rw [p.length_eq,List.length_range]; exact hz
      simp only [newTuple]
      refine wpAny_bind (wpAny_newObj_type ?_ (by show _ <= _; simp only [List.size_toArray,List.length_map]; rw [sizeLine_eq]; omega))
      have mem : ∀ x ∈ l,x < es.size := fun x hx => List.mem_range.mp (p.mem_iff.mp hx)
      have po : (l.filterMap fun x => es[x]?).Perm es.toList := by
        have := p.filterMap fun x => es[x]?
        rwa [filterMap_getElem?_range] at this
      have om : l.map (fun x => es[x]?) = (l.filterMap fun x => es[x]?).map some := by
        clear po p lz
        induction l with
        | nil => rfl
        | cons x l ih =>
          have hx := mem x (List.mem_cons_self ..)
          rw [List.map_cons,List.filterMap_cons,Array.getElem?_eq_getElem hx,ih fun y hy => mem y (List.mem_cons_of_mem _ hy)]
          rfl
      refine ends _ (.ref s.heap.objs.size) [s.heap.objs.size] (l.filterMap fun x => es[x]?) ⟨_,d,rfl,fun b o e => Heap.get?_push_of_some _ e,by show _ <= (s.heap.push _).objs.size; rw [Heap.size_push]; omega⟩ po (fun h' k =>   .drawn _ l b z rfl (by simp) (k _ _ (by rw [Heap.get?_push_size _ rfl]; rfl)) om) fun q e => by rw [List.mem_singleton.mp e]; exact ⟨Nat.le_refl _,by show _ < (s.heap.push _).objs.size; rw [Heap.size_push]; omega⟩
    · rename_i z
      have z : (!t.plain && decide (es.size > 1)) = false := by
        cases q : (!t.plain && decide (es.size > 1)) with
        | false => rfl
        | true => exact absurd q z
      have asc : Asc t.place := by
        cases q : t.plain with
        | true => exact I.tb.asc q
        | false =>
          rw [q] at z
          simp only [Bool.not_false,Bool.true_and,decide_eq_false_iff_not] at z
          unfold Asc
          have : t.place.toList.length <= 1 := by rw [Array.length_toList]; omega
          match hq : t.place.toList,this with
          | [],_ => exact List.Pairwise.nil
          | [x],_ => simp
      refine wpAny_bind (wpAny_pure ?_)
      exact ends s (rawInt 0) [] es.toList ⟨s.heap,s.drawn,rfl,fun _ _ e => e,Nat.le_refl _⟩ (List.Perm.refl _) (fun h' _ => .place 0 b z asc rfl (below_zero asc) rfl) fun p z => by cases z
end
end L2
set_option Elab.async false
set_option linter.all false
set_option maxRecDepth 100000
set_option maxHeartbeats 4000000
namespace L2
open PySem PySem.Spec PyProof.Rows
theorem sit_self_entry : typeLookup (.type "set") "__len__" = pure (some (.builtin "set.__len__")) := by rw [typeLookup_type,builtinLookup_eq_fast]; kernel_rfl
theorem sis_entry : entryFor table "set_iterator.__iter__" = some Builtin.«dict_keyiterator.__iter__» := entryFor_alias (id' := "dict_keyiterator.__iter__") (by kernel_rfl) rfl (by decide +kernel) (by kernel_rfl)
theorem sis_args (a : Value) : argsOk "set_iterator.__iter__" ⟨[a],[]⟩ := by unfold argsOk; kernel_rfl
section
variable {prog : Program}{w : World}{A : Around}{E : Value -> Shared -> Prop}{s : Shared}{a it : Addr}{o : Obj}{es : Array (Int × Value)}{ep : Nat}{t : SetTable}{ns : List Int}{ord : List (Int × Value)}{fx : List Addr}{i : Nat}{first : Value}
def SSt (w : World)(a it : Addr)(o : Obj)(es : Array (Int × Value))(ep : Nat)(t : SetTable)(ord : List (Int × Value))(fx : List Addr)(i : Nat)(h : Heap) : Prop := h.get? a = some o /\ ∃ first,h.get? it = some (sitO first i a es.size ep) /\ Way w a es ep t ord fx h i first
theorem Way.frame {h h' : Heap}(W : Way w a es ep t ord fx h i first)(k : ∀ b ∈ fx,∀ o,h.get? b = some o -> h'.get? b = some o) : Way w a es ep t ord fx h' i first := by
  cases W with
  | text k b f o => exact .text k b f o
  | place k b d c f e o => exact .place k b d c f e o
  | drawn p ps b d f m q o => exact .drawn p ps b d f m (k p m _ q) o
theorem set_walks (hh : A.handled = none)(I : WSo w o es ep t)(ne : it ≠ a)(nf : it ∉ fx)(po : ord.Perm es.toList) : Walks prog w A it (it :: a :: fx) [it] es.size (fun i v => ∃ e,ord[i]? = some e /\ v = e.2) (SSt w a it o es ep t ord fx) where
  sub := fun b hb => by rw [List.mem_singleton.mp hb]; exact List.mem_cons_self ..
  frame := fun i h h' ⟨g,f,gi,W⟩ k => ⟨k a (by simp) _ g,f,k it (by simp) _ gi,W.frame fun b hb => k b (by simp [hb])⟩
  item := fun i s Q E hi ⟨g,f,gi,W⟩ hQ => by
    have hl : ord.length = es.size := by rw [po.length_eq,Array.length_toList]
    obtain ⟨e,he⟩ : ∃ e,ord[i]? = some e := ⟨ord[i]'(by omega),List.getElem?_eq_getElem _⟩
    refine next_set g I gi W ne he fun f' h' b g' W' => ?_
    exact hQ e.2 h' s.toks ⟨e,he,rfl⟩ ⟨(b.2 a ne.symm).trans g,f',g',W'⟩ fun c oc nc q => (b.2 c (fun z => nc (by simp [z]))).trans q
  done := fun s Q E ⟨g,f,gi,W⟩ hQ => by
    have hl : ord.length = es.size := by rw [po.length_eq,Array.length_toList]
    refine end_set hh g I gi W ne rfl hl fun h' b => ?_
    exact hQ h' s.toks fun c oc nc q => b c oc (fun z => nc (by simp [z])) q
  self := fun i s Q E ⟨g,f,gi,W⟩ h => by
    have ty : s.TypeIs (.ref it) "set_iterator" := ⟨_,gi,rfl⟩
    refine wpAny_pyIter_slot ty sit_self (wpAny_call_entry sit_self ty sis_entry ?_ (sis_args _))
    show wpAny _ _ (ret (.ref it)) _ _ s
    exact wpAny_pure ⟨_,rfl,"set_iterator",_,ty,sit_slot.lookup,h⟩
theorem collect_set {Q : List Value -> Shared -> Prop}(hh : A.handled = none)(g : s.heap.get? a = some o)(I : WSo w o es ep t)(hz : es.size <= 2000)
    (hQ : ∀ vs h' d tk,(∃ ord : List (Int × Value),ord.Perm es.toList /\ vs = ord.map (·.2)) -> (∀ b o,s.heap.get? b = some o -> h'.get? b = some o) -> s.heap.objs.size <= h'.objs.size -> Q vs { s with heap := h',drawn := d,toks := tk }) : wpAny (model prog w) A (collect (.ref a)) Q E s := by
  unfold collect
  refine wpAny_bind (wpAny_runValue (codeAny_builtin F.entry_proto_collect ?_))
  rw [Around.under_plainId F.plain_proto_collect _]
  show wpAny _ A.in1 (newList [] >>= fun l => again (.builtin "list.__iadd__" ⟨[l,.ref a],[]⟩)) _ _ s
  refine wpAny_bind (wpAny_newObj_type ?_)
  refine wpAny_pure ⟨plainId_quiet F.plain_list_iadd _,codeAny_builtin F.entry_list_iadd ?_⟩
  rw [Around.under_plainId F.plain_list_iadd _]
  show wpAny _ A.in1 (Builtin.List.listExtendWith (.ref s.heap.objs.size) (.ref a) (.ref s.heap.objs.size)) _ _ _
  generalize hH : s.heap.push { cls := .type "list",data := .seq ([] : List Value).toArray } = H
  have al : a < s.heap.objs.size := Heap.lt_size g
  have gH : H.get? a = some o := hH ▸ Heap.get?_push_of_some _ g
  have gS : H.get? s.heap.objs.size = some { cls := .type "list",data := .seq ([] : List Value).toArray } := hH ▸ Heap.get?_push_size _ rfl
  have hHs : H.objs.size = s.heap.objs.size + 1 := by rw [<- hH,Heap.size_push]
  have tH : Shared.TypeIs { s with heap := H } (.ref a) "set" := ⟨o,gH,I.ex.1⟩
  unfold Builtin.List.listExtendWith
  refine wpAny_bind (wpAny_typeOf tH ?_)
  have h1 : Builtin.List.listSameRef (.ref s.heap.objs.size) (.ref a) = false := by
    show (s.heap.objs.size == a) = false
    exact beq_eq_false_iff_ne.mpr (Nat.ne_of_gt al)
  have h2 : (Value.type "set" == Value.type "list") = false := by decide
  have h3 : (Value.type "set" == Value.type "tuple") = false := by decide
  simp only [h1,h2,h3,Bool.or_false,Bool.false_eq_true,if_false]
  refine wpAny_bind (iter_set (s := { s with heap := H }) gH I hz fun it h' d ord fx first po gi W k zi zf => ?_)
  refine wpAny_bind (wpAny_holding ?_)
  unfold Builtin.List.listLengthHint
  have t2 : Shared.TypeIs { s with heap := h',drawn := d } (.ref a) "set" := ⟨o,k _ _ gH,I.ex.1⟩
  refine wpAny_bind (wpAny_specialOf t2 sit_self_entry ?_)
  wp_delta
  refine wpAny_bind (wpAny_isInstance (T := "set") (b := true) t2 (by rw [isSubtype_type]; kernel_rfl) ?_)
  show wpAny _ A.in1 (typeOf (Value.ref a) >>= _) _ _ _
  refine wpAny_bind (wpAny_typeOf t2 ?_)
  refine wpAny_pure ?_
  rw [if_pos (by decide)]
  refine wpAny_bind (wpAny_rule (wpAny_bind ?_))
  unfold Builtin.List.listTouch
  have g0 : h'.get? s.heap.objs.size = some (seqObj "list" #[] 0) := k _ _ gS
  refine wpAny_bind (listUpdate_at (s := { s with heap := h',drawn := d }) g0 rfl ?_)
  obtain ⟨e1,g1⟩ : ∃ e1,(h'.update s.heap.objs.size (Obj.mapSeq (·.push Value.none))).get? s.heap.objs.size = some (seqObj "list" #[Value.none] e1) := ⟨_,get?_update_seq g0 (·.push Value.none)⟩
  refine listUpdate_at (s := { s with heap := h'.update s.heap.objs.size (Obj.mapSeq (·.push Value.none)),drawn := d }) g1 rfl ?_
  obtain ⟨e2,g2⟩ : ∃ e2,((h'.update s.heap.objs.size (Obj.mapSeq (·.push Value.none))).update s.heap.objs.size (Obj.mapSeq (·.pop))).get? s.heap.objs.size = some (seqObj "list" #[] e2) := ⟨_,get?_update_seq g1 (·.pop)⟩
  have sb := (Heap.SameBut.update h' s.heap.objs.size (Obj.mapSeq (·.push Value.none))).trans (Heap.SameBut.update (h'.update s.heap.objs.size (Obj.mapSeq (·.push Value.none))) s.heap.objs.size (Obj.mapSeq (·.pop)))
  generalize (h'.update s.heap.objs.size (Obj.mapSeq (·.push Value.none))).update s.heap.objs.size (Obj.mapSeq (·.pop)) = h2 at *
  have zi : s.heap.objs.size < it := by have : H.objs.size <= it := zi; omega
  have nS : s.heap.objs.size ∉ it :: a :: fx := fun m => by
    rcases List.mem_cons.mp m with z | z
    · exact absurd z (Nat.ne_of_lt zi)
    · rcases List.mem_cons.mp z with z | z
      · exact absurd z (Nat.ne_of_gt al)
      · have := (zf _ z).1
        have : H.objs.size <= s.heap.objs.size := this
        omega
  have ks : ∀ b,b ≠ s.heap.objs.size -> ∀ q,h'.get? b = some q -> h2.get? b = some q := fun b nb q e => (sb.2 b nb).trans e
  have st : SSt w a it o es ep t ord fx 0 h2 := ⟨ks a (Nat.ne_of_lt al) _ (k _ _ gH),first,ks it (Nat.ne_of_gt zi) _ gi,W.frame fun b hb q e => ks b (fun z => nS (by simp [<- z,hb])) q e⟩
  have Wk := set_walks (prog := prog) (A := A.in1) (it := it) (fx := fx) (by simp [hh]) I (Nat.ne_of_gt (Nat.lt_trans al zi)) (fun m => (zf _ m).2 rfl) po
  refine wpAny_pure ⟨plainId_quiet F.plain_extend_loop _,codeAny_extend_loopS (Wk.toS) (by rw [sizeLine_eq]; omega) _ nS _ es.size 0 _ _ _ rfl (Nat.zero_le _) st g2 (ItemsOf.nil _) fun s' acc' c' hm hS' hacc => ?_⟩
  show wpAny _ A (load s.heap.objs.size >>= _) _ _ s'
  refine wpAny_bind (wpAny_load hS' ?_)
  obtain ⟨h3,g3,d3,tk3,os3⟩ := s'
  cases (show g3 = s.gens from hm.gens)
  cases (show os3 = s.os from hm.os)
  refine wpAny_pure (hQ acc'.toList h3 d3 tk3 ⟨ord,po,?_⟩ (fun b q e => ?_) (Nat.le_of_lt (Heap.lt_size hS')))
  · obtain ⟨z1,z2⟩ := hacc
    have hl : ord.length = es.size := by rw [po.length_eq,Array.length_toList]
    apply List.ext_getElem?
    intro j
    rw [List.getElem?_map,Array.getElem?_toList]
    cases q : acc'[j]? with
    | none =>
      have := Array.getElem?_eq_none_iff.mp q
      rw [List.getElem?_eq_none (by omega)]
      rfl
    | some v =>
      obtain ⟨e,e1,rfl⟩ := z2 j v q
      rw [e1]
      rfl
  · have bl := Heap.lt_size e
    have kH : h'.get? b = some q := k _ _ (hH ▸ Heap.get?_push_of_some _ e)
    refine hm.heap b q (fun m => ?_) (ks b (Nat.ne_of_lt bl) _ kH)
    rcases List.mem_cons.mp m with z | z
    · exact absurd z (Nat.ne_of_lt bl)
    · rw [List.mem_singleton.mp z] at bl
      exact absurd bl (Nat.not_lt.mpr (Nat.le_of_lt zi))
end
end L2
set_option Elab.async false
set_option linter.all false
set_option maxRecDepth 100000
set_option maxHeartbeats 4000000
namespace L2
open PySem PySem.Spec PyProof.Rows
theorem ints_of : ∀ l : List (Int × Value),(∀ e ∈ l,∃ n t,e.2 = Value.int n t) -> IntsAre (l.map (·.2)) (l.map fun e => iv e.2)
  | [],_ => .nil
  | e :: l,h => by
    obtain ⟨n,t,q⟩ := h e (List.mem_cons_self ..)
    have := ints_of l fun x hx => h x (List.mem_cons_of_mem _ hx)
    rw [List.map_cons,List.map_cons,q]
    exact .cons n t this
section
variable {prog : Program}{w : World}{A : Around}{E : Value -> Shared -> Prop}{s : Shared}{a it : Addr}{o : Obj}{es : Array (Int × Value)}{ep : Nat}{t : SetTable}{ns : List Int}
theorem sorted_set {Q : Value -> Shared -> Prop}(hh : A.handled = none)(g : s.heap.get? a = some o)(I : ISo prog w ns o es ep t)(hz : es.size < 64)
    (fin : ∀ (out : Array Value) (ks : List Int) (L : Addr) (e : Nat) h' d tk,IntsAre out.toList ks -> ks.Perm (nums es) -> ks.Pairwise (· <= ·) -> h'.get? L = some (seqObj "list" out e) -> s.heap.objs.size <= L -> (∀ b o,s.heap.get? b = some o -> h'.get? b = some o) -> Q (.ref L) { s with heap := h',drawn := d,toks := tk }) : wpAny (model prog w) A (call (.builtin "sorted") [.ref a]) Q E s := by
  refine Calls.call_function_entry kind_sorted plain_sorted entry_sorted (args_sorted1 _) ?_
  unfold Builtin.«sorted»
  refine wpAny_bind (m := checkCount "sorted" 1 1 _) (wpAny_pure ?_)
  refine wpAny_bind (collect_set (by simp [hh]) g I.w (by omega) fun vs h' d tk hv k zs => ?_)
  obtain ⟨ord,po,rfl⟩ := hv
  have vi := ints_of ord fun e he => by
    obtain ⟨⟨m,hm,_⟩,_⟩ := I.el e (po.mem_iff.mp he)
    obtain ⟨t,q⟩ := (iv_is (show Value.isInt m e.2 = true from hm)).2
    exact ⟨m,t,q⟩
  have hl : (ord.map (·.2)).length < 64 := by rw [List.length_map,po.length_eq,Array.length_toList]; exact hz
  refine wpAny_bind (wpAny_newList ?_)
  have hoL : (h'.push (seqObj "list" (ord.map (·.2)).toArray 0)).get? h'.objs.size = some (seqObj "list" (ord.map (·.2)).toArray 0) := Heap.get?_push_size _ rfl
  refine wpAny_bind (wpAny_holding (wpAny_call_entry (s := { s with heap := h'.push (seqObj "list" (ord.map (·.2)).toArray 0),drawn := d,toks := tk }) slot_list_sort ⟨_,hoL,rfl⟩ entry_list_sort (list_sort_tree hoL vi hl fun out ks a1 a2 a3 => ⟨_,rfl,?_⟩) (args_list_sort _)))
  refine wpAny_pure ⟨_,rfl,?_⟩
  show Q (.ref h'.objs.size) { s with heap := sortedHeap (h'.push (seqObj "list" (ord.map (·.2)).toArray 0)) h'.objs.size (ord.map (·.2)) out,drawn := d,toks := tk }
  unfold sortedHeap
  have zz : (h'.push (seqObj "list" (ord.map (·.2)).toArray 0)).objs.size = h'.objs.size + 1 := size_push' ..
  obtain ⟨e1,q1⟩ : ∃ e1,((h'.push (seqObj "list" (ord.map (·.2)).toArray 0)).update h'.objs.size (Obj.mapSeq fun _ => #[])).get? h'.objs.size = some (seqObj "list" #[] e1) := ⟨_,get?_update_seq hoL (fun _ => #[])⟩
  have zu : ((h'.push (seqObj "list" (ord.map (·.2)).toArray 0)).update h'.objs.size (Obj.mapSeq fun _ => #[])).objs.size = h'.objs.size + 1 := by rw [Heap.size_update]; exact zz
  have q2 := Heap.get?_push_of_some (seqObj "list" #[] 0) (Heap.get?_push_of_some (seqObj "tuple" (ord.map (·.2)).toArray 0) q1)
  obtain ⟨e3,q3⟩ : ∃ e3,(((((h'.push (seqObj "list" (ord.map (·.2)).toArray 0)).update h'.objs.size (Obj.mapSeq fun _ => #[])).push (seqObj "tuple" (ord.map (·.2)).toArray 0)).push (seqObj "list" #[] 0)).update h'.objs.size (Obj.mapSeq fun _ => out)).get? h'.objs.size = some (seqObj "list" out e3) := ⟨_,get?_update_seq q2 (fun _ => out)⟩
  refine fin out ks h'.objs.size e3 _ d tk a1 (a2.trans (po.map _)) a3 q3 zs fun b q e => ?_
  have bl := Heap.lt_size e
  have nb : b ≠ h'.objs.size := Nat.ne_of_lt (Nat.lt_of_lt_of_le bl zs)
  rw [Heap.get?_update_ne _ _ _ _ nb]
  refine Heap.get?_push_of_some _ (Heap.get?_push_of_some _ ?_)
  rw [Heap.get?_update_ne _ _ _ _ nb]
  exact Heap.get?_push_of_some _ (k b q e)
end
end L2
set_option Elab.async false
set_option linter.all false
set_option maxRecDepth 100000
set_option maxHeartbeats 4000000
namespace L2
open PySem PySem.Spec PyProof.Rows
def kA (k : Keyed -> Int)(xs : Array Keyed)(i : Nat) : Int := match xs[i]? with
  | some p => k p
  | none => 0
def SrtR (k : Keyed -> Int)(xs : Array Keyed)(lo n : Nat) : Prop := ∀ i j,lo <= i -> i <= j -> j < lo + n -> kA k xs i <= kA k xs j
structure TB (κ : SortKind)(a₀ : Array Keyed)(st : SortSt) : Prop where
  perm : (arrOf st).Perm a₀
  kind : kindOf st = κ
  ok : failedOf st = none
theorem TB.size {κ : SortKind}{a₀ : Array Keyed}{st : SortSt}(h : TB κ a₀ st) : (arrOf st).size = a₀.size := h.perm.size_eq
structure Sam (lo hi : Nat)(st st' : SortSt) : Prop where
  pend : pendingOf st' = pendingOf st
  out : ∀ i,i < lo \/ hi <= i -> (arrOf st')[i]? = (arrOf st)[i]?
theorem Sam.trans {lo hi : Nat}{a b c : SortSt}(h : Sam lo hi a b)(h' : Sam lo hi b c) : Sam lo hi a c := ⟨h'.pend.trans h.pend,fun i hi => (h'.out i hi).trans (h.out i hi)⟩
section
variable {prog : Program}{w : World}{A : Around}{E : Value -> Shared -> Prop}{s : Shared}{κ : SortKind}{a₀ : Array Keyed}{k : Keyed -> Int}
end
end L2
set_option Elab.async false
set_option linter.all false
set_option maxRecDepth 100000
set_option maxHeartbeats 4000000
namespace L2
open PySem PySem.Spec PyProof.Rows
local macro_rules | `(tactic| walk_at "un gallop") => do let n := Lean.mkIdent (Lean.mkPrivateNameCore `PySem.Builtin.List.W1All `PySem.Builtin.gallop); `(tactic| unfold $n)
section
variable {prog : Program}{w : World}{A : Around}{E : Value -> Shared -> Prop}{s : Shared}{κ : SortKind}{a₀ : Array Keyed}{k : Keyed -> Int}
end
end L2
set_option Elab.async false
set_option linter.all false
set_option maxRecDepth 100000
set_option maxHeartbeats 4000000
namespace L2
open PySem PySem.Spec PyProof.Rows
local macro_rules | `(tactic| walk_at "un countRun") => do let n := Lean.mkIdent (Lean.mkPrivateNameCore `PySem.Builtin.List.W1All `PySem.Builtin.countRun); `(tactic| unfold $n)
section
variable {prog : Program}{w : World}{A : Around}{E : Value -> Shared -> Prop}{s : Shared}{κ : SortKind}{a₀ : Array Keyed}{k : Keyed -> Int}
end
end L2
set_option Elab.async false
set_option linter.all false
set_option maxRecDepth 100000
set_option maxHeartbeats 4000000
namespace L2
open PySem PySem.Spec PyProof.Rows
def SrtA (k : Keyed -> Int)(xs : Array Keyed) : Prop := SrtR k xs 0 xs.size
theorem SrtA.le {k : Keyed -> Int}{xs : Array Keyed}(h : SrtA k xs){i j : Nat}(hij : i <= j)(hj : j < xs.size) : kA k xs i <= kA k xs j := h i j (Nat.zero_le _) hij (by omega)
section
variable {prog : Program}{w : World}{A : Around}{E : Value -> Shared -> Prop}{s : Shared}{κ : SortKind}{a₀ : Array Keyed}{k : Keyed -> Int}
end
end L2
set_option Elab.async false
set_option linter.all false
set_option maxRecDepth 100000
set_option maxHeartbeats 4000000
namespace L2
open PySem PySem.Spec PyProof.Rows
section
variable {prog : Program}{w : World}{A : Around}{E : Value -> Shared -> Prop}{s : Shared}
end
end L2
set_option Elab.async false
set_option linter.all false
set_option maxRecDepth 100000
set_option maxHeartbeats 4000000
namespace L2
open PySem PySem.Spec PyProof.Rows
section
variable {prog : Program}{w : World}{A : Around}{E : Value -> Shared -> Prop}{s : Shared}
theorem draw_lst {it l : Addr}{items : Array Value}(hne : l ≠ it) : ∀ (n i : Nat) (s : Shared) (Q : List Value -> Shared -> Prop),s.heap.IsListIter it l i -> s.heap.IsList l items -> i + n <= items.size ->
    (∀ h',h'.IsListIter it l (i + n) -> Heap.SameBut it s.heap h' -> Q ((items.toList.drop i).take n) { s with heap := h' }) -> wpAny (model prog w) A (draw (.ref it) n) Q E s
  | 0,i,s,Q,hit,_,_,hQ => by
    show wpAny _ _ (pure []) Q E s; exact wpAny_pure (by simpa using hQ s.heap hit (Heap.SameBut.refl ..))
  | n + 1,i,s,Q,hit,ht,hle,hQ => by
    have hlt : i < items.size := by omega
    show wpAny _ _ (pyNext (.ref it) >>= _) Q E s; refine wpAny_bind (wpAny_pyNext_list_item hit ht (x := items[i]) (by simp [hlt]) fun h₁ hit₁ hs₁ => ?_)
    have ht1 : h₁.IsList l items := by
      obtain ⟨o,e,r⟩ := ht
      exact ⟨o,(hs₁.2 l hne).trans e,r⟩
    refine wpAny_bind (wpAny_holding (draw_lst hne n (i + 1) _ _ hit₁ ht1 (by omega) fun h₂ hit₂ hs₂ => wpAny_pure ?_))
    have hd : items.toList.drop i = items[i] :: items.toList.drop (i + 1) := by simp [List.drop_eq_getElem_cons,hlt]
    have := hQ h₂ (by rw [show i + (n + 1) = i + 1 + n by omega]; exact hit₂) (hs₁.trans hs₂)
    rw [hd,List.take_succ_cons] at this
    exact this
theorem unpackItems_lst {l : Addr}{items : Array Value}{Q : List Value -> Shared -> Prop}(hh : A.handled = none)(ht : s.heap.IsList l items)
    (hQ : ∀ h',Heap.ExtBut s.heap.objs.size s.heap h' -> Q items.toList { s with heap := h' }) : wpAny (model prog w) A (unpackItems (.ref l) items.size none) Q E s := by
  have hlt : l ≠ s.heap.objs.size := by obtain ⟨o,ho,_⟩ := ht; exact Nat.ne_of_lt (Heap.lt_size ho)
  have ty : s.TypeIs (.ref l) "list" := by obtain ⟨o,ho,hc,_⟩ := ht; exact ⟨o,ho,hc⟩
  unfold unpackItems; refine wpAny_bind ?_
  unfold notIterableAtAll; refine wpAny_bind (wpAny_specialOf ty slot_list_iter.lookup ?_)
  refine wpAny_pure ?_; simp only [Bool.false_eq_true,if_false]
  refine wpAny_bind (wpAny_holding (wpAny_pyIter_list ht ?_))
  have hp : ∀ ob : Obj,(s.heap.push ob).IsList l items := fun ob => by
    obtain ⟨o,e,r⟩ := ht
    exact ⟨o,Heap.get?_push_of_some _ e,r⟩
  refine wpAny_bind (wpAny_holding (draw_lst hlt items.size 0 _ _ ⟨_,Heap.get?_push_size _ rfl,rfl,rfl⟩ (hp _) (by omega) fun h₁ hit₁ hs₁ => ?_))
  have hall : List.take items.size (List.drop 0 items.toList) = items.toList := by rw [List.drop_zero]; exact List.take_of_length_le (by simp)
  rw [hall,if_neg (by simp)]
  have ht₁ : h₁.IsList l items := by
    obtain ⟨o,e,r⟩ := ht
    exact ⟨o,(hs₁.2 l hlt).trans (Heap.get?_push_of_some _ e),r⟩
  refine wpAny_bind (wpAny_holding (wpAny_pyNext_list_end hh hit₁ ht₁ (by simp) fun h₂ he₂ => ?_))
  simp only [Option.isSome_none,Bool.false_eq_true,if_false]
  refine wpAny_pure (hQ h₂ fun b o hb e => he₂ b o hb (hs₁.extBut b o hb (Heap.get?_push_of_some _ e)))
end
section
variable {X : Cx}
def gLst (K : PySem.W.Frag)(n : Nat)(t : TGs) : TG := fun v σ H Q => ∃ a xs,v = .ref a /\ SqL K H a xs /\ xs.length = n /\ t xs σ H Q
theorem pg_lstK {es : List Expr}{k : Nat}{t : TGs}{n : Nat}{pos : Pos}(K : PySem.W.Frag)(hK : X.K = K)(hc : X.calm = true)(h : PGs X es t)(hn : (assignEach es X.env).length = n := by rfl)(hst : (assignEach es X.env).findIdx? (·.1) = none := by rfl) : PG X (.Tuple es k pos) (gLst K n t) := by
  subst hK
  intro pins s σ H v u Q I r hw
  obtain ⟨a,xs,e1,hq,hl,hw⟩ := hw
  subst e1
  cases r
  obtain ⟨its,rv,p,hz⟩ := I.list hq
  have hl' : its.toArray.size = n := by simp [<- hl,rv.length]
  rw [assign_Tuple]; refine wpAny_bind (wpAny_standAt ?_)
  unfold unpack; rw [hn,hst,<- hl']
  refine wpAny_bind (wpAny_holding (unpackItems_lst (I.ok.hd hc) p.isList fun h' hx => ?_))
  have I1 : Inv X pins σ H { s with heap := h' } := I.kept (t' := s.toks) fun b o e => hx b o (Nat.ne_of_lt (Heap.lt_size e)) e
  exact h pins _ σ H xs _ Q I1 (by simpa using rv) hw
end
end L2
set_option Elab.async false
set_option linter.all false
set_option maxRecDepth 100000
set_option maxHeartbeats 4000000
namespace L2
open PySem PySem.Spec PyProof.Rows
section
variable {X : Cx}{e : Expr}{es : List Expr}{te : TE}{t : TA}{pos : Pos}
end
end L2
set_option Elab.async false
set_option linter.all false
set_option maxRecDepth 100000
set_option maxHeartbeats 4000000
namespace L2
open PySem PySem.Spec PyProof.Rows
structure Frg where
  ads : List Addr
  R : (Addr -> Prop) -> Hp -> V -> Prop
  keep : ∀ M H H' v,(∀ c o,(¬ M c \/ c ∈ ads) -> H c = some o -> H' c = some o) -> R M H v -> R M H' v
  avoid : ∀ M M' H v,(∀ c,M' c -> M c \/ H c = none) -> R M H v -> R M' H v
  ref : ∀ M H v,R M H v -> ∃ a,v = .ref a
  nt : ∀ M H v,R M H v -> ∀ c ∈ ads,∃ o,H c = some o /\ ∀ vs,o ≠ .tup vs
abbrev Tg := List (List Int × Addr × Value) × Nat
inductive D where
  | non | bl (b : Bool) | int (i : Int) | str (x : Str) | ty (n : String) | adr (a : Addr)
  | tup (xs : List D) | lst (xs : List D) | own (xs : List D) | bag | scr (ns : List Int) | dct (t : Tg) (ks : List (List Int)) (xs : List D) | frg (f : Frg) (d : D)
structure BagT where
  ok : Addr -> Hp -> Prop
  st : ∀ p H H',ok p H -> (∀ o,H p = some o -> H' p = some o) -> ok p H'
  dm : ∀ p H,ok p H -> ∃ o,H p = some o
def KTp (K : PySem.W.Frag)(a : Addr)(xs : List V) : Prop := ∃ (o : Obj) (its : Array Value) (n : Nat),K.lookup a = some o /\ o.cls = .type "tuple" /\ o.data = .seq its n /\ its.size <= sizeLine /\ Vals xs its.toList
def TpA (K : PySem.W.Frag)(M : Addr -> Prop)(H : Hp)(a : Addr)(vs : List V) : Prop := (¬ M a /\ H a = some (.tup vs)) \/ KTp K a vs
theorem TpA.sq {K : PySem.W.Frag}{M : Addr -> Prop}{H : Hp}{a : Addr}{vs : List V}(h : TpA K M H a vs) : SqT K H a vs := h.elim (fun z => .inl (.inl z.2)) .inr
theorem TpA.keep {K : PySem.W.Frag}{M : Addr -> Prop}{H H' : Hp}{a : Addr}{vs : List V}(k : ∀ b o,¬ M b -> H b = some o -> H' b = some o)(h : TpA K M H a vs) : TpA K M H' a vs := h.imp (fun z => ⟨z.1,k _ _ z.1 z.2⟩) id
theorem TpA.avoid {K : PySem.W.Frag}{M M' : Addr -> Prop}{H : Hp}{a : Addr}{vs : List V}(k : ∀ b,M' b -> M b \/ H b = none)(h : TpA K M H a vs) : TpA K M' H a vs := by
  refine h.imp (fun z => ⟨fun m => ?_,z.2⟩) id
  rcases k a m with n | n
  · exact z.1 n
  · rw [n] at z; cases z.2
def KL (K : PySem.W.Frag)(a : Addr)(xs : List V) : Prop := ∃ (o : Obj) (its : Array Value) (n : Nat),K.lookup a = some o /\ o.cls = .type "list" /\ o.dict = none /\ o.data = .seq its n /\ its.size <= sizeLine /\ Vals xs its.toList
def tkH (ns : List Int) : Int := reduceHash (Builtin.Tuple.tupleHashOf (ns.map hashInt))
def dEnt (x : List Int × Addr × Value) : DictEntry := ⟨tkH x.1,.ref x.2.1,x.2.2⟩
def DOb (a : Addr)(es : List (List Int × Addr × Value))(ep : Nat) : HO := .ext fun h => ((a == sysModules) = false /\ es.length <= sizeLine /\ (es.map (·.1)).Nodup) /\ ∃ (o : Obj) (ds : Array DictEntry),h.get? a = some o /\ o.ExactDict /\ o.data = .dict ds ep /\ ds.toList = es.map dEnt
def DctE (K : PySem.W.Frag)(M : Addr -> Prop)(H : Hp)(es : List (List Int × Addr × Value))(ks : List (List Int))(vs : List V) : Prop := es.map (·.1) = ks /\ (∀ e ∈ es,TpA K M H e.2.1 (e.1.map V.int)) /\ Vals vs (es.map (·.2.2))
theorem DctE.keep {K : PySem.W.Frag}{M : Addr -> Prop}{H H' : Hp}{es : List (List Int × Addr × Value)}{ks : List (List Int)}{vs : List V}(k : ∀ b o,¬ M b -> H b = some o -> H' b = some o)(h : DctE K M H es ks vs) : DctE K M H' es ks vs := ⟨h.1,fun e m => (h.2.1 e m).keep k,h.2.2⟩
theorem DctE.avoid {K : PySem.W.Frag}{M M' : Addr -> Prop}{H : Hp}{es : List (List Int × Addr × Value)}{ks : List (List Int)}{vs : List V}(k : ∀ b,M' b -> M b \/ H b = none)(h : DctE K M H es ks vs) : DctE K M' H es ks vs := ⟨h.1,fun e m => (h.2.1 e m).avoid k,h.2.2⟩
mutual
def Rep (K : PySem.W.Frag)(M : Addr -> Prop)(H : Hp) : D -> V -> Prop
  | .non,v => v = .non
  | .bl b,v => v = .bl b
  | .int i,v => v = .int i
  | .str x,v => v = .str x
  | .ty n,v => v = .ty n
  | .adr a,v => v = .ref a
  | .tup xs,v => ∃ a vs,v = .ref a /\ TpA K M H a vs /\ Reps K M H xs vs
  | .lst xs,v => ∃ a vs,v = .ref a /\ (¬ M a /\ H a = some (.lst vs)) /\ Reps K M H xs vs
  | .own _,_ => False
  | .bag,_ => False
  | .frg _ _,_ => False
  | .scr ns,v => ∃ a,v = .ref a /\ ((¬ M a /\ Rd H a (.lst (ns.map V.int))) \/ KL K a (ns.map V.int))
  | .dct t ks xs,v => ∃ (a : Addr) (vs : List V),v = .ref a /\ (¬ M a /\ H a = some (DOb a t.1 t.2) /\ DctE K M H t.1 ks vs) /\ Reps K M H xs vs
def Reps (K : PySem.W.Frag)(M : Addr -> Prop)(H : Hp) : List D -> List V -> Prop
  | [],vs => vs = []
  | d :: ds,vs => ∃ v r,vs = v :: r /\ Rep K M H d v /\ Reps K M H ds r
end
theorem Rd.keep {H H' : Hp}{a : Addr}{u : HO}(k : ∀ o,H a = some o -> H' a = some o)(h : Rd H a u) : Rd H' a u := by
  rcases h with h | ⟨o,h⟩
  · exact .inl (k _ h)
  · exact .inr ⟨o,k _ h⟩
theorem Rd.some {H : Hp}{a : Addr}{u : HO}(h : Rd H a u) : H a ≠ none := by
  rcases h with h | ⟨o,h⟩ <;> rw [h] <;> simp
section
variable {K : PySem.W.Frag}{M M' : Addr -> Prop}{H H' : Hp}
mutual
theorem Rep.keep (k : ∀ b o,¬ M b -> H b = some o -> H' b = some o) : ∀ (d : D) (v : V),Rep K M H d v -> Rep K M H' d v
  | .non,_,h => h
  | .bl _,_,h => h
  | .int _,_,h => h
  | .str _,_,h => h
  | .ty _,_,h => h
  | .adr _,_,h => h
  | .tup xs,v,h => by
    obtain ⟨a,vs,e,z,r⟩ := h
    exact ⟨a,vs,e,z.keep k,Reps.keep k xs vs r⟩
  | .lst xs,v,h => by
    obtain ⟨a,vs,e,z,r⟩ := h
    exact ⟨a,vs,e,⟨z.1,k _ _ z.1 z.2⟩,Reps.keep k xs vs r⟩
  | .own _,_,h => h
  | .bag,_,h => h
  | .frg _ _,_,h => h
  | .scr ns,v,h => by
    obtain ⟨a,e,z⟩ := h
    exact ⟨a,e,z.imp (fun q => ⟨q.1,q.2.keep fun o => k a o q.1⟩) id⟩
  | .dct t ks xs,v,h => by
    obtain ⟨a,vs,e,z,r⟩ := h
    exact ⟨a,vs,e,⟨z.1,k _ _ z.1 z.2.1,z.2.2.keep k⟩,Reps.keep k xs _ r⟩
theorem Reps.keep (k : ∀ b o,¬ M b -> H b = some o -> H' b = some o) : ∀ (ds : List D) (vs : List V),Reps K M H ds vs -> Reps K M H' ds vs
  | [],_,h => h
  | d :: ds,vs,h => by
    obtain ⟨v,r,e,h1,h2⟩ := h
    exact ⟨v,r,e,Rep.keep k d v h1,Reps.keep k ds r h2⟩
end
mutual
theorem Rep.avoid (k : ∀ b,M' b -> M b \/ H b = none) : ∀ (d : D) (v : V),Rep K M H d v -> Rep K M' H d v
  | .non,_,h => h
  | .bl _,_,h => h
  | .int _,_,h => h
  | .str _,_,h => h
  | .ty _,_,h => h
  | .adr _,_,h => h
  | .tup xs,v,h => by
    obtain ⟨a,vs,e,z,r⟩ := h
    exact ⟨a,vs,e,z.avoid k,Reps.avoid k xs vs r⟩
  | .lst xs,v,h => by
    obtain ⟨a,vs,e,z,r⟩ := h
    refine ⟨a,vs,e,⟨fun m => ?_,z.2⟩,Reps.avoid k xs vs r⟩
    rcases k a m with n | n
    · exact z.1 n
    · rw [n] at z; cases z.2
  | .own _,_,h => h
  | .bag,_,h => h
  | .frg _ _,_,h => h
  | .scr ns,v,h => by
    obtain ⟨a,e,z⟩ := h
    refine ⟨a,e,z.imp (fun q => ⟨fun m => ?_,q.2⟩) id⟩
    rcases k a m with n | n
    · exact q.1 n
    · exact q.2.some n
  | .dct t ks xs,v,h => by
    obtain ⟨a,vs,e,z,r⟩ := h
    refine ⟨a,vs,e,⟨fun m => ?_,z.2.1,z.2.2.avoid k⟩,Reps.avoid k xs _ r⟩
    rcases k a m with n | n
    · exact z.1 n
    · rw [n] at z; cases z.2.1
theorem Reps.avoid (k : ∀ b,M' b -> M b \/ H b = none) : ∀ (ds : List D) (vs : List V),Reps K M H ds vs -> Reps K M' H ds vs
  | [],_,h => h
  | d :: ds,vs,h => by
    obtain ⟨v,r,e,h1,h2⟩ := h
    exact ⟨v,r,e,Rep.avoid k d v h1,Reps.avoid k ds r h2⟩
end
end
end L2
set_option Elab.async false
set_option linter.all false
set_option maxRecDepth 100000
set_option maxHeartbeats 4000000
namespace L2
open PySem PySem.Spec PyProof.Rows
abbrev Ev := List (Option D)
structure Wd where
  K : PySem.W.Frag
  B : BagT
  H0 : Hp
  M0 : Addr -> Prop
  b0 : Option Addr
def okB (B : BagT)(b : Option Addr)(H : Hp) : Prop := ∀ p,b = some p -> B.ok p H
def Kp (b : Option Addr)(H H' : Hp) : Prop := ∀ c o,b ≠ some c -> H c = some o -> H' c = some o
theorem Kp.refl (b : Option Addr)(H : Hp) : Kp b H H := fun _ _ _ h => h
theorem Kp.trans {b : Option Addr}{H H1 H2 : Hp}(x : Kp b H H1)(y : Kp b H1 H2) : Kp b H H2 := fun c o n h => y c o n (x c o n h)
theorem Kp.upd {b : Option Addr}{H : Hp}{p : Addr}{o : HO}(h : H p = none) : Kp b H (upd H p o) := fun c u _ e => Same.upd h c u e
theorem Kp.same {b : Option Addr}{H H' : Hp}(h : Same H H') : Kp b H H' := fun c o _ e => h c o e
def RepX (W : Wd)(M : Addr -> Prop)(b : Option Addr)(H : Hp) : D -> V -> Prop
  | .own xs,v => ∃ a vs,v = .ref a /\ M a /\ b ≠ some a /\ W.H0 a = none /\ ¬ W.M0 a /\ H a = some (.lst vs) /\ Reps W.K M H xs vs
  | .bag,v => ∃ p,b = some p /\ v = .ref p
  | .frg f d,v => (∀ c ∈ f.ads,M c /\ b ≠ some c /\ W.H0 c = none /\ ¬ W.M0 c) /\ f.R M H v /\ Rep W.K (fun c => M c /\ c ∉ f.ads) H d v
  | d,v => Rep W.K M H d v
def plain : D -> Bool
  | .own _ => false
  | .bag => false
  | .frg _ _ => false
  | _ => true
def notOwn : D -> Bool
  | .own _ => false
  | .frg _ _ => false
  | _ => true
theorem RepX.rep {W : Wd}{M : Addr -> Prop}{b : Option Addr}{H : Hp}{d : D}{v : V}(h : RepX W M b H d v)(p : plain d = true) : Rep W.K M H d v := by
  cases d <;> first | exact h | cases p
theorem Rep.x {W : Wd}{M : Addr -> Prop}{b : Option Addr}{H : Hp}{d : D}{v : V}(h : Rep W.K M H d v) : RepX W M b H d v := by
  cases d <;> first | exact h | exact h.elim
def RepXs (W : Wd)(M : Addr -> Prop)(b : Option Addr)(H : Hp) : List D -> List V -> Prop
  | [],vs => vs = []
  | d :: ds,vs => ∃ v r,vs = v :: r /\ RepX W M b H d v /\ RepXs W M b H ds r
structure Hs (W : Wd)(M : Addr -> Prop)(b : Option Addr)(H : Hp) : Prop where
  ok : okB W.B b H
  bagM : ∀ p,b = some p -> M p
  dom : ∀ c,M c -> ∃ o,H c = some o
  m0 : ∀ c,W.M0 c -> M c
theorem RepX.move {W : Wd}{M M' : Addr -> Prop}{b b' : Option Addr}{H H' : Hp}{f : Frg}{d : D}{v : V}(h : RepX W M b H (.frg f d) v)(ow : ∀ c ∈ f.ads,M c -> b ≠ some c -> M' c /\ b' ≠ some c)(k : ∀ c o,(¬ M' c \/ c ∈ f.ads) -> H c = some o -> H' c = some o)(a : ∀ c,M' c -> M c \/ H c = none) : RepX W M' b' H' (.frg f d) v := by
  refine ⟨fun c m => ?_,f.keep M' H H' v k (f.avoid M M' H v a h.2.1),Rep.keep (fun c o n e => k c o ?_ e) _ _ (Rep.avoid (fun c m => (a c m.1).imp (fun z => ⟨z,m.2⟩) id) _ _ h.2.2)⟩
  · obtain ⟨q1,q2,q3,q4⟩ := h.1 c m
    obtain ⟨z1,z2⟩ := ow c m q1 q2
    exact ⟨z1,z2,q3,q4⟩
  · by_cases z : c ∈ f.ads
    · exact .inr z
    · exact .inl fun m => n ⟨m,z⟩
theorem RepX.step {W : Wd}{M : Addr -> Prop}{b : Option Addr}{H H' : Hp}{d : D}{v : V}(hb : ∀ p,b = some p -> M p)(k : Kp b H H')(h : RepX W M b H d v) : RepX W M b H' d v := by
  have k' : ∀ c o,¬ M c -> H c = some o -> H' c = some o := fun c o n e => k c o (fun z => n (hb c z)) e
  cases d
  case own xs =>
    obtain ⟨a,vs,e,m,n,n0,m0,h1,h2⟩ := h
    exact ⟨a,vs,e,m,n,n0,m0,k _ _ n h1,Reps.keep k' _ _ h2⟩
  case bag => exact h
  case frg f d => exact RepX.move h (fun c m m1 n => ⟨m1,n⟩) (fun c o q e => q.elim (fun n => k' c o n e) fun m => k c o (h.1 c m).2.1 e) fun c m => .inl m
  all_goals exact Rep.keep k' _ _ h
theorem RepXs.reps {W : Wd}{M : Addr -> Prop}{b : Option Addr}{H : Hp} : ∀ (ds : List D) (vs : List V),RepXs W M b H ds vs -> ds.all plain = true -> Reps W.K M H ds vs
  | [],_,h,_ => h
  | d :: ds,vs,h,p => by
    obtain ⟨v,r,e,h1,h2⟩ := h
    simp only [List.all_cons,Bool.and_eq_true] at p
    exact ⟨v,r,e,h1.rep p.1,RepXs.reps ds r h2 p.2⟩
theorem Reps.length {K : PySem.W.Frag}{M : Addr -> Prop}{H : Hp} : ∀ (ds : List D) (vs : List V),Reps K M H ds vs -> vs.length = ds.length
  | [],_,h => by cases (show _ = _ from h); rfl
  | d :: ds,vs,h => by
    obtain ⟨v,r,rfl,h1,h2⟩ := h
    simp [Reps.length ds r h2]
theorem Reps.get {K : PySem.W.Frag}{M : Addr -> Prop}{H : Hp} : ∀ {ds : List D} {vs : List V} {i : Nat} {d : D},Reps K M H ds vs -> ds[i]? = some d -> ∃ v,vs[i]? = some v /\ Rep K M H d v
  | [],_,_,_,h,e => by simp at e
  | d :: ds,vs,0,_,h,e => by
    obtain ⟨v,r,rfl,h1,h2⟩ := h
    simp at e; subst e
    exact ⟨v,rfl,h1⟩
  | d :: ds,vs,i + 1,d',h,e => by
    obtain ⟨v,r,rfl,h1,h2⟩ := h
    obtain ⟨u,e1,e2⟩ := Reps.get (i := i) h2 (by simpa using e)
    exact ⟨u,by simpa using e1,e2⟩
theorem Reps.at {K : PySem.W.Frag}{M : Addr -> Prop}{H : Hp}{ds : List D}{vs : List V}{i : Int}{d : D}(h : Reps K M H ds vs)(e : atI ds i = some d) : ∃ v,atI vs i = some v /\ Rep K M H d v := by
  unfold atI at *
  rw [h.length]
  cases q : ixN ds.length i with
  | none => rw [q] at e; cases e
  | some j =>
    rw [q] at e
    exact Reps.get h e
theorem Reps.append {K : PySem.W.Frag}{M : Addr -> Prop}{H : Hp} : ∀ {ds es : List D} {vs us : List V},Reps K M H ds vs -> Reps K M H es us -> Reps K M H (ds ++ es) (vs ++ us)
  | [],_,_,_,h,h' => by cases (show _ = _ from h); exact h'
  | d :: ds,_,_,_,h,h' => by
    obtain ⟨v,r,rfl,h1,h2⟩ := h
    exact ⟨v,_,rfl,h1,Reps.append h2 h'⟩
theorem Reps.set {K : PySem.W.Frag}{M : Addr -> Prop}{H : Hp}{d : D}{v : V}(h0 : Rep K M H d v) : ∀ {ds : List D} {vs : List V} (j : Nat),Reps K M H ds vs -> Reps K M H (ds.set j d) (vs.set j v)
  | [],_,_,h => by cases (show _ = _ from h); exact rfl
  | e :: ds,_,0,h => by
    obtain ⟨v',r,rfl,h1,h2⟩ := h
    exact ⟨v,r,rfl,h0,h2⟩
  | e :: ds,_,j + 1,h => by
    obtain ⟨v',r,rfl,h1,h2⟩ := h
    exact ⟨v',_,rfl,h1,Reps.set h0 j h2⟩
theorem Reps.drop {K : PySem.W.Frag}{M : Addr -> Prop}{H : Hp} : ∀ {ds : List D} {vs : List V} (j : Nat),Reps K M H ds vs -> Reps K M H (ds.drop j) (vs.drop j)
  | _,_,0,h => h
  | [],_,_ + 1,h => by cases (show _ = _ from h); exact rfl
  | e :: ds,_,j + 1,h => by
    obtain ⟨v',r,rfl,h1,h2⟩ := h
    exact Reps.drop j h2
theorem Reps.take {K : PySem.W.Frag}{M : Addr -> Prop}{H : Hp} : ∀ {ds : List D} {vs : List V} (j : Nat),Reps K M H ds vs -> Reps K M H (ds.take j) (vs.take j)
  | _,_,0,h => rfl
  | [],_,_ + 1,h => by cases (show _ = _ from h); exact rfl
  | e :: ds,_,j + 1,h => by
    obtain ⟨v',r,rfl,h1,h2⟩ := h
    exact ⟨v',_,rfl,h1,Reps.take j h2⟩
def PinR (W : Wd)(M : Addr -> Prop)(b : Option Addr)(H : Hp) : D -> V -> Prop
  | .own xs,v => RepX W M b H (.own xs) v
  | d,v => Rep W.K M H d v
theorem PinR.x {W : Wd}{M : Addr -> Prop}{b : Option Addr}{H : Hp}{d : D}{v : V}(h : PinR W M b H d v) : RepX W M b H d v := by
  cases d <;> first | exact h | exact h.elim
theorem RepX.pin {W : Wd}{M : Addr -> Prop}{b : Option Addr}{H : Hp}{d : D}{v : V}(h : RepX W M b H d v)(p : plain d = true) : PinR W M b H d v := by
  cases d <;> first | exact h | cases p
theorem PinR.to {W : Wd}{M M' : Addr -> Prop}{b b' : Option Addr}{H H' : Hp}{d : D}{v : V}(h : PinR W M b H d v)(rep : ∀ d v,Rep W.K M H d v -> Rep W.K M' H' d v)(reps : ∀ ds vs,Reps W.K M H ds vs -> Reps W.K M' H' ds vs)(own : ∀ xs a vs,d = .own xs -> v = .ref a -> M a -> b ≠ some a -> H a = some (.lst vs) -> M' a /\ b' ≠ some a /\ H' a = some (.lst vs)) : PinR W M' b' H' d v := by
  cases d
  case own xs =>
    obtain ⟨a,vs,rfl,m1,m2,m3,m4,hh,r⟩ := h
    obtain ⟨q1,q2,q3⟩ := own xs a vs rfl rfl m1 m2 hh
    exact ⟨a,vs,rfl,q1,q2,m3,m4,q3,reps _ _ r⟩
  case bag => exact h.elim
  all_goals exact rep _ _ h
def mineA : D -> V -> Addr -> Prop
  | .own _,v,c => v = .ref c
  | .frg f _,_,c => c ∈ f.ads
  | _,_,_ => False
def mine : D -> Bool
  | .own _ => true
  | .frg _ _ => true
  | _ => false
theorem mineA.m {d : D}{v : V}{c : Addr}(h : mineA d v c) : mine d = true := by cases d <;> first | rfl | exact h.elim
theorem RepX.mine {W : Wd}{M : Addr -> Prop}{b : Option Addr}{H : Hp}{d : D}{v : V}{c : Addr}(h : RepX W M b H d v)(m : mineA d v c) : M c /\ b ≠ some c /\ W.H0 c = none /\ ¬ W.M0 c := by
  cases d
  case own xs =>
    obtain ⟨a,vs,e,m1,n,n0,m0,h1,h2⟩ := h
    cases (e.symm.trans (show v = .ref c from m))
    exact ⟨m1,n,n0,m0⟩
  case frg f d => exact h.1 c m
  all_goals exact m.elim
structure Sta (W : Wd)(pn : List (D × V))(M : Addr -> Prop)(b : Option Addr)(H : Hp)(σ : St)(ρ : Ev) : Prop extends Hs W M b H where
  kp : Kp W.b0 W.H0 H
  new : b = W.b0 \/ (W.b0 = none /\ ∀ p,b = some p -> W.H0 p = none)
  env : ∀ (i : Nat) d,ρ[i]? = some (some d) -> ∃ v,σ[i]? = some (some v) /\ RepX W M b H d v
  len : ρ.length = σ.length
  pin : ∀ q ∈ pn,PinR W M b H q.1 q.2
theorem Sta.step {W : Wd}{pn : List (D × V)}{M : Addr -> Prop}{b : Option Addr}{H H' : Hp}{σ : St}{ρ : Ev}(s : Sta W pn M b H σ ρ)(k : Kp b H H')(o : okB W.B b H') : Sta W pn M b H' σ ρ where
  ok := o
  bagM := s.bagM
  dom := fun c m => by
    by_cases z : b = some c
    · exact W.B.dm c H' (o c z)
    · obtain ⟨u,e⟩ := s.dom c m
      exact ⟨u,k c u z e⟩
  m0 := s.m0
  kp := fun c u n e => by
    refine k c u (fun z => ?_) (s.kp c u n e)
    rcases s.new with q | ⟨_,q⟩
    · exact n (q ▸ z)
    · rw [q c z] at e; cases e
  new := s.new
  env := fun i d e => by
    obtain ⟨v,e1,r⟩ := s.env i d e
    exact ⟨v,e1,r.step s.bagM k⟩
  len := s.len
  pin := fun q hq => (s.pin q hq).to (fun _ _ r => Rep.keep (fun c o n e => k c o (fun z => n (s.bagM c z)) e) _ _ r) (fun _ _ r => Reps.keep (fun c o n e => k c o (fun z => n (s.bagM c z)) e) _ _ r) fun xs a vs _ _ m n hh => ⟨m,n,k _ _ n hh⟩
theorem Hs.new {W : Wd}{M : Addr -> Prop}{b : Option Addr}{H : Hp}(s : Hs W M b H){p : Addr}(h : H p = none) : ¬ M p := fun m => by
  obtain ⟨o,e⟩ := s.dom p m
  rw [h] at e; cases e
theorem Hs.okU {W : Wd}{M : Addr -> Prop}{b : Option Addr}{H : Hp}(s : Hs W M b H){p : Addr}{o : HO}(h : H p = none) : okB W.B b (upd H p o) := fun q e => W.B.st q H _ (s.ok q e) fun u e' => Same.upd h q u e'
abbrev DE := Ev -> (D -> Prop) -> Prop
abbrev DT := Ev -> (Bool -> Prop) -> Prop
abbrev DA := Ev -> (List D -> Prop) -> Prop
def dn (W : Wd)(d : DE) : TE := fun σ H Q => ∃ pn M b ρ P,Sta W pn M b H σ ρ /\ d ρ P /\ ∀ x v H',P x -> RepX W M b H' x v -> Kp b H H' -> okB W.B b H' -> Q v H'
def dnT (W : Wd)(d : DT) : TT := fun σ H Q => ∃ pn M b ρ P,Sta W pn M b H σ ρ /\ d ρ P /\ ∀ x H',P x -> Kp b H H' -> okB W.B b H' -> Q x H'
def dnA (W : Wd)(d : DA) : TA := fun σ H Q => ∃ pn M b ρ P,Sta W pn M b H σ ρ /\ d ρ P /\ ∀ xs vs H',P xs -> RepXs W M b H' xs vs -> Kp b H H' -> okB W.B b H' -> Q vs H'
theorem dn.elim {W : Wd}{d : DE}{σ : St}{H : Hp}{Q : VK}{R : Prop}(h : dn W d σ H Q)(f : ∀ pn M b ρ P,Sta W pn M b H σ ρ -> d ρ P -> (∀ x v H',P x -> RepX W M b H' x v -> Kp b H H' -> okB W.B b H' -> Q v H') -> R) : R := by
  obtain ⟨pn,M,b,ρ,P,st,h,k⟩ := h
  exact f pn M b ρ P st h k
theorem dnT.elim {W : Wd}{d : DT}{σ : St}{H : Hp}{Q : Bool -> Hp -> Prop}{R : Prop}(h : dnT W d σ H Q)(f : ∀ pn M b ρ P,Sta W pn M b H σ ρ -> d ρ P -> (∀ x H',P x -> Kp b H H' -> okB W.B b H' -> Q x H') -> R) : R := by
  obtain ⟨pn,M,b,ρ,P,st,h,k⟩ := h
  exact f pn M b ρ P st h k
theorem dnA.elim {W : Wd}{d : DA}{σ : St}{H : Hp}{Q : List V -> Hp -> Prop}{R : Prop}(h : dnA W d σ H Q)(f : ∀ pn M b ρ P,Sta W pn M b H σ ρ -> d ρ P -> (∀ xs vs H',P xs -> RepXs W M b H' xs vs -> Kp b H H' -> okB W.B b H' -> Q vs H') -> R) : R := by
  obtain ⟨pn,M,b,ρ,P,st,h,k⟩ := h
  exact f pn M b ρ P st h k
section
variable {X : Cx}{W : Wd}{e a b c : Expr}{es : List Expr}{pos : Pos}{d da db dc : DE}{dA : DA}{t : TE}
theorem PE.mono {t' : TE}(h : PE X e t)(m : ∀ σ H Q,t' σ H Q -> t σ H Q) : PE X e t' := fun pins s σ H Q I q => h pins s σ H Q I (m σ H Q q)
theorem PT.mono {t t' : TT}(h : PT X e t)(m : ∀ σ H Q,t' σ H Q -> t σ H Q) : PT X e t' := fun pins s σ H Q I q => h pins s σ H Q I (m σ H Q q)
theorem PA.mono {t t' : TA}(h : PA X es t)(m : ∀ σ H Q,t' σ H Q -> t σ H Q) : PA X es t' := fun pos pins s σ H Q I q => h pos pins s σ H Q I (m σ H Q q)
def dVar (i : Nat) : DE := fun ρ P => match ρ[i]? with | some (some d) => P d | _ => False
theorem dv (i : Nat) {x : Str} {pos : Pos} (hN : X.N[i]? = some x := by rfl) (hv : Vis X.env.scope x := by first | exact Or.inl rfl | exact Or.inr (Or.inl rfl) | exact Or.inr (Or.inr rfl)) (hd : (x == ("__debug__" : Str)) = false := by decide)
    (hcd : (x == ("__classdict__" : Str)) = false := by decide) : PE X (.Name x pos) (dn W (dVar i)) := (pe_var hN hv hd hcd).mono fun σ H Q hh => hh.elim fun pn M b ρ P st h k => by
  unfold dVar at h
  split at h
  case h_1 d e =>
    obtain ⟨v,e1,r⟩ := st.env i d e
    exact ⟨v,e1,k d v H h r (Kp.refl _ _) st.ok⟩
  case h_2 => exact h.elim
def dC (d : D) : DE := fun _ P => P d
theorem de_c {d : D}{v : V}(h : PE X e (tC v))(hr : ∀ M H,Rep W.K M H d v) : PE X e (dn W (dC d)) := h.mono fun σ H Q hh => hh.elim fun pn M b ρ P st h k => k d v H h (Rep.x (hr M H)) (Kp.refl _ _) st.ok
theorem de_int {i j pos} : PE X (.Constant (.int i) j pos) (dn W (dC (.int i))) := de_c pe_int fun _ _ => rfl
theorem de_bl {i j pos} : PE X (.Constant (.bool i) j pos) (dn W (dC (.bl i))) := de_c pe_bl fun _ _ => rfl
theorem de_bltn {x : Str}{T : String}{pos : Pos}(hg : Gl X x)(hm : X.mg x = none)(hv : bootBuiltins x = some (.type T))(hn : x ≠ "__name__" := by decide) (hd : (x == ("__debug__" : Str)) = false := by decide) : PE X (.Name x pos) (dn W (dC (.ty T))) := de_c (pe_bltn (v := .ty T) hg hm hv rfl hn hd) fun _ _ => rfl
def OpD (W : Wd)(r : R2)(o : D -> D -> (D -> Prop) -> Prop) : Prop := ∀ M b H x y v u P Q,Hs W M b H -> RepX W M b H x v -> RepX W M b H y u -> o x y P -> (∀ z w H',P z -> RepX W M b H' z w -> Kp b H H' -> okB W.B b H' -> Q w H') -> r v u H Q
def dOp (o : D -> D -> (D -> Prop) -> Prop)(da db : DE) : DE := fun ρ P => da ρ fun x => db ρ fun y => o x y P
theorem up_op {r : R2}{o : D -> D -> (D -> Prop) -> Prop}(hd : OpD W r o) : ∀ σ H Q,dn W (dOp o da db) σ H Q -> tOp r (dn W da) (dn W db) σ H Q := by
  intro σ H Q hh
  refine hh.elim fun pn M b ρ P st h k => ?_
  refine ⟨pn,M,b,ρ,_,st,h,fun x v H1 hx rx k1 o1 => ?_⟩
  refine ⟨pn,M,b,ρ,_,st.step k1 o1,hx,fun y u H2 hy ry k2 o2 => ?_⟩
  exact hd M b H2 x y v u P Q ((st.step k1 o1).step k2 o2).toHs (rx.step st.bagM k2) ry hy fun z w H' hz rz k3 o3 => k z w H' hz rz ((k1.trans k2).trans k3) o3
theorem de_op {op : Operator}{r : R2}{o : D -> D -> (D -> Prop) -> Prop}(ho : OpR X (binaryOp op) r)(hd : OpD W r o)(ha : PE X a (dn W da))(hb : PE X b (dn W db)) : PE X (.BinOp a op b pos) (dn W (dOp o da db)) := (pe_op ho ha hb).mono (up_op hd)
theorem de_cmp {op : CmpOp}{r : R2}{o : D -> D -> (D -> Prop) -> Prop}(ho : OpR X (compareOp op) r)(hd : OpD W r o)(ha : PE X a (dn W da))(hb : PE X b (dn W db))(hm : behindInMarks op b = false) : PE X (.Compare a [op] [b] pos) (dn W (dOp o da db)) := (pe_cmpR ho ha hb hm).mono (up_op hd)
theorem de_ix {r : R2}{o : D -> D -> (D -> Prop) -> Prop}(hr : IxR X r)(hd : OpD W r o)(ha : PE X a (dn W da))(hb : PE X b (dn W db))(hs : PlainIx b) : PE X (.Subscript a b pos) (dn W (dOp o da db)) := (pe_ix hr ha hb hs).mono (up_op hd)
def oI (C : Int -> Int -> Prop)(g : Int -> Int -> Int) : D -> D -> (D -> Prop) -> Prop
  | .int i,.int j,P => C i j /\ P (.int (g i j))
  | _,_,_ => False
def oI0 (g : Int -> Int -> Int) : D -> D -> (D -> Prop) -> Prop
  | .int i,.int j,P => P (.int (g i j))
  | _,_,_ => False
def oB0 (g : Int -> Int -> Bool) : D -> D -> (D -> Prop) -> Prop
  | .int i,.int j,P => P (.bl (g i j))
  | _,_,_ => False
theorem od_I {C : Int -> Int -> Prop}{g : Int -> Int -> Int} : OpD W (rI C fun i j => .int (g i j)) (oI C g) := by
  intro M b H x y v u P Q hs rx ry ho k
  cases x <;> first | exact ho.elim | skip
  cases y <;> first | exact ho.elim | skip
  cases (show _ = _ from rx)
  cases (show _ = _ from ry)
  exact ⟨_,_,rfl,rfl,ho.1,k _ _ H ho.2 (show _ = _ from rfl) (Kp.refl _ _) hs.ok⟩
theorem od_I0 {g : Int -> Int -> Int} : OpD W (rI0 fun i j => .int (g i j)) (oI0 g) := by
  intro M b H x y v u P Q hs rx ry ho k
  cases x <;> first | exact ho.elim | skip
  cases y <;> first | exact ho.elim | skip
  cases (show _ = _ from rx)
  cases (show _ = _ from ry)
  exact ⟨_,_,rfl,rfl,k _ _ H ho (show _ = _ from rfl) (Kp.refl _ _) hs.ok⟩
theorem od_B0 {g : Int -> Int -> Bool} : OpD W (rI0 fun i j => .bl (g i j)) (oB0 g) := by
  intro M b H x y v u P Q hs rx ry ho k
  cases x <;> first | exact ho.elim | skip
  cases y <;> first | exact ho.elim | skip
  cases (show _ = _ from rx)
  cases (show _ = _ from ry)
  exact ⟨_,_,rfl,rfl,k _ _ H ho (show _ = _ from rfl) (Kp.refl _ _) hs.ok⟩
def oEqS (neg : Bool) : D -> D -> (D -> Prop) -> Prop
  | .int i,.int j,P => P (.bl (decide (i = j) != neg))
  | .bl i,.bl j,P => P (.bl (decide (i = j) != neg))
  | .str i,.str j,P => P (.bl (decide (i = j) != neg))
  | .non,.non,P => P (.bl (true != neg))
  | .non,.int _,P => P (.bl (false != neg))
  | .int _,.non,P => P (.bl (false != neg))
  | .str _,.int _,P => P (.bl (false != neg))
  | .int _,.str _,P => P (.bl (false != neg))
  | _,_,_ => False
theorem od_eqS : OpD W rEq (oEqS false) := by
  intro M b H x y v u P Q hs rx ry ho k
  cases x <;> cases y <;> first | exact ho.elim | skip
  all_goals (cases (show _ = _ from rx); cases (show _ = _ from ry); refine ⟨rfl,?_⟩; refine k _ _ H ho ?_ (Kp.refl _ _) hs.ok)
  all_goals (show V.bl _ = V.bl _; simp)
def oIx : D -> D -> (D -> Prop) -> Prop
  | .tup xs,.int i,P => (atI xs i).elim False P
  | .lst xs,.int i,P => (atI xs i).elim False P
  | .own xs,.int i,P => (atI xs i).elim False P
  | _,_,_ => False
theorem ix_any (K : PySem.W.Frag)(h : X.K = K) : IxR X (fun x y H Q => rIxT K x y H Q \/ rIxL K x y H Q) := (ix_tupK K h).or (ix_listK K h)
theorem od_ix : OpD W (fun x y H Q => rIxT W.K x y H Q \/ rIxL W.K x y H Q) oIx := by
  intro M b H x y v u P Q hs rx ry ho k
  cases x <;> first | exact ho.elim | skip
  all_goals (cases y <;> first | exact ho.elim | skip)
  all_goals cases (show _ = _ from ry)
  case tup.int xs i =>
    obtain ⟨a,vs,rfl,hh,r⟩ := rx
    simp only [oIx] at ho
    cases e : atI xs i with
    | none => rw [e] at ho; exact ho.elim
    | some d =>
      rw [e] at ho
      obtain ⟨w,e1,r1⟩ := r.at e
      exact .inl ⟨a,vs,i,w,rfl,rfl,hh.sq,e1,k d w H ho r1.x (Kp.refl _ _) hs.ok⟩
  case lst.int xs i =>
    obtain ⟨a,vs,rfl,hh,r⟩ := rx
    simp only [oIx] at ho
    cases e : atI xs i with
    | none => rw [e] at ho; exact ho.elim
    | some d =>
      rw [e] at ho
      obtain ⟨w,e1,r1⟩ := r.at e
      exact .inr ⟨a,vs,i,w,rfl,rfl,SqL.of hh.2,e1,k d w H ho r1.x (Kp.refl _ _) hs.ok⟩
  case own.int xs i =>
    obtain ⟨a,vs,rfl,_,_,_,_,hh,r⟩ := rx
    simp only [oIx] at ho
    cases e : atI xs i with
    | none => rw [e] at ho; exact ho.elim
    | some d =>
      rw [e] at ho
      obtain ⟨w,e1,r1⟩ := r.at e
      exact .inr ⟨a,vs,i,w,rfl,rfl,SqL.of hh,e1,k d w H ho r1.x (Kp.refl _ _) hs.ok⟩
def dUn (o : D -> (D -> Prop) -> Prop)(da : DE) : DE := fun ρ P => da ρ fun x => o x P
def oNeg : D -> (D -> Prop) -> Prop
  | .int i,P => P (.int (-i))
  | _,_ => False
theorem de_neg (ha : PE X a (dn W da)) : PE X (.UnaryOp .USub a pos) (dn W (dUn oNeg da)) := (pe_un un_neg ha).mono fun σ H Q hh => hh.elim fun pn M b ρ P st h k => by
  refine ⟨pn,M,b,ρ,_,st,h,fun x v H1 hx rx k1 o1 => ?_⟩
  cases x <;> first | exact hx.elim | skip
  cases (show _ = _ from rx)
  exact ⟨_,rfl,k _ _ H1 hx (show _ = _ from rfl) k1 o1⟩
inductive IfP (c : Bool)(A B : Prop) : Prop
  | t (e : c = true) (h : A) : IfP c A B
  | f (e : c = false) (h : B) : IfP c A B
theorem IfP.of {c : Bool}{A B : Prop}(h1 : c = true -> A)(h2 : c = false -> B) : IfP c A B := by
  cases c
  · exact .f rfl (h2 rfl)
  · exact .t rfl (h1 rfl)
theorem IfP.true_of {A B : Prop}(h : IfP true A B) : A := by
  cases h with
  | t _ h => exact h
  | f e _ => cases e
theorem IfP.false_of {A B : Prop}(h : IfP false A B) : B := by
  cases h with
  | f _ h => exact h
  | t e _ => cases e
theorem IfP_true {A B : Prop} : IfP true A B = A := propext ⟨IfP.true_of,fun h => .t rfl h⟩
theorem IfP_false {A B : Prop} : IfP false A B = B := propext ⟨IfP.false_of,fun h => .f rfl h⟩
def dOr (da db : DE) : DE := fun ρ P => da ρ fun x => match x with | .bl k => IfP k (P (.bl true)) (db ρ P) | _ => False
variable {rest : List Expr}
theorem de_one {op}(h : PE X a (dn W da)) : PE X (.BoolOp op [a] pos) (dn W da) := pe_one h
theorem de_or (ha : PE X a (dn W da))(hb : PE X (.BoolOp .Or (b :: rest) pos) (dn W db)) : PE X (.BoolOp .Or (a :: b :: rest) pos) (dn W (dOr da db)) := (pe_or ha hb).mono fun σ H Q hh => hh.elim fun pn M b ρ P st h k => by
  refine ⟨pn,M,b,ρ,_,st,h,fun x v H1 hx rx k1 o1 => ?_⟩
  cases x <;> first | exact hx.elim | skip
  case bl c =>
    cases (show _ = _ from rx)
    refine ⟨c,rfl,?_⟩
    cases hx with
    | f e hx => subst e; rw [if_neg Bool.false_ne_true]; exact ⟨pn,M,b,ρ,P,st.step k1 o1,hx,fun x v H' hp r k2 o2 => k x v H' hp r (k1.trans k2) o2⟩
    | t e hx => subst e; rw [if_pos rfl]; exact k _ _ H1 hx (show _ = _ from rfl) k1 o1
def dTest (da : DE) : DT := fun ρ P => da ρ fun x => match x with | .bl k => P k | _ => False
theorem dt_cmp {op : CmpOp}{r : R2}{o : D -> D -> (D -> Prop) -> Prop}(ho : OpR X (compareOp op) r)(hd : OpD W r o)(ha : PE X a (dn W da))(hb : PE X b (dn W db))(hm : behindInMarks op b = false) : PT X (.Compare a [op] [b] pos) (dnT W (dTest (dOp o da db))) := (pt_cmpR ho ha hb hm).mono fun σ H Q hh => hh.elim fun pn M b ρ P st h k => by
  refine up_op hd σ H _ ⟨pn,M,b,ρ,_,st,h,fun x v H1 hx rx k1 o1 => ?_⟩
  cases x <;> first | exact hx.elim | skip
  case bl c =>
    cases (show _ = _ from rx)
    exact ⟨c,rfl,k _ H1 hx k1 o1⟩
def dTru (da : DE) : DT := fun ρ P => da ρ fun x => match x with
  | .bl k => P k
  | .int i => P (i != 0)
  | .non => P false
  | .tup xs => P (!xs.isEmpty)
  | .lst xs => P (!xs.isEmpty)
  | .own xs => P (!xs.isEmpty)
  | _ => False
theorem Reps.empty {K : PySem.W.Frag}{M : Addr -> Prop}{H : Hp}{ds : List D}{vs : List V}(h : Reps K M H ds vs) : (!ds.isEmpty) = !vs.isEmpty := by
  cases ds with
  | nil => cases (show _ = _ from h); rfl
  | cons d ds => obtain ⟨v,r,rfl,_⟩ := h; rfl
theorem dt_truth (hK : X.K = W.K)(ha : PE X a (dn W da))(he : ∀ whole,isTrue a X.env whole = (do let v <- whole; standAt a.pos; holding [v] (truthy v))) : PT X a (dnT W (dTru da)) := (pt_truthK W.K hK ha he).mono fun σ H Q hh => hh.elim fun pn M b ρ P st h k => by
  refine ⟨pn,M,b,ρ,_,st,h,fun x v H1 hx rx k1 o1 => ?_⟩
  cases x <;> first | exact hx.elim | skip
  case bl c => cases (show _ = _ from rx); exact ⟨_,rfl,k _ H1 hx k1 o1⟩
  case int c => cases (show _ = _ from rx); exact ⟨_,rfl,k _ H1 hx k1 o1⟩
  case non => cases (show _ = _ from rx); exact ⟨_,rfl,k _ H1 hx k1 o1⟩
  case tup xs => obtain ⟨a,vs,rfl,hh,r⟩ := rx; exact ⟨_,.inr (.inl ⟨vs,hh.sq,r.empty⟩),k _ H1 hx k1 o1⟩
  case lst xs => obtain ⟨a,vs,rfl,hh,r⟩ := rx; exact ⟨_,.inl ⟨vs,SqL.of hh.2,r.empty⟩,k _ H1 hx k1 o1⟩
  case own xs => obtain ⟨a,vs,rfl,_,_,_,_,hh,r⟩ := rx; exact ⟨_,.inl ⟨vs,SqL.of hh,r.empty⟩,k _ H1 hx k1 o1⟩
def dTAnd (t u : DT) : DT := fun ρ P => t ρ fun c => IfP c (u ρ P) (P false)
def dTOr (t u : DT) : DT := fun ρ P => t ρ fun c => IfP c (P true) (u ρ P)
def dTNot (t : DT) : DT := fun ρ P => t ρ fun c => P (!c)
variable {ta tb : DT}
theorem up_and : ∀ σ H Q,dnT W (dTAnd ta tb) σ H Q -> tAnd (dnT W ta) (dnT W tb) σ H Q := by
  intro σ H Q hh
  refine hh.elim fun pn M b ρ P st h k => ?_
  refine ⟨pn,M,b,ρ,_,st,h,fun x H1 hx k1 o1 => ?_⟩
  cases hx with
  | t e hx => rw [if_pos e]; exact ⟨pn,M,b,ρ,P,st.step k1 o1,hx,fun x H' hp k2 o2 => k x H' hp (k1.trans k2) o2⟩
  | f e hx => rw [if_neg (by rw [e]; exact Bool.false_ne_true)]; exact k _ H1 hx k1 o1
theorem up_or : ∀ σ H Q,dnT W (dTOr ta tb) σ H Q -> tOr (dnT W ta) (dnT W tb) σ H Q := by
  intro σ H Q hh
  refine hh.elim fun pn M b ρ P st h k => ?_
  refine ⟨pn,M,b,ρ,_,st,h,fun x H1 hx k1 o1 => ?_⟩
  cases hx with
  | t e hx => rw [if_pos e]; exact k _ H1 hx k1 o1
  | f e hx => rw [if_neg (by rw [e]; exact Bool.false_ne_true)]; exact ⟨pn,M,b,ρ,P,st.step k1 o1,hx,fun x H' hp k2 o2 => k x H' hp (k1.trans k2) o2⟩
theorem PW.mono {t t' : TT}(h : PW X e t)(m : ∀ σ H Q,t' σ H Q -> t σ H Q) : PW X e t' := fun wh pins s σ H Q I q => h wh pins s σ H Q I (m σ H Q q)
theorem dw_and1 (ha : PT X a (dnT W ta)) : PW X (.BoolOp .And [a] pos) (dnT W ta) := pw_and1 ha
theorem dw_or1 (ha : PT X a (dnT W ta)) : PW X (.BoolOp .Or [a] pos) (dnT W ta) := pw_or1 ha
theorem dw_and (ha : PT X a (dnT W ta))(hb : PW X (.BoolOp .And (b :: rest) pos) (dnT W tb)) : PW X (.BoolOp .And (a :: b :: rest) pos) (dnT W (dTAnd ta tb)) := (pw_and ha hb).mono up_and
theorem dw_or (ha : PT X a (dnT W ta))(hb : PW X (.BoolOp .Or (b :: rest) pos) (dnT W tb)) : PW X (.BoolOp .Or (a :: b :: rest) pos) (dnT W (dTOr ta tb)) := (pw_or ha hb).mono up_or
theorem dt_not (ha : PT X a (dnT W ta)) : PT X (.UnaryOp .Not a pos) (dnT W (dTNot ta)) := (pt_not ha).mono fun σ H Q hh => hh.elim fun pn M b ρ P st h k => ⟨pn,M,b,ρ,_,st,h,fun x H1 hx k1 o1 => k _ H1 hx k1 o1⟩
def dIf (t : DT)(da db : DE) : DE := fun ρ P => t ρ fun c => IfP c (da ρ P) (db ρ P)
theorem de_if (hc : PT X c (dnT W ta))(ha : PE X a (dn W da))(hb : PE X b (dn W db)) : PE X (.IfExp c a b pos) (dn W (dIf ta da db)) := (pe_ifExp hc ha hb).mono fun σ H Q hh => hh.elim fun pn M b ρ P st h k => by
  refine ⟨pn,M,b,ρ,_,st,h,fun x H1 hx k1 o1 => ?_⟩
  cases hx with
  | t e hx => rw [if_pos e]; exact ⟨pn,M,b,ρ,P,st.step k1 o1,hx,fun x v H' hp r k2 o2 => k x v H' hp r (k1.trans k2) o2⟩
  | f e hx => rw [if_neg (by rw [e]; exact Bool.false_ne_true)]; exact ⟨pn,M,b,ρ,P,st.step k1 o1,hx,fun x v H' hp r k2 o2 => k x v H' hp r (k1.trans k2) o2⟩
def aNil : DA := fun _ P => P []
def aCons (da : DE)(dr : DA) : DA := fun ρ P => da ρ fun x => dr ρ fun xs => P (x :: xs)
theorem da_nil : PA X [] (dnA W aNil) := pa_nil.mono fun σ H Q hh => hh.elim fun pn M b ρ P st h k => k [] [] H h rfl (Kp.refl _ _) st.ok
theorem da_cons {dr : DA}(ha : PE X e (dn W da))(hr : PA X es (dnA W dr))(hs : starEach (e :: es) X.env = (false,eval e X.env) :: starEach es X.env := by rfl) : PA X (e :: es) (dnA W (aCons da dr)) := (pa_cons ha hr hs).mono fun σ H Q hh => hh.elim fun pn M b ρ P st h k => by
  refine ⟨pn,M,b,ρ,_,st,h,fun x v H1 hx rx k1 o1 => ?_⟩
  refine ⟨pn,M,b,ρ,_,st.step k1 o1,hx,fun xs vs H2 hy ry k2 o2 => ?_⟩
  exact k _ _ H2 hy ⟨v,vs,rfl,rx.step st.bagM k2,ry⟩ (k1.trans k2) o2
def okIt (xs : List D) : Bool := xs.all plain && decide (xs.length <= 1000)
def dTup (dA : DA) : DE := fun ρ P => dA ρ fun xs => okIt xs = true /\ P (.tup xs)
def dLst (dA : DA) : DE := fun ρ P => dA ρ fun xs => okIt xs = true /\ P (.lst xs)
theorem okIt.len {xs : List D}(h : okIt xs = true) : xs.length <= sizeLine := by
  unfold okIt at h
  simp only [Bool.and_eq_true,decide_eq_true_eq] at h
  exact Nat.le_trans h.2 le1000
theorem okIt.pl {xs : List D}(h : okIt xs = true) : xs.all plain = true := by
  unfold okIt at h
  simp only [Bool.and_eq_true,decide_eq_true_eq] at h
  exact h.1
theorem new_tup {M : Addr -> Prop}{bg : Option Addr}{H : Hp}{xs : List D}{vs : List V}{p : Addr}(hs : Hs W M bg H)(r : Reps W.K M H xs vs)(h : H p = none) : RepX W M bg (upd H p (.tup vs)) (.tup xs) (.ref p) :=
  ⟨p,vs,rfl,.inl ⟨hs.new h,upd_same⟩,Reps.keep (fun c o _ e => Same.upd h c o e) _ _ r⟩
theorem new_lst {M : Addr -> Prop}{bg : Option Addr}{H : Hp}{xs : List D}{vs : List V}{p : Addr}(hs : Hs W M bg H)(r : Reps W.K M H xs vs)(h : H p = none) : RepX W M bg (upd H p (.lst vs)) (.lst xs) (.ref p) :=
  ⟨p,vs,rfl,⟨hs.new h,upd_same⟩,Reps.keep (fun c o _ e => Same.upd h c o e) _ _ r⟩
theorem de_tup {x1}(h : PA X es (dnA W dA)) : PE X (.Tuple es x1 pos) (dn W (dTup dA)) := (pe_tup h).mono fun σ H Q hh => hh.elim fun pn M b ρ P st h k => by
  refine ⟨pn,M,b,ρ,_,st,h,fun xs vs H1 hx rx k1 o1 => ?_⟩
  have rr := rx.reps _ _ (okIt.pl hx.1)
  refine ⟨by rw [rr.length]; exact okIt.len hx.1,fun p hp => k _ _ _ hx.2 (new_tup (st.step k1 o1).toHs rr hp) (k1.trans (Kp.upd hp)) ((st.step k1 o1).okU hp)⟩
theorem de_lst (h : PA X es (dnA W dA)) : PE X (.List es pos) (dn W (dLst dA)) := (pe_lst h).mono fun σ H Q hh => hh.elim fun pn M b ρ P st h k => by
  refine ⟨pn,M,b,ρ,_,st,h,fun xs vs H1 hx rx k1 o1 => ?_⟩
  have rr := rx.reps _ _ (okIt.pl hx.1)
  refine ⟨by rw [rr.length]; exact okIt.len hx.1,fun p hp => k _ _ _ hx.2 (new_lst (st.step k1 o1).toHs rr hp) (k1.trans (Kp.upd hp)) ((st.step k1 o1).okU hp)⟩
end
end L2
set_option Elab.async false
set_option linter.all false
set_option maxRecDepth 100000
set_option maxHeartbeats 4000000
namespace L2
open PySem PySem.Spec PyProof.Rows
abbrev DSp := List D -> (D -> Prop) -> (Addr -> Prop) -> Prop
def RepA (K : PySem.W.Frag)(M : Addr -> Prop)(b : Option Addr)(H : Hp) : D -> V -> Prop
  | .own _,_ => False
  | .bag,v => ∃ p,b = some p /\ v = .ref p
  | d,v => Rep K M H d v
def RepAs (K : PySem.W.Frag)(M : Addr -> Prop)(b : Option Addr)(H : Hp) : List D -> List V -> Prop
  | [],vs => vs = []
  | d :: ds,vs => ∃ v r,vs = v :: r /\ RepA K M b H d v /\ RepAs K M b H ds r
def liftSp (K : PySem.W.Frag)(B : BagT)(S : DSp) : Sp := fun vs H Q E => ∃ (M : Addr -> Prop) (b : Option Addr) (ds : List D) (P : D -> Prop) (Ed : Addr -> Prop),S ds P Ed /\ RepAs K M b H ds vs /\ okB B b H /\ (∀ p,b = some p -> M p) /\ (∀ c,M c -> ∃ o,H c = some o) /\
  (∀ d v H',P d -> Rep K M H' d v -> Kp b H H' -> okB B b H' -> Q v H') /\ ∀ C H',Ed C -> Kp b H H' -> okB B b H' -> E (.ref C) none H'
theorem RepXs.args {W : Wd}{M : Addr -> Prop}{b : Option Addr}{H : Hp} : ∀ (ds : List D) (vs : List V),RepXs W M b H ds vs -> ds.all notOwn = true -> RepAs W.K M b H ds vs
  | [],_,h,_ => h
  | d :: ds,vs,h,p => by
    obtain ⟨v,r,e,h1,h2⟩ := h
    simp only [List.all_cons,Bool.and_eq_true] at p
    refine ⟨v,r,e,?_,RepXs.args ds r h2 p.2⟩
    cases d <;> first | exact h1 | cases p.1
theorem RepAs.length {K : PySem.W.Frag}{M : Addr -> Prop}{b : Option Addr}{H : Hp} : ∀ {ds : List D} {vs : List V},RepAs K M b H ds vs -> vs.length = ds.length
  | [],_,h => by cases (show _ = _ from h); rfl
  | d :: ds,vs,h => by
    obtain ⟨v,r,rfl,h1,h2⟩ := h
    simp [RepAs.length h2]
def ELink (W : Wd)(E : XK)(Ed : Addr -> Prop) : Prop := ∀ C H',Ed C -> Kp W.b0 W.H0 H' -> okB W.B W.b0 H' -> E (.ref C) none H'
theorem Sta.ok0 {W : Wd}{pn : List (D × V)}{M : Addr -> Prop}{b : Option Addr}{H : Hp}{σ : St}{ρ : Ev}(s : Sta W pn M b H σ ρ) : okB W.B W.b0 H := by
  rcases s.new with q | ⟨q,_⟩
  · rw [<- q]; exact s.ok
  · intro p e; rw [q] at e; cases e
section
variable {X : Cx}{W : Wd}{e a b c : Expr}{es : List Expr}{pos p : Pos}{d da db dc : DE}{dA : DA}{x : Str}{k : Nat}{ps : List Str}{S : DSp}
def dCall (S : DSp)(Ed : Addr -> Prop)(dA : DA) : DE := fun ρ P => dA ρ fun ds => ds.all notOwn = true /\ S ds P Ed
theorem up_call {E : XK}{Ed : Addr -> Prop}(hE : ELink W E Ed) : ∀ σ H Q,dn W (dCall S Ed dA) σ H Q -> tCall (liftSp W.K W.B S) [] E (dnA W dA) σ H Q := by
  intro σ H Q hh
  refine hh.elim fun pn M b ρ P st h k => ?_
  refine ⟨pn,M,b,ρ,_,st,h,fun xs vs H1 hx rx k1 o1 => ?_⟩
  have st1 := st.step k1 o1
  refine ⟨M,b,xs,P,Ed,hx.2,?_,o1,st.bagM,st1.dom,fun d v H' hd rd k2 o2 => k d v H' hd rd.x (k1.trans k2) o2,fun C H' hC k2 o2 => ?_⟩
  · rw [List.append_nil]; exact rx.args _ _ hx.1
  · have st2 := st1.step k2 o2
    exact hE C H' hC st2.kp st2.ok0
theorem elink0 : ELink W E0 (fun _ => False) := fun _ _ h => h.elim
theorem de_own (G : Callee X.prog X.w X.K X.mg X.base CX0 x k ps (liftSp W.K W.B S))(hr : Room k X.A)(hg : Gl X x)(ha : PA X (e :: es) (dnA W dA))(hdb : (x == ("__debug__" : Str)) = false := by decide) (he : starEach (e :: es) X.env = (false,eval e X.env) :: starEach es X.env := by rfl) (hpl : (backTo pos (starEach es X.env)).any (·.1) = false := by rfl) :
    PE X (.Call (.Name x p) (e :: es) [] pos) (dn W (dCall S (fun _ => False) dA)) := (pe_own G hr hg ha hdb he hpl).mono (up_call elink0)
def CallD (W : Wd)(r : List V -> Hp -> VK -> Prop)(o : List D -> (D -> Prop) -> Prop) : Prop := ∀ M b H xs vs P Q,Hs W M b H -> RepXs W M b H xs vs -> o xs P -> (∀ z w H',P z -> RepX W M b H' z w -> Kp b H H' -> okB W.B b H' -> Q w H') -> r vs H Q
def dCB (o : List D -> (D -> Prop) -> Prop)(dA : DA) : DE := fun ρ P => dA ρ fun xs => o xs P
variable {r : List V -> Hp -> VK -> Prop}{o : List D -> (D -> Prop) -> Prop}{id T : String}
theorem up_cb (hd : CallD W r o) : ∀ σ H Q,dn W (dCB o dA) σ H Q -> tCB r (dnA W dA) σ H Q := by
  intro σ H Q hh
  refine hh.elim fun pn M b ρ P st h k => ?_
  refine ⟨pn,M,b,ρ,_,st,h,fun xs vs H1 hx rx k1 o1 => ?_⟩
  exact hd M b H1 xs vs P Q (st.step k1 o1).toHs rx hx fun z w H' hz rz k2 o2 => k z w H' hz rz (k1.trans k2) o2
theorem de_callB (hc : CallR X (.builtin id) r)(hd : CallD W r o)(hg : Gl X x)(hm : X.mg x = none)(hv : bootBuiltins x = some (.builtin id))(ha : PA X (e :: es) (dnA W dA))(hn : x ≠ "__name__" := by decide) (hdb : (x == ("__debug__" : Str)) = false := by decide)
    (he : starEach (e :: es) X.env = (false,eval e X.env) :: starEach es X.env := by rfl) (hpl : (backTo pos (starEach es X.env)).any (·.1) = false := by rfl) : PE X (.Call (.Name x p) (e :: es) [] pos) (dn W (dCB o dA)) := (pe_callB hc hg hm hv ha hn hdb he hpl).mono (up_cb hd)
theorem de_callTy (hc : CallR X (.type T) r)(hd : CallD W r o)(hg : Gl X x)(hm : X.mg x = none)(hv : bootBuiltins x = some (.type T))(ha : PA X (e :: es) (dnA W dA))(hn : x ≠ "__name__" := by decide) (hdb : (x == ("__debug__" : Str)) = false := by decide)
    (he : starEach (e :: es) X.env = (false,eval e X.env) :: starEach es X.env := by rfl) (hpl : (backTo pos (starEach es X.env)).any (·.1) = false := by rfl) : PE X (.Call (.Name x p) (e :: es) [] pos) (dn W (dCB o dA)) := (pe_callTy hc hg hm hv ha hn hdb he hpl).mono (up_cb hd)
theorem rx1 {M : Addr -> Prop}{b : Option Addr}{H : Hp}{x : D}{vs : List V}(h : RepXs W M b H [x] vs) : ∃ v,vs = [v] /\ RepX W M b H x v := by
  obtain ⟨v,r,rfl,h1,h2⟩ := h
  cases (show _ = _ from h2)
  exact ⟨v,rfl,h1⟩
theorem rx2 {M : Addr -> Prop}{b : Option Addr}{H : Hp}{x y : D}{vs : List V}(h : RepXs W M b H [x,y] vs) : ∃ v u,vs = [v,u] /\ RepX W M b H x v /\ RepX W M b H y u := by
  obtain ⟨v,r,rfl,h1,h2⟩ := h
  obtain ⟨u,rfl,h3⟩ := rx1 h2
  exact ⟨v,u,rfl,h1,h3⟩
def intsOf : List D -> Option (List Int)
  | [] => some []
  | .int i :: r => (intsOf r).map (i :: ·)
  | _ => none
def blsOf : List D -> Option (List Bool)
  | [] => some []
  | .bl i :: r => (blsOf r).map (i :: ·)
  | _ => none
theorem intsOf.eq : ∀ {ds : List D} {ns : List Int},intsOf ds = some ns -> ds = ns.map D.int
  | [],ns,h => by cases h; rfl
  | d :: r,ns,h => by
    cases d <;> first | cases h | skip
    case int i =>
      simp only [intsOf,Option.map_eq_some_iff] at h
      obtain ⟨m,e,rfl⟩ := h
      rw [intsOf.eq e]; rfl
theorem blsOf.eq : ∀ {ds : List D} {ns : List Bool},blsOf ds = some ns -> ds = ns.map D.bl
  | [],ns,h => by cases h; rfl
  | d :: r,ns,h => by
    cases d <;> first | cases h | skip
    case bl i =>
      simp only [blsOf,Option.map_eq_some_iff] at h
      obtain ⟨m,e,rfl⟩ := h
      rw [blsOf.eq e]; rfl
theorem blsOf_map (ns : List Bool) : blsOf (ns.map D.bl) = some ns := by
  induction ns with
  | nil => rfl
  | cons n ns ih => simp [blsOf,ih]
theorem Reps.bls {K : PySem.W.Frag}{M : Addr -> Prop}{H : Hp} : ∀ {ns : List Bool} {vs : List V},Reps K M H (ns.map D.bl) vs -> vs = ns.map V.bl
  | [],_,h => by cases (show _ = _ from h); rfl
  | n :: ns,_,h => by
    obtain ⟨v,r,rfl,h1,h2⟩ := h
    cases (show _ = _ from h1)
    rw [Reps.bls h2]; rfl
def asL : D -> Option (List D)
  | .lst xs => some xs
  | .own xs => some xs
  | _ => none
def asS : D -> Option (List D)
  | .lst xs => some xs
  | .own xs => some xs
  | .tup xs => some xs
  | _ => none
theorem asL.rep {M : Addr -> Prop}{b : Option Addr}{H : Hp}{x : D}{v : V}{xs : List D}(h : RepX W M b H x v)(e : asL x = some xs) : ∃ a vs,v = .ref a /\ H a = some (.lst vs) /\ Reps W.K M H xs vs := by
  cases x <;> first | cases e | skip
  case lst => obtain ⟨a,vs,rfl,hh,r⟩ := h; exact ⟨a,vs,rfl,hh.2,r⟩
  case own => obtain ⟨a,vs,rfl,_,_,_,_,hh,r⟩ := h; exact ⟨a,vs,rfl,hh,r⟩
theorem asS.rep {M : Addr -> Prop}{b : Option Addr}{H : Hp}{x : D}{v : V}{xs : List D}(h : RepX W M b H x v)(e : asS x = some xs) : ∃ a vs,v = .ref a /\ (SqL W.K H a vs \/ SqT W.K H a vs) /\ Reps W.K M H xs vs := by
  cases x <;> first | cases e | skip
  case lst => obtain ⟨a,vs,rfl,hh,r⟩ := h; exact ⟨a,vs,rfl,.inl (SqL.of hh.2),r⟩
  case own => obtain ⟨a,vs,rfl,_,_,_,_,hh,r⟩ := h; exact ⟨a,vs,rfl,.inl (SqL.of hh),r⟩
  case tup => obtain ⟨a,vs,rfl,hh,r⟩ := h; exact ⟨a,vs,rfl,.inr (hh.sq),r⟩
def oLen : List D -> (D -> Prop) -> Prop
  | [.lst xs],P => P (.int xs.length)
  | [.own xs],P => P (.int xs.length)
  | [.tup xs],P => P (.int xs.length)
  | [.scr ns],P => P (.int ns.length)
  | _,_ => False
theorem cd_len : CallD W (fun xs H Q => ∃ p ys,xs = [.ref p] /\ (SqL W.K H p ys \/ SqT W.K H p ys) /\ Q (.int ys.length) H) oLen := by
  intro M b H xs vs P Q hs rx ho k
  match xs,ho with
  | [.lst xs],ho =>
    obtain ⟨v,rfl,r⟩ := rx1 rx
    obtain ⟨a,us,rfl,hh,r'⟩ := r
    exact ⟨a,us,rfl,.inl (SqL.of hh.2),k _ _ H ho (by show _ = _; rw [r'.length]) (Kp.refl _ _) hs.ok⟩
  | [.own xs],ho =>
    obtain ⟨v,rfl,r⟩ := rx1 rx
    obtain ⟨a,us,rfl,_,_,_,_,hh,r'⟩ := r
    exact ⟨a,us,rfl,.inl (SqL.of hh),k _ _ H ho (by show _ = _; rw [r'.length]) (Kp.refl _ _) hs.ok⟩
  | [.tup xs],ho =>
    obtain ⟨v,rfl,r⟩ := rx1 rx
    obtain ⟨a,us,rfl,hh,r'⟩ := r
    exact ⟨a,us,rfl,.inr (hh.sq),k _ _ H ho (by show _ = _; rw [r'.length]) (Kp.refl _ _) hs.ok⟩
  | [.scr ns],ho =>
    obtain ⟨v,rfl,r⟩ := rx1 rx
    obtain ⟨a,rfl,hh⟩ := r
    refine ⟨a,ns.map V.int,rfl,.inl (hh.imp (·.2) id),k _ _ H ho (by show _ = _; rw [List.length_map]) (Kp.refl _ _) hs.ok⟩
def oTuple : List D -> (D -> Prop) -> Prop
  | [.lst xs],P => P (.tup xs)
  | [.own xs],P => P (.tup xs)
  | [.tup xs],P => P (.tup xs)
  | _,_ => False
theorem cd_tuple : CallD W (fun xs H Q => ∃ p ys,xs = [.ref p] /\ ((SqL W.K H p ys /\ ∀ l,H l = none -> Q (.ref l) (upd H l (.tup ys))) \/ (SqT W.K H p ys /\ Q (.ref p) H))) oTuple := by
  intro M b H xs vs P Q hs rx ho k
  match xs,ho with
  | [.lst xs],ho =>
    obtain ⟨v,rfl,r⟩ := rx1 rx
    obtain ⟨a,us,rfl,hh,r'⟩ := r
    exact ⟨a,us,rfl,.inl ⟨SqL.of hh.2,fun l hl => k _ _ _ ho (new_tup hs r' hl) (Kp.upd hl) (hs.okU hl)⟩⟩
  | [.own xs],ho =>
    obtain ⟨v,rfl,r⟩ := rx1 rx
    obtain ⟨a,us,rfl,_,_,_,_,hh,r'⟩ := r
    exact ⟨a,us,rfl,.inl ⟨SqL.of hh,fun l hl => k _ _ _ ho (new_tup hs r' hl) (Kp.upd hl) (hs.okU hl)⟩⟩
  | [.tup xs],ho =>
    obtain ⟨v,rfl,r⟩ := rx1 rx
    obtain ⟨a,us,rfl,hh,r'⟩ := r
    exact ⟨a,us,rfl,.inr ⟨hh.sq,k _ _ H ho ⟨a,us,rfl,hh,r'⟩ (Kp.refl _ _) hs.ok⟩⟩
def oList : List D -> (D -> Prop) -> Prop
  | [.lst xs],P => P (.lst xs)
  | [.own xs],P => P (.lst xs)
  | [.tup xs],P => P (.lst xs)
  | _,_ => False
theorem cd_list : CallD W (fun xs H Q => ∃ p ys,xs = [.ref p] /\ (SqL W.K H p ys \/ SqT W.K H p ys) /\ ∀ l,H l = none -> Q (.ref l) (upd H l (.lst ys))) oList := by
  intro M b H xs vs P Q hs rx ho k
  match xs,ho with
  | [.lst xs],ho =>
    obtain ⟨v,rfl,r⟩ := rx1 rx
    obtain ⟨a,us,rfl,hh,r'⟩ := r
    exact ⟨a,us,rfl,.inl (SqL.of hh.2),fun l hl => k _ _ _ ho (new_lst hs r' hl) (Kp.upd hl) (hs.okU hl)⟩
  | [.own xs],ho =>
    obtain ⟨v,rfl,r⟩ := rx1 rx
    obtain ⟨a,us,rfl,_,_,_,_,hh,r'⟩ := r
    exact ⟨a,us,rfl,.inl (SqL.of hh),fun l hl => k _ _ _ ho (new_lst hs r' hl) (Kp.upd hl) (hs.okU hl)⟩
  | [.tup xs],ho =>
    obtain ⟨v,rfl,r⟩ := rx1 rx
    obtain ⟨a,us,rfl,hh,r'⟩ := r
    exact ⟨a,us,rfl,.inr (hh.sq),fun l hl => k _ _ _ ho (new_lst hs r' hl) (Kp.upd hl) (hs.okU hl)⟩
def o2I (g : Int -> Int -> Int) : List D -> (D -> Prop) -> Prop
  | [.int i,.int j],P => P (.int (g i j))
  | _,_ => False
theorem cd_2I {g : Int -> Int -> Int} : CallD W (fun xs H Q => ∃ i j,xs = [.int i,.int j] /\ Q (.int (g i j)) H) (o2I g) := by
  intro M b H xs vs P Q hs rx ho k
  match xs,ho with
  | [.int i,.int j],ho =>
    obtain ⟨v,u,rfl,r,r'⟩ := rx2 rx
    cases (show _ = _ from r)
    cases (show _ = _ from r')
    exact ⟨i,j,rfl,k _ _ H ho (show _ = _ from rfl) (Kp.refl _ _) hs.ok⟩
def oBls (g : List Bool -> Bool) : List D -> (D -> Prop) -> Prop
  | [x],P => (asL x).elim False fun xs => (blsOf xs).elim False fun ns => P (.bl (g ns))
  | _,_ => False
theorem cd_bls {g : List Bool -> Bool} : CallD W (fun xs H Q => ∃ (p : Addr) (bs : List Bool),xs = [.ref p] /\ SqL W.K H p (bs.map V.bl) /\ Q (.bl (g bs)) H) (oBls g) := by
  intro M b H xs vs P Q hs rx ho k
  match xs,ho with
  | [x],ho =>
    obtain ⟨v,rfl,r⟩ := rx1 rx
    simp only [oBls] at ho
    cases ex : asL x with
    | none => rw [ex] at ho; exact ho.elim
    | some xs =>
      rw [ex] at ho
      simp only [Option.elim] at ho
      cases en : blsOf xs with
      | none => rw [en] at ho; exact ho.elim
      | some ns =>
        rw [en] at ho
        cases blsOf.eq en
        obtain ⟨a,us,rfl,hh,r'⟩ := asL.rep r ex
        cases r'.bls
        exact ⟨a,ns,rfl,SqL.of hh,k _ _ H ho (show _ = _ from rfl) (Kp.refl _ _) hs.ok⟩
theorem call_isinstA (K : PySem.W.Frag)(h : X.K = K) : CallR X (.builtin "isinstance") (fun xs H Q => ∃ y c t b,xs = [y,.ty c] /\ (TyOf K H y t \/ ∃ a vs,y = .ref a /\ KTp K a vs /\ t = .type "tuple") /\ PySem.W.kitOne K t (.type c) = some b /\ Q (.bl b) H) := by
  subst h
  intro pins s σ H xs us Q I rs q
  obtain ⟨y,c,t,b,rfl,ty,e,q⟩ := q
  rcases ty with ty | ⟨a,vs,rfl,⟨o,its,n,hk,hc,hs,hz,r⟩,rfl⟩
  · exact call_isinst pins s σ H _ us Q I rs ⟨y,c,t,b,rfl,ty,e,q⟩
  · obtain ⟨u1,u2,rfl,r1,r2⟩ := vals2 rs
    cases (show u2 = Value.type c from r2)
    cases (show u1 = Value.ref a from r1)
    refine PySem.W.kia_one PySem.W.kitx_tuple I.kIn ⟨o,I.kIn a o hk,hc⟩ e (fun z => nomatch z) fun tk => ?_
    exact ⟨.bl b,H,I.tok _,rfl,q⟩
def tyName : D -> Option String
  | .non => some "NoneType"
  | .bl _ => some "bool"
  | .int _ => some "int"
  | .str _ => some "str"
  | .lst _ => some "list"
  | .own _ => some "list"
  | .tup _ => some "tuple"
  | .frg _ (.lst _) => some "list"
  | _ => none
def isTy (K : PySem.W.Frag)(t c : String)(b : Bool) : Prop := PySem.W.kitOne K (.type t) (.type c) = some b
def oIsI (K : PySem.W.Frag) : List D -> (D -> Prop) -> Prop
  | [x,.ty c],P => match tyName x with | some t => ∃ b,isTy K t c b /\ P (.bl b) | none => False
  | _,_ => False
theorem cd_isinst : CallD W (fun xs H Q => ∃ y c t b,xs = [y,.ty c] /\ (TyOf W.K H y t \/ ∃ a vs,y = .ref a /\ KTp W.K a vs /\ t = .type "tuple") /\ PySem.W.kitOne W.K t (.type c) = some b /\ Q (.bl b) H) (oIsI W.K) := by
  intro M b H xs vs P Q hs rx ho k
  match xs,ho with
  | [x,.ty c],ho =>
    obtain ⟨v,u,rfl,r,r'⟩ := rx2 rx
    cases (show _ = _ from r')
    simp only [oIsI] at ho
    split at ho
    case h_2 => exact ho.elim
    case h_1 t et =>
      obtain ⟨q,hq,hp⟩ := ho
      refine ⟨v,c,.type t,q,rfl,?_,hq,k _ _ H hp (show _ = _ from rfl) (Kp.refl _ _) hs.ok⟩
      cases x <;> first | cases et | skip
      case non => cases (show _ = _ from r); exact .inl (.non)
      case bl => cases (show _ = _ from r); exact .inl (.bl _)
      case int => cases (show _ = _ from r); exact .inl (.int _)
      case str => cases (show _ = _ from r); exact .inl (.str _)
      case lst => obtain ⟨a,us,rfl,hh,r'⟩ := r; exact .inl (.lst hh.2)
      case own => obtain ⟨a,us,rfl,_,_,_,_,hh,r'⟩ := r; exact .inl (.lst hh)
      case frg f d =>
        cases d <;> first | cases et | skip
        case lst => obtain ⟨a,us,rfl,hh,r'⟩ := r.2.2; exact .inl (.lst hh.2)
      case tup =>
        obtain ⟨a,us,rfl,hh,r'⟩ := r
        exact hh.elim (fun z => .inl (.tup z.2)) fun z => .inr ⟨a,us,rfl,z,rfl⟩
end
end L2
set_option Elab.async false
set_option linter.all false
set_option maxRecDepth 100000
set_option maxHeartbeats 4000000
namespace L2
open PySem PySem.Spec PyProof.Rows
theorem Reps.plain {K : PySem.W.Frag}{M : Addr -> Prop}{H : Hp} : ∀ {ds : List D} {vs : List V},Reps K M H ds vs -> ds.all plain = true
  | [],_,_ => rfl
  | d :: ds,_,h => by
    obtain ⟨v,r,rfl,h1,h2⟩ := h
    rw [List.all_cons,Reps.plain h2,Bool.and_true]
    cases d <;> first | rfl | exact h1.elim
theorem Reps.xs {W : Wd}{M : Addr -> Prop}{b : Option Addr}{H : Hp} : ∀ {ds : List D} {vs : List V},Reps W.K M H ds vs -> RepXs W M b H ds vs
  | [],_,h => h
  | d :: ds,_,h => by
    obtain ⟨v,r,rfl,h1,h2⟩ := h
    exact ⟨v,r,rfl,h1.x,Reps.xs h2⟩
def ItOk (W : Wd)(J : It)(need : List (D × V))(items : List D) : Prop := ∀ M b H,Hs W M b H -> (∀ q ∈ need,RepX W M b H q.1 q.2) ->
  (∀ (i : Nat) d,items[i]? = some d -> J.go i H /\ ∀ x H3,J.yld i H x H3 -> Same H H3 /\ RepX W M b H3 d x) /\ ∀ i,items.length <= i -> J.stop i H
def dnI (W : Wd)(fz : Bool)(di : DA) : TI := fun σ H R => ∃ pn M b ρ P,Sta W pn M b H σ ρ /\ di ρ P /\ ∀ items J need H',P items -> items.all plain = true -> ItOk W J need items -> (∀ q ∈ need,RepX W M b H' q.1 q.2 /\ (fz = true -> plain q.1 = true)) -> Kp b H H' -> okB W.B b H' -> R J H'
theorem dnI.elim {W : Wd}{fz : Bool}{d : DA}{σ : St}{H : Hp}{R : It -> Hp -> Prop}{Z : Prop}(h : dnI W fz d σ H R)(f : ∀ pn M b ρ P,Sta W pn M b H σ ρ -> d ρ P -> (∀ items J need H',P items -> items.all plain = true -> ItOk W J need items -> (∀ q ∈ need,RepX W M b H' q.1 q.2 /\ (fz = true -> plain q.1 = true)) -> Kp b H H' -> okB W.B b H' -> R J H') -> Z) : Z := by
  obtain ⟨pn,M,b,ρ,P,st,h,k⟩ := h
  exact f pn M b ρ P st h k
section
variable {X : Cx}{W : Wd}{tg l e a b c : Expr}{es : List Expr}{pos p : Pos}{d da db dc dl : DE}{dA di : DA}{fz : Bool}
theorem PI.mono {t t' : TI}(h : PI X tg l t)(m : ∀ σ H R,t' σ H R -> t σ H R) : PI X tg l t' := fun pins s σ H R I q => h pins s σ H R I (m σ H R q)
theorem pi_any {tl : TE}(K : PySem.W.Frag)(h : X.K = K)(hl : PE X l tl) : PI X tg l (fun σ H R => tl σ H fun x H1 => (∃ a,x = .ref a /\ (∃ xs,SqL K H1 a xs) /\ R (Itl K a) H1) \/ (∃ a,x = .ref a /\ (∃ xs,SqT K H1 a xs) /\ R (Itt K a) H1)) := by
  subst h
  intro pins s σ H R I h
  refine thn (hl pins s σ H _ I h) fun v s1 ⟨x,H1,I1,r1,q1⟩ => ?_
  rcases q1 with ⟨a,e,⟨xs,hq⟩,q⟩ | ⟨a,e,⟨xs,hq⟩,q⟩
  · subst e
    cases r1
    obtain ⟨its,rv,p,hz⟩ := I1.list hq
    refine wpAny_pyIter_list p.isList ?_
    refine ⟨s1.heap.objs.size,[s1.heap.objs.size],_,_,H1,rfl,I1.kept (t' := s1.toks) fun b o e => Heap.get?_push_of_some _ e,turn_list a _,⟨_,Heap.get?_push_size _ rfl,rfl,rfl⟩,fun b hb => ?_,q⟩
    have e : b = s1.heap.objs.size := by simpa using hb
    subst e
    exact I1.fpOk (Nat.le_refl _) (I1.hok.fresh (Nat.le_refl _))
  · subst e
    cases r1
    obtain ⟨its,rv,p,hz⟩ := I1.tuple hq
    refine wpAny_pyIter_tuple (show s1.heap.IsTuple a its.toArray from p) ?_
    refine ⟨s1.heap.objs.size,[s1.heap.objs.size],_,_,H1,rfl,I1.kept (t' := s1.toks) fun b o e => Heap.get?_push_of_some _ e,turn_tuple a _,⟨_,Heap.get?_push_size _ rfl,rfl,rfl⟩,fun b hb => ?_,q⟩
    have e : b = s1.heap.objs.size := by simpa using hb
    subst e
    exact I1.fpOk (Nat.le_refl _) (I1.hok.fresh (Nat.le_refl _))
def iSeq (fz : Bool)(dl : DE) : DA := fun ρ P => dl ρ fun x => match x with
  | .lst xs => P xs
  | .tup xs => P xs
  | .own xs => fz = false /\ P xs
  | _ => False
theorem it_lst {x : D}{xs : List D}{a : Addr}(hx : asL x = some xs) : ItOk W (Itl W.K a) [(x,.ref a)] xs := by
  intro M b H hs hn
  obtain ⟨a',vs,e,hh,r⟩ := asL.rep (hn _ (List.mem_singleton.mpr rfl)) hx
  cases e
  refine ⟨fun i d e => ?_,fun i hi => ⟨vs,SqL.of hh,by rw [r.length]; exact hi⟩⟩
  obtain ⟨v,e1,r1⟩ := r.get e
  refine ⟨⟨vs,v,SqL.of hh,e1⟩,fun y H3 ⟨eH,hy⟩ => ?_⟩
  subst eH
  have := hy vs (SqL.of hh)
  rw [e1] at this; cases this
  exact ⟨Same.refl _,r1.x⟩
theorem it_tup {xs : List D}{a : Addr} : ItOk W (Itt W.K a) [(.tup xs,.ref a)] xs := by
  intro M b H hs hn
  obtain ⟨a',vs,e,hh,r⟩ := hn _ (List.mem_singleton.mpr rfl)
  cases e
  refine ⟨fun i d e => ?_,fun i hi => ⟨vs,hh.sq,by rw [r.length]; exact hi⟩⟩
  obtain ⟨v,e1,r1⟩ := r.get e
  refine ⟨⟨vs,v,hh.sq,e1⟩,fun y H3 ⟨eH,hy⟩ => ?_⟩
  subst eH
  have := hy vs (hh.sq)
  rw [e1] at this; cases this
  exact ⟨Same.refl _,r1.x⟩
theorem need1 {M : Addr -> Prop}{b : Option Addr}{H : Hp}{x : D}{v : V}(r : RepX W M b H x v)(h : fz = true -> plain x = true) : ∀ q ∈ [(x,v)],RepX W M b H q.1 q.2 /\ (fz = true -> plain q.1 = true) := fun q hq => by
  have e := List.mem_singleton.mp hq
  subst e
  exact ⟨r,h⟩
theorem di_seq (hK : X.K = W.K)(hl : PE X l (dn W dl)) : PI X tg l (dnI W fz (iSeq fz dl)) := (pi_any W.K hK hl).mono fun σ H R hh => hh.elim fun pn M b ρ P st h k => by
  refine ⟨pn,M,b,ρ,_,st,h,fun x v H1 hx rx k1 o1 => ?_⟩
  cases x <;> first | exact hx.elim | skip
  case lst xs =>
    obtain ⟨a,vs,rfl,hh,r⟩ := (show RepX W M b H1 (.lst xs) v from rx)
    exact .inl ⟨a,rfl,⟨vs,SqL.of hh.2⟩,k xs _ _ H1 hx r.plain (it_lst (x := .lst xs) rfl) (need1 rx fun _ => rfl) k1 o1⟩
  case tup xs =>
    obtain ⟨a,vs,rfl,hh,r⟩ := (show RepX W M b H1 (.tup xs) v from rx)
    exact .inr ⟨a,rfl,⟨vs,hh.sq⟩,k xs _ _ H1 hx r.plain it_tup (need1 rx fun _ => rfl) k1 o1⟩
  case own xs =>
    obtain ⟨a,vs,rfl,m1,m2,m3,m4,hh,r⟩ := (show RepX W M b H1 (.own xs) v from rx)
    exact .inl ⟨a,rfl,⟨vs,SqL.of hh⟩,k xs _ _ H1 hx.2 r.plain (it_lst (x := .own xs) rfl) (need1 rx fun z => by rw [hx.1] at z; cases z) k1 o1⟩
def rangeD (lo : Int)(n : Nat) : List D := (List.range n).map fun (i : Nat) => .int (lo + i)
theorem rangeD_plain (lo : Int)(n : Nat) : (rangeD lo n).all plain = true := by
  simp [rangeD,plain]
theorem it_range {lo : Int}{n : Nat} : ItOk W (Itr lo n) [] (rangeD lo n) := by
  intro M b H hs _
  refine ⟨fun i d e => ?_,fun i hi => by show n <= i; simpa [rangeD] using hi⟩
  have hi : i < n := by
    have := (List.getElem?_eq_some_iff.mp e).1
    simpa [rangeD] using this
  refine ⟨hi,fun x H3 ⟨eH,ex⟩ => ?_⟩
  subst eH ex
  refine ⟨Same.refl _,?_⟩
  simp [rangeD,hi] at e
  subst e
  exact (show _ = _ from rfl)
def iRange1 (dA : DA) : DA := fun ρ P => dA ρ fun xs => match xs with
  | [.int j] => (-(2 ^ 62) <= j /\ j < 2 ^ 62) /\ P (rangeD 0 j.toNat)
  | _ => False
theorem di_range1 (hg : Gl X "range") (hm : X.mg "range" = none) (ha : PA X [a] (dnA W dA)) (hs : starEach [a] X.env = [(false,eval a X.env)] := by rfl) : PI X tg (.Call (.Name "range" p) [a] [] pos) (dnI W fz (iRange1 dA)) := (pi_range1 hg hm ha hs).mono fun σ H R hh => hh.elim fun pn M b ρ P st h k => by
  refine ⟨pn,M,b,ρ,_,st,h,fun xs vs H1 hx rx k1 o1 => ?_⟩
  match xs,hx with
  | [.int j],hx =>
    obtain ⟨v,rfl,r⟩ := rx1 rx
    cases (show _ = _ from r)
    exact ⟨j,rfl,hx.1.1,hx.1.2,k _ _ _ H1 hx.2 (rangeD_plain _ _) it_range (fun q hq => by cases hq) k1 o1⟩
def asK (fz t : Bool) : D -> Option (List D)
  | .tup xs => if t then some xs else none
  | .lst xs => if t then none else some xs
  | .own xs => if t || fz then none else some xs
  | _ => none
theorem asK.rep {M : Addr -> Prop}{b : Option Addr}{H : Hp}{t : Bool}{x : D}{v : V}{xs : List D}(h : RepX W M b H x v)(e : asK fz t x = some xs) : (∃ a vs,v = .ref a /\ SqX W.K t H a vs /\ Reps W.K M H xs vs) /\ (fz = true -> plain x = true) := by
  cases x <;> first | cases e | skip
  case lst =>
    obtain ⟨a,vs,rfl,hh,r⟩ := h
    cases t <;> cases e
    exact ⟨⟨a,vs,rfl,SqL.of hh.2,r⟩,fun _ => rfl⟩
  case own =>
    obtain ⟨a,vs,rfl,_,_,_,_,hh,r⟩ := h
    cases t <;> cases fz <;> cases e
    exact ⟨⟨a,vs,rfl,SqL.of hh,r⟩,fun z => by cases z⟩
  case tup =>
    obtain ⟨a,vs,rfl,hh,r⟩ := h
    cases t <;> cases e
    exact ⟨⟨a,vs,rfl,hh.sq,r⟩,fun _ => rfl⟩
end
def GD (W : Wd)(g : TG)(gd : D -> Ev -> (Ev -> Prop) -> Prop) : Prop := ∀ pn M b H σ ρ x v Q P,Sta W pn M b H σ ρ -> RepX W M b H x v -> plain x = true -> gd x ρ P -> (∀ ρ' σ',P ρ' -> Sta W pn M b H σ' ρ' -> (∀ (i : Nat) d,mine d = true -> ρ'[i]? = some (some d) -> ρ[i]? = some (some d) /\ σ'[i]? = σ[i]?) -> Q σ' H) -> g v σ H Q
theorem Sta.set {W : Wd}{pn : List (D × V)}{M : Addr -> Prop}{b : Option Addr}{H : Hp}{σ : St}{ρ : Ev}{x : D}{v : V}(s : Sta W pn M b H σ ρ)(j : Nat)(r : RepX W M b H x v) : Sta W pn M b H (σ.set j (some v)) (ρ.set j (some x)) where
  toHs := s.toHs
  kp := s.kp
  new := s.new
  len := by simp [s.len]
  pin := s.pin
  env := fun i d e => by
    by_cases z : j = i
    · subst z
      rw [List.getElem?_set] at e
      simp at e
      obtain ⟨hl,rfl⟩ := e
      exact ⟨v,by rw [List.getElem?_set]; simp [<- s.len,hl],r⟩
    · rw [List.getElem?_set_ne z] at e
      obtain ⟨w,e1,r1⟩ := s.env i d e
      exact ⟨w,by rw [List.getElem?_set_ne z]; exact e1,r1⟩
theorem own_set {ρ : Ev}{σ : St}{j : Nat}{x : D}{v : V}(p : plain x = true) : ∀ (i : Nat) d,mine d = true -> (ρ.set j (some x))[i]? = some (some d) -> ρ[i]? = some (some d) /\ (σ.set j (some v))[i]? = σ[i]? := fun i d hm e => by
  by_cases z : j = i
  · subst z
    rw [List.getElem?_set] at e
    simp at e
    obtain ⟨hl,rfl⟩ := e
    cases x <;> first | (cases hm; done) | (cases p; done)
  · rw [List.getElem?_set_ne z] at e
    exact ⟨e,by rw [List.getElem?_set_ne z]⟩
def gdN (j : Nat) : D -> Ev -> (Ev -> Prop) -> Prop := fun x ρ P => P (ρ.set j (some x))
theorem gd_name {W : Wd}(j : Nat) : GD W (gName j) (gdN j) := fun pn M b H σ ρ x v Q P st r p h k => k _ _ h (st.set j r) (own_set p)
def setAll : List Nat -> List D -> Ev -> Ev
  | j :: js,x :: xs,ρ => setAll js xs (ρ.set j (some x))
  | _,_,ρ => ρ
def gNames : List Nat -> TGs
  | [] => gNil
  | j :: js => gCons (gName j) (gNames js)
def gSeq (K : PySem.W.Frag)(n : Nat)(t : TGs) : TG := fun v σ H Q => gTup K n t v σ H Q \/ gLst K n t v σ H Q
def gdU (js : List Nat) : D -> Ev -> (Ev -> Prop) -> Prop := fun x ρ P => match x with
  | .tup xs => xs.length = js.length /\ P (setAll js xs ρ)
  | .lst xs => xs.length = js.length /\ P (setAll js xs ρ)
  | _ => False
theorem gd_names {W : Wd}{pn : List (D × V)}{M : Addr -> Prop}{b : Option Addr}{H : Hp}{Q : St -> Hp -> Prop}{P : Ev -> Prop} : ∀ (js : List Nat) (xs : List D) (vs : List V) (σ : St) (ρ : Ev),Sta W pn M b H σ ρ -> Reps W.K M H xs vs -> xs.length = js.length -> P (setAll js xs ρ) -> (∀ ρ' σ',P ρ' -> Sta W pn M b H σ' ρ' -> (∀ (i : Nat) d,mine d = true -> ρ'[i]? = some (some d) -> ρ[i]? = some (some d) /\ σ'[i]? = σ[i]?) -> Q σ' H) -> gNames js vs σ H Q
  | [],[],vs,σ,ρ,st,r,hl,h,k => ⟨r,k _ _ h st fun _ _ _ e => ⟨e,rfl⟩⟩
  | j :: js,x :: xs,vs,σ,ρ,st,r,hl,h,k => by
    obtain ⟨v,us,rfl,r1,r2⟩ := r
    refine ⟨v,us,rfl,?_⟩
    have p : plain x = true := by cases x <;> first | rfl | exact r1.elim
    refine gd_names js xs us _ (ρ.set j (some x)) (st.set j r1.x) r2 (by simpa using hl) h fun ρ' σ' hp st' ho => k ρ' σ' hp st' fun i xs hm e => ?_
    obtain ⟨z1,z2⟩ := ho i xs hm e
    obtain ⟨z3,z4⟩ := own_set (v := v) (σ := σ) p i xs hm z1
    exact ⟨z3,z2.trans z4⟩
theorem gd_seq {W : Wd}(js : List Nat) : GD W (gSeq W.K js.length (gNames js)) (gdU js) := fun pn M b H σ ρ x v Q P st r p h k => by
  cases x <;> first | exact h.elim | skip
  case tup xs =>
    obtain ⟨a,vs,rfl,hh,r⟩ := r
    exact .inl ⟨a,vs,rfl,hh.sq,by rw [r.length]; exact h.1,gd_names js xs vs σ ρ st r h.1 h.2 k⟩
  case lst xs =>
    obtain ⟨a,vs,rfl,hh,r⟩ := r
    exact .inr ⟨a,vs,rfl,SqL.of hh.2,by rw [r.length]; exact h.1,gd_names js xs vs σ ρ st r h.1 h.2 k⟩
theorem PG.or {X : Cx}{tg : Expr}{t u : TG}(h : PG X tg t)(h' : PG X tg u) : PG X tg (fun v σ H Q => t v σ H Q \/ u v σ H Q) := by
  intro pins s σ H v u' Q I r q
  rcases q with q | q
  · exact h pins s σ H v u' Q I r q
  · exact h' pins s σ H v u' Q I r q
theorem gkeep_seq {K : PySem.W.Frag}{js : List Nat}{n : Nat}{map : List (Option Nat)}(hj : ∀ j ∈ js,map[j]? = some none) : GKeep (gSeq K n (gNames js)) map := by
  have key : ∀ (js : List Nat),(∀ j ∈ js,map[j]? = some none) -> ∀ vs σ H Q,gNames js vs σ H Q -> gNames js vs σ H fun σ' H' => (σ'.length = σ.length /\ ∀ j i : Nat,map[j]? = some (some i) -> σ'[j]? = σ[j]?) /\ Q σ' H' := by
    intro js
    induction js with
    | nil => intro _ vs σ H Q h; exact ⟨h.1,⟨rfl,fun _ _ _ => rfl⟩,h.2⟩
    | cons j js ih =>
      intro hj vs σ H Q h
      obtain ⟨v,r,e,h⟩ := h
      refine ⟨v,r,e,?_⟩
      have q := ih (fun j' m => hj j' (.tail _ m)) r _ H _ h
      have mono : ∀ (js : List Nat) vs σ H (Q Q' : St -> Hp -> Prop),(∀ s h,Q s h -> Q' s h) -> gNames js vs σ H Q -> gNames js vs σ H Q' := by
        intro js
        induction js with
        | nil => intro vs σ H Q Q' m h; exact ⟨h.1,m _ _ h.2⟩
        | cons j js ih => intro vs σ H Q Q' m ⟨v,r,e,h⟩; exact ⟨v,r,e,ih _ _ _ _ _ m h⟩
      refine mono js r _ H _ _ (fun s h ⟨⟨l,z⟩,w⟩ => ⟨⟨by rw [l]; simp,fun j' i hm => ?_⟩,w⟩) q
      rw [z j' i hm]
      have n1 : j ≠ j' := fun z => by
        have := hj j (.head _)
        rw [z,hm] at this; cases this
      rw [List.getElem?_set_ne n1]
  intro v σ H Q h
  rcases h with ⟨a,xs,e,s,l,h⟩ | ⟨a,xs,e,s,l,h⟩
  · exact .inl ⟨a,xs,e,s,l,key js hj _ _ _ _ h⟩
  · exact .inr ⟨a,xs,e,s,l,key js hj _ _ _ _ h⟩
def captD (ρ : Ev)(map : List (Option Nat)) : Ev := map.map fun o => o.bind fun i => (ρ[i]?).join
def dCompL (gd : D -> Ev -> (Ev -> Prop) -> Prop)(dt : DT)(de : DE)(ρc : Ev) : List D -> List D -> (List D -> Prop) -> Prop
  | [],acc,P => P acc
  | x :: xs,acc,P => gd x ρc fun ρ1 => dt ρ1 fun c => IfP c (de ρ1 fun y => plain y = true /\ dCompL gd dt de ρc xs (acc ++ [y]) P) (dCompL gd dt de ρc xs acc P)
inductive compI (gd : D -> Ev -> (Ev -> Prop) -> Prop)(dt : DT)(de : DE)(ρc : Ev)(items : List D)(P : List D -> Prop) : Prop
  | mk (I : Nat -> List D -> Prop) (h0 : I 0 []) (hs : ∀ (i : Nat) x acc,items[i]? = some x -> I i acc -> gd x ρc fun ρ1 => dt ρ1 fun c => IfP c (de ρ1 fun y => plain y = true /\ I (i + 1) (acc ++ [y])) (I (i + 1) acc)) (hd : ∀ acc,I items.length acc -> P acc) : compI gd dt de ρc items P
theorem comp_rec {gd : D -> Ev -> (Ev -> Prop) -> Prop}{dt : DT}{de : DE}{ρc : Ev}{items : List D}{P : List D -> Prop}(h : dCompL gd dt de ρc items [] P) : compI gd dt de ρc items P := by
  refine ⟨fun i acc => dCompL gd dt de ρc (items.drop i) acc P,h,fun i x acc e q => ?_,fun acc q => ?_⟩
  · obtain ⟨hlt,rfl⟩ := List.getElem?_eq_some_iff.mp e
    try dsimp only at q
    rw [List.drop_eq_getElem_cons hlt] at q
    exact q
  · (try dsimp only at q); rw [List.drop_length] at q; exact q
def dComp (map : List (Option Nat))(gd : D -> Ev -> (Ev -> Prop) -> Prop)(di : DA)(dt : DT)(de : DE) : DE := fun ρ P => di ρ fun items => items.length <= 1000 /\ compI gd dt de (captD ρ map) items fun acc => P (.lst acc)
theorem Sta.capt {W : Wd}{pn : List (D × V)}{M : Addr -> Prop}{b : Option Addr}{H : Hp}{σ : St}{ρ : Ev}(s : Sta W pn M b H σ ρ)(map : List (Option Nat)) : Sta W pn M b H (capt σ map) (captD ρ map) where
  toHs := s.toHs
  kp := s.kp
  new := s.new
  len := by simp [L2.capt,captD]
  pin := s.pin
  env := fun j d e => by
    unfold captD at e
    rw [List.getElem?_map] at e
    simp only [Option.map_eq_some_iff] at e
    obtain ⟨o,e1,e2⟩ := e
    simp only [Option.bind_eq_some_iff] at e2
    obtain ⟨i,rfl,e3⟩ := e2
    have e4 : ρ[i]? = some (some d) := by
      cases q : ρ[i]? with
      | none => rw [q] at e3; cases e3
      | some z => rw [q] at e3; exact congrArg some e3
    obtain ⟨v,e5,r⟩ := s.env i d e4
    exact ⟨v,by unfold L2.capt; rw [List.getElem?_map,e1]; simp [e5],r⟩
theorem comp_turns {W : Wd}{pn : List (D × V)}{M : Addr -> Prop}{b : Option Addr}{H : Hp}{σ : St}{ρ : Ev}{J : It}{need : List (D × V)}{items : List D}{g : TG}{gd : D -> Ev -> (Ev -> Prop) -> Prop}{dt : DT}{de : DE}{P : List D -> Prop}{Fin : List V -> Hp -> Prop}
    (hG : GD W g gd) (st : Sta W pn M b H σ ρ) (hp : items.all plain = true) (hI : ItOk W J need items) (hn : ∀ q ∈ need,RepX W M b H q.1 q.2) (hl : items.length <= 1000) (h : compI gd dt de ρ items P)
    (fin : ∀ ds acc H',P ds -> Reps W.K M H' ds acc -> acc.length <= sizeLine -> Kp b H H' -> okB W.B b H' -> Fin acc H') : ∃ Wf : Nat -> Nat -> List V -> Hp -> Prop,(∃ m,Wf 0 m [] H) /\ Turns J g (dnT W dt) (dn W de) σ Fin Wf := by
  obtain ⟨I,i0,istep,idone⟩ := h
  refine ⟨fun i m acc H2 => m = items.length - i /\ i <= items.length /\ acc.length <= i /\ Kp b H H2 /\ okB W.B b H2 /\ ∃ ds,Reps W.K M H2 ds acc /\ I i ds,⟨items.length,by simp,Nat.zero_le _,Nat.le_refl _,Kp.refl _ _,st.ok,[],rfl,i0⟩,?_⟩
  rintro i m acc H2 ⟨rfl,hi,ha,k2,o2,ds,r,q⟩
  have st2 := st.step k2 o2
  obtain ⟨hgo,hstop⟩ := hI M b H2 st2.toHs fun q hq => (hn q hq).step st.bagM k2
  by_cases hlt : i < items.length
  · have ei : items[i]? = some items[i] := List.getElem?_eq_getElem hlt
    replace q := istep i _ ds ei q
    refine .inr ⟨(hgo i _ ei).1,by have := le1000; omega,fun acc' H' => acc'.length <= i + 1 /\ Kp b H H' /\ okB W.B b H' /\ ∃ ds,Reps W.K M H' ds acc' /\ I (i + 1) ds,fun acc' H' n => ⟨items.length - (i + 1),by omega,rfl,hlt,n⟩,fun x H3 y => ?_⟩
    obtain ⟨S3,rx⟩ := (hgo i _ ei).2 x H3 y
    have o3 : okB W.B b H3 := fun p e => W.B.st p H2 H3 (o2 p e) fun o e' => S3 p o e'
    have k3 : Kp b H2 H3 := Kp.same S3
    have st3 := st2.step k3 o3
    refine hG pn M b H3 σ ρ items[i] x _ _ st3 rx (List.all_eq_true.mp hp _ (List.getElem_mem hlt)) q fun ρ1 σ1 h1 st4 _ => ?_
    refine ⟨pn,M,b,ρ1,_,st4,h1,fun c H5 h5 k5 o5 => ?_⟩
    cases h5 with
    | t e h5 =>
      rw [if_pos e]
      refine ⟨pn,M,b,ρ1,_,st4.step k5 o5,h5,fun y v H6 h6 ry k6 o6 => ?_⟩
      have kk := ((k3.trans k5).trans k6)
      refine ⟨by simp; omega,k2.trans kk,o6,ds ++ [y],Reps.append (Reps.keep (fun c o n e => kk c o (fun z => n (st.bagM c z)) e) _ _ r) ⟨v,[],rfl,ry.rep h6.1,rfl⟩,h6.2⟩
    | f e h5 =>
      rw [if_neg (by rw [e]; exact Bool.false_ne_true)]
      have kk := k3.trans k5
      exact ⟨by omega,k2.trans kk,o5,ds,Reps.keep (fun c o n e => kk c o (fun z => n (st.bagM c z)) e) _ _ r,h5⟩
  · have e : i = items.length := by omega
    subst e
    exact .inl ⟨hstop _ (Nat.le_refl _),by have := le1000; omega,fin ds acc H2 (idone _ q) r (by have := le1000; omega) k2 o2⟩
section
variable {X : Cx}{W : Wd}{elt iter tg : Expr}{ifs : List Expr}{scope : Scope}{pos : Pos}{N' : List Str}{map : List (Option Nat)}{g : TG}{gd : D -> Ev -> (Ev -> Prop) -> Prop}{di : DA}{dt : DT}{de : DE}
theorem de_comp (hG : GD W g gd)(B : Blk X N' scope map tg elt ifs g (dnT W dt) (dn W de))(hi : PI X tg iter (dnI W false di))(hs : ∀ x,foldedSetIterable iter X.env x = pure x := by intro _; rfl) : PE X (.ListComp elt [⟨tg,iter,ifs,0⟩] scope pos) (dn W (dComp map gd di dt de)) := (pe_comp B hi hs).mono fun σ H Q hh => hh.elim fun pn M b ρ P st h k => by
  refine ⟨pn,M,b,ρ,_,st,h,fun items J need H1 hx hp hI hn k1 o1 => ?_⟩
  have st1 := st.step k1 o1
  refine comp_turns hG (st1.capt map) hp hI (fun q hq => (hn q hq).1) hx.1 hx.2 fun ds acc H' hP r hl k2 o2 D hD => ?_
  exact k _ _ _ hP (new_lst (st1.step k2 o2).toHs r hD) ((k1.trans k2).trans (Kp.upd hD)) ((st1.step k2 o2).okU hD)
def dTrue : DT := fun _ P => P true
theorem dif_nil : PIf X [] (dnT W dTrue) := fun pins s σ H Q I hh => hh.elim fun pn M b ρ P st h k => pif_nil pins s σ H Q I (k true H h (Kp.refl _ _) st.ok)
theorem dif_one {c : Expr}(hc : PT X c (dnT W dt)) : PIf X [c] (dnT W dt) := pif_one hc
end
end L2
set_option Elab.async false
set_option linter.all false
set_option maxRecDepth 100000
set_option maxHeartbeats 4000000
namespace L2
open PySem PySem.Spec PyProof.Rows
structure StS (W : Wd)(pn : List (D × V))(M : Addr -> Prop)(b : Option Addr)(H : Hp)(σ : St)(ρ : Ev) : Prop extends Sta W pn M b H σ ρ where
  dj : ∀ (i j : Nat) d e v u c,ρ[i]? = some (some d) -> ρ[j]? = some (some e) -> σ[i]? = some (some v) -> σ[j]? = some (some u) -> mineA d v c -> mineA e u c -> i = j
  lj : ∀ ys a,(D.own ys,V.ref a) ∈ pn -> ∀ (i : Nat) d v,ρ[i]? = some (some d) -> σ[i]? = some (some v) -> ¬ mineA d v a
theorem StS.own {W : Wd}{pn : List (D × V)}{M : Addr -> Prop}{b : Option Addr}{H : Hp}{σ : St}{ρ : Ev}(s : StS W pn M b H σ ρ) : ∀ (i j : Nat) xs ys a,ρ[i]? = some (some (.own xs)) -> ρ[j]? = some (some (.own ys)) -> σ[i]? = some (some (.ref a)) -> σ[j]? = some (some (.ref a)) -> i = j := fun i j xs ys a e1 e2 e3 e4 => s.dj i j _ _ _ _ a e1 e2 e3 e4 rfl rfl
theorem StS.lk {W : Wd}{pn : List (D × V)}{M : Addr -> Prop}{b : Option Addr}{H : Hp}{σ : St}{ρ : Ev}(s : StS W pn M b H σ ρ) : ∀ ys a,(D.own ys,V.ref a) ∈ pn -> ∀ (i : Nat) xs,ρ[i]? = some (some (.own xs)) -> σ[i]? ≠ some (some (.ref a)) := fun ys a hq i xs e y => s.lj ys a hq i _ _ e y rfl
theorem StS.step {W : Wd}{pn : List (D × V)}{M : Addr -> Prop}{b : Option Addr}{H H' : Hp}{σ : St}{ρ : Ev}(s : StS W pn M b H σ ρ)(k : Kp b H H')(o : okB W.B b H') : StS W pn M b H' σ ρ := ⟨s.toSta.step k o,s.dj,s.lj⟩
theorem StS.of2 {W : Wd}{pn pn' : List (D × V)}{M M' : Addr -> Prop}{b b' : Option Addr}{H H' : Hp}{σ σ' : St}{ρ ρ' : Ev}(s : StS W pn M b H σ ρ)(t : Sta W pn' M' b' H' σ' ρ')(hp : ∀ ys a,(D.own ys,V.ref a) ∈ pn' -> (D.own ys,V.ref a) ∈ pn)(h : ∀ (i : Nat) d v c,ρ'[i]? = some (some d) -> σ'[i]? = some (some v) -> mineA d v c -> ∃ d0,ρ[i]? = some (some d0) /\ σ[i]? = some (some v) /\ mineA d0 v c) : StS W pn' M' b' H' σ' ρ' :=
  ⟨t,fun i j d e v u c e1 e2 e3 e4 m1 m2 => by
    obtain ⟨d0,z1,z2,z3⟩ := h i d v c e1 e3 m1
    obtain ⟨d1,y1,y2,y3⟩ := h j e u c e2 e4 m2
    exact s.dj i j d0 d1 v u c z1 y1 z2 y2 z3 y3,fun ys a hq i d v e1 e2 m => by
    obtain ⟨d0,z1,z2,z3⟩ := h i d v a e1 e2 m
    exact s.lj ys a (hp ys a hq) i d0 v z1 z2 z3⟩
theorem StS.of {W : Wd}{pn : List (D × V)}{M M' : Addr -> Prop}{b b' : Option Addr}{H H' : Hp}{σ σ' : St}{ρ ρ' : Ev}(s : StS W pn M b H σ ρ)(t : Sta W pn M' b' H' σ' ρ')(h : ∀ (i : Nat) d,mine d = true -> ρ'[i]? = some (some d) -> ρ[i]? = some (some d) /\ σ'[i]? = σ[i]?) : StS W pn M' b' H' σ' ρ' :=
  s.of2 t (fun _ _ q => q) fun i d v c e1 e2 m => by
    obtain ⟨z1,z2⟩ := h i d m.m e1
    exact ⟨d,z1,z2 ▸ e2,m⟩
theorem StS.add {W : Wd}{pn : List (D × V)}{M M' : Addr -> Prop}{b b' : Option Addr}{H H' : Hp}{σ : St}{ρ : Ev}(s : StS W pn M b H σ ρ)(i : Nat){d : D}{v : V}(t : Sta W pn M' b' H' (σ.set i (some v)) (ρ.set i (some d)))(h : ∀ c,mineA d v c -> ¬ M c) : StS W pn M' b' H' (σ.set i (some v)) (ρ.set i (some d)) := by
  have slot : ∀ (j : Nat) e u,(ρ.set i (some d))[j]? = some (some e) -> (σ.set i (some v))[j]? = some (some u) -> (j = i /\ e = d /\ u = v) \/ (j ≠ i /\ ρ[j]? = some (some e) /\ σ[j]? = some (some u)) := fun j e u e1 e2 => by
    by_cases z : i = j
    · subst z
      rw [List.getElem?_set] at e1 e2
      simp at e1 e2
      exact .inl ⟨rfl,e1.2.symm,e2.2.symm⟩
    · rw [List.getElem?_set_ne z] at e1 e2
      exact .inr ⟨fun y => z y.symm,e1,e2⟩
  have old : ∀ (j : Nat) e u c,ρ[j]? = some (some e) -> σ[j]? = some (some u) -> mineA e u c -> M c := fun j e u c e1 e2 m => by
    obtain ⟨w,e3,r⟩ := s.env j e e1
    rw [e2] at e3; cases e3
    exact (r.mine m).1
  refine ⟨t,fun j k e f u w c e1 e2 e3 e4 m1 m2 => ?_,fun ys a hq j e u e1 e2 m => ?_⟩
  · rcases slot j e u e1 e3 with ⟨z1,z2,z3⟩ | ⟨z1,z2,z3⟩ <;> rcases slot k f w e2 e4 with ⟨y1,y2,y3⟩ | ⟨y1,y2,y3⟩
    · rw [z1,y1]
    · subst z2 z3; exact absurd (old k f w c y2 y3 m2) (h c m1)
    · subst y2 y3; exact absurd (old j e u c z2 z3 m1) (h c m2)
    · exact s.dj j k e f u w c z2 y2 z3 y3 m1 m2
  · rcases slot j e u e1 e2 with ⟨z1,z2,z3⟩ | ⟨z1,z2,z3⟩
    · subst z2 z3
      obtain ⟨a2,us2,ev,n1,_⟩ := (s.pin _ hq)
      cases ev
      exact absurd n1 (h a m)
    · exact s.lj ys a hq j e u z2 z3 m
structure DEnds where
  nx : Ev -> Prop
  rt : D -> Prop
  bk : Ev -> Prop := fun _ => False
  ct : Ev -> Prop := fun _ => False
  ro : List D -> Prop := fun _ => False
abbrev DS := DEnds -> Ev -> Prop
structure Link (W : Wd)(pn : List (D × V))(E : Ends)(F : DEnds) : Prop where
  nx : ∀ M b ρ σ H,StS W pn M b H σ ρ -> F.nx ρ -> E.nx σ H
  rt : ∀ d v H,F.rt d -> Rep W.K W.M0 H d v -> Kp W.b0 W.H0 H -> okB W.B W.b0 H -> E.rt v H
  bk : ∀ M b ρ σ H,StS W pn M b H σ ρ -> F.bk ρ -> E.bk σ H
  ct : ∀ M b ρ σ H,StS W pn M b H σ ρ -> F.ct ρ -> E.ct σ H
  ro : ∀ xs a vs H,F.ro xs -> W.H0 a = none -> ¬ W.M0 a -> H a = some (.lst vs) -> Reps W.K (fun c => W.M0 c \/ c = a) H xs vs -> Kp W.b0 W.H0 H -> okB W.B W.b0 H -> E.rt (.ref a) H
def sn (W : Wd)(d : DS) : TS := fun E σ H => ∃ pn M b ρ F,StS W pn M b H σ ρ /\ Link W pn E F /\ d F ρ
theorem sn.elim {W : Wd}{d : DS}{E : Ends}{σ : St}{H : Hp}{Z : Prop}(h : sn W d E σ H)(f : ∀ pn M b ρ F,StS W pn M b H σ ρ -> Link W pn E F -> d F ρ -> Z) : Z := by
  obtain ⟨pn,M,b,ρ,F,s,l,h⟩ := h
  exact f pn M b ρ F s l h
section
variable {X : Cx}{W : Wd}{e a b c tg iter l : Expr}{es : List Expr}{pos p : Pos}{d da db dc dl de : DE}{dA di : DA}{dt : DT}{st : Stmt}{rest sts : List Stmt}{d1 d2 : DS}{t : TS}
theorem PS.mono {t' : TS}(h : PS X st t)(m : ∀ E σ H,t' E σ H -> t E σ H) : PS X st t' := fun pins s σ H D I q => h pins s σ H D I (m D σ H q)
theorem PSs.mono {t' : TS}(h : PSs X sts t)(m : ∀ E σ H,t' E σ H -> t E σ H) : PSs X sts t' := fun pins s σ H D I q => h pins s σ H D I (m D σ H q)
def dNext : DS := fun F ρ => F.nx ρ
def dSeq (d1 d2 : DS) : DS := fun F ρ => d1 { F with nx := d2 F } ρ
theorem dss_nil : PSs X [] (sn W dNext) := pss_nil.mono fun E σ H hh => hh.elim fun pn M b ρ F s l h => l.nx _ _ _ _ _ s h
theorem dss_one (h : PS X st (sn W d1)) : PSs X [st] (sn W d1) := pss_one h
theorem dss_cons (h1 : PS X st (sn W d1))(h2 : PSs X rest (sn W d2)) : PSs X (st :: rest) (sn W (dSeq d1 d2)) := (pss_cons h1 h2).mono fun E σ H hh => hh.elim fun pn M b ρ F s l h => ⟨pn,M,b,ρ,{ F with nx := d2 F },s,⟨fun M b ρ σ H s' h' => ⟨pn,M,b,ρ,F,s',l,h'⟩,l.rt,l.bk,l.ct,l.ro⟩,h⟩
def dRet (de : DE) : DS := fun F ρ => de ρ fun x => match x with | .own xs => F.rt (.lst xs) | .bag => False | .frg _ _ => False | x => F.rt x
theorem ret_rep {M : Addr -> Prop}{b : Option Addr}{H : Hp}{x : D}{v : V}(hs : Hs W M b H)(r : Rep W.K M H x v) : Rep W.K W.M0 H x v := Rep.avoid (fun c m => .inl (hs.m0 c m)) _ _ r
theorem ds_ret (he : PE X e (dn W de)) : PS X (.Return (some e) pos) (sn W (dRet de)) := (ps_ret he).mono fun E σ H hh => hh.elim fun pn M b ρ F s l h => by
  refine ⟨pn,M,b,ρ,_,s.toSta,h,fun x v H' hx rx k o => ?_⟩
  have s' := s.toSta.step k o
  cases x
  case own xs =>
    obtain ⟨a,vs,rfl,m,n,n0,m0,hh,r⟩ := rx
    exact l.rt _ _ H' hx ⟨a,vs,rfl,⟨m0,hh⟩,Reps.avoid (fun c m => .inl (s'.m0 c m)) _ _ r⟩ s'.kp s'.ok0
  case bag => exact hx.elim
  case frg => exact hx.elim
  all_goals exact l.rt _ _ H' hx (ret_rep s'.toHs (RepX.rep rx rfl)) s'.kp s'.ok0
def dIfS (dt : DT)(d1 d2 : DS) : DS := fun F ρ => dt ρ fun c => IfP c (d1 F ρ) (d2 F ρ)
theorem ds_if {s1 s2 : List Stmt}(hc : PT X c (dnT W dt))(ha : PSs X s1 (sn W d1))(hb : PSs X s2 (sn W d2)) : PS X (.If c s1 s2 pos) (sn W (dIfS dt d1 d2)) := (ps_if hc ha hb).mono fun E σ H hh => hh.elim fun pn M b ρ F s l h => by
  refine ⟨pn,M,b,ρ,_,s.toSta,h,fun x H' hx k o => ?_⟩
  cases hx with
  | t e hx => rw [if_pos e]; exact ⟨pn,M,b,ρ,F,s.step k o,l,hx⟩
  | f e hx => rw [if_neg (by rw [e]; exact Bool.false_ne_true)]; exact ⟨pn,M,b,ρ,F,s.step k o,l,hx⟩
def dAsg (de : DE)(gd : D -> Ev -> (Ev -> Prop) -> Prop) : DS := fun F ρ => de ρ fun x => plain x = true /\ gd x ρ F.nx
theorem up_asg {g : TG}{gd : D -> Ev -> (Ev -> Prop) -> Prop}(hG : GD W g gd) : ∀ E σ H,sn W (dAsg de gd) E σ H -> tAsg (dn W de) g E σ H := fun E σ H hh => hh.elim fun pn M b ρ F s l h => by
  refine ⟨pn,M,b,ρ,_,s.toSta,h,fun x v H' hx rx k o => ?_⟩
  exact hG pn M b H' σ ρ x v E.nx F.nx (s.toSta.step k o) rx hx.1 hx.2 fun ρ' σ' hp st' ho => l.nx _ _ _ _ _ (s.of st' ho) hp
theorem ds_set {i : Nat} {x : Str} {pos' : Pos} (hN : X.N.Nodup) (hi : X.N[i]? = some x) (hx : Loc X.env.scope x) (he : PE X e (dn W de)) (hs : swapsWith e (some (.Name x pos')) pos.line X.env = pure false := by rfl) (hf : X.fn x = true \/ X.env.scope.names.lookup x = some .local := by first | exact .inl rfl | exact .inr rfl | assumption) :
    PS X (.Assign [.Name x pos'] e pos) (sn W (dAsg de (gdN i))) := (ps_set hN hi hx he hs hf).mono (up_asg (gd_name i))
theorem ds_asg {g : TG}{gd : D -> Ev -> (Ev -> Prop) -> Prop}(hG : GD W g gd)(he : PE X e (dn W de))(hg : PG X tg g)(hs : swapsWithSole [tg] e pos.line X.env = pure false := by rfl)(hw : swappedStores [tg] e X.env = pure none := by rfl)
    (h1 : (assignEach [tg] X.env).map (·.2) = [assign tg X.env] := by rfl) : PS X (.Assign [tg] e pos) (sn W (dAsg de gd)) := (ps_asg he hg hs hw h1).mono (up_asg hG)
theorem StS.newOwn {pn : List (D × V)}{M : Addr -> Prop}{b : Option Addr}{H : Hp}{σ : St}{ρ : Ev}{xs : List D}{vs : List V}{p : Addr}(s : StS W pn M b H σ ρ)(i : Nat)(r : Reps W.K M H xs vs)(h : H p = none) :
    StS W pn (fun c => M c \/ c = p) b (upd H p (.lst vs)) (σ.set i (some (.ref p))) (ρ.set i (some (.own xs))) := by
  have hM : ∀ c,(M c \/ c = p) -> M c \/ H c = none := fun c hc => hc.imp id (fun z => by rw [z]; exact h)
  have kk : ∀ c o,H c = some o -> upd H p (.lst vs) c = some o := fun c o e => Same.upd h c o e
  have rep : ∀ d v,Rep W.K M H d v -> Rep W.K (fun c => M c \/ c = p) (upd H p (.lst vs)) d v := fun d v r => Rep.keep (fun c o _ e => kk c o e) _ _ (Rep.avoid hM _ _ r)
  have reps : ∀ d v,Reps W.K M H d v -> Reps W.K (fun c => M c \/ c = p) (upd H p (.lst vs)) d v := fun d v r => Reps.keep (fun c o _ e => kk c o e) _ _ (Reps.avoid hM _ _ r)
  have hbp : b ≠ some p := fun z => by
    obtain ⟨o,e⟩ := W.B.dm p H (s.ok p z)
    rw [h] at e; cases e
  have h0 : W.H0 p = none := by
    cases q : W.H0 p with
    | none => rfl
    | some o =>
      by_cases z : W.b0 = some p
      · rcases s.new with y | ⟨y,_⟩
        · exact absurd (y.trans z) hbp
        · rw [y] at z; cases z
      · have := s.kp p o z q
        rw [h] at this; cases this
  have hm0 : ¬ W.M0 p := fun z => s.toHs.new h (s.m0 p z)
  refine s.add i ⟨⟨s.toHs.okU h,fun q e => .inl (s.bagM q e),fun c hc => ?_,fun c m => .inl (s.m0 c m)⟩,fun c o n e => kk c o (s.kp c o n e),s.new,fun j d e => ?_,by simp [s.len],fun q hq => (s.pin q hq).to rep reps fun xs a vs _ _ m n hh => ⟨.inl m,n,kk _ _ hh⟩⟩ fun c m => by
    cases (show V.ref p = V.ref c from m)
    exact s.toHs.new h
  · rcases hc with hc | hc
    · obtain ⟨o,e⟩ := s.dom c hc; exact ⟨o,kk c o e⟩
    · rw [hc]; exact ⟨_,upd_same⟩
  · by_cases z : i = j
    · subst z
      rw [List.getElem?_set] at e
      simp at e
      obtain ⟨hl,rfl⟩ := e
      exact ⟨.ref p,by rw [List.getElem?_set]; simp [<- s.len,hl],p,vs,rfl,.inr rfl,hbp,h0,hm0,upd_same,reps _ _ r⟩
    · rw [List.getElem?_set_ne z] at e
      obtain ⟨w,e1,r1⟩ := s.env j d e
      refine ⟨w,by rw [List.getElem?_set_ne z]; exact e1,?_⟩
      cases d
      case own ys =>
        obtain ⟨a,us,rfl,m1,m2,m3,m4,hh,r'⟩ := r1
        exact ⟨a,us,rfl,.inl m1,m2,m3,m4,kk _ _ hh,reps _ _ r'⟩
      case bag => exact r1
      case frg f _ => exact RepX.move r1 (fun c _ m n => ⟨.inl m,n⟩) (fun c o _ e => kk c o e) hM
      all_goals exact rep _ _ r1
theorem StS.setOwn {pn : List (D × V)}{M : Addr -> Prop}{b : Option Addr}{H : Hp}{σ : St}{ρ : Ev}{xs ys : List D}{vs : List V}{a : Addr}(s : StS W pn M b H σ ρ)(i : Nat)(e : ρ[i]? = some (some (.own xs)))(ea : σ[i]? = some (some (.ref a)))(r : Reps W.K M H ys vs) :
    StS W pn M b (upd H a (.lst vs)) σ (ρ.set i (some (.own ys))) := by
  obtain ⟨v,e1,a',us,ev,m1,m2,m3,m4,hh,r'⟩ := s.env i _ e
  rw [ea] at e1; cases e1; cases ev
  have kk : ∀ c o,¬ M c -> H c = some o -> upd H a (.lst vs) c = some o := fun c o n q => by rw [upd_ne (show c ≠ a from fun z => n (by rw [z]; exact m1))]; exact q
  have kb : ∀ c o,c ≠ a -> H c = some o -> upd H a (.lst vs) c = some o := fun c o n q => by rw [upd_ne n]; exact q
  refine s.of2 ⟨⟨fun q z => W.B.st q H _ (s.ok q z) fun o h => kb q o (fun w => m2 (w ▸ z)) h,s.bagM,fun c hc => ?_,s.m0⟩,fun c o n q => kb c o (fun z => by rw [z,m3] at q; cases q) (s.kp c o n q),s.new,fun j d e' => ?_,by simp [s.len],fun q hq => (s.pin q hq).to (fun _ _ r => Rep.keep kk _ _ r) (fun _ _ r => Reps.keep kk _ _ r) fun zs a2 us ed ev m n hh2 => ⟨m,n,kb _ _ (fun y => s.lk zs a2 (by rw [<- ed,<- ev]; exact hq) i xs e (by rw [y]; exact ea)) hh2⟩⟩ (fun _ _ q => q) fun j d v c e' e2 m => ?_
  · by_cases z : c = a
    · rw [z]; exact ⟨_,upd_same⟩
    · obtain ⟨o,q⟩ := s.dom c hc; exact ⟨o,kb c o z q⟩
  · by_cases z : i = j
    · subst z
      rw [List.getElem?_set] at e'
      simp at e'
      obtain ⟨hl,rfl⟩ := e'
      exact ⟨.ref a,ea,a,vs,rfl,m1,m2,m3,m4,upd_same,Reps.keep kk _ _ r⟩
    · rw [List.getElem?_set_ne z] at e'
      obtain ⟨w,e1,r1⟩ := s.env j d e'
      refine ⟨w,e1,?_⟩
      cases d
      case own zs =>
        obtain ⟨a2,us2,rfl,n1,n2,n3,n4,hh2,r2⟩ := r1
        have na : a2 ≠ a := fun y => z (s.own i j xs zs a e e' ea (y ▸ e1))
        exact ⟨a2,us2,rfl,n1,n2,n3,n4,kb _ _ na hh2,Reps.keep kk _ _ r2⟩
      case bag => exact r1
      case frg f _ =>
        have na : a ∉ f.ads := fun y => z (s.dj i j _ _ _ _ a e e' ea e1 rfl y)
        exact RepX.move r1 (fun c _ m n => ⟨m,n⟩) (fun c o q h => kb c o (fun y => q.elim (fun n => n (by rw [y]; exact m1)) (fun n => na (by rw [<- y]; exact n))) h) fun c m => .inl m
      all_goals exact Rep.keep kk _ _ r1
  · by_cases z : i = j
    · subst z
      rw [List.getElem?_set] at e'
      simp at e'
      obtain ⟨_,rfl⟩ := e'
      exact ⟨_,e,e2,m⟩
    · rw [List.getElem?_set_ne z] at e'
      exact ⟨d,e',e2,m⟩
def dOwnL (i : Nat)(dA : DA) : DS := fun F ρ => dA ρ fun xs => okIt xs = true /\ F.nx (ρ.set i (some (.own xs)))
theorem ds_ownL {i : Nat} {x : Str} {pos' lpos : Pos} (hN : X.N.Nodup) (hi : X.N[i]? = some x) (hx : Loc X.env.scope x) (ha : PA X es (dnA W dA)) (hs : swapsWith (.List es lpos) (some (.Name x pos')) pos.line X.env = pure false := by rfl) (hf : X.fn x = true \/ X.env.scope.names.lookup x = some .local := by first | exact .inl rfl | exact .inr rfl | assumption) :
    PS X (.Assign [.Name x pos'] (.List es lpos) pos) (sn W (dOwnL i dA)) := (ps_set hN hi hx (pe_lst ha) hs hf).mono fun E σ H hh => hh.elim fun pn M b ρ F s l h => by
  refine ⟨pn,M,b,ρ,_,s.toSta,h,fun xs vs H' hx rx k o => ?_⟩
  have rr := rx.reps _ _ (okIt.pl hx.1)
  exact ⟨by rw [rr.length]; exact okIt.len hx.1,fun q hq => l.nx _ _ _ _ _ ((s.step k o).newOwn i rr hq) hx.2⟩
def dSetC (own : Bool)(i : Nat)(map : List (Option Nat))(gd : D -> Ev -> (Ev -> Prop) -> Prop)(di : DA)(dt : DT)(de : DE) : DS := fun F ρ => di ρ fun items => items.length <= 1000 /\ compI gd dt de (captD ρ map) items fun acc => F.nx (ρ.set i (some (if own then .own acc else .lst acc)))
theorem ds_setC {elt iter tg : Expr}{ifs : List Expr}{scope : Scope}{N' : List Str}{map : List (Option Nat)}{g : TG}{gd : D -> Ev -> (Ev -> Prop) -> Prop}(own : Bool){i : Nat}{y : Str}{py spos : Pos}(hN : X.N.Nodup)(hiN : X.N[i]? = some y)(hy : Loc X.env.scope y)(hG : GD W g gd)(B : Blk X N' scope map tg elt ifs g (dnT W dt) (dn W de))(hi : PI X tg iter (dnI W false di))
    (hsw : swapsWith (.ListComp elt [⟨tg,iter,ifs,0⟩] scope pos) (some (.Name y py)) spos.line X.env = pure true := by rfl) (hfn : X.fn y = true \/ X.env.scope.names.lookup y = some .local := by first | exact .inl rfl | exact .inr rfl)
    (hs : ∀ x,foldedSetIterable iter X.env x = pure x := by intro _; rfl) : PS X (.Assign [.Name y py] (.ListComp elt [⟨tg,iter,ifs,0⟩] scope pos) spos) (sn W (dSetC own i map gd di dt de)) := (ps_setComp hN hiN hy B hi hsw hfn hs).mono fun E σ H hh => hh.elim fun pn M b ρ F s l h => by
  refine ⟨pn,M,b,ρ,_,s.toSta,h,fun items J need H1 hx hp hI hn k1 o1 => ?_⟩
  have s1 := s.step k1 o1
  refine comp_turns hG (s1.toSta.capt map) hp hI (fun q hq => (hn q hq).1) hx.1 hx.2 fun ds acc H' hP r hl k2 o2 q hq => ?_
  have s2 := s1.step k2 o2
  cases own
  · have s3 := (s2.step (Kp.upd (o := .lst acc) hq) (s2.toHs.okU hq))
    exact l.nx _ _ _ _ _ (s3.of (s3.toSta.set i (new_lst s2.toHs r hq)) (own_set rfl)) hP
  · exact l.nx _ _ _ _ _ (s2.newOwn i r hq) hP
def dApp (i : Nat)(dA : DA) : DS := fun F ρ => match ρ[i]? with
  | some (some (.own ys)) => dA ρ fun xs => (match xs with | [y] => (plain y && decide (ys.length < 1000)) = true /\ F.nx (ρ.set i (some (.own (ys ++ [y])))) | _ => False)
  | _ => False
theorem own_at {pn : List (D × V)}{M : Addr -> Prop}{b : Option Addr}{H : Hp}{σ : St}{ρ : Ev}{i : Nat}{ys : List D}(s : Sta W pn M b H σ ρ)(e : ρ[i]? = some (some (.own ys))) : ∃ a vs,σ[i]? = some (some (.ref a)) /\ b ≠ some a /\ H a = some (.lst vs) /\ Reps W.K M H ys vs := by
  obtain ⟨v,e1,a,us,rfl,m1,m2,m3,m4,hh,r⟩ := s.env i _ e
  exact ⟨a,us,e1,m2,hh,r⟩
theorem up_app {i : Nat} : ∀ E σ H,sn W (dApp i dA) E σ H -> tDrop (tBM W.K "list" rAppend (tVar i) (dnA W dA)) E σ H := fun E σ H hh => hh.elim fun pn M b ρ F s l h => by
  unfold dApp at h
  split at h
  case h_2 => exact h.elim
  case h_1 ys e =>
    obtain ⟨a,vs,ea,nb,hh,r⟩ := own_at s.toSta e
    refine ⟨.ref a,ea,.inl ⟨rfl,vs,SqL.of hh⟩,pn,M,b,ρ,_,s.toSta,h,fun xs us H' hx rx k o => ?_⟩
    match xs,hx with
    | [y],hx =>
      obtain ⟨u,rfl,ru⟩ := rx1 rx
      obtain ⟨p1,p2⟩ := (Bool.and_eq_true _ _).mp hx.1
      have p2 := of_decide_eq_true p2
      have s' := s.step k o
      obtain ⟨a',vs',ea',nb',hh',r'⟩ := own_at s'.toSta e
      rw [ea] at ea'; cases ea'
      refine ⟨a,vs',u,rfl,rfl,hh',by rw [r'.length]; have := le1000; omega,l.nx _ _ _ _ _ (s'.setOwn i e ea (Reps.append r' (show Reps W.K M H' [y] [u] from ⟨u,[],rfl,ru.rep p1,rfl⟩))) hx.2⟩
theorem ds_append {i : Nat}{x : Str}{e : Expr}{npos apos cpos : Pos}(hK : X.K = W.K)(hN : X.N[i]? = some x)(hv : Vis X.env.scope x)(ha : PA X [e] (dnA W dA))
    (h : PE X (.Call (.Attribute (.Name x npos) "append" apos) [e] [] cpos) (tBM X.K "list" rAppend (tVar i) (dnA W dA))) (hs : swapsWith (.Call (.Attribute (.Name x npos) "append" apos) [e] [] cpos) none pos.line X.env = pure false := by rfl) :
    PS X (.Expr (.Call (.Attribute (.Name x npos) "append" apos) [e] [] cpos) pos) (sn W (dApp i dA)) := (ps_expr (by rw [hK] at h; exact h) hs).mono up_app
def dSetI (i : Nat)(de dk : DE) : DS := fun F ρ => match ρ[i]? with
  | some (some (.own ys)) => de ρ fun x => dk ρ fun k => (match k with | .int k => plain x = true /\ (ixN ys.length k).elim False fun j => F.nx (ρ.set i (some (.own (ys.set j x)))) | _ => False)
  | _ => False
theorem up_setI {i : Nat}{dk : DE} : ∀ E σ H,sn W (dSetI i de dk) E σ H -> tAsg (dn W de) (gSub (tVar i) (dn W dk) rSetL) E σ H := fun E σ H hh => hh.elim fun pn M b ρ F s l h => by
  unfold dSetI at h
  split at h
  case h_2 => exact h.elim
  case h_1 ys e =>
    obtain ⟨a,vs,ea,nb,hh,r⟩ := own_at s.toSta e
    refine ⟨pn,M,b,ρ,_,s.toSta,h,fun x v H1 hx rx k1 o1 => ⟨.ref a,ea,pn,M,b,ρ,_,s.toSta.step k1 o1,hx,fun y u H2 hy ry k2 o2 => ?_⟩⟩
    cases y <;> first | exact hy.elim | skip
    case int k =>
      cases (show _ = _ from ry)
      have s' := (s.step k1 o1).step k2 o2
      obtain ⟨a',vs',ea',nb',hh',r'⟩ := own_at s'.toSta e
      rw [ea] at ea'; cases ea'
      obtain ⟨hp,hy⟩ := hy
      cases q : ixN ys.length k with
      | none => rw [q] at hy; exact hy.elim
      | some j =>
        rw [q] at hy
        exact ⟨a,vs',k,j,rfl,rfl,hh',by rw [r'.length]; exact q,l.nx _ _ _ _ _ (s'.setOwn i e ea (Reps.set ((rx.step s.bagM k2).rep hp) j r')) hy⟩
theorem ds_setI {i : Nat}{x : Str}{n : Expr}{dk : DE}{npos tpos : Pos}(hN : X.N[i]? = some x)(hv : Vis X.env.scope x)(he : PE X e (dn W de))(hk : PE X n (dn W dk))(hg : PG X (.Subscript (.Name x npos) n tpos) (gSub (tVar i) (dn W dk) rSetL))
    (hs : swapsWithSole [.Subscript (.Name x npos) n tpos] e pos.line X.env = pure false := by rfl) (hw : swappedStores [.Subscript (.Name x npos) n tpos] e X.env = pure none := by rfl)
    (h1 : (assignEach [.Subscript (.Name x npos) n tpos] X.env).map (·.2) = [assign (.Subscript (.Name x npos) n tpos) X.env] := by rfl) : PS X (.Assign [.Subscript (.Name x npos) n tpos] e pos) (sn W (dSetI i de dk)) := (ps_asg he hg hs hw h1).mono up_setI
def dAug (i : Nat)(f : Int -> Int -> Int)(de : DE) : DS := fun F ρ => match ρ[i]? with
  | some (some (.int n)) => de ρ fun y => (match y with | .int m => F.nx (ρ.set i (some (.int (f n m)))) | _ => False)
  | _ => False
theorem ds_aug {i : Nat} {x : Str} {op : Operator} {f : Int -> Int -> Int} {pos' : Pos} (hN : X.N.Nodup) (hi : X.N[i]? = some x) (hx : Loc X.env.scope x) (he : PE X e (dn W de)) (ho : PIp X op (ipI f)) (hf : X.fn x = true \/ X.env.scope.names.lookup x = some .local := by first | exact .inl rfl | exact .inr rfl | assumption) :
    PS X (.AugAssign (.Name x pos') op e pos) (sn W (dAug i f de)) := (ps_aug hN hi hx he ho hf).mono fun E σ H hh => hh.elim fun pn M b ρ F s l h => by
  unfold dAug at h
  split at h
  case h_2 => exact h.elim
  case h_1 n e =>
    obtain ⟨v,ev,rv⟩ := s.env i _ e
    cases (show _ = _ from rv)
    refine ⟨.int n,ev,pn,M,b,ρ,_,s.toSta,h,fun y u H' hy ry k o => ?_⟩
    cases y <;> first | exact hy.elim | skip
    case int m =>
      cases (show _ = _ from ry)
      have s' := s.step k o
      exact ⟨n,m,rfl,rfl,l.nx _ _ _ _ _ (s'.of (s'.toSta.set i (x := .int (f n m)) (v := .int (f n m)) (show _ = _ from rfl)) (own_set rfl)) hy⟩
inductive forI (gd : D -> Ev -> (Ev -> Prop) -> Prop)(db : DS)(F : DEnds)(items : List D)(ρ : Ev) : Prop
  | mk (I : Nat -> Ev -> Prop) (h0 : I 0 ρ) (hs : ∀ (i : Nat) x ρ,items[i]? = some x -> I i ρ -> gd x ρ fun ρ1 => db { F with nx := I (i + 1),ct := I (i + 1),bk := F.nx } ρ1) (hd : ∀ ρ,I items.length ρ -> F.nx ρ) : forI gd db F items ρ
def dFor (gd : D -> Ev -> (Ev -> Prop) -> Prop)(di : DA)(db : DS) : DS := fun F ρ => di ρ fun items => forI gd db F items ρ
theorem Sta.pins {pn pn' : List (D × V)}{M : Addr -> Prop}{b : Option Addr}{H : Hp}{σ : St}{ρ : Ev}(s : Sta W pn M b H σ ρ)(h : ∀ q ∈ pn',PinR W M b H q.1 q.2) : Sta W pn' M b H σ ρ := ⟨s.toHs,s.kp,s.new,s.env,s.len,h⟩
theorem up_for {g : TG}{gd : D -> Ev -> (Ev -> Prop) -> Prop}{db : DS}(hG : GD W g gd) : ∀ E σ H,sn W (dFor gd di db) E σ H -> tFor (dnI W true di) g (sn W db) E σ H := fun E σ H hh => hh.elim fun pn M b ρ F s l h => by
  refine ⟨pn,M,b,ρ,_,s.toSta,h,fun items J need H1 hx hp hI hn k1 o1 => ?_⟩
  have s1 := s.step k1 o1
  have pins : ∀ q ∈ need ++ pn,PinR W M b H1 q.1 q.2 := fun q hq => (List.mem_append.mp hq).elim (fun z => (hn q z).1.pin ((hn q z).2 rfl)) fun z => s1.pin q z
  obtain ⟨I,i0,istep,idone⟩ := hx
  refine ⟨fun i m σ H => m = items.length - i /\ i <= items.length /\ ∃ M b ρ,StS W (need ++ pn) M b H σ ρ /\ I i ρ,⟨items.length,by simp,Nat.zero_le _,M,b,ρ,⟨s1.toSta.pins pins,s1.dj,fun ys a hq => (List.mem_append.mp hq).elim (fun z => by have := (hn _ z).2 rfl; cases this) fun z => s1.lj ys a z⟩,i0⟩,?_⟩
  rintro i m σ2 H2 ⟨rfl,hi,M2,b2,ρ2,s2,q⟩
  have unp : ∀ {M b ρ σ H},StS W (need ++ pn) M b H σ ρ -> StS W pn M b H σ ρ := fun s => ⟨s.toSta.pins fun q hq => s.pin q (List.mem_append_right _ hq),s.dj,fun ys a hq => s.lj ys a (List.mem_append_right _ hq)⟩
  obtain ⟨hgo,hstop⟩ := hI M2 b2 H2 s2.toHs fun q hq => (s2.pin q (List.mem_append_left _ hq)).x
  by_cases hlt : i < items.length
  · have ei : items[i]? = some items[i] := List.getElem?_eq_getElem hlt
    replace q := istep i _ ρ2 ei q
    refine .inr ⟨(hgo i _ ei).1,fun σ' H' => ∃ M b ρ,StS W (need ++ pn) M b H' σ' ρ /\ I (i + 1) ρ,fun σ' H' n => ⟨items.length - (i + 1),by omega,rfl,hlt,n⟩,fun x H3 y => ?_⟩
    obtain ⟨S3,rx⟩ := (hgo i _ ei).2 x H3 y
    have o3 : okB W.B b2 H3 := fun p e => W.B.st p H2 H3 (s2.ok p e) fun o e' => S3 p o e'
    have s3 := s2.step (Kp.same S3) o3
    refine hG (need ++ pn) M2 b2 H3 σ2 ρ2 items[i] x _ _ s3.toSta rx (List.all_eq_true.mp hp _ (List.getElem_mem hlt)) q fun ρ1 σ1 h1 st4 ho => ?_
    exact ⟨need ++ pn,M2,b2,ρ1,{ F with nx := I (i + 1),ct := I (i + 1),bk := F.nx },s3.of st4 ho,⟨fun M b ρ σ H s' h' => ⟨M,b,ρ,s',h'⟩,l.rt,fun M b ρ σ H s' h' => l.nx _ _ _ _ _ (unp s') h',fun M b ρ σ H s' h' => ⟨M,b,ρ,s',h'⟩,l.ro⟩,h1⟩
  · have e : i = items.length := by omega
    subst e
    exact .inl ⟨hstop _ (Nat.le_refl _),l.nx _ _ _ _ _ (unp s2) (idone _ q)⟩
theorem ds_for {g : TG}{gd : D -> Ev -> (Ev -> Prop) -> Prop}{db : DS}{body : List Stmt}(hG : GD W g gd)(hp : PassesOwn (model X.prog X.w) X.A X.env X.xe)(hc : X.calm = true)(hi : PI X tg iter (dnI W true di))(hg : PG X tg g)(hb : PSs X body (sn W db))
    (hs : ∀ x,foldedSetIterable iter X.env x = pure x := by intro _; rfl) : PS X (.For tg iter body [] pos) (sn W (dFor gd di db)) := (ps_for hp hc hi hg hb hs).mono (up_for hG)
def dFrz (i : Nat)(d : DS) : DS := fun F ρ => match ρ[i]? with | some (some (.own xs)) => d F (ρ.set i (some (.lst xs))) | _ => False
theorem Sta.avoid {pn : List (D × V)}{M M' : Addr -> Prop}{b : Option Addr}{H : Hp}{σ : St}{ρ : Ev}(s : Sta W pn M b H σ ρ)(h : ∀ c,M' c -> M c)(hb : ∀ p,b = some p -> M' p)(h0 : ∀ c,W.M0 c -> M' c)(ho : ∀ (i : Nat) d v c,ρ[i]? = some (some d) -> σ[i]? = some (some v) -> mineA d v c -> M' c)(hpo : ∀ xs a,(D.own xs,V.ref a) ∈ pn -> M' a) : Sta W pn M' b H σ ρ where
  ok := s.ok
  bagM := hb
  dom := fun c m => s.dom c (h c m)
  m0 := h0
  kp := s.kp
  new := s.new
  len := s.len
  pin := fun q hq => (s.pin q hq).to (fun _ _ r => Rep.avoid (fun c m => .inl (h c m)) _ _ r) (fun _ _ r => Reps.avoid (fun c m => .inl (h c m)) _ _ r) fun xs a vs ed ev m n hh => ⟨hpo xs a (by rw [<- ed,<- ev]; exact hq),n,hh⟩
  env := fun i d e => by
    obtain ⟨v,e1,r⟩ := s.env i d e
    refine ⟨v,e1,?_⟩
    cases d
    case own xs =>
      obtain ⟨a,us,rfl,m1,m2,m3,m4,hh,r'⟩ := r
      exact ⟨a,us,rfl,ho i _ _ a e e1 rfl,m2,m3,m4,hh,Reps.avoid (fun c m => .inl (h c m)) _ _ r'⟩
    case bag => exact r
    case frg f _ => exact RepX.move r (fun c m _ n => ⟨ho i _ _ c e e1 m,n⟩) (fun c o _ e => e) fun c m => .inl (h c m)
    all_goals exact Rep.avoid (fun c m => .inl (h c m)) _ _ r
theorem dss_frz (i : Nat)(h : PSs X sts (sn W d1)) : PSs X sts (sn W (dFrz i d1)) := h.mono fun E σ H hh => hh.elim fun pn M b ρ F s l h => by
  unfold dFrz at h
  split at h
  case h_2 => exact h.elim
  case h_1 xs e =>
    obtain ⟨v,e1,a,us,rfl,m1,m2,m3,m4,hh,r⟩ := s.env i _ e
    have st : Sta W pn (fun c => M c /\ c ≠ a) b H σ (ρ.set i none) := by
      refine Sta.avoid (M := M) ⟨s.toHs,s.kp,s.new,fun j d e' => ?_,by simp [s.len],s.pin⟩ (fun c m => m.1) (fun p z => ⟨s.bagM p z,fun y => m2 (by rw [<- y]; exact z)⟩) (fun c m => ⟨s.m0 c m,fun y => m4 (by rw [<- y]; exact m)⟩) (fun j d' v' c' e' e2 mm => ?_) fun ys a' hq => ⟨by
        obtain ⟨a2,us2,ev,n1,_⟩ := (s.pin _ hq)
        cases ev; exact n1,fun y => s.lk ys a' hq i xs e (by rw [y]; exact e1)⟩
      · by_cases z : i = j
        · subst z; rw [List.getElem?_set] at e'; simp at e'
        · rw [List.getElem?_set_ne z] at e'; exact s.env j d e'
      · by_cases z : i = j
        · subst z; rw [List.getElem?_set] at e'; simp at e'
        · rw [List.getElem?_set_ne z] at e'
          obtain ⟨v3,e3,r3⟩ := s.env j _ e'
          rw [e2] at e3; cases e3
          exact ⟨(r3.mine mm).1,fun y => z (s.dj i j _ _ _ _ a e e' e1 e2 rfl (by rw [<- y]; exact mm))⟩
    have st2 := st.set (x := .lst xs) (v := .ref a) i ⟨a,us,rfl,⟨fun m => m.2 rfl,hh⟩,Reps.avoid (fun c m => .inl m.1) _ _ r⟩
    have eσ : σ.set i (some (.ref a)) = σ := by
      apply List.ext_getElem?
      intro n
      by_cases z : i = n
      · subst z; rw [List.getElem?_set,e1]; simp; exact (List.getElem?_eq_some_iff.mp e1).1
      · rw [List.getElem?_set_ne z]
    rw [eσ,List.set_set] at st2
    refine ⟨pn,_,b,_,F,s.of st2 fun j ys hm e' => ?_,l,h⟩
    by_cases z : i = j
    · subst z; rw [List.getElem?_set] at e'; simp at e'; rw [<- e'.2] at hm; cases hm
    · rw [List.getElem?_set_ne z] at e'; exact ⟨e',rfl⟩
end
def startD (N : List Str)(ds : List D) : Ev := ds.map some ++ List.replicate (N.length - ds.length) none
theorem RepAs.get {K : PySem.W.Frag}{M : Addr -> Prop}{b : Option Addr}{H : Hp} : ∀ {ds : List D} {vs : List V} {i : Nat} {d : D},RepAs K M b H ds vs -> ds[i]? = some d -> ∃ v,vs[i]? = some v /\ RepA K M b H d v
  | [],_,_,_,h,e => by simp at e
  | d :: ds,vs,0,_,h,e => by
    obtain ⟨v,r,rfl,h1,h2⟩ := h
    simp at e; subst e
    exact ⟨v,rfl,h1⟩
  | d :: ds,vs,i + 1,d',h,e => by
    obtain ⟨v,r,rfl,h1,h2⟩ := h
    obtain ⟨u,e1,e2⟩ := RepAs.get (i := i) h2 (by simpa using e)
    exact ⟨u,by simpa using e1,e2⟩
theorem startD_get {N : List Str}{ds : List D}{i : Nat}{d : D}(h : (startD N ds)[i]? = some (some d)) : ds[i]? = some d := by
  unfold startD at h
  by_cases hi : i < ds.length
  · rw [List.getElem?_append_left (by simpa using hi),List.getElem?_map] at h
    simpa using h
  · rw [List.getElem?_append_right (by simpa using hi)] at h
    have := List.mem_of_getElem? h
    simp at this
theorem enter {K : PySem.W.Frag}{B : BagT}{M : Addr -> Prop}{b : Option Addr}{N : List Str}{ds : List D}{vs : List V}{H : Hp}(hr : RepAs K M b H ds vs)(ho : okB B b H)(hb : ∀ p,b = some p -> M p)(hd : ∀ c,M c -> ∃ o,H c = some o) : StS ⟨K,B,H,M,b⟩ [] M b H (start N vs) (startD N ds) := by
  refine ⟨⟨⟨ho,hb,hd,fun _ m => m⟩,Kp.refl _ _,.inl rfl,fun i d e => ?_,by simp [start,startD,hr.length],fun _ hq => by cases hq⟩,fun i j d e v u c e0 _ _ _ m _ => ?_,fun _ _ hq => by cases hq⟩
  · obtain ⟨v,e1,r⟩ := hr.get (startD_get e)
    refine ⟨v,?_,?_⟩
    · unfold start
      rw [List.getElem?_append_left (by simpa using (List.getElem?_eq_some_iff.mp e1).1),List.getElem?_map,e1]; rfl
    · cases d <;> first | exact r | exact r.elim
  · obtain ⟨v',e1,r⟩ := hr.get (startD_get e0)
    cases d <;> first | exact m.elim | exact r.elim
theorem leave {K : PySem.W.Frag}{B : BagT}{M : Addr -> Prop}{b : Option Addr}{H : Hp}{Q : VK}{P : D -> Prop}(hq : ∀ d v H',P d -> Rep K M H' d v -> Kp b H H' -> okB B b H' -> Q v H') : Link ⟨K,B,H,M,b⟩ [] { nx := fun _ H' => Q .non H',rt := Q } { nx := fun _ => P .non,rt := P } :=
  ⟨fun M b ρ σ H s h => hq _ _ _ h rfl s.kp s.ok0,fun d v H h r k o => hq d v H h r k o,fun _ _ _ _ _ _ h => h.elim,fun _ _ _ _ _ _ h => h.elim,fun _ _ _ _ h => h.elim⟩
theorem run {K : PySem.W.Frag}{B : BagT}{M : Addr -> Prop}{b : Option Addr}{N : List Str}{ds : List D}{vs : List V}{H : Hp}{Q : VK}{P : D -> Prop}{d : DS}(hr : RepAs K M b H ds vs)(ho : okB B b H)(hb : ∀ p,b = some p -> M p)(hd : ∀ c,M c -> ∃ o,H c = some o)(hq : ∀ d v H',P d -> Rep K M H' d v -> Kp b H H' -> okB B b H' -> Q v H')
    (h : d { nx := fun _ => P .non,rt := P } (startD N ds)) : sn ⟨K,B,H,M,b⟩ d { nx := fun _ H' => Q .non H',rt := Q } (start N vs) H :=
  ⟨[],M,b,startD N ds,_,enter hr ho hb hd,leave hq,h⟩
theorem liftSp.len {K : PySem.W.Frag}{B : BagT}{S : DSp}{n : Nat}(h : ∀ ds P Ed,S ds P Ed -> ds.length = n) : ∀ vs H Q E,liftSp K B S vs H Q E -> vs.length = n := fun vs H Q E ⟨M,b,ds,P,Ed,hS,hr,_⟩ => by rw [hr.length]; exact h _ _ _ hS
theorem Callee.imp {P : Program}{w : World}{K : PySem.W.Frag}{mg : Str -> Option Value}{base : Heap}{CX : CXT}{x : Str}{k : Nat}{ps : List Str}{sp sp' : Sp}(G : Callee P w K mg base CX x k ps sp)(h : ∀ vs H Q E,sp' vs H Q E -> sp vs H Q E) : Callee P w K mg base CX x k ps sp' := by
  obtain ⟨f,fd,F,r⟩ := G.ex
  exact ⟨f,fd,⟨fun vs H Q E q => F.len vs H Q E (h _ _ _ _ q),fun A outer s H args us vs Q E r0 e0 b0 v0 q => F.run A outer s H args us vs Q E r0 e0 b0 v0 (h _ _ _ _ q)⟩,r⟩
end L2
set_option Elab.async false
set_option linter.all false
set_option maxRecDepth 100000
set_option maxHeartbeats 4000000
namespace L2
open PySem PySem.Spec PyProof.Rows
section
variable {X : Cx}{W : Wd}{e a b c tg iter l : Expr}{es : List Expr}{pos p : Pos}{d da db dc dl de : DE}{dA di : DA}{dt : DT}{st : Stmt}{rest sts : List Stmt}{d1 d2 : DS}{t : TS}
abbrev DO := Ev -> (Option Int -> Prop) -> Prop
def dnO (W : Wd)(d : DO) : TO := fun σ H Q => ∃ pn M b ρ P,Sta W pn M b H σ ρ /\ d ρ P /\ ∀ x H',P x -> Kp b H H' -> okB W.B b H' -> Q x H'
theorem dnO.elim {W : Wd}{d : DO}{σ : St}{H : Hp}{Q : Option Int -> Hp -> Prop}{R : Prop}(h : dnO W d σ H Q)(f : ∀ pn M b ρ P,Sta W pn M b H σ ρ -> d ρ P -> (∀ x H',P x -> Kp b H H' -> okB W.B b H' -> Q x H') -> R) : R := by
  obtain ⟨pn,M,b,ρ,P,st,h,k⟩ := h
  exact f pn M b ρ P st h k
def oNo : DO := fun _ P => P none
def oPt (de : DE) : DO := fun ρ P => de ρ fun x => match x with | .int i => P (some i) | _ => False
theorem do_none : PO X none (dnO W oNo) := fun pins s σ H Q I hh => hh.elim fun pn M b ρ P st h k => po_none pins s σ H Q I (k _ H h (Kp.refl _ _) st.ok)
theorem do_some (h : PE X e (dn W de)) : PO X (some e) (dnO W (oPt de)) := fun pins s σ H Q I hh => hh.elim fun pn M b ρ P st q k => po_some h pins s σ H Q I (by
  refine ⟨pn,M,b,ρ,_,st,q,fun x v H1 hx rx k1 o1 => ?_⟩
  cases x <;> first | exact hx.elim | skip
  cases (show _ = _ from rx)
  exact ⟨_,rfl,k _ H1 hx k1 o1⟩)
def cutD (xs : List D)(lo hi : Option Int) : List D := (xs.drop (HT.sIx xs.length 0 lo)).take (HT.sIx xs.length xs.length hi - HT.sIx xs.length 0 lo)
theorem Reps.cut {K : PySem.W.Frag}{M : Addr -> Prop}{H : Hp}{ds : List D}{vs : List V}(h : Reps K M H ds vs)(lo hi : Option Int) : Reps K M H (cutD ds lo hi) (cutV vs lo hi) := by
  unfold cutD cutV
  rw [h.length]
  exact Reps.take _ (Reps.drop _ h)
def oSl (x : D)(lo hi : Option Int)(P : D -> Prop) : Prop := match x with
  | .tup xs => ¬ (HT.sIx xs.length 0 lo = 0 /\ HT.sIx xs.length xs.length hi = xs.length) /\ P (.tup (cutD xs lo hi))
  | .lst xs => P (.lst (cutD xs lo hi))
  | .own xs => P (.lst (cutD xs lo hi))
  | _ => False
def dSl (de : DE)(dl dh : DO) : DE := fun ρ P => de ρ fun x => dl ρ fun lo => dh ρ fun hi => oSl x lo hi P
theorem sl_tupK (K : PySem.W.Frag)(h : X.K = K) : SlR X (rSlT K) := by subst h; exact sl_tup
theorem sl_any (K : PySem.W.Frag)(h : X.K = K) : SlR X (fun x lo hi H Q => rSlT K x lo hi H Q \/ rSlL K x lo hi H Q) := (sl_tupK K h).or (sl_listK' K h)
theorem de_slice {lo hi : Option Expr}{dl dh : DO}{p2 : Pos}(hr : SlR X (fun x lo hi H Q => rSlT W.K x lo hi H Q \/ rSlL W.K x lo hi H Q))(he : PE X e (dn W de))(hl : PO X lo (dnO W dl))(hu : PO X hi (dnO W dh)) : PE X (.Subscript e (.Slice lo hi none p2) pos) (dn W (dSl de dl dh)) := (pe_slice hr he hl hu).mono fun σ H Q hh => hh.elim fun pn M b ρ P st h k => by
  refine ⟨pn,M,b,ρ,_,st,h,fun x v H1 hx rx k1 o1 => ?_⟩
  refine ⟨pn,M,b,ρ,_,st.step k1 o1,hx,fun lo H2 hy k2 o2 => ?_⟩
  refine ⟨pn,M,b,ρ,_,(st.step k1 o1).step k2 o2,hy,fun hi H3 hz k3 o3 => ?_⟩
  have s3 := ((st.step k1 o1).step k2 o2).step k3 o3
  have rx := (rx.step st.bagM k2).step st.bagM k3
  have kk := (k1.trans k2).trans k3
  cases x <;> first | exact hz.elim | skip
  case tup xs =>
    obtain ⟨a,vs,rfl,hh,r⟩ := rx
    refine .inl ⟨a,vs,rfl,hh.sq,by rw [r.length]; exact hz.1,fun p hp => k _ _ _ hz.2 (new_tup s3.toHs (r.cut lo hi) hp) (kk.trans (Kp.upd hp)) (s3.okU hp)⟩
  case lst xs =>
    obtain ⟨a,vs,rfl,hh,r⟩ := rx
    refine .inr ⟨a,vs,rfl,SqL.of hh.2,fun p hp => k _ _ _ hz (new_lst s3.toHs (r.cut lo hi) hp) (kk.trans (Kp.upd hp)) (s3.okU hp)⟩
  case own xs =>
    obtain ⟨a,vs,rfl,_,_,_,_,hh,r⟩ := rx
    refine .inr ⟨a,vs,rfl,SqL.of hh,fun p hp => k _ _ _ hz (new_lst s3.toHs (r.cut lo hi) hp) (kk.trans (Kp.upd hp)) (s3.okU hp)⟩
def oCat : D -> D -> (D -> Prop) -> Prop := fun x y P => match asL x,asL y with
  | some xs,some ys => xs.length + ys.length <= 1000 /\ P (.lst (xs ++ ys))
  | _,_ => False
theorem od_cat : OpD W rCat oCat := by
  intro M b H x y v u P Q hs rx ry ho k
  unfold oCat at ho
  split at ho
  case h_2 => exact ho.elim
  case h_1 xs ys e1 e2 =>
    obtain ⟨a1,vs,rfl,h1,r1⟩ := asL.rep rx e1
    obtain ⟨a2,us,rfl,h2,r2⟩ := asL.rep ry e2
    exact ⟨a1,a2,vs,us,rfl,rfl,h1,h2,by rw [r1.length,r2.length]; exact Nat.le_trans ho.1 le1000,fun p hp => k _ _ _ ho.2 (new_lst hs (Reps.append r1 r2) hp) (Kp.upd hp) (hs.okU hp)⟩
theorem Reps.ne {K : PySem.W.Frag}{M : Addr -> Prop}{H : Hp}{ds : List D}{vs : List V}(h : Reps K M H ds vs)(n : ds ≠ []) : vs ≠ [] := fun z => by
  have := h.length
  rw [z] at this
  exact n (List.length_eq_zero_iff.mp this.symm)
def bagSp (K : PySem.W.Frag)(B : BagT)(pre : List D -> Prop) : Sp := fun vs H Q _ => ∃ (M : Addr -> Prop) (b : Option Addr) (ds : List D),RepAs K M b H ds vs /\ pre ds /\ ∀ p H1,H p = none -> Same H H1 -> B.ok p H1 -> Q (.ref p) H1
def dropB (ρ : Ev) : Ev := ρ.map fun o => match o with | some .bag => none | o => o
def dBag (i : Nat)(pre : List D -> Prop)(dA : DA) : DS := fun F ρ => dA ρ fun ds => ds.all notOwn = true /\ pre ds /\ F.nx ((dropB ρ).set i (some .bag))
theorem dropB_get {ρ : Ev}{i : Nat}{d : D}(h : (dropB ρ)[i]? = some (some d)) : ρ[i]? = some (some d) /\ d ≠ .bag := by
  unfold dropB at h
  rw [List.getElem?_map] at h
  cases q : ρ[i]? with
  | none => rw [q] at h; cases h
  | some o =>
    rw [q] at h
    cases o with
    | none => cases h
    | some d' => cases d' <;> simp at h <;> subst h <;> exact ⟨rfl,by intro z; cases z⟩
theorem ds_bag {spos : Pos}{x f : Str}{k : Nat}{ps : List Str}{pre : List D -> Prop}{i : Nat}{pos' : Pos}(hb0 : W.b0 = none)(hN : X.N.Nodup)(hi : X.N[i]? = some x)(hx : Loc X.env.scope x)(G : Callee X.prog X.w X.K X.mg X.base CX0 f k ps (bagSp W.K W.B pre))(hr : Room k X.A)(hg : Gl X f)(ha : PA X (e :: es) (dnA W dA))
    (hdb : (f == ("__debug__" : Str)) = false := by decide) (he : starEach (e :: es) X.env = (false,eval e X.env) :: starEach es X.env := by rfl) (hpl : (backTo pos (starEach es X.env)).any (·.1) = false := by rfl)
    (hs : swapsWith (.Call (.Name f p) (e :: es) [] pos) (some (.Name x pos')) spos.line X.env = pure false := by rfl) (hf : X.fn x = true \/ X.env.scope.names.lookup x = some .local := by first | exact .inl rfl | exact .inr rfl | assumption) :
    PS X (.Assign [.Name x pos'] (.Call (.Name f p) (e :: es) [] pos) spos) (sn W (dBag i pre dA)) := (ps_set hN hi hx (pe_own G hr hg ha hdb he hpl) hs hf).mono fun E σ H hh => hh.elim fun pn M b ρ F s l h => by
  refine ⟨pn,M,b,ρ,_,s.toSta,h,fun ds vs H' hx rx k o => ?_⟩
  have s1 := s.step k o
  refine ⟨M,b,ds,by rw [List.append_nil]; exact rx.args _ _ hx.1,hx.2.1,fun q H1 hq S ok => ?_⟩
  have rep : ∀ d v,Rep W.K M H' d v -> Rep W.K (fun c => M c \/ c = q) H1 d v := fun d v r => Rep.keep (fun c o _ e => S c o e) _ _ (Rep.avoid (fun c hc => hc.imp id fun z => by rw [z]; exact hq) _ _ r)
  have reps : ∀ d v,Reps W.K M H' d v -> Reps W.K (fun c => M c \/ c = q) H1 d v := fun d v r => Reps.keep (fun c o _ e => S c o e) _ _ (Reps.avoid (fun c hc => hc.imp id fun z => by rw [z]; exact hq) _ _ r)
  have h0 : W.H0 q = none := by
    cases z : W.H0 q with
    | none => rfl
    | some o =>
      have := s1.kp q o (by rw [hb0]; intro y; cases y) z
      rw [hq] at this; cases this
  have st1 : Sta W pn (fun c => M c \/ c = q) (some q) H1 σ (dropB ρ) := by
    refine ⟨⟨fun p e => by cases e; exact ok,fun p e => by cases e; exact .inr rfl,fun c hc => ?_,fun c m => .inl (s1.m0 c m)⟩,fun c o n e => S c o (s1.kp c o n e),.inr ⟨hb0,fun p e => by cases e; exact h0⟩,fun j d e => ?_,by simp [dropB,s.len],fun q' hq' => (s1.pin q' hq').to rep reps fun xs a vs _ _ m n hh => ⟨.inl m,(fun z => by cases z; rw [hq] at hh; cases hh),S _ _ hh⟩⟩
    · rcases hc with hc | hc
      · obtain ⟨o,e⟩ := s1.dom c hc; exact ⟨o,S c o e⟩
      · rw [hc]; exact W.B.dm q H1 ok
    · obtain ⟨e1,nb⟩ := dropB_get e
      obtain ⟨v,e2,r⟩ := s1.env j d e1
      refine ⟨v,e2,?_⟩
      cases d
      case own xs =>
        obtain ⟨a,us,rfl,m1,m2,m3,m4,hh,r'⟩ := r
        have nq : some q ≠ some a := fun z => by
          cases z
          rw [hq] at hh
          cases hh
        exact ⟨a,us,rfl,.inl m1,nq,m3,m4,S _ _ hh,reps _ _ r'⟩
      case bag => exact absurd rfl nb
      case frg f _ => exact RepX.move r (fun c _ m n => ⟨.inl m,fun z => by cases z; exact s1.toHs.new hq m⟩) (fun c o _ e => S c o e) fun c hc => hc.imp id fun z => by rw [z]; exact hq
      all_goals exact rep _ _ r
  refine l.nx _ _ _ _ _ (s1.of (st1.set (x := .bag) (v := .ref q) i ⟨q,rfl,rfl⟩) fun j xs hm e => ?_) hx.2.2
  by_cases z : i = j
  · subst z
    rw [List.getElem?_set] at e
    simp at e
    rw [<- e.2] at hm; cases hm
  · rw [List.getElem?_set_ne z] at e
    exact ⟨(dropB_get e).1,by rw [List.getElem?_set_ne z]⟩
end
end L2
set_option linter.all false
namespace K
open PySem L2
end K
set_option linter.all false
namespace K
open PySem L2
end K
namespace K
open PySem L2
end K
set_option linter.all false
namespace K
open PySem L2
end K
set_option linter.all false
namespace K
open PySem L2
def Mv (n : Nat)(H : Hp)(m : Addr)(M : List (List Int)) : Prop := ∃ ps : List Addr,H m = some (.tup (ps.map V.ref)) /\ ps.length = 4 /\ M.length = 4 /\ ∀ (i : Nat) p r,ps[i]? = some p -> M[i]? = some r -> H p = some (.tup (r.map V.int)) /\ r.length = 4 /\ ∀ x ∈ r,Bd n x
theorem Mv.of {n : Nat}{H : Hp}{m p0 p1 p2 p3 : Addr}{r0 r1 r2 r3 : List Int}(e : H m = some (.tup [.ref p0,.ref p1,.ref p2,.ref p3]))(e0 : H p0 = some (.tup (r0.map V.int)))(e1 : H p1 = some (.tup (r1.map V.int)))(e2 : H p2 = some (.tup (r2.map V.int)))(e3 : H p3 = some (.tup (r3.map V.int)))
    (l : r0.length = 4 /\ r1.length = 4 /\ r2.length = 4 /\ r3.length = 4) (b : ∀ x ∈ r0 ++ r1 ++ r2 ++ r3,Bd n x) : Mv n H m [r0,r1,r2,r3] := by
  refine ⟨[p0,p1,p2,p3],e,rfl,rfl,fun i p r h1 h2 => ?_⟩
  match i with
  | 0 => cases h1; cases h2; exact ⟨e0,l.1,fun x hx => b x (by simp [hx])⟩
  | 1 => cases h1; cases h2; exact ⟨e1,l.2.1,fun x hx => b x (by simp [hx])⟩
  | 2 => cases h1; cases h2; exact ⟨e2,l.2.2.1,fun x hx => b x (by simp [hx])⟩
  | 3 => cases h1; cases h2; exact ⟨e3,l.2.2.2,fun x hx => b x (by simp [hx])⟩
  | i + 4 => simp at h1
end K
set_option Elab.async false
set_option linter.all false
set_option maxRecDepth 100000
set_option maxHeartbeats 4000000
namespace L2
open PySem PySem.Spec PyProof.Rows
theorem oIx_mem {xs : List D}{i : Int}{P : D -> Prop}(h0 : 0 <= i)(h1 : i < xs.length)(h : ∀ d ∈ xs,P d) : oIx (.lst xs) (.int i) P := by
  obtain ⟨j,rfl⟩ : ∃ j : Nat,i = j := ⟨i.toNat,by omega⟩
  have hj : j < xs.length := by omega
  have e : atI xs (j : Int) = some xs[j] := atI_nat (List.getElem?_eq_getElem hj)
  simp only [oIx,e]
  exact h _ (List.getElem_mem hj)
theorem ixm {xs : List D}{i : Int}{P : D -> Prop}(h0 : 0 <= i)(h1 : i < xs.length)(h : ∀ d ∈ xs,P d) : (atI xs i).elim False P := oIx_mem (P := P) h0 h1 h
theorem rangeD_get {lo : Int}{n i : Nat}{d : D}(h : (rangeD lo n)[i]? = some d) : d = .int (lo + i) /\ i < n := by
  have hi : i < n := by
    have := (List.getElem?_eq_some_iff.mp h).1
    simpa [rangeD] using this
  simp [rangeD,hi] at h
  exact ⟨h.symm,hi⟩
theorem rangeD_len (lo : Int)(n : Nat) : (rangeD lo n).length = n := by simp [rangeD]
abbrev t3 (x y z : Int) : D := .tup [.int x,.int y,.int z]
abbrev t2 (x y : Int) : D := .tup [.int x,.int y]
theorem comp_all {gd : D -> Ev -> (Ev -> Prop) -> Prop}{de : DE}{ρc : Ev}{items : List D}{P : List D -> Prop}(Pv : Nat -> D -> Prop)
    (hs : ∀ (i : Nat) x (Q : D -> Prop),items[i]? = some x -> (∀ y,Pv i y -> Q y) -> gd x ρc fun ρ1 => de ρ1 Q) (hp : ∀ i y,Pv i y -> plain y = true)
    (hd : ∀ acc : List D,acc.length = items.length -> (∀ i y,acc[i]? = some y -> Pv i y) -> P acc) : compI gd dTrue de ρc items P := by
  refine ⟨fun i acc => acc.length = i /\ ∀ j y,acc[j]? = some y -> Pv j y,⟨rfl,fun j y e => by simp at e⟩,fun i x acc e ⟨hl,ha⟩ => ?_,fun acc ⟨hl,ha⟩ => hd acc hl ha⟩
  have := hs i x (fun y => plain y = true /\ ((acc ++ [y]).length = i + 1 /\ ∀ j z,(acc ++ [y])[j]? = some z -> Pv j z)) e fun y hy => ⟨hp i y hy,by simp [hl],fun j z ez => ?_⟩
  · simpa only [dTrue,IfP_true] using this
  · by_cases hj : j < acc.length
    · rw [List.getElem?_append_left hj] at ez
      exact ha j z ez
    · rw [List.getElem?_append_right (by omega)] at ez
      have : j - acc.length = 0 := by
        cases q : j - acc.length with
        | zero => rfl
        | succ m => rw [q] at ez; simp at ez
      rw [this] at ez
      simp at ez
      subst ez
      have : j = i := by omega
      subst this
      exact hy
theorem comp_map {gd : D -> Ev -> (Ev -> Prop) -> Prop}{de : DE}{ρc : Ev}{items : List D}{P : List D -> Prop}(f : D -> D)
    (hs : ∀ x (Q : D -> Prop),x ∈ items -> Q (f x) -> gd x ρc fun ρ1 => de ρ1 Q) (hp : ∀ x ∈ items,plain (f x) = true) (hd : P (items.map f)) : compI gd dTrue de ρc items P := by
  refine comp_all (fun i y => ∃ x,items[i]? = some x /\ y = f x) (fun i x Q e h => hs x Q (List.mem_of_getElem? e) (h _ ⟨x,e,rfl⟩)) (fun i y ⟨x,e,h⟩ => by rw [h]; exact hp x (List.mem_of_getElem? e)) fun acc hl ha => ?_
  have : acc = items.map f := by
    apply List.ext_getElem?
    intro i
    rw [List.getElem?_map]
    cases q : acc[i]? with
    | none =>
      have : items.length <= i := by rw [<- hl]; exact List.getElem?_eq_none_iff.mp q
      rw [List.getElem?_eq_none_iff.mpr this]; rfl
    | some y =>
      obtain ⟨x,e,rfl⟩ := ha i y q
      rw [e]; rfl
  rw [this]; exact hd
end L2
set_option Elab.async false
set_option linter.all false
set_option maxRecDepth 100000
set_option maxHeartbeats 4000000
namespace L2
open PySem PySem.Spec PyProof.Rows
structure JE (X : Cx)(W : Wd)(e : Expr)(d : DE) : Prop where
  h : PE X e (dn W d)
structure JT (X : Cx)(W : Wd)(e : Expr)(d : DT) : Prop where
  h : PT X e (dnT W d)
structure JW (X : Cx)(W : Wd)(e : Expr)(d : DT) : Prop where
  h : PW X e (dnT W d)
structure JA (X : Cx)(W : Wd)(es : List Expr)(d : DA) : Prop where
  h : PA X es (dnA W d)
structure JO (X : Cx)(W : Wd)(e : Option Expr)(d : DO) : Prop where
  h : PO X e (dnO W d)
structure JIf (X : Cx)(W : Wd)(es : List Expr)(d : DT) : Prop where
  h : PIf X es (dnT W d)
structure JI (X : Cx)(W : Wd)(fz : Bool)(tg l : Expr)(d : DA) : Prop where
  h : PI X tg l (dnI W fz d)
structure JS (X : Cx)(W : Wd)(st : Stmt)(d : DS) : Prop where
  h : PS X st (sn W d)
structure JSs (X : Cx)(W : Wd)(st : List Stmt)(d : DS) : Prop where
  h : PSs X st (sn W d)
section
variable {X : Cx}{W : Wd}{e a b c : Expr}{es : List Expr}{pos : Pos}{d da db dc : DE}{dA : DA}{t : TE}
theorem jdv (i : Nat) {x : Str} {pos : Pos} (hN : X.N[i]? = some x := by rfl) (hv : Vis X.env.scope x := by first | exact Or.inl rfl | exact Or.inr (Or.inl rfl) | exact Or.inr (Or.inr rfl)) (hd : (x == ("__debug__" : Str)) = false := by decide)
    (hcd : (x == ("__classdict__" : Str)) = false := by decide) : JE X W (.Name x pos) (dVar i) := ⟨dv i hN hv hd hcd⟩
theorem jde_int {i j pos} : JE X W (.Constant (.int i) j pos) (dC (.int i)) := ⟨de_int ⟩
theorem jde_bl {i j pos} : JE X W (.Constant (.bool i) j pos) (dC (.bl i)) := ⟨de_bl ⟩
theorem jde_bltn {x : Str}{T : String}{pos : Pos}(hg : Gl X x)(hm : X.mg x = none)(hv : bootBuiltins x = some (.type T))(hn : x ≠ "__name__" := by decide) (hd : (x == ("__debug__" : Str)) = false := by decide) : JE X W (.Name x pos) (dC (.ty T)) := ⟨de_bltn hg hm hv hn hd⟩
theorem jde_op {op : Operator}{r : R2}{o : D -> D -> (D -> Prop) -> Prop}(ho : OpR X (binaryOp op) r)(hd : OpD W r o)(ha : JE X W a da)(hb : JE X W b db) : JE X W (.BinOp a op b pos) (dOp o da db) := ⟨de_op ho hd ha.h hb.h⟩
theorem jde_cmp {op : CmpOp}{r : R2}{o : D -> D -> (D -> Prop) -> Prop}(ho : OpR X (compareOp op) r)(hd : OpD W r o)(ha : JE X W a da)(hb : JE X W b db)(hm : behindInMarks op b = false) : JE X W (.Compare a [op] [b] pos) (dOp o da db) := ⟨de_cmp ho hd ha.h hb.h hm⟩
theorem jde_ix {r : R2}{o : D -> D -> (D -> Prop) -> Prop}(hr : IxR X r)(hd : OpD W r o)(ha : JE X W a da)(hb : JE X W b db)(hs : PlainIx b) : JE X W (.Subscript a b pos) (dOp o da db) := ⟨de_ix hr hd ha.h hb.h hs⟩
theorem jde_neg (ha : JE X W a da) : JE X W (.UnaryOp .USub a pos) (dUn oNeg da) := ⟨de_neg ha.h⟩
variable {rest : List Expr}
theorem jde_one {op}(h : JE X W a da) : JE X W (.BoolOp op [a] pos) da := ⟨de_one h.h⟩
theorem jde_or (ha : JE X W a da)(hb : JE X W (.BoolOp .Or (b :: rest) pos) db) : JE X W (.BoolOp .Or (a :: b :: rest) pos) (dOr da db) := ⟨de_or ha.h hb.h⟩
theorem jdt_cmp {op : CmpOp}{r : R2}{o : D -> D -> (D -> Prop) -> Prop}(ho : OpR X (compareOp op) r)(hd : OpD W r o)(ha : JE X W a da)(hb : JE X W b db)(hm : behindInMarks op b = false) : JT X W (.Compare a [op] [b] pos) (dTest (dOp o da db)) := ⟨dt_cmp ho hd ha.h hb.h hm⟩
theorem jdt_truth (hK : X.K = W.K)(ha : JE X W a da)(he : ∀ whole,isTrue a X.env whole = (do let v <- whole; standAt a.pos; holding [v] (truthy v))) : JT X W a (dTru da) := ⟨dt_truth hK ha.h he⟩
variable {ta tb : DT}
theorem jdw_and1 (ha : JT X W a ta) : JW X W (.BoolOp .And [a] pos) ta := ⟨dw_and1 ha.h⟩
theorem jdw_or1 (ha : JT X W a ta) : JW X W (.BoolOp .Or [a] pos) ta := ⟨dw_or1 ha.h⟩
theorem jdw_or (ha : JT X W a ta)(hb : JW X W (.BoolOp .Or (b :: rest) pos) tb) : JW X W (.BoolOp .Or (a :: b :: rest) pos) (dTOr ta tb) := ⟨dw_or ha.h hb.h⟩
theorem jdt_not (ha : JT X W a ta) : JT X W (.UnaryOp .Not a pos) (dTNot ta) := ⟨dt_not ha.h⟩
theorem jde_if (hc : JT X W c ta)(ha : JE X W a da)(hb : JE X W b db) : JE X W (.IfExp c a b pos) (dIf ta da db) := ⟨de_if hc.h ha.h hb.h⟩
theorem jda_nil : JA X W [] aNil := ⟨da_nil ⟩
theorem jda_cons {dr : DA}(ha : JE X W e da)(hr : JA X W es dr)(hs : starEach (e :: es) X.env = (false,eval e X.env) :: starEach es X.env := by rfl) : JA X W (e :: es) (aCons da dr) := ⟨da_cons ha.h hr.h hs⟩
theorem jde_tup {x1}(h : JA X W es dA) : JE X W (.Tuple es x1 pos) (dTup dA) := ⟨de_tup h.h⟩
theorem jde_lst (h : JA X W es dA) : JE X W (.List es pos) (dLst dA) := ⟨de_lst h.h⟩
end
section
variable {X : Cx}{W : Wd}{e a b c : Expr}{es : List Expr}{pos p : Pos}{d da db dc : DE}{dA : DA}{x : Str}{k : Nat}{ps : List Str}{S : DSp}
theorem jde_own (G : Callee X.prog X.w X.K X.mg X.base CX0 x k ps (liftSp W.K W.B S))(hr : Room k X.A)(hg : Gl X x)(ha : JA X W (e :: es) dA)(hdb : (x == ("__debug__" : Str)) = false := by decide) (he : starEach (e :: es) X.env = (false,eval e X.env) :: starEach es X.env := by rfl) (hpl : (backTo pos (starEach es X.env)).any (·.1) = false := by rfl) :
    JE X W (.Call (.Name x p) (e :: es) [] pos) (dCall S (fun _ => False) dA) := ⟨de_own G hr hg ha.h hdb he hpl⟩
variable {r : List V -> Hp -> VK -> Prop}{o : List D -> (D -> Prop) -> Prop}{id T : String}
theorem jde_callB (hc : CallR X (.builtin id) r)(hd : CallD W r o)(hg : Gl X x)(hm : X.mg x = none)(hv : bootBuiltins x = some (.builtin id))(ha : JA X W (e :: es) dA)(hn : x ≠ "__name__" := by decide) (hdb : (x == ("__debug__" : Str)) = false := by decide)
    (he : starEach (e :: es) X.env = (false,eval e X.env) :: starEach es X.env := by rfl) (hpl : (backTo pos (starEach es X.env)).any (·.1) = false := by rfl) : JE X W (.Call (.Name x p) (e :: es) [] pos) (dCB o dA) := ⟨de_callB hc hd hg hm hv ha.h hn hdb he hpl⟩
theorem jde_callTy (hc : CallR X (.type T) r)(hd : CallD W r o)(hg : Gl X x)(hm : X.mg x = none)(hv : bootBuiltins x = some (.type T))(ha : JA X W (e :: es) dA)(hn : x ≠ "__name__" := by decide) (hdb : (x == ("__debug__" : Str)) = false := by decide)
    (he : starEach (e :: es) X.env = (false,eval e X.env) :: starEach es X.env := by rfl) (hpl : (backTo pos (starEach es X.env)).any (·.1) = false := by rfl) : JE X W (.Call (.Name x p) (e :: es) [] pos) (dCB o dA) := ⟨de_callTy hc hd hg hm hv ha.h hn hdb he hpl⟩
end
section
variable {X : Cx}{W : Wd}{tg l e a b c : Expr}{es : List Expr}{pos p : Pos}{d da db dc dl : DE}{dA di : DA}{fz : Bool}
theorem jdi_seq (hK : X.K = W.K)(hl : JE X W l dl) : JI X W fz tg l (iSeq fz dl) := ⟨di_seq hK hl.h⟩
theorem jdi_range1 (hg : Gl X "range") (hm : X.mg "range" = none) (ha : JA X W [a] dA) (hs : starEach [a] X.env = [(false,eval a X.env)] := by rfl) : JI X W fz tg (.Call (.Name "range" p) [a] [] pos) (iRange1 dA) := ⟨di_range1 hg hm ha.h hs⟩
end
section
variable {X : Cx}{W : Wd}{elt iter tg : Expr}{ifs : List Expr}{scope : Scope}{pos : Pos}{N' : List Str}{map : List (Option Nat)}{g : TG}{gd : D -> Ev -> (Ev -> Prop) -> Prop}{di : DA}{dt : DT}{de : DE}
theorem jde_comp (hG : GD W g gd)(B : Blk X N' scope map tg elt ifs g (dnT W dt) (dn W de))(hi : JI X W false tg iter di)(hs : ∀ x,foldedSetIterable iter X.env x = pure x := by intro _; rfl) : JE X W (.ListComp elt [⟨tg,iter,ifs,0⟩] scope pos) (dComp map gd di dt de) := ⟨de_comp hG B hi.h hs⟩
theorem jdif_nil : JIf X W [] dTrue := ⟨dif_nil ⟩
theorem jdif_one {c : Expr}(hc : JT X W c dt) : JIf X W [c] dt := ⟨dif_one hc.h⟩
end
section
variable {X : Cx}{W : Wd}{e a b c tg iter l : Expr}{es : List Expr}{pos p : Pos}{d da db dc dl de : DE}{dA di : DA}{dt : DT}{st : Stmt}{rest sts : List Stmt}{d1 d2 : DS}{t : TS}
theorem jdss_nil : JSs X W [] dNext := ⟨dss_nil ⟩
theorem jdss_one (h : JS X W st d1) : JSs X W [st] d1 := ⟨dss_one h.h⟩
theorem jdss_cons (h1 : JS X W st d1)(h2 : JSs X W rest d2) : JSs X W (st :: rest) (dSeq d1 d2) := ⟨dss_cons h1.h h2.h⟩
theorem jds_ret (he : JE X W e de) : JS X W (.Return (some e) pos) (dRet de) := ⟨ds_ret he.h⟩
theorem jds_if {s1 s2 : List Stmt}(hc : JT X W c dt)(ha : JSs X W s1 d1)(hb : JSs X W s2 d2) : JS X W (.If c s1 s2 pos) (dIfS dt d1 d2) := ⟨ds_if hc.h ha.h hb.h⟩
theorem jds_set {i : Nat} {x : Str} {pos' : Pos} (hN : X.N.Nodup) (hi : X.N[i]? = some x) (hx : Loc X.env.scope x) (he : JE X W e de) (hs : swapsWith e (some (.Name x pos')) pos.line X.env = pure false := by rfl) (hf : X.fn x = true \/ X.env.scope.names.lookup x = some .local := by first | exact .inl rfl | exact .inr rfl | assumption) :
    JS X W (.Assign [.Name x pos'] e pos) (dAsg de (gdN i)) := ⟨ds_set hN hi hx he.h hs hf⟩
theorem jds_asg {g : TG}{gd : D -> Ev -> (Ev -> Prop) -> Prop}(hG : GD W g gd)(he : JE X W e de)(hg : PG X tg g)(hs : swapsWithSole [tg] e pos.line X.env = pure false := by rfl)(hw : swappedStores [tg] e X.env = pure none := by rfl)
    (h1 : (assignEach [tg] X.env).map (·.2) = [assign tg X.env] := by rfl) : JS X W (.Assign [tg] e pos) (dAsg de gd) := ⟨ds_asg hG he.h hg hs hw h1⟩
theorem jds_ownL {i : Nat} {x : Str} {pos' lpos : Pos} (hN : X.N.Nodup) (hi : X.N[i]? = some x) (hx : Loc X.env.scope x) (ha : JA X W es dA) (hs : swapsWith (.List es lpos) (some (.Name x pos')) pos.line X.env = pure false := by rfl) (hf : X.fn x = true \/ X.env.scope.names.lookup x = some .local := by first | exact .inl rfl | exact .inr rfl | assumption) :
    JS X W (.Assign [.Name x pos'] (.List es lpos) pos) (dOwnL i dA) := ⟨ds_ownL hN hi hx ha.h hs hf⟩
theorem jds_setC {elt iter tg : Expr}{ifs : List Expr}{scope : Scope}{N' : List Str}{map : List (Option Nat)}{g : TG}{gd : D -> Ev -> (Ev -> Prop) -> Prop}(own : Bool){i : Nat}{y : Str}{py spos : Pos}(hN : X.N.Nodup)(hiN : X.N[i]? = some y)(hy : Loc X.env.scope y)(hG : GD W g gd)(B : Blk X N' scope map tg elt ifs g (dnT W dt) (dn W de))(hi : JI X W false tg iter di)
    (hsw : swapsWith (.ListComp elt [⟨tg,iter,ifs,0⟩] scope pos) (some (.Name y py)) spos.line X.env = pure true := by rfl) (hfn : X.fn y = true \/ X.env.scope.names.lookup y = some .local := by first | exact .inl rfl | exact .inr rfl)
    (hs : ∀ x,foldedSetIterable iter X.env x = pure x := by intro _; rfl) : JS X W (.Assign [.Name y py] (.ListComp elt [⟨tg,iter,ifs,0⟩] scope pos) spos) (dSetC own i map gd di dt de) := ⟨ds_setC own hN hiN hy hG B hi.h hsw hfn hs⟩
theorem jds_append {i : Nat}{x : Str}{e : Expr}{npos apos cpos : Pos}(hK : X.K = W.K)(hN : X.N[i]? = some x)(hv : Vis X.env.scope x)(ha : JA X W [e] dA)
    (h : PE X (.Call (.Attribute (.Name x npos) "append" apos) [e] [] cpos) (tBM X.K "list" rAppend (tVar i) (dnA W dA))) (hs : swapsWith (.Call (.Attribute (.Name x npos) "append" apos) [e] [] cpos) none pos.line X.env = pure false := by rfl) :
    JS X W (.Expr (.Call (.Attribute (.Name x npos) "append" apos) [e] [] cpos) pos) (dApp i dA) := ⟨ds_append hK hN hv ha.h h hs⟩
theorem jds_setI {i : Nat}{x : Str}{n : Expr}{dk : DE}{npos tpos : Pos}(hN : X.N[i]? = some x)(hv : Vis X.env.scope x)(he : JE X W e de)(hk : JE X W n dk)(hg : PG X (.Subscript (.Name x npos) n tpos) (gSub (tVar i) (dn W dk) rSetL))
    (hs : swapsWithSole [.Subscript (.Name x npos) n tpos] e pos.line X.env = pure false := by rfl) (hw : swappedStores [.Subscript (.Name x npos) n tpos] e X.env = pure none := by rfl)
    (h1 : (assignEach [.Subscript (.Name x npos) n tpos] X.env).map (·.2) = [assign (.Subscript (.Name x npos) n tpos) X.env] := by rfl) : JS X W (.Assign [.Subscript (.Name x npos) n tpos] e pos) (dSetI i de dk) := ⟨ds_setI hN hv he.h hk.h hg hs hw h1⟩
theorem jds_aug {i : Nat} {x : Str} {op : Operator} {f : Int -> Int -> Int} {pos' : Pos} (hN : X.N.Nodup) (hi : X.N[i]? = some x) (hx : Loc X.env.scope x) (he : JE X W e de) (ho : PIp X op (ipI f)) (hf : X.fn x = true \/ X.env.scope.names.lookup x = some .local := by first | exact .inl rfl | exact .inr rfl | assumption) :
    JS X W (.AugAssign (.Name x pos') op e pos) (dAug i f de) := ⟨ds_aug hN hi hx he.h ho hf⟩
theorem jds_for {g : TG}{gd : D -> Ev -> (Ev -> Prop) -> Prop}{db : DS}{body : List Stmt}(hG : GD W g gd)(hp : PassesOwn (model X.prog X.w) X.A X.env X.xe)(hc : X.calm = true)(hi : JI X W true tg iter di)(hg : PG X tg g)(hb : JSs X W body db)
    (hs : ∀ x,foldedSetIterable iter X.env x = pure x := by intro _; rfl) : JS X W (.For tg iter body [] pos) (dFor gd di db) := ⟨ds_for hG hp hc hi.h hg hb.h hs⟩
theorem jdss_frz (i : Nat)(h : JSs X W sts d1) : JSs X W sts (dFrz i d1) := ⟨dss_frz i h.h⟩
end
section
variable {X : Cx}{W : Wd}{e a b c tg iter l : Expr}{es : List Expr}{pos p : Pos}{d da db dc dl de : DE}{dA di : DA}{dt : DT}{st : Stmt}{rest sts : List Stmt}{d1 d2 : DS}{t : TS}
theorem jdo_none : JO X W none oNo := ⟨do_none ⟩
theorem jdo_some (h : JE X W e de) : JO X W (some e) (oPt de) := ⟨do_some h.h⟩
theorem jde_slice {lo hi : Option Expr}{dl dh : DO}{p2 : Pos}(hr : SlR X (fun x lo hi H Q => rSlT W.K x lo hi H Q \/ rSlL W.K x lo hi H Q))(he : JE X W e de)(hl : JO X W lo dl)(hu : JO X W hi dh) : JE X W (.Subscript e (.Slice lo hi none p2) pos) (dSl de dl dh) := ⟨de_slice hr he.h hl.h hu.h⟩
theorem jds_bag {spos : Pos}{x f : Str}{k : Nat}{ps : List Str}{pre : List D -> Prop}{i : Nat}{pos' : Pos}(hb0 : W.b0 = none)(hN : X.N.Nodup)(hi : X.N[i]? = some x)(hx : Loc X.env.scope x)(G : Callee X.prog X.w X.K X.mg X.base CX0 f k ps (bagSp W.K W.B pre))(hr : Room k X.A)(hg : Gl X f)(ha : JA X W (e :: es) dA)
    (hdb : (f == ("__debug__" : Str)) = false := by decide) (he : starEach (e :: es) X.env = (false,eval e X.env) :: starEach es X.env := by rfl) (hpl : (backTo pos (starEach es X.env)).any (·.1) = false := by rfl)
    (hs : swapsWith (.Call (.Name f p) (e :: es) [] pos) (some (.Name x pos')) spos.line X.env = pure false := by rfl) (hf : X.fn x = true \/ X.env.scope.names.lookup x = some .local := by first | exact .inl rfl | exact .inr rfl | assumption) :
    JS X W (.Assign [.Name x pos'] (.Call (.Name f p) (e :: es) [] pos) spos) (dBag i pre dA) := ⟨ds_bag hb0 hN hi hx G hr hg ha.h hdb he hpl hs hf⟩
end
section
variable {X : Cx}{W : Wd}{a b : Expr}{rest : List Expr}{pos : Pos}{ta tb : DT}
theorem jdt_and (ha : JT X W a ta)(hb : JW X W (.BoolOp .And (b :: rest) pos) tb) : JT X W (.BoolOp .And (a :: b :: rest) pos) (dTAnd ta tb) := ⟨(dw_and ha.h hb.h).pt⟩
theorem jdt_or (ha : JT X W a ta)(hb : JW X W (.BoolOp .Or (b :: rest) pos) tb) : JT X W (.BoolOp .Or (a :: b :: rest) pos) (dTOr ta tb) := ⟨(dw_or ha.h hb.h).pt⟩
end
theorem blkJ {X : Cx} {W : Wd} {N' : List Str} {scope : Scope} {map : List (Option Nat)} {tg elt : Expr} {ifs : List Expr} {g : TG} {dt : DT} {de : DE} (calm : X.calm = true) (kind : scope.kind = .function) (loc : ∀ x ∈ scope.names,x.2 = .local -> scope.names.lookup x.1 = some .local) (free : (scope.names.all fun p => !(p.2 == NameKind.free) || (X.env.kindOf p.1 == some .cell || X.env.kindOf p.1 == some .free)) = true) (cap : CapOk X scope map N') (keep : GKeep g map)
    (run : ∀ cells C fp s H,PG (cxComp X N' scope cells C fp s H) tg g /\ JIf (cxComp X N' scope cells C fp s H) W ifs dt /\ JE (cxComp X N' scope cells C fp s H) W elt de) : Blk X N' scope map tg elt ifs g (dnT W dt) (dn W de) :=
  ⟨calm,kind,loc,free,cap,keep,fun cells C fp s H _ => ⟨(run cells C fp s H).1,(run cells C fp s H).2.1.h,(run cells C fp s H).2.2.h⟩⟩
theorem Fun.okD {P : Program}{w : World}{K : PySem.W.Frag}{mg : Str -> Option Value}{base : Heap}{x qual : Str}{st : Stmt}{f : Addr}{fd : FuncData}{N ps : List Str}{k : Nat}{B : BagT}{Sd : DSp}(F : Fun K x qual st f fd)(S : FnScope N ps (defScope st))(len : ∀ ds PP Ed,Sd ds PP Ed -> ds.length = ps.length)
    (hbody : ∀ (cdv : Value) (A : Around) (outer : List Env) (s : Shared) (H : Hp) (E : XK) (M : Addr -> Prop) (bg : Option Addr) (ds : List D) (PP : D -> Prop) (Ed : Addr -> Prop),Room k (A.deeper (envOfC qual (defScope st) s.heap.objs.size f cdv)) -> Sd ds PP Ed ->
      ∃ d,JSs (cxOf CX0 P w K mg base N qual (defScope st) f cdv A outer s H E).nox ⟨K,B,H,M,bg⟩ (defBody st) d /\ d { nx := fun _ => PP .non,rt := PP } (startD N ds)) : FnOk P w K mg base CX0 (k + 1) f fd ps (liftSp K B Sd) :=
  F.ok S (liftSp.len len) fun cdv A outer s H vs Q E hr h => by
    obtain ⟨M,bg,ds,PP,Ed,hS,hR,ho,hb,hd,hq,hx⟩ := h
    obtain ⟨d,J,q⟩ := hbody cdv A outer s H E M bg ds PP Ed hr hS
    exact ⟨_,J.h,run hR ho hb hd hq q⟩
theorem Fun.okL {P : Program}{w : World}{K : PySem.W.Frag}{mg : Str -> Option Value}{base : Heap}{x qual : Str}{st : Stmt}{f : Addr}{fd : FuncData}{N : List Str}{p : Str}{k : Nat}(B : BagT)(F : Fun K x qual st f fd)(S : FnScope N [p] (defScope st))
    (hbody : ∀ (cdv : Value) (A : Around) (outer : List Env) (s : Shared) (H : Hp) (E : XK) (ns : List Int),Room k (A.deeper (envOfC qual (defScope st) s.heap.objs.size f cdv)) -> ns.length <= 63 ->
      ∃ d,JSs (cxOf CX0 P w K mg base N qual (defScope st) f cdv A outer s H E).nox ⟨K,B,H,fun _ => False,none⟩ (defBody st) d /\ d { nx := fun _ => D.non = .bl true,rt := fun d => d = .bl true } (startD N [.scr ns])) :
    FnOk P w K mg base CX0 (k + 1) f fd [p] (fun vs H Q _ => ∃ (a : Addr) (ns : List Int),vs = [.ref a] /\ SqL K H a (ns.map V.int) /\ ns.length <= 63 /\ ∀ H',Q (.bl true) H') :=
  F.ok S (fun vs H Q E h => by obtain ⟨a,ns,rfl,_⟩ := h; rfl) fun cdv A outer s H vs Q E hr h => by
    obtain ⟨a,ns,rfl,hS,hlen,k⟩ := h
    have hR : RepAs K (fun _ => False) none H [.scr ns] [.ref a] := ⟨.ref a,[],rfl,⟨a,rfl,hS.imp (fun q => ⟨id,q⟩) id⟩,rfl⟩
    obtain ⟨d,J,q⟩ := hbody cdv A outer s H E ns hr hlen
    exact ⟨_,J.h,run (P := fun d => d = .bl true) hR (fun p e => by cases e) (fun p e => by cases e) (fun c m => m.elim) (fun d v H' hd r _ _ => by cases hd; cases (show _ = _ from r); exact k H') q⟩
end L2
set_option Elab.async false
set_option linter.all false
set_option maxRecDepth 100000
set_option maxHeartbeats 4000000
namespace L2
open PySem PySem.Spec PyProof.Rows
mutual
def pyOf : D -> Option PyData
  | .non => some .none
  | .bl b => some (.bool b)
  | .int i => some (.int i)
  | .str x => if PyData.strOk x then some (.str x) else none
  | .tup xs => (pysOf xs).map .tuple
  | .lst xs => (pysOf xs).map .list
  | .own xs => (pysOf xs).map .list
  | .ty _ => none
  | .adr _ => none
  | .bag => none
  | .frg _ d => pyOf d
  | .scr _ => none
  | .dct _ _ _ => none
def pysOf : List D -> Option (List PyData)
  | [] => some []
  | d :: ds => (pyOf d).bind fun p => (pysOf ds).map (p :: ·)
end
mutual
theorem pyOf.lay : ∀ (d : D) (p : PyData),pyOf d = some p -> p.canLay0 = true
  | .non,p,h => by cases h; rfl
  | .bl b,p,h => by cases h; rfl
  | .int i,p,h => by cases h; rfl
  | .str x,p,h => by
    unfold pyOf at h
    split at h
    · cases h; unfold PyData.canLay0; assumption
    · cases h
  | .tup xs,p,h => by
    unfold pyOf at h
    obtain ⟨ps,e,rfl⟩ := Option.map_eq_some_iff.mp h
    unfold PyData.canLay0
    exact pysOf.lay xs ps e
  | .lst xs,p,h => by
    unfold pyOf at h
    obtain ⟨ps,e,rfl⟩ := Option.map_eq_some_iff.mp h
    unfold PyData.canLay0
    exact pysOf.lay xs ps e
  | .own xs,p,h => by
    unfold pyOf at h
    obtain ⟨ps,e,rfl⟩ := Option.map_eq_some_iff.mp h
    unfold PyData.canLay0
    exact pysOf.lay xs ps e
  | .ty _,p,h => by unfold pyOf at h; cases h
  | .adr _,p,h => by unfold pyOf at h; cases h
  | .bag,p,h => by unfold pyOf at h; cases h
  | .frg _ d,p,h => by unfold pyOf at h; exact pyOf.lay d p h
  | .scr _,p,h => by unfold pyOf at h; cases h
  | .dct _ _ _,p,h => by unfold pyOf at h; cases h
theorem pysOf.lay : ∀ (ds : List D) (ps : List PyData),pysOf ds = some ps -> PyData.canLayAll0 ps = true
  | [],ps,h => by cases h; rfl
  | d :: ds,ps,h => by
    unfold pysOf at h
    obtain ⟨p,e1,h⟩ := Option.bind_eq_some_iff.mp h
    obtain ⟨qs,e2,rfl⟩ := Option.map_eq_some_iff.mp h
    unfold PyData.canLayAll0
    rw [pyOf.lay d p e1,pysOf.lay ds qs e2]; rfl
end
section
variable {X : Cx}{pins : List (Addr × Obj)}{σ : St}{H : Hp}{s : Shared}{M : Addr -> Prop}
mutual
theorem rep_reads (I : Inv X pins σ H s) : ∀ (d : D) (v : V) (u : Value) (p : PyData),Rep X.K M H d v -> RelV v u -> pyOf d = some p -> ∃ as,Reads s.heap u p as
  | .non,v,u,p,r,q,h => by cases h; cases (show _ = _ from r); cases (show u = Value.none from q); exact ⟨_,.none⟩
  | .bl b,v,u,p,r,q,h => by cases h; cases (show _ = _ from r); cases (show u = Value.bool b from q); exact ⟨_,.bool _⟩
  | .int i,v,u,p,r,q,h => by
    cases h; cases (show _ = _ from r)
    obtain ⟨t,rfl⟩ := (show ∃ t,u = Value.int i t from q)
    exact ⟨_,.int _ _⟩
  | .str x,v,u,p,r,q,h => by
    unfold pyOf at h
    split at h
    · cases h; cases (show _ = _ from r)
      obtain ⟨t,rfl⟩ := (show ∃ t,u = Value.str x t from q)
      exact ⟨_,.str _ _⟩
    · cases h
  | .tup xs,v,u,p,r,q,h => by
    unfold pyOf at h
    obtain ⟨ps,e,rfl⟩ := Option.map_eq_some_iff.mp h
    obtain ⟨a,vs,rfl,z,rs⟩ := r
    cases (show u = Value.ref a from q)
    obtain ⟨its,r1,⟨o,h1,h2,n,h3⟩,_⟩ := I.tuple z.sq
    obtain ⟨as,ra⟩ := reps_reads I xs vs its ps rs r1 e
    exact ⟨as,.tuple h1 h2 h3 (by simpa using ra)⟩
  | .lst xs,v,u,p,r,q,h => by
    unfold pyOf at h
    obtain ⟨ps,e,rfl⟩ := Option.map_eq_some_iff.mp h
    obtain ⟨a,vs,rfl,z,rs⟩ := r
    cases (show u = Value.ref a from q)
    obtain ⟨its,r1,⟨o,n,h1,h2,_,h3⟩,_⟩ := I.list (SqL.of z.2)
    obtain ⟨as,ra⟩ := reps_reads I xs vs its ps rs r1 e
    exact ⟨a :: as,.list h1 h2 h3 (by simpa using ra)⟩
  | .own xs,v,u,p,r,q,h => r.elim
  | .ty _,_,_,p,_,_,h => by unfold pyOf at h; cases h
  | .adr _,_,_,p,_,_,h => by unfold pyOf at h; cases h
  | .bag,_,_,p,_,_,h => by unfold pyOf at h; cases h
  | .frg _ _,_,_,p,r,_,h => r.elim
  | .scr _,_,_,p,_,_,h => by unfold pyOf at h; cases h
  | .dct _ _ _,_,_,p,_,_,h => by unfold pyOf at h; cases h
theorem reps_reads (I : Inv X pins σ H s) : ∀ (ds : List D) (vs : List V) (us : List Value) (ps : List PyData),Reps X.K M H ds vs -> Vals vs us -> pysOf ds = some ps -> ∃ as,ReadsAll s.heap us ps as
  | [],vs,us,ps,r,q,h => by
    cases h
    cases (show vs = [] from r)
    cases q
    exact ⟨[],.nil⟩
  | d :: ds,vs,us,ps,r,q,h => by
    unfold pysOf at h
    obtain ⟨p,e1,h⟩ := Option.bind_eq_some_iff.mp h
    obtain ⟨qs,e2,rfl⟩ := Option.map_eq_some_iff.mp h
    obtain ⟨v,rv,rfl,r1,r2⟩ := r
    cases q with
    | cons q1 q2 =>
      obtain ⟨as,a1⟩ := rep_reads I d v _ p r1 q1 e1
      obtain ⟨bs,a2⟩ := reps_reads I ds rv _ qs r2 q2 e2
      exact ⟨as ++ bs,.cons a1 a2⟩
end
end
def RepG (K : PySem.W.Frag)(M : Addr -> Prop)(H : Hp) : D -> V -> Prop
  | .own xs,v => ∃ a vs,v = .ref a /\ H a = some (.lst vs) /\ Reps K M H xs vs
  | .frg _ d,v => ∃ M',Rep K M' H d v
  | d,v => Rep K M H d v
theorem RepX.g {W : Wd}{M : Addr -> Prop}{b : Option Addr}{H : Hp}{d : D}{v : V}{p : PyData}(h : RepX W M b H d v)(e : pyOf d = some p) : RepG W.K M H d v := by
  cases d
  case own xs => obtain ⟨a,vs,rfl,_,_,_,_,hh,r⟩ := h; exact ⟨a,vs,rfl,hh,r⟩
  case bag => unfold pyOf at e; cases e
  case frg f d => exact ⟨_,h.2.2⟩
  all_goals exact h
theorem repG_reads {X : Cx}{pins : List (Addr × Obj)}{σ : St}{H : Hp}{s : Shared}{M : Addr -> Prop}(I : Inv X pins σ H s){d : D}{v : V}{u : Value}{p : PyData}(r : RepG X.K M H d v)(q : RelV v u)(h : pyOf d = some p) : ∃ as,Reads s.heap u p as := by
  cases d
  case own xs =>
    obtain ⟨a,vs,rfl,hh,r⟩ := r
    unfold pyOf at h
    obtain ⟨ps,e,rfl⟩ := Option.map_eq_some_iff.mp h
    cases (show u = Value.ref a from q)
    obtain ⟨its,r1,⟨o,n,h1,h2,_,h3⟩,_⟩ := I.list (SqL.of hh)
    obtain ⟨as,ra⟩ := reps_reads I xs vs its ps r r1 e
    exact ⟨a :: as,.list h1 h2 h3 (by simpa using ra)⟩
  case frg f d =>
    obtain ⟨M',r⟩ := r
    exact rep_reads (M := M') I d _ _ _ r q (by unfold pyOf at h; exact h)
  all_goals exact rep_reads I _ _ _ _ r q h
def rEqG (K : PySem.W.Frag)(neg : Bool) : R2 := fun x y H Q => ∃ M dx dy p q,RepG K M H dx x /\ RepG K M H dy y /\ pyOf dx = some p /\ pyOf dy = some q /\ min p.depth q.depth <= 60 /\ Q (.bl (PyData.eqv p q != neg)) H
theorem op_eqG {X : Cx}(K : PySem.W.Frag)(hK : X.K = K)(hu : X.A.units + 64 < cLine) : OpR X (compareOp .Eq) (rEqG K false) := by
  subst hK
  intro pins s σ H x y v u Q I rx ry h
  obtain ⟨M,dx,dy,p,q,r1,r2,e1,e2,hd,hq⟩ := h
  obtain ⟨as,a1⟩ := repG_reads I r1 rx e1
  obtain ⟨bs,a2⟩ := repG_reads I r2 ry e2
  refine SeqAt.compareEq_reads a1 a2 (pyOf.lay _ _ e1) (pyOf.lay _ _ e2) (by omega) ?_
  exact ⟨.bl _,H,I,rfl,by simpa using hq⟩
theorem op_neG {X : Cx}(K : PySem.W.Frag)(hK : X.K = K)(hu : X.A.units + 64 < cLine) : OpR X (compareOp .NotEq) (rEqG K true) := by
  subst hK
  intro pins s σ H x y v u Q I rx ry h
  obtain ⟨M,dx,dy,p,q,r1,r2,e1,e2,hd,hq⟩ := h
  obtain ⟨as,a1⟩ := repG_reads I r1 rx e1
  obtain ⟨bs,a2⟩ := repG_reads I r2 ry e2
  refine SeqAt.compareNe_reads a1 a2 (pyOf.lay _ _ e1) (pyOf.lay _ _ e2) (by omega) ?_
  exact ⟨.bl _,H,I,rfl,by simpa using hq⟩
inductive EqG (neg : Bool)(x y : D)(P : D -> Prop) : Prop
  | mk (p q : PyData) (e1 : pyOf x = some p) (e2 : pyOf y = some q) (hd : min p.depth q.depth <= 60) (h : P (.bl (PyData.eqv p q != neg))) : EqG neg x y P
def oEqG (neg : Bool) : D -> D -> (D -> Prop) -> Prop := fun x y P => EqG neg x y P
theorem od_eqG {W : Wd}{neg : Bool} : OpD W (rEqG W.K neg) (oEqG neg) := by
  intro M b H x y v u P Q hs rx ry ho k
  obtain ⟨p,q,e1,e2,hd,hp⟩ := ho
  exact ⟨M,x,y,p,q,rx.g e1,ry.g e2,e1,e2,hd,k _ _ H hp (show _ = _ from rfl) (Kp.refl _ _) hs.ok⟩
mutual
def fineD : Nat -> D -> Bool
  | _,.non => true
  | _,.bl _ => true
  | _,.int _ => true
  | _,.str x => PyData.strOk x
  | n + 1,.tup xs => finesD n xs
  | n + 1,.lst xs => finesD n xs
  | n + 1,.own xs => finesD n xs
  | n,.frg _ d => fineD n d
  | _,_ => false
def finesD : Nat -> List D -> Bool
  | _,[] => true
  | n,d :: ds => fineD n d && finesD n ds
end
mutual
theorem fine_py : ∀ (n : Nat) (d : D),fineD n d = true -> ∃ p,pyOf d = some p /\ p.depth <= n /\ PyData.eqv p p = true
  | n,.non,h => ⟨_,rfl,Nat.zero_le _,rfl⟩
  | n,.bl b,h => ⟨_,rfl,Nat.zero_le _,by simp [PyData.eqv]⟩
  | n,.int i,h => ⟨_,rfl,Nat.zero_le _,by simp [PyData.eqv]⟩
  | n,.str x,h => by
    have h : PyData.strOk x = true := by cases n <;> simpa [fineD] using h
    exact ⟨.str x,by unfold pyOf; rw [if_pos h],Nat.zero_le _,by simp [PyData.eqv]⟩
  | 0,.tup xs,h => by simp [fineD] at h
  | 0,.lst xs,h => by simp [fineD] at h
  | 0,.own xs,h => by simp [fineD] at h
  | n + 1,.tup xs,h => by
    obtain ⟨ps,e,hd,hq⟩ := fines_py n xs (by simpa [fineD] using h)
    exact ⟨.tuple ps,by unfold pyOf; rw [e]; rfl,by unfold PyData.depth; omega,by unfold PyData.eqv; exact hq⟩
  | n + 1,.lst xs,h => by
    obtain ⟨ps,e,hd,hq⟩ := fines_py n xs (by simpa [fineD] using h)
    exact ⟨.list ps,by unfold pyOf; rw [e]; rfl,by unfold PyData.depth; omega,by unfold PyData.eqv; exact hq⟩
  | n + 1,.own xs,h => by
    obtain ⟨ps,e,hd,hq⟩ := fines_py n xs (by simpa [fineD] using h)
    exact ⟨.list ps,by unfold pyOf; rw [e]; rfl,by unfold PyData.depth; omega,by unfold PyData.eqv; exact hq⟩
  | n,.ty _,h => by cases n <;> simp [fineD] at h
  | n,.adr _,h => by cases n <;> simp [fineD] at h
  | n,.bag,h => by cases n <;> simp [fineD] at h
  | n,.frg _ d,h => by
    obtain ⟨p,e,h1,h2⟩ := fine_py n d (by cases n <;> simpa [fineD] using h)
    exact ⟨p,by unfold pyOf; exact e,h1,h2⟩
  | n,.scr _,h => by cases n <;> simp [fineD] at h
  | n,.dct _ _ _,h => by cases n <;> simp [fineD] at h
theorem fines_py : ∀ (n : Nat) (ds : List D),finesD n ds = true -> ∃ ps,pysOf ds = some ps /\ PyData.depthAll ps <= n /\ PyData.eqvAll ps ps = true
  | n,[],h => ⟨[],rfl,Nat.zero_le _,rfl⟩
  | n,d :: ds,h => by
    unfold finesD at h
    obtain ⟨h1,h2⟩ := (Bool.and_eq_true _ _).mp h
    obtain ⟨p,e1,d1,q1⟩ := fine_py n d h1
    obtain ⟨ps,e2,d2,q2⟩ := fines_py n ds h2
    exact ⟨p :: ps,by unfold pysOf; rw [e1,e2]; rfl,by unfold PyData.depthAll; omega,by unfold PyData.eqvAll; rw [q1,q2]; rfl⟩
end
theorem eqG_same {x y : D}{neg : Bool}{P : D -> Prop}(n : Nat)(h : fineD n x = true)(e : pyOf y = pyOf x)(hn : n <= 60)(hp : P (.bl (!neg))) : EqG neg x y P := by
  obtain ⟨p,e1,d1,q1⟩ := fine_py n x h
  refine ⟨p,p,e1,e.trans e1,by omega,?_⟩
  rw [q1]
  simpa using hp
theorem fines_all {n : Nat} : ∀ {ds : List D},(∀ d ∈ ds,fineD n d = true) -> finesD n ds = true
  | [],_ => by unfold finesD; rfl
  | d :: ds,h => by
    unfold finesD
    rw [h d (List.mem_cons_self ..),fines_all fun e he => h e (List.mem_cons_of_mem _ he)]; rfl
theorem KTp.rep {K : PySem.W.Frag}{a : Addr}{vs : List V}{xs : List D}(h : KTp K a vs)(r : ∀ M H,Reps K M H xs vs) : ∀ M H,Rep K M H (.tup xs) (.ref a) := fun M H => ⟨a,vs,rfl,.inr h,r M H⟩
end L2
set_option Elab.async false
set_option linter.all false
set_option maxRecDepth 100000
set_option maxHeartbeats 4000000
namespace L2
open PySem PySem.Spec PyProof.Rows
def Ite (K : PySem.W.Frag)(l : Addr) : It :=
  ⟨fun i H => ∃ ys y,SqL K H l ys /\ ys[i]? = some y,
   fun i H v H' => ∃ t y,v = .ref t /\ H t = none /\ H' = upd H t (.tup [.int i,y]) /\ ∀ ys,SqL K H l ys -> ys[i]? = some y,
   fun i H => ∃ ys,SqL K H l ys /\ ys.length <= i⟩
def ETn (e it l : Addr)(i : Nat)(h : Heap) : Prop := (∃ old,IsEnum h e it i old) /\ ItAt false h it l i
theorem turn_enum {P : Program}{w : World}{K : PySem.W.Frag}{elts : List Expr}{c1}{tpos : Pos}{e it l : Addr}(hne : e ≠ it) : Turn P w K (.Tuple elts c1 tpos) (Ite K l) [e,it] e (ETn e it l) where
  mem := by simp
  obj := fun i h st b hb => by
    obtain ⟨⟨old,s1⟩,d1⟩ := st
    simp only [List.mem_cons,List.not_mem_nil,or_false] at hb
    rcases hb with rfl | rfl
    · exact ⟨_,s1,fun v q => by cases q⟩
    · exact d1.obj
  keep := fun i h h' st k => by
    obtain ⟨⟨old,s1⟩,d1⟩ := st
    exact ⟨⟨old,k e (by simp) _ s1⟩,d1.at fun o x => k it (by simp) o x⟩
  item := by
    intro X hP hw hK hc i pins s σ H E I hf st hg
    subst hP hw hK
    obtain ⟨ys,y,h1,q1⟩ := hg
    obtain ⟨⟨old,s1⟩,d1⟩ := st
    obtain ⟨v1,r1,p1,_⟩ := I.list h1
    obtain ⟨u1,m1,t1⟩ := r1.get q1
    have szn : ∀ b ∈ [e,it],b ≠ s.heap.objs.size := fun b hb z => by
      simp only [List.mem_cons,List.not_mem_nil,or_false] at hb
      rcases hb with rfl | rfl
      · exact Nat.lt_irrefl _ (z ▸ Heap.lt_size s1)
      · obtain ⟨_,w1,_⟩ := d1.obj; exact Nat.lt_irrefl _ (z ▸ Heap.lt_size w1)
    refine wpAny_pyNext_enum_item s1 d1 p1.isList (x := u1) (by simpa using m1) hne fun h' eo it' tp sz kp => ?_
    refine ⟨_,rfl,wpAny_letOwnedTupleGo_enum (s := { s with heap := h',toks := s.toks + 1 }) eo fun hq e4 sb => ?_⟩
    have up : ∀ b o,b ≠ e -> h'.get? b = some o -> hq.get? b = some o := fun b o hb x => sb.extBut _ _ hb x
    have I2 : Inv X pins σ (upd H s.heap.objs.size (.tup [.int i,y])) { s with heap := hq,toks := s.toks + 1 } := I.zipped (t' := s.toks + 1) (fp := [e,it]) hf (fun b o hb x => up b o (fun z => hb (by simp [z])) (kp b o (fun z => hb (by simp [z])) (fun z => hb (by simp [z])) x)) (Nat.le_refl _)
      ⟨Nat.le_trans (Nat.le_of_ble_eq_true rfl) le1000,[.int i s.toks,u1],.cons ⟨_,rfl⟩ (.cons t1 .nil),⟨_,up _ _ (Ne.symm (szn e (by simp))) tp,rfl,_,rfl⟩⟩
    refine ⟨.ref s.heap.objs.size,_,I2,rfl,⟨_,y,rfl,I.hok.fresh (Nat.le_refl _),rfl,fun zs hz => by rw [I.list_inj hz h1]; exact q1⟩,⟨⟨_,e4⟩,ItAt.at (b := false) it' fun o x => up _ o (Ne.symm hne) x⟩,fun b hb => ?_⟩
    rw [upd_ne (szn b hb)]
    exact (hf b hb).1
  done := by
    intro X hP hw hK hc i pins s σ H E I hf st hg
    subst hP hw hK
    obtain ⟨ys,h1,q1⟩ := hg
    obtain ⟨⟨old,s1⟩,d1⟩ := st
    obtain ⟨v1,r1,p1,_⟩ := I.list h1
    have hl := r1.length
    refine wpAny_pyNext_enum_end (I.ok.hd hc) s1 d1 p1.isList (by simp; omega) fun h' kp => ⟨rfl,?_⟩
    exact I.turnedL (t' := s.toks) (fp := [e,it]) hf fun b o hb x => kp b o (fun z => hb (by simp [z])) x
  self := fun _ _ _ _ _ st h => by
    obtain ⟨⟨old,s1⟩,d1⟩ := st
    exact wpAny_pyIter_enum s1 h
def iEnum (K : PySem.W.Frag)(ta : TA) : TI := fun σ H R => ta σ H fun vs H1 => ∃ l,vs = [.ref l] /\ (∃ ys,SqL K H1 l ys) /\ R (Ite K l) H1
theorem pi_enum {X : Cx}{elts : List Expr}{c1}{tpos : Pos}(K : PySem.W.Frag)(hK : X.K = K){e1 : Expr}{ta : TA}{p pos : Pos}(hg : Gl X "enumerate") (hm : X.mg "enumerate" = none) (ha : PA X [e1] ta)
    (hs : starEach [e1] X.env = [(false,eval e1 X.env)] := by rfl) : PI X (.Tuple elts c1 tpos) (.Call (.Name "enumerate" p) [e1] [] pos) (iEnum K ta) := by
  subst hK
  intro pins s σ H R I h
  refine Call_ (ld_blt I hg hm bt_enumerate (PyProof.Rows.callWith_type1 (thn (ha pos pins s σ H _ I h) fun us s1 ⟨vs,H1,I1,r1,q1⟩ => ?_) hs rfl))
  obtain ⟨l,rfl,⟨ys,h1⟩,q⟩ := q1
  cases r1 with
  | cons r rr =>
  cases rr
  cases r
  obtain ⟨v1,r1,p1,_⟩ := I1.list h1
  refine call_enumerate_list p1.isList fun h' f1 f2 f3 kp => ?_
  refine wpAny_pyIter_enum (s := { s1 with heap := h' }) f1 ?_
  refine ⟨s1.heap.objs.size + 1,[s1.heap.objs.size + 1,s1.heap.objs.size],_,_,H1,rfl,I1.kept (t' := s1.toks) kp,turn_enum (l := l) (by show (_ : Nat) ≠ _; omega),⟨⟨_,f1⟩,f2⟩,fun b hb => ?_,q⟩
  have hge : s1.heap.objs.size <= b := by
    simp only [List.mem_cons,List.not_mem_nil,or_false] at hb
    rcases hb with rfl | rfl <;> first | exact Nat.le_refl _ | exact Nat.le_add_right _ _
  exact I1.fpOk hge (I1.hok.fresh hge)
end L2
set_option Elab.async false
set_option linter.all false
set_option maxRecDepth 100000
set_option maxHeartbeats 4000000
namespace L2
open PySem PySem.Spec PyProof.Rows
section
variable {X : Cx}{W : Wd}{e a b c tg iter l : Expr}{es : List Expr}{pos p : Pos}{d da db dc dl de : DE}{dA di : DA}{dt : DT}{fz : Bool}{x : Str}{k : Nat}{ps : List Str}{S : DSp}
def enumD (xs : List D) : List D := xs.mapIdx fun i x => .tup [.int i,x]
theorem enumD_plain (xs : List D) : (enumD xs).all plain = true := by
  unfold enumD
  rw [List.all_eq_true]
  intro y hy
  obtain ⟨i,h,rfl⟩ := List.mem_mapIdx.mp hy
  rfl
def iEnumD (fz : Bool)(dA : DA) : DA := fun ρ P => dA ρ fun zs => match zs with
  | [x] => (asK fz false x).elim False fun xs => P (enumD xs)
  | _ => False
theorem it_enum {x : D}{xs : List D}{l1 : Addr}(h1 : asK fz false x = some xs) : ItOk W (Ite W.K l1) [(x,.ref l1)] (enumD xs) := by
  intro M b H hs hn
  obtain ⟨⟨a1,us,e1,q1,r1⟩,_⟩ := asK.rep (hn _ (.head _)) h1
  cases e1
  have q1 : SqL W.K H l1 us := q1
  have hlen : (enumD xs).length = xs.length := by simp [enumD]
  refine ⟨fun i d e => ?_,fun i hi => ⟨us,q1,by rw [r1.length,<- hlen]; exact hi⟩⟩
  have hi : i < xs.length := by rw [<- hlen]; exact (List.getElem?_eq_some_iff.mp e).1
  obtain ⟨u,eu,ru⟩ := r1.get (List.getElem?_eq_getElem hi)
  refine ⟨⟨us,u,q1,eu⟩,fun v H3 ⟨t,y1,ev,ht,eH,k1⟩ => ?_⟩
  subst ev eH
  have z1 := k1 us q1
  rw [eu] at z1; cases z1
  refine ⟨Same.upd ht,?_⟩
  have ed : d = .tup [.int i,xs[i]] := by
    have : (enumD xs)[i]? = some (.tup [.int i,xs[i]]) := by simp [enumD,hi]
    rw [this] at e; exact (Option.some.inj e).symm
  subst ed
  exact new_tup hs ⟨.int i,[u],rfl,rfl,u,[],rfl,ru,rfl⟩ ht
theorem jdi_enum {elts : List Expr}{c1}{tpos : Pos}(hK : X.K = W.K)(ha : JA X W [a] dA)
    (h : PI X (.Tuple elts c1 tpos) (.Call (.Name "enumerate" p) [a] [] pos) (iEnum W.K (dnA W dA))) : JI X W fz (.Tuple elts c1 tpos) (.Call (.Name "enumerate" p) [a] [] pos) (iEnumD fz dA) := ⟨h.mono fun σ H R hh => hh.elim fun pn M b ρ P st h k => by
  refine ⟨pn,M,b,ρ,_,st,h,fun zs vs H1 hx rx k1 o1 => ?_⟩
  match zs,hx with
  | [x],hx =>
    obtain ⟨v,rfl,r⟩ := rx1 rx
    cases e1 : asK fz false x with
    | none => simp only [e1] at hx; exact hx.elim
    | some xs =>
      simp only [e1] at hx
      obtain ⟨⟨a1,us,z1,q1,r1⟩,f1⟩ := asK.rep r e1
      subst z1
      exact ⟨a1,rfl,⟨us,q1⟩,k _ _ _ H1 hx (enumD_plain _) (it_enum e1) (fun q hq => by
        have z := List.mem_singleton.mp hq
        subst z; exact ⟨r,f1⟩) k1 o1⟩⟩
def bor : D -> D
  | .own xs => .lst xs
  | .frg _ d => d
  | d => d
theorem Reps.reverse {K : PySem.W.Frag}{M : Addr -> Prop}{H : Hp} : ∀ {ds : List D} {vs : List V},Reps K M H ds vs -> Reps K M H ds.reverse vs.reverse
  | [],_,h => by cases (show _ = _ from h); exact rfl
  | d :: ds,_,h => by
    obtain ⟨v,r,rfl,h1,h2⟩ := h
    rw [List.reverse_cons,List.reverse_cons]
    exact Reps.append (Reps.reverse h2) ⟨v,[],rfl,h1,rfl⟩
end
end L2
set_option Elab.async false
set_option linter.all false
set_option maxRecDepth 100000
set_option maxHeartbeats 4000000
namespace L2
open PySem PySem.Spec PyProof.Rows
abbrev DSO := List D -> (List D -> Prop) -> (Addr -> Prop) -> Prop
def liftSpO (K : PySem.W.Frag)(B : BagT)(S : DSO) : Sp := fun vs H Q E => ∃ (M : Addr -> Prop) (b : Option Addr) (ds : List D) (P : List D -> Prop) (Ed : Addr -> Prop),S ds P Ed /\ RepAs K M b H ds vs /\ okB B b H /\ (∀ p,b = some p -> M p) /\ (∀ c,M c -> ∃ o,H c = some o) /\
  (∀ xs a us H',P xs -> H a = none -> H' a = some (.lst us) -> Reps K (fun c => M c \/ c = a) H' xs us -> Kp b H H' -> okB B b H' -> Q (.ref a) H') /\ ∀ C H',Ed C -> Kp b H H' -> okB B b H' -> E (.ref C) none H'
theorem liftSpO.len {K : PySem.W.Frag}{B : BagT}{S : DSO}{n : Nat}(h : ∀ ds P Ed,S ds P Ed -> ds.length = n) : ∀ vs H Q E,liftSpO K B S vs H Q E -> vs.length = n := fun vs H Q E ⟨M,b,ds,P,Ed,hS,hr,_⟩ => by rw [hr.length]; exact h _ _ _ hS
theorem runO {K : PySem.W.Frag}{B : BagT}{M : Addr -> Prop}{b : Option Addr}{N : List Str}{ds : List D}{vs : List V}{H : Hp}{Q : VK}{P : List D -> Prop}{d : DS}(hr : RepAs K M b H ds vs)(ho : okB B b H)(hb : ∀ p,b = some p -> M p)(hd : ∀ c,M c -> ∃ o,H c = some o)(hq : ∀ xs a us H',P xs -> H a = none -> H' a = some (.lst us) -> Reps K (fun c => M c \/ c = a) H' xs us -> Kp b H H' -> okB B b H' -> Q (.ref a) H')
    (h : d { nx := fun _ => False,rt := fun _ => False,ro := P } (startD N ds)) : sn ⟨K,B,H,M,b⟩ d { nx := fun _ H' => Q .non H',rt := Q } (start N vs) H :=
  ⟨[],M,b,startD N ds,{ nx := fun _ => False,rt := fun _ => False,ro := P },enter hr ho hb hd,⟨fun _ _ _ _ _ _ h => h.elim,fun _ _ _ h => h.elim,fun _ _ _ _ _ _ h => h.elim,fun _ _ _ _ _ _ h => h.elim,fun xs a us H' hp h0 _ hh r k o => hq xs a us H' hp h0 hh r k o⟩,h⟩
theorem Fun.okDO {P : Program}{w : World}{K : PySem.W.Frag}{mg : Str -> Option Value}{base : Heap}{x qual : Str}{st : Stmt}{f : Addr}{fd : FuncData}{N ps : List Str}{k : Nat}{B : BagT}{Sd : DSO}(F : Fun K x qual st f fd)(S : FnScope N ps (defScope st))(len : ∀ ds PP Ed,Sd ds PP Ed -> ds.length = ps.length)
    (hbody : ∀ (cdv : Value) (A : Around) (outer : List Env) (s : Shared) (H : Hp) (E : XK) (M : Addr -> Prop) (bg : Option Addr) (ds : List D) (PP : List D -> Prop) (Ed : Addr -> Prop),Room k (A.deeper (envOfC qual (defScope st) s.heap.objs.size f cdv)) -> Sd ds PP Ed ->
      ∃ d,JSs (cxOf CX0 P w K mg base N qual (defScope st) f cdv A outer s H E).nox ⟨K,B,H,M,bg⟩ (defBody st) d /\ d { nx := fun _ => False,rt := fun _ => False,ro := PP } (startD N ds)) : FnOk P w K mg base CX0 (k + 1) f fd ps (liftSpO K B Sd) :=
  F.ok S (liftSpO.len len) fun cdv A outer s H vs Q E hr h => by
    obtain ⟨M,bg,ds,PP,Ed,hS,hR,ho,hb,hd,hq,hx⟩ := h
    obtain ⟨d,J,q⟩ := hbody cdv A outer s H E M bg ds PP Ed hr hS
    exact ⟨_,J.h,runO hR ho hb hd hq q⟩
section
variable {X : Cx}{W : Wd}{e a b c tg iter l : Expr}{es : List Expr}{pos p : Pos}{d da db dc dl de : DE}{dA di : DA}{dt : DT}{fz : Bool}{x : Str}{k : Nat}{ps : List Str}{S : DSO}
theorem Sta.fresh0 {pn : List (D × V)}{M : Addr -> Prop}{b : Option Addr}{H : Hp}{σ : St}{ρ : Ev}{p : Addr}(s : Sta W pn M b H σ ρ)(h : H p = none) : W.H0 p = none /\ ¬ W.M0 p := by
  have hbp : b ≠ some p := fun z => by
    obtain ⟨o,e⟩ := W.B.dm p H (s.ok p z)
    rw [h] at e; cases e
  refine ⟨?_,fun z => s.toHs.new h (s.m0 p z)⟩
  cases q : W.H0 p with
  | none => rfl
  | some o =>
    by_cases z : W.b0 = some p
    · rcases s.new with y | ⟨y,_⟩
      · exact absurd (y.trans z) hbp
      · rw [y] at z; cases z
    · have := s.kp p o z q
      rw [h] at this; cases this
mutual
def noL : D -> Bool
  | .tup xs => noLs xs
  | .lst _ => false
  | .own _ => false
  | .bag => false
  | .frg _ _ => false
  | .scr _ => false
  | .dct _ _ _ => false
  | .non => true
  | .bl _ => true
  | .int _ => true
  | .str _ => true
  | .ty _ => true
  | .adr _ => true
def noLs : List D -> Bool
  | [] => true
  | d :: ds => noL d && noLs ds
end
theorem noLs_all : ∀ {ds : List D},(∀ d ∈ ds,noL d = true) -> noLs ds = true
  | [],_ => by unfold noLs; rfl
  | d :: ds,h => by
    unfold noLs
    rw [h d (List.mem_cons_self ..),noLs_all fun e he => h e (List.mem_cons_of_mem _ he)]; rfl
section
variable {K : PySem.W.Frag}{M M' : Addr -> Prop}{H : Hp}
mutual
theorem Rep.unbor (k : ∀ c,M c -> M' c \/ ∃ o,H c = some o /\ ∀ vs,o ≠ .tup vs) : ∀ (d : D) (v : V),noL d = true -> Rep K M' H d v -> Rep K M H d v
  | .non,_,_,h => h
  | .bl _,_,_,h => h
  | .int _,_,_,h => h
  | .str _,_,_,h => h
  | .ty _,_,_,h => h
  | .adr _,_,_,h => h
  | .tup xs,v,n,h => by
    obtain ⟨a,vs,e,z,r⟩ := h
    refine ⟨a,vs,e,z.imp (fun q => ⟨fun m => ?_,q.2⟩) id,Reps.unbor k xs vs (by unfold noL at n; exact n) r⟩
    rcases k a m with y | ⟨us,y,nt⟩
    · exact q.1 y
    · rw [q.2] at y; cases y; exact nt _ rfl
  | .lst _,_,n,_ => by unfold noL at n; cases n
  | .own _,_,n,_ => by unfold noL at n; cases n
  | .bag,_,n,_ => by unfold noL at n; cases n
  | .frg _ _,_,n,_ => by unfold noL at n; cases n
  | .scr _,_,n,_ => by unfold noL at n; cases n
  | .dct _ _ _,_,n,_ => by unfold noL at n; cases n
theorem Reps.unbor (k : ∀ c,M c -> M' c \/ ∃ o,H c = some o /\ ∀ vs,o ≠ .tup vs) : ∀ (ds : List D) (vs : List V),noLs ds = true -> Reps K M' H ds vs -> Reps K M H ds vs
  | [],_,_,h => h
  | d :: ds,vs,n,h => by
    obtain ⟨v,r,e,h1,h2⟩ := h
    unfold noLs at n
    obtain ⟨n1,n2⟩ := (Bool.and_eq_true _ _).mp n
    exact ⟨v,r,e,Rep.unbor k d v n1 h1,Reps.unbor k ds r n2 h2⟩
end
end
def BorAt : List D -> List V -> Addr -> Prop
  | .own _ :: ds,v :: vs,c => v = .ref c \/ BorAt ds vs c
  | .frg f _ :: ds,_ :: vs,c => c ∈ f.ads \/ BorAt ds vs c
  | _ :: ds,_ :: vs,c => BorAt ds vs c
  | _,_,_ => False
theorem BorAt.lst {M : Addr -> Prop}{b : Option Addr}{H : Hp}{c : Addr} : ∀ (ds : List D) (vs : List V),RepXs W M b H ds vs -> BorAt ds vs c -> b ≠ some c /\ ∃ o,H c = some o /\ ∀ vs,o ≠ .tup vs
  | [],vs,h,q => by cases (show vs = [] from h); exact q.elim
  | d :: ds,vs,h,q => by
    obtain ⟨v,r,rfl,h1,h2⟩ := h
    cases d
    case own xs =>
      rcases q with z | z
      · obtain ⟨a,us,e,m1,m2,m3,m4,hh,r'⟩ := h1
        rw [z] at e; cases e
        exact ⟨m2,_,hh,fun _ y => by cases y⟩
      · exact BorAt.lst ds r h2 z
    case frg f d =>
      rcases q with z | z
      · exact ⟨(h1.1 c z).2.1,f.nt _ _ _ h1.2.1 c z⟩
      · exact BorAt.lst ds r h2 z
    all_goals exact BorAt.lst ds r h2 q
theorem RepXs.bor2 {M M' : Addr -> Prop}{b : Option Addr}{H : Hp}(sub : ∀ c,M' c -> M c) : ∀ (ds : List D) (vs : List V),(∀ c,BorAt ds vs c -> ¬ M' c) -> RepXs W M b H ds vs -> RepAs W.K M' b H (ds.map L2.bor) vs
  | [],_,_,h => h
  | d :: ds,vs,nb,h => by
    obtain ⟨v,r,rfl,h1,h2⟩ := h
    have av : ∀ c,M' c -> M c \/ H c = none := fun c hc => .inl (sub c hc)
    have nb2 : ∀ c,BorAt ds r c -> ¬ M' c := fun c hc => nb c (by cases d <;> first | exact hc | exact .inr hc)
    refine ⟨v,r,rfl,?_,RepXs.bor2 sub ds r nb2 h2⟩
    cases d
    case own xs =>
      obtain ⟨a,us,rfl,m1,m2,m3,m4,hh,r'⟩ := h1
      exact ⟨a,us,rfl,⟨nb a (.inl rfl),hh⟩,Reps.avoid av _ _ r'⟩
    case bag => exact h1
    case frg f d =>
      have r := Rep.avoid (M' := M') (fun c hc => .inl ⟨sub c hc,fun m => nb c (.inl m) hc⟩) _ _ h1.2.2
      show RepA W.K _ b H d v
      cases d <;> first | exact r | exact r.elim
    all_goals exact Rep.avoid av _ _ h1
theorem call_own {pn : List (D × V)}{M : Addr -> Prop}{b : Option Addr}{H1 : Hp}{σ : St}{ρ : Ev}{xs : List D}{vs : List V}{P : List D -> Prop}{Q : VK}(st1 : Sta W pn M b H1 σ ρ)(rx : RepXs W M b H1 xs vs)(hS : S (xs.map bor) (fun ys => noLs ys = true /\ P ys) (fun _ => False))
    (k : ∀ ys a us H',P ys -> H1 a = none -> H' a = some (.lst us) -> Reps W.K M H' ys us -> Kp b H1 H' -> okB W.B b H' -> Q (.ref a) H') : liftSpO W.K W.B S vs H1 Q E0 := by
  refine ⟨fun c => M c /\ ¬ BorAt xs vs c,b,xs.map bor,_,fun _ => False,hS,RepXs.bor2 (fun c h => h.1) _ _ (fun c h z => z.2 h) rx,st1.ok,fun p h => ⟨st1.bagM p h,fun z => (BorAt.lst xs vs rx z).1 h⟩,fun c hc => st1.dom c hc.1,fun ys a us H' hp h0 hh r k2 o2 => ?_,fun C H' hC => hC.elim⟩
  refine k ys a us H' hp.2 h0 hh (Reps.unbor (fun c m => ?_) _ _ hp.1 (Reps.avoid (fun c m => .inl (.inl m)) _ _ r)) k2 o2
  by_cases z : BorAt xs vs c
  · obtain ⟨nb,us',e,nt⟩ := BorAt.lst xs vs rx z
    exact .inr ⟨us',k2 c _ nb e,nt⟩
  · exact .inl ⟨m,z⟩
theorem StS.gotOwn2 {pn : List (D × V)}{M : Addr -> Prop}{b : Option Addr}{H H' : Hp}{σ : St}{ρ : Ev}{xs : List D}{vs : List V}{p : Addr}(s : StS W pn M b H σ ρ)(i : Nat)(kp : Kp b H H')(ok : okB W.B b H')(h : H p = none)(hh : H' p = some (.lst vs))(r' : Reps W.K (fun c => M c \/ c = p) H' xs vs) :
    StS W pn (fun c => M c \/ c = p) b H' (σ.set i (some (.ref p))) (ρ.set i (some (.own xs))) := by
  have hM : ∀ c,(M c \/ c = p) -> M c \/ H c = none := fun c hc => hc.imp id (fun z => by rw [z]; exact h)
  have kk : ∀ c o,¬ (M c \/ c = p) -> H c = some o -> H' c = some o := fun c o n e => kp c o (fun z => n (.inl (s.bagM c z))) e
  have rep : ∀ d v,Rep W.K M H d v -> Rep W.K (fun c => M c \/ c = p) H' d v := fun d v r => Rep.keep kk _ _ (Rep.avoid hM _ _ r)
  have reps : ∀ d v,Reps W.K M H d v -> Reps W.K (fun c => M c \/ c = p) H' d v := fun d v r => Reps.keep kk _ _ (Reps.avoid hM _ _ r)
  have hbp : b ≠ some p := fun z => by
    obtain ⟨o,e⟩ := W.B.dm p H (s.ok p z)
    rw [h] at e; cases e
  obtain ⟨h0,hm0⟩ := s.toSta.fresh0 h
  have s' := s.toSta.step kp ok
  refine s.add i ⟨⟨ok,fun q e => .inl (s.bagM q e),fun c hc => ?_,fun c m => .inl (s.m0 c m)⟩,s'.kp,s.new,fun j d e => ?_,by simp [s.len],fun q hq => (s.pin q hq).to rep reps fun xs a vs _ _ m n hh' => ⟨.inl m,n,kp _ _ n hh'⟩⟩ fun c m => by
    cases (show V.ref p = V.ref c from m)
    exact s.toHs.new h
  · rcases hc with hc | hc
    · exact s'.dom c hc
    · rw [hc]; exact ⟨_,hh⟩
  · by_cases z : i = j
    · subst z
      rw [List.getElem?_set] at e
      simp at e
      obtain ⟨hl,rfl⟩ := e
      exact ⟨.ref p,by rw [List.getElem?_set]; simp [<- s.len,hl],p,vs,rfl,.inr rfl,hbp,h0,hm0,hh,r'⟩
    · rw [List.getElem?_set_ne z] at e
      obtain ⟨w,e1,r1⟩ := s.env j d e
      refine ⟨w,by rw [List.getElem?_set_ne z]; exact e1,?_⟩
      cases d
      case own ys =>
        obtain ⟨a,us,rfl,m1,m2,m3,m4,hha,r'⟩ := r1
        exact ⟨a,us,rfl,.inl m1,m2,m3,m4,kp _ _ m2 hha,reps _ _ r'⟩
      case bag => exact r1
      case frg f _ => exact RepX.move r1 (fun c _ m n => ⟨.inl m,n⟩) (fun c o q e => q.elim (fun n => kk c o n e) fun m => kp c o (r1.1 c m).2.1 e) hM
      all_goals exact rep _ _ r1
theorem StS.gotOwn {pn : List (D × V)}{M : Addr -> Prop}{b : Option Addr}{H H' : Hp}{σ : St}{ρ : Ev}{xs : List D}{vs : List V}{p : Addr}(s : StS W pn M b H σ ρ)(i : Nat)(kp : Kp b H H')(ok : okB W.B b H')(h : H p = none)(hh : H' p = some (.lst vs))(r : Reps W.K M H' xs vs)(nl : noLs xs = true) :
    StS W pn (fun c => M c \/ c = p) b H' (σ.set i (some (.ref p))) (ρ.set i (some (.own xs))) := s.gotOwn2 i kp ok h hh (Reps.unbor (fun c m => m.elim .inl fun z => .inr ⟨_,by rw [z]; exact hh,fun _ y => by cases y⟩) _ _ nl r)
def dSetO (i : Nat)(S : DSO)(dA : DA) : DS := fun F ρ => dA ρ fun ds => S (ds.map bor) (fun ys => noLs ys = true /\ noLs ys = true /\ F.nx (ρ.set i (some (.own ys)))) (fun _ => False)
theorem jds_setO {i : Nat}{y : Str}{pos' cpos : Pos}(hN : X.N.Nodup)(hi : X.N[i]? = some y)(hx : Loc X.env.scope y)(G : Callee X.prog X.w X.K X.mg X.base CX0 x k ps (liftSpO W.K W.B S))(hr : Room k X.A)(hg : Gl X x)(ha : JA X W (e :: es) dA)
    (hs : swapsWith (.Call (.Name x p) (e :: es) [] cpos) (some (.Name y pos')) pos.line X.env = pure false := by rfl) (hf : X.fn y = true \/ X.env.scope.names.lookup y = some .local := by first | exact .inl rfl | exact .inr rfl | assumption)
    (hdb : (x == ("__debug__" : Str)) = false := by decide) (he : starEach (e :: es) X.env = (false,eval e X.env) :: starEach es X.env := by rfl) (hpl : (backTo cpos (starEach es X.env)).any (·.1) = false := by rfl) :
    JS X W (.Assign [.Name y pos'] (.Call (.Name x p) (e :: es) [] cpos) pos) (dSetO i S dA) := ⟨(ps_set hN hi hx (pe_own G hr hg ha.h hdb he hpl) hs hf).mono fun E σ H hh => hh.elim fun pn M b ρ F s l h => by
  refine ⟨pn,M,b,ρ,_,s.toSta,h,fun xs vs H1 hx rx k1 o1 => ?_⟩
  have s1 := s.step k1 o1
  show liftSpO W.K W.B S (vs ++ []) H1 _ E0
  rw [List.append_nil]
  exact call_own (P := fun ys => noLs ys = true /\ F.nx (ρ.set i (some (.own ys)))) s1.toSta rx (by
    have := hx
    exact this) fun ys a us H' hp h0 hh r k2 o2 => l.nx _ _ _ _ _ (s1.gotOwn i k2 o2 h0 hh r hp.1) hp.2⟩
end
end L2
set_option Elab.async false
set_option linter.all false
set_option maxRecDepth 100000
set_option maxHeartbeats 4000000
namespace L2
open PySem PySem.Spec PyProof.Rows
theorem Vals.of_get : ∀ {xs : List V} {us : List Value},xs.length = us.length -> (∀ (i : Nat) x u,xs[i]? = some x -> us[i]? = some u -> RelV x u) -> Vals xs us
  | [],[],_,_ => .nil
  | [],_ :: _,h,_ => by simp at h
  | _ :: _,[],h,_ => by simp at h
  | x :: xs,u :: us,h,k => .cons (k 0 x u rfl rfl) (Vals.of_get (by simpa using h) fun i y v e1 e2 => k (i + 1) y v (by simpa using e1) (by simpa using e2))
def rngV (lo : Int)(n : Nat) : List V := (List.range n).map fun (k : Nat) => V.int (lo + k)
def rRevL (K : PySem.W.Frag) : V -> Hp -> VK -> Prop := fun x H Q => ∃ a xs,x = .ref a /\ SqL K H a xs /\ ∀ p,H p = none -> Q (.ref p) (upd H p (.lst xs.reverse))
def tRevL (K : PySem.W.Frag)(te ts : TE) : TE := fun σ H Q => te σ H fun x H1 => ts σ H1 fun y H2 => y = .int (-1) /\ rRevL K x H2 Q
theorem pe_rev {X : Cx}{e st : Expr}{te ts : TE}{p2 pos : Pos}(K : PySem.W.Frag)(hK : X.K = K)(he : PE X e te)(hst : PE X st ts){ops : Addr -> Addr -> List Value}(hsub : ∀ l sl,subscripted (.Slice none none (some st) p2) false (.ref l) (.ref sl) = operate (ops l sl) (getItem (.ref l) (.ref sl))) : PE X (.Subscript e (.Slice none none (some st) p2) pos) (tRevL K te ts) := by
  subst hK
  intro pins s σ H Q I h
  refine Subscript_ (thn (he pins s σ H _ I h) fun v s1 ⟨x,H1,I1,r1,q1⟩ => ?_)
  refine wpAny_Slice ?_
  rw [evalPart_none]
  refine wpAny_pure (wpAny_pure ?_)
  rw [evalPart_some]
  refine thn (hst pins s1 σ H1 _ I1 q1) fun u s2 ⟨y,H2,I2,r2,hy,q2⟩ => ?_
  subst hy
  obtain ⟨t,rfl⟩ := r2
  obtain ⟨a,xs,rfl,hx,q⟩ := q2
  cases r1
  have I4 : Inv X pins σ H2 { s2 with heap := s2.heap.push { cls := .type "slice",data := .fields #[.none,.none,.int (-1) t] } } := I2.kept (t' := s2.toks) fun b ob q => Heap.get?_push_of_some _ q
  obtain ⟨its,r,ht,hz⟩ := I4.list hx
  have hlen := r.length
  refine tail_any (ops := ops a s2.heap.objs.size) ht.isList.typeIs slot_list_getitem.lookup ?_ (hsub a _)
  refine wpAny_getItem_list_slice ht.isList (Heap.IsSliceOf.new ..) .none .none (.int _ _) (by simp) ?_ (by rw [List.size_toArray] <;> omega)
  rw [PySem.W.krv_pick]
  refine ⟨.ref _,_,I4.laid (t' := s2.toks) (o := .lst xs.reverse) (fun b ob q => Heap.get?_push_of_some _ q) (Nat.le_refl _) ⟨by rw [List.length_reverse]; exact hz,its.reverse,0,r.reverse,?_⟩,rfl,q _ (I4.hok.fresh (Nat.le_refl _))⟩
  rw [Heap.get?_push_size _ rfl]
end L2
set_option Elab.async false
set_option linter.all false
set_option maxRecDepth 100000
set_option maxHeartbeats 4000000
namespace L2
open PySem PySem.Spec PyProof.Rows
section
variable {X : Cx}{W : Wd}{e a b st : Expr}{pos : Pos}{d da db de ds : DE}{dA : DA}
theorem reps_range {K : PySem.W.Frag}{M : Addr -> Prop}{H : Hp}(lo : Int)(n : Nat) : Reps K M H (rangeD lo n) (rngV lo n) := by
  unfold rangeD rngV
  generalize List.range n = l
  induction l with
  | nil => exact rfl
  | cons k l ih => exact ⟨_,_,rfl,rfl,ih⟩
def dRev (de ds : DE) : DE := fun ρ P => de ρ fun x => ds ρ fun y => match asL x,y with
  | some xs,.int (-1) => P (.lst xs.reverse)
  | _,_ => False
theorem jde_rev {p2 : Pos}(he : JE X W e de)(hst : JE X W st ds)(h : PE X (.Subscript e (.Slice none none (some st) p2) pos) (tRevL W.K (dn W de) (dn W ds))) : JE X W (.Subscript e (.Slice none none (some st) p2) pos) (dRev de ds) := ⟨h.mono fun σ H Q hh => hh.elim fun pn M b ρ P st h k => by
  refine ⟨pn,M,b,ρ,_,st,h,fun x v H1 hx rx k1 o1 => ?_⟩
  refine ⟨pn,M,b,ρ,_,st.step k1 o1,hx,fun y u H2 hy ry k2 o2 => ?_⟩
  have s2 := (st.step k1 o1).step k2 o2
  have rx := rx.step st.bagM k2
  split at hy
  case h_2 => exact hy.elim
  case h_1 xs e1 =>
    cases (show _ = _ from ry)
    obtain ⟨a,vs,rfl,hh,r⟩ := asL.rep rx e1
    exact ⟨rfl,a,vs,rfl,SqL.of hh,fun p hp => k _ _ _ hy (new_lst s2.toHs r.reverse hp) ((k1.trans k2).trans (Kp.upd hp)) (s2.okU hp)⟩⟩
end
end L2
set_option Elab.async false
set_option linter.all false
set_option maxRecDepth 100000
set_option maxHeartbeats 4000000
namespace L2
open PySem PySem.Spec PyProof.Rows
section
variable {X : Cx}{W : Wd}{pos : Pos}{de : DE}{di : DA}{dt : DT}
theorem jds_setC2 {elt iter tg : Expr}{ifs : List Expr}{scope : Scope}{N' : List Str}{map : List (Option Nat)}{g : TG}{gd : D -> Ev -> (Ev -> Prop) -> Prop}(own : Bool){i : Nat}{y : Str}{py spos : Pos}(hN : X.N.Nodup)(hiN : X.N[i]? = some y)(hy : Loc X.env.scope y)(hG : GD W g gd)(B : Blk X N' scope map tg elt ifs g (dnT W dt) (dn W de))(hi : JI X W false tg iter di)
    (hsw : swapsWith (.ListComp elt [⟨tg,iter,ifs,0⟩] scope pos) (some (.Name y py)) spos.line X.env = pure false := by rfl) (hfn : X.fn y = true \/ X.env.scope.names.lookup y = some .local := by first | exact .inl rfl | exact .inr rfl)
    (hs : ∀ x,foldedSetIterable iter X.env x = pure x := by intro _; rfl) : JS X W (.Assign [.Name y py] (.ListComp elt [⟨tg,iter,ifs,0⟩] scope pos) spos) (dSetC own i map gd di dt de) := ⟨(ps_set hN hiN hy (pe_comp B hi.h hs) hsw hfn).mono fun E σ H hh => hh.elim fun pn M b ρ F s l h => by
  refine ⟨pn,M,b,ρ,_,s.toSta,h,fun items J need H1 hx hp hI hn k1 o1 => ?_⟩
  have s1 := s.step k1 o1
  refine comp_turns hG (s1.toSta.capt map) hp hI (fun q hq => (hn q hq).1) hx.1 hx.2 fun ds acc H' hP r hl k2 o2 q hq => ?_
  have s2 := s1.step k2 o2
  cases own
  · have s3 := (s2.step (Kp.upd (o := .lst acc) hq) (s2.toHs.okU hq))
    exact l.nx _ _ _ _ _ (s3.of (s3.toSta.set i (new_lst s2.toHs r hq)) (own_set rfl)) hP
  · exact l.nx _ _ _ _ _ (s2.newOwn i r hq) hP⟩
end
end L2
set_option Elab.async false
set_option linter.all false
set_option maxRecDepth 100000
set_option maxHeartbeats 4000000
namespace L2
open PySem PySem.Spec PyProof.Rows
section
variable {X : Cx}{W : Wd}{e a b c tg iter l : Expr}{es : List Expr}{pos p : Pos}{d da db dc dl de : DE}{dA di : DA}{dt : DT}{fz : Bool}{x : Str}{k : Nat}{ps : List Str}{S : DSO}
end
section
variable {X : Cx}{W : Wd}{tg : Expr}{pos npos : Pos}
theorem set_same {σ : St}{i : Nat}{v : V}(e : σ[i]? = some (some v)) : σ.set i (some v) = σ := by
  apply List.ext_getElem?
  intro n
  by_cases z : i = n
  · subst z; rw [List.getElem?_set,e]; simp; exact (List.getElem?_eq_some_iff.mp e).1
  · rw [List.getElem?_set_ne z]
end
end L2
set_option Elab.async false
set_option linter.all false
set_option maxRecDepth 100000
set_option maxHeartbeats 4000000
namespace L2
open PySem PySem.Spec PyProof.Rows
section
variable {prog : Program}{w : World}{A : Around}{E : Value -> Shared -> Prop}{s : Shared}{l : Addr}{xs : Array (Int × Tok)}
end
section
variable {X : Cx}
end
section
variable {W : Wd}
end
end L2
set_option Elab.async false
set_option linter.all false
set_option maxRecDepth 100000
set_option maxHeartbeats 4000000
namespace L2
open PySem PySem.Spec PyProof.Rows
section
variable {X : Cx}{W : Wd}{pos : Pos}{dA : DA}
def dExt (i : Nat)(dA : DA) : DS := fun F ρ => match ρ[i]? with
  | some (some (.own ys)) => dA ρ fun xs => (match xs with | [.lst zs] => ys.length + zs.length <= 1000 /\ F.nx (ρ.set i (some (.own (ys ++ zs)))) | _ => False)
  | _ => False
theorem up_ext {i : Nat} : ∀ E σ H,sn W (dExt i dA) E σ H -> tDrop (tBM W.K "list" rExtend (tVar i) (dnA W dA)) E σ H := fun E σ H hh => hh.elim fun pn M b ρ F s l h => by
  unfold dExt at h
  split at h
  case h_2 => exact h.elim
  case h_1 ys e =>
    obtain ⟨a,vs,ea,nb,hh,r⟩ := own_at s.toSta e
    refine ⟨.ref a,ea,.inl ⟨rfl,vs,SqL.of hh⟩,pn,M,b,ρ,_,s.toSta,h,fun xs us H' hx rx k o => ?_⟩
    match xs,hx with
    | [.lst zs],hx =>
      obtain ⟨u,rfl,ru⟩ := rx1 rx
      obtain ⟨a2,ws,rfl,⟨n2,h2⟩,r2⟩ := (show ∃ a vs,u = .ref a /\ (¬ M a /\ H' a = some (.lst vs)) /\ Reps W.K M H' zs vs from ru)
      have s' := s.step k o
      obtain ⟨a',vs',ea',nb',hh',r'⟩ := own_at s'.toSta e
      rw [ea] at ea'; cases ea'
      exact ⟨a,a2,vs',ws,rfl,rfl,hh',h2,by rw [r'.length,r2.length]; exact Nat.le_trans hx.1 le1000,l.nx _ _ _ _ _ (s'.setOwn i e ea (Reps.append r' r2)) hx.2⟩
theorem jds_extend {i : Nat}{x : Str}{e : Expr}{npos apos cpos : Pos}(hK : X.K = W.K)(ha : JA X W [e] dA)
    (h : PE X (.Call (.Attribute (.Name x npos) "extend" apos) [e] [] cpos) (tBM X.K "list" rExtend (tVar i) (dnA W dA))) (hs : swapsWith (.Call (.Attribute (.Name x npos) "extend" apos) [e] [] cpos) none pos.line X.env = pure false := by rfl) :
    JS X W (.Expr (.Call (.Attribute (.Name x npos) "extend" apos) [e] [] cpos) pos) (dExt i dA) := ⟨(ps_expr (by rw [hK] at h; exact h) hs).mono up_ext⟩
end
section
variable {X : Cx}{W : Wd}{a b : Expr}{pos : Pos}{da db : DE}
end
end L2
set_option Elab.async false
set_option linter.all false
set_option maxRecDepth 100000
set_option maxHeartbeats 4000000
namespace L2
open PySem PySem.Spec PyProof.Rows
section
variable {κ : Type}[DecidableEq κ]
def valV (kvs : List (κ × V))(k : κ) : Option V := (kvs.find? fun kv => decide (kv.1 = k)).map (·.2)
def putK (kvs : List (κ × V))(k : κ)(v : V) : List (κ × V) :=
  if (kvs.any fun kv => decide (kv.1 = k)) = true then kvs.map (fun kv => if kv.1 = k then (kv.1,v) else kv) else kvs ++ [(k,v)]
theorem KV.any {kvs : List (κ × V)}{vs : List (κ × Value)}(r : KV kvs vs)(k : κ) : (kvs.any fun kv => decide (kv.1 = k)) = vs.any fun kv => decide (kv.1 = k) := by
  unfold KV at r
  induction r with
  | nil => rfl
  | cons h t ih => rw [List.any_cons,List.any_cons,ih,h.1]
theorem KV.length {kvs : List (κ × V)}{vs : List (κ × Value)}(r : KV kvs vs) : kvs.length = vs.length := Paired.length r
end
section
variable {P : Program}{w : World}{H : Hp}{h : Heap}{a : Addr}
end
def DGet (H : Hp)(a : Addr)(y : V)(r : Option V) : Prop :=
  (∃ kvs k,Rd H a (.dK kvs) /\ y = kV k /\ r = valV kvs k) \/ ∃ kvs k b,Rd H a (.dT kvs) /\ y = .ref b /\ H b = some (.tup (k.map kV)) /\ r = valV kvs k
def DPut (H : Hp)(a : Addr)(y v : V)(H' : Hp) : Prop :=
  (∃ kvs k,H a = some (.dK kvs) /\ y = kV k /\ kvs.length < sizeLine /\ H' = upd H a (.dK (putK kvs k v))) \/
  ∃ kvs k b,H a = some (.dT kvs) /\ y = .ref b /\ H b = some (.tup (k.map kV)) /\ kvs.length < sizeLine /\ H' = upd H a (.dT (putK kvs k v))
theorem DGet.k {H : Hp}{a : Addr}{kvs : List (Key × V)}{k : Key}(e : H a = some (.dK kvs)) : DGet H a (kV k) (valV kvs k) := .inl ⟨kvs,k,.inl e,rfl,rfl⟩
theorem DGet.t {H : Hp}{a b : Addr}{kvs : List (List Key × V)}{k : List Key}(e : H a = some (.dT kvs))(eb : H b = some (.tup (k.map kV))) : DGet H a (.ref b) (valV kvs k) := .inr ⟨kvs,k,b,.inl e,rfl,eb,rfl⟩
theorem DPut.k {H : Hp}{a : Addr}{kvs : List (Key × V)}{k : Key}{v : V}(e : H a = some (.dK kvs))(hl : kvs.length < sizeLine) : DPut H a (kV k) v (upd H a (.dK (putK kvs k v))) := .inl ⟨kvs,k,e,rfl,hl,rfl⟩
theorem DPut.t {H : Hp}{a b : Addr}{kvs : List (List Key × V)}{k : List Key}{v : V}(e : H a = some (.dT kvs))(eb : H b = some (.tup (k.map kV)))(hl : kvs.length < sizeLine) :
    DPut H a (.ref b) v (upd H a (.dT (putK kvs k v))) := .inr ⟨kvs,k,b,e,rfl,eb,hl,rfl⟩
section
variable {X : Cx}{pins : List (Addr × Obj)}{σ : St}{H : Hp}{s : Shared}{a : Addr}{y v : V}{u r : Value}{o : Option V}{A : Around}{E : Value -> Shared -> Prop}
end
section
variable {X : Cx}{pins : List (Addr × Obj)}{σ : St}{H : Hp}{s : Shared}{a : Addr}{kvs : List (Key × V)}{k : Key}{u : Value}{A : Around}{E : Value -> Shared -> Prop}
end
section
variable {X : Cx}{o i e value : Expr}{pos pos' tpos : Pos}{td ty tv : TE}
end
section
variable {X : Cx}{pos : Pos}
end
structure M2 (X : Cx)(o : Expr)(m : Str)(apos : Pos)(e f : Expr)(cpos : Pos) : Prop where
  base : attributeBase o m X.env (eval o X.env) = eval o X.env
  few : ((backTo cpos (starEach [e,f] X.env)).all (fun x => !x.1) && (backToKw cpos (keywordEach [] X.env)).all (fun x => x.1.isSome)
    && decide (([e,f] : List Expr).length + ([] : List Keyword).length + (if ([] : List Keyword).isEmpty then 0 else 1) < 30)) = true
  line : (apos.endLine == cpos.line) = true
  trees : backTo cpos (starEach [e,f] X.env) = [(false,eval e X.env),(false,eval f X.env)]
section
variable {X : Cx}{pins : List (Addr × Obj)}{σ : St}{H : Hp}{s : Shared}{a : Addr}{y d : V}{u r : Value}{o : Option V}{A : Around}{E : Value -> Shared -> Prop}
end
section
variable {X : Cx}{o e f : Expr}{apos cpos : Pos}{td ty tx : TE}
end
section
variable {X : Cx}{pins : List (Addr × Obj)}{σ : St}{H : Hp}{s : Shared}{a : Addr}{kvs : List (Key × V)}{A : Around}{E : Value -> Shared -> Prop}
end
section
variable {X : Cx}{pins : List (Addr × Obj)}{σ : St}{H : Hp}{s : Shared}{a : Addr}{y : V}{u : Value}{A : Around}{E : Value -> Shared -> Prop}
end
end L2
set_option Elab.async false
set_option linter.all false
set_option maxRecDepth 100000
set_option maxHeartbeats 4000000
namespace L2
open PySem PySem.Spec PyProof.Rows
section
variable {X : Cx}{pins : List (Addr × Obj)}{σ : St}{H : Hp}{s : Shared}{a b : Addr}{v : V}{u r : Value}{A : Around}{E : Value -> Shared -> Prop}
end
end L2
set_option Elab.async false
set_option linter.all false
set_option maxRecDepth 100000
set_option maxHeartbeats 4000000
namespace L2
open PySem PySem.Spec PyProof.Rows
abbrev Ens := List (List Int × Addr × Value)
abbrev tiK (P : Program)(w : World) := tupleKind (intKind P w)
section
variable {X : Cx}{pins : List (Addr × Obj)}{σ : St}{H : Hp}{s : Shared}{a b : Addr}{es : Ens}{ep : Nat}{ns : List Int}
end
section
variable {X : Cx}{pins : List (Addr × Obj)}{σ : St}{H : Hp}{s : Shared}{a b : Addr}{es : Ens}{ep : Nat}{ns : List Int}{A : Around}{E : Value -> Shared -> Prop}{r : Value}
end
end L2
set_option Elab.async false
set_option linter.all false
set_option maxRecDepth 100000
set_option maxHeartbeats 4000000
namespace L2
open PySem PySem.Spec PyProof.Rows
def findD : List (List Int) -> List D -> List Int -> Option D
  | k :: ks,x :: xs,n => if k = n then some x else findD ks xs n
  | _,_,_ => none
section
variable {X : Cx}{W : Wd}{e f : Expr}{es : List Expr}{pos : Pos}{dA : DA}{df : DE}
end
end L2
set_option Elab.async false
set_option linter.all false
set_option maxRecDepth 100000
set_option maxHeartbeats 4000000
namespace L2
open PySem PySem.Spec PyProof.Rows
theorem Reps.erase {K : PySem.W.Frag}{M : Addr -> Prop}{H : Hp} : ∀ {ds : List D} {vs : List V} (j : Nat),Reps K M H ds vs -> Reps K M H (ds.eraseIdx j) (vs.eraseIdx j)
  | [],_,_,h => by cases (show _ = _ from h); exact rfl
  | d :: ds,_,0,h => by
    obtain ⟨v,r,rfl,h1,h2⟩ := h
    exact h2
  | d :: ds,_,j + 1,h => by
    obtain ⟨v,r,rfl,h1,h2⟩ := h
    exact ⟨v,_,rfl,h1,Reps.erase j h2⟩
section
variable {X : Cx}{W : Wd}{tg e : Expr}{pos : Pos}{dA : DA}
end
section
variable {X : Cx}{W : Wd}{e : Expr}{pos : Pos}{dA : DA}
end
end L2
set_option Elab.async false
set_option linter.all false
set_option maxRecDepth 100000
set_option maxHeartbeats 4000000
namespace L2
open PySem PySem.Spec PyProof.Rows
def idMap : Nat -> List (Option Nat) -> Bool
  | _,[] => true
  | n,none :: m => idMap (n + 1) m
  | n,some i :: m => (i == n) && idMap (n + 1) m
def subMap : List (Option Nat) -> List (Option Nat) -> Bool
  | [],[] => true
  | none :: m,_ :: n => subMap m n
  | some _ :: m,some _ :: n => subMap m n
  | _,_ => false
structure Blk2 (X : Cx)(N' : List Str)(scope : Scope)(map mp2 : List (Option Nat))(tg tg2 iter2 elt : Expr)(ifs : List Expr)(g : TG)(wi2 : TI)(g2 : TG)(tt : TT)(te : TE) : Prop where
  calm : X.calm = true
  kind : scope.kind = .function
  loc : ∀ x ∈ scope.names,x.2 = .local -> scope.names.lookup x.1 = some .local
  free : (scope.names.all fun p => !(p.2 == NameKind.free) || (X.env.kindOf p.1 == some .cell || X.env.kindOf p.1 == some .free)) = true
  cap : CapOk X scope map N'
  keep : GKeep g map
  keep2 : GKeep g2 mp2
  ids : idMap 0 mp2 = true
  sub : subMap map mp2 = true
  fold : ∀ env x,foldedSetIterable iter2 env x = pure x
  run : ∀ cells C fp s H,PG (cxComp X N' scope cells C fp s H).nox tg g /\ PI (cxComp X N' scope cells C fp s H).nox tg2 iter2 wi2 /\ PG (cxComp X N' scope cells C fp s H).nox tg2 g2 /\ PIf (cxComp X N' scope cells C fp s H).nox ifs tt /\ PE (cxComp X N' scope cells C fp s H).nox elt te
section
variable {X : Cx}{elt iter tg tg2 iter2 : Expr}{ifs : List Expr}{scope : Scope}{pos : Pos}{N' : List Str}{map mp2 : List (Option Nat)}{wi wi2 : TI}{g g2 : TG}{tt : TT}{te : TE}
theorem Blk2.one (B : Blk2 X N' scope map mp2 tg tg2 iter2 elt ifs g wi2 g2 tt te) : Blk X N' scope map tg elt ifs (fun _ _ _ _ => False) (fun _ _ _ => False) (fun _ _ _ => False) :=
  ⟨B.calm,B.kind,B.loc,B.free,B.cap,fun _ _ _ _ z => z.elim,fun _ _ _ _ _ _ => ⟨fun _ _ _ _ _ _ _ _ _ z => z.elim,fun _ _ _ _ _ _ z => z.elim,fun _ _ _ _ _ _ z => z.elim⟩⟩
end
end L2
set_option Elab.async false
set_option linter.all false
set_option maxRecDepth 100000
set_option maxHeartbeats 4000000
namespace L2
open PySem PySem.Spec PyProof.Rows
def okA (acc : List V) : Prop := (∃ ns : List Int,acc = ns.map V.int) /\ acc.length <= 2000
def SOb (prog : Program)(w : World)(ns : List Int)(D : Addr) : HO := .ext fun h => ISet prog w ns D h
theorem ISo.new {prog : Program}{w : World} : ISo prog w [] (nSet (!w.params.followText "set-order")) #[] 0 (.fresh 0 0 (!w.params.followText "set-order")) := ⟨⟨rfl,rfl,rfl⟩,rfl,fun e he => by simp at he,List.nodup_nil,fun z => Iff.rfl,Nat.le_refl 0,rfl,Tb.fresh w⟩
section
variable {X : Cx}{elt iter tg tg2 iter2 : Expr}{ifs : List Expr}{scope : Scope}{pos : Pos}{N' : List Str}{map mp2 : List (Option Nat)}{wi wi2 : TI}{g g2 : TG}{tt : TT}{te : TE}
end
end L2
set_option Elab.async false
set_option linter.all false
set_option maxRecDepth 100000
set_option maxHeartbeats 4000000
namespace L2
open PySem PySem.Spec PyProof.Rows
section
variable {X : Cx}{ke ve iter tg : Expr}{ifs : List Expr}{scope : Scope}{pos : Pos}{N' : List Str}{map : List (Option Nat)}{wi : TI}{g : TG}{tt : TT}{tk te : TE}
end
end L2
set_option Elab.async false
set_option linter.all false
set_option maxRecDepth 100000
set_option maxHeartbeats 4000000
namespace L2
open PySem PySem.Spec PyProof.Rows
section
variable {X : Cx}{W : Wd}{elt iter tg tg2 iter2 : Expr}{ifs : List Expr}{scope : Scope}{pos : Pos}{N' : List Str}{map mp2 : List (Option Nat)}{g g2 : TG}{gd gd2 : D -> Ev -> (Ev -> Prop) -> Prop}{di di2 : DA}{dt : DT}{de : DE}
end
end L2
set_option Elab.async false
set_option linter.all false
set_option maxRecDepth 100000
set_option maxHeartbeats 4000000
namespace L2
open PySem PySem.Spec PyProof.Rows
theorem nodup_bound : ∀ (N : Nat) (l : List Int),l.Nodup -> (∀ z ∈ l,0 <= z /\ z < (N : Int)) -> l.length <= N
  | 0,l,_,h => by
    cases l with
    | nil => exact Nat.le_refl _
    | cons z l => have := h z (List.mem_cons_self ..); omega
  | N + 1,l,hn,h => by
    have := nodup_bound N (l.erase (N : Int)) (hn.erase _) fun z hz => by
      have m := hn.mem_erase_iff.mp hz
      have := h z m.2
      have := m.1
      omega
    have e := List.length_erase (a := (N : Int)) (l := l)
    split at e <;> omega
theorem vals_of_ints {vs : List Value}{ks : List Int}(h : IntsAre vs ks) : Vals (ks.map V.int) vs := by
  induction h with
  | nil => exact .nil
  | cons n t _ ih => exact .cons ⟨t,rfl⟩ ih
theorem Inv.drew {X : Cx}{pins : List (Addr × Obj)}{σ : St}{H : Hp}{s : Shared}(I : Inv X pins σ H s)(d : Drawn) : Inv X pins σ H { s with drawn := d } := ⟨I.ok,I.os,I.bare,I.base,I.loc,I.cell,I.free,I.freeC,I.pin,I.hok,I.len⟩
section
variable {X : Cx}
theorem call_sortedS (hc : X.calm = true) : CallR X (.builtin "sorted") (fun xs H Q => ∃ (D : Addr) (ns : List Int) (N : Nat),xs = [.ref D] /\ H D = some (SOb X.prog X.w ns D) /\ (∀ z ∈ ns,0 <= z /\ z < (N : Int)) /\ N < 64 /\ ∀ (p : Addr) (ks : List Int),H p = none -> ks.Pairwise (· < ·) -> (∀ z,z ∈ ks ↔ z ∈ ns) -> Q (.ref p) (upd H p (.lst (ks.map V.int)))) := by
  intro pins s σ H xs us Q I r h
  obtain ⟨D,ns,N,rfl,hD,hN,h64,q⟩ := h
  obtain ⟨u,rfl,rx⟩ := vals1 r
  cases rx
  obtain ⟨⟨o,es,ep,t,g,IS⟩,_,_⟩ := I.hok D _ hD
  have hz : es.size <= N := by
    have := nodup_bound N (nums es) IS.nd fun z m => hN z ((IS.me z).mp m)
    rwa [List.length_map,Array.length_toList] at this
  refine sorted_set (I.ok.hd hc) g IS (by omega) fun out ks L e h' d tk vi pm so gL zL k => ?_
  have nd : ks.Nodup := pm.nodup_iff.mpr IS.nd
  have lt : ks.Pairwise (· < ·) := by
    have := List.pairwise_and_iff.mpr ⟨so,nd⟩
    exact this.imp fun {a b} q => by obtain ⟨q1,q2⟩ := q; omega
  have kl : ks.length <= 64 := by rw [pm.length_eq,List.length_map,Array.length_toList]; omega
  have hL : H L = none := I.hok.fresh zL
  have J := I.laid (a := L) (o := .lst (ks.map V.int)) (t' := tk) (h' := h') k zL ⟨by rw [List.length_map,sizeLine_eq]; omega,out.toList,e,vals_of_ints vi,gL⟩
  exact ⟨.ref L,_,J.drew d,rfl,q L ks hL lt fun z => by rw [pm.mem_iff,IS.me z]⟩
end
def intsD (acc : List D) : Prop := (∃ ns : List Int,acc = ns.map D.int) /\ acc.length <= 2000
theorem reps_ints {K : PySem.W.Frag}{M : Addr -> Prop}{H : Hp} : ∀ {ns : List Int} {vs : List V},Reps K M H (ns.map D.int) vs -> vs = ns.map V.int
  | [],vs,h => h
  | n :: ns,vs,h => by
    obtain ⟨v,r,rfl,h1,h2⟩ := h
    cases (show _ = _ from h1)
    rw [reps_ints h2]
    rfl
theorem intsD.ok {K : PySem.W.Frag}{M : Addr -> Prop}{H : Hp}{ds : List D}{vs : List V}(h : intsD ds)(r : Reps K M H ds vs) : okA vs := by
  obtain ⟨⟨ns,rfl⟩,hl⟩ := h
  have e := reps_ints r
  exact ⟨⟨ns,e⟩,by rw [e,List.length_map]; rwa [List.length_map] at hl⟩
section
variable {X : Cx}{W : Wd}{elt iter tg tg2 iter2 : Expr}{ifs : List Expr}{scope : Scope}{pos cpos p : Pos}{N' : List Str}{map mp2 : List (Option Nat)}{g g2 : TG}{gd gd2 : D -> Ev -> (Ev -> Prop) -> Prop}{di di2 : DA}{dt : DT}{de : DE}{x : Str}
theorem new_ints {M : Addr -> Prop}{b : Option Addr}{H : Hp}(hs : Hs W M b H){q : Addr}(h : H q = none)(ks : List Int) : RepX W M b (upd H q (.lst (ks.map V.int))) (.lst (ks.map D.int)) (.ref q) :=
  new_lst hs (by
    induction ks with
    | nil => exact rfl
    | cons k ks ih => exact ⟨_,_,rfl,rfl,ih⟩) h
end
end L2
set_option Elab.async false
set_option linter.all false
set_option maxRecDepth 100000
set_option maxHeartbeats 4000000
namespace L2
open PySem PySem.Spec PyProof.Rows
inductive whI (dc : DT)(db : DS)(F : DEnds)(ρ : Ev) : Prop
  | mk (I : Nat -> Ev -> Prop) (m : Nat) (h0 : I m ρ) (hs : ∀ m ρ,I m ρ -> dc ρ fun c => IfP c (db { F with nx := fun ρ' => ∃ m',m' < m /\ I m' ρ',ct := fun ρ' => ∃ m',m' < m /\ I m' ρ',bk := F.nx } ρ) (F.nx ρ)) : whI dc db F ρ
def dWhile (dc : DT)(db : DS) : DS := fun F ρ => whI dc db F ρ
section
variable {X : Cx}{W : Wd}{c : Expr}{dc : DT}{db : DS}{body : List Stmt}{pos : Pos}
theorem up_while : ∀ E σ H,sn W (dWhile dc db) E σ H -> tWhile (dnT W dc) (sn W db) E σ H := fun E σ H hh => hh.elim fun pn M b ρ F s l h => by
  obtain ⟨I,m0,i0,step⟩ := h
  refine ⟨fun m σ H => ∃ M b ρ,StS W pn M b H σ ρ /\ I m ρ,⟨m0,M,b,ρ,s,i0⟩,?_⟩
  rintro m σ H ⟨M,b,ρ,s,i⟩
  refine ⟨pn,M,b,ρ,_,s.toSta,step m ρ i,fun c H1 h1 k1 o1 => ?_⟩
  have s1 := s.step k1 o1
  cases h1 with
  | t e h1 =>
    dsimp only
    rw [if_pos e]
    exact ⟨fun σ' H' => ∃ m',m' < m /\ ∃ M b ρ,StS W pn M b H' σ' ρ /\ I m' ρ,fun σ' H' n => n,pn,M,b,ρ,{ F with nx := fun ρ' => ∃ m',m' < m /\ I m' ρ',ct := fun ρ' => ∃ m',m' < m /\ I m' ρ',bk := F.nx },s1,⟨fun M b ρ σ H s' ⟨m',lt,h'⟩ => ⟨m',lt,M,b,ρ,s',h'⟩,l.rt,fun M b ρ σ H s' h' => l.nx _ _ _ _ _ s' h',fun M b ρ σ H s' ⟨m',lt,h'⟩ => ⟨m',lt,M,b,ρ,s',h'⟩,l.ro⟩,h1⟩
  | f e h1 =>
    dsimp only
    rw [if_neg (by rw [e]; exact Bool.false_ne_true)]
    exact l.nx _ _ _ _ _ s1 h1
theorem jds_while (hp : PassesOwn (model X.prog X.w) X.A X.env X.xe)(hc : JT X W c dc)(hb : JSs X W body db) : JS X W (.While c body [] pos) (dWhile dc db) := ⟨(ps_while hp hc.h hb.h).mono up_while⟩
end
end L2
set_option Elab.async false
set_option linter.all false
set_option maxRecDepth 100000
set_option maxHeartbeats 4000000
namespace L2
open PySem PySem.Spec PyProof.Rows
section
variable {X : Cx}{W : Wd}{c : Expr}{cs es : List Expr}{pos p pos' p' : Pos}{dC dA : DA}{x f : Str}{k k' : Nat}{ps ps' : List Str}{S : DSp}{pre : List D -> Prop}
end
end L2
set_option Elab.async false
set_option linter.all false
set_option maxRecDepth 100000
set_option maxHeartbeats 4000000
namespace L2
open PySem PySem.Spec PyProof.Rows
section
variable {X : Cx}{W : Wd}{a tg : Expr}{pos p : Pos}{dA : DA}{fz : Bool}
end
end L2
set_option Elab.async false
set_option linter.all false
set_option maxRecDepth 100000
set_option maxHeartbeats 4000000
namespace L2
open PySem PySem.Spec PyProof.Rows
abbrev Om := Nat -> Prop
def cntA (p : Addr)(H : Hp) : Nat := match H p with | some (.lst [_,_,.int st]) => st.toNat | _ => 0
def cnt (b : Option Addr)(H : Hp) : Nat := match b with | none => 0 | some p => cntA p H
abbrev DE3 := Ev -> (D -> Om) -> Om
abbrev DT3 := Ev -> (Bool -> Om) -> Om
abbrev DA3 := Ev -> (List D -> Om) -> Om
def cn (W : Wd)(d : DE3) : TE := fun σ H Q => ∃ pn M b ρ P,Sta W pn M b H σ ρ /\ d ρ P (cnt b H) /\ ∀ x v H',P x (cnt b H') -> RepX W M b H' x v -> Kp b H H' -> okB W.B b H' -> Q v H'
def cnT (W : Wd)(d : DT3) : TT := fun σ H Q => ∃ pn M b ρ P,Sta W pn M b H σ ρ /\ d ρ P (cnt b H) /\ ∀ x H',P x (cnt b H') -> Kp b H H' -> okB W.B b H' -> Q x H'
def cnA (W : Wd)(d : DA3) : TA := fun σ H Q => ∃ pn M b ρ P,Sta W pn M b H σ ρ /\ d ρ P (cnt b H) /\ ∀ xs vs H',P xs (cnt b H') -> RepXs W M b H' xs vs -> Kp b H H' -> okB W.B b H' -> Q vs H'
def cnI (W : Wd)(fz : Bool)(di : DA3) : TI := fun σ H R => ∃ pn M b ρ P,Sta W pn M b H σ ρ /\ di ρ P (cnt b H) /\ ∀ items J need H',P items (cnt b H') -> items.all plain = true -> ItOk W J need items -> (∀ q ∈ need,RepX W M b H' q.1 q.2 /\ (fz = true -> plain q.1 = true)) -> Kp b H H' -> okB W.B b H' -> R J H'
theorem cn.elim {W : Wd}{d : DE3}{σ : St}{H : Hp}{Q : VK}{R : Prop}(h : cn W d σ H Q)(f : ∀ pn M b ρ P,Sta W pn M b H σ ρ -> d ρ P (cnt b H) -> (∀ x v H',P x (cnt b H') -> RepX W M b H' x v -> Kp b H H' -> okB W.B b H' -> Q v H') -> R) : R := by
  obtain ⟨pn,M,b,ρ,P,st,h,k⟩ := h
  exact f pn M b ρ P st h k
theorem cnT.elim {W : Wd}{d : DT3}{σ : St}{H : Hp}{Q : Bool -> Hp -> Prop}{R : Prop}(h : cnT W d σ H Q)(f : ∀ pn M b ρ P,Sta W pn M b H σ ρ -> d ρ P (cnt b H) -> (∀ x H',P x (cnt b H') -> Kp b H H' -> okB W.B b H' -> Q x H') -> R) : R := by
  obtain ⟨pn,M,b,ρ,P,st,h,k⟩ := h
  exact f pn M b ρ P st h k
theorem cnA.elim {W : Wd}{d : DA3}{σ : St}{H : Hp}{Q : List V -> Hp -> Prop}{R : Prop}(h : cnA W d σ H Q)(f : ∀ pn M b ρ P,Sta W pn M b H σ ρ -> d ρ P (cnt b H) -> (∀ xs vs H',P xs (cnt b H') -> RepXs W M b H' xs vs -> Kp b H H' -> okB W.B b H' -> Q vs H') -> R) : R := by
  obtain ⟨pn,M,b,ρ,P,st,h,k⟩ := h
  exact f pn M b ρ P st h k
theorem cnI.elim {W : Wd}{fz : Bool}{d : DA3}{σ : St}{H : Hp}{R : It -> Hp -> Prop}{Z : Prop}(h : cnI W fz d σ H R)(f : ∀ pn M b ρ P,Sta W pn M b H σ ρ -> d ρ P (cnt b H) -> (∀ items J need H',P items (cnt b H') -> items.all plain = true -> ItOk W J need items -> (∀ q ∈ need,RepX W M b H' q.1 q.2 /\ (fz = true -> plain q.1 = true)) -> Kp b H H' -> okB W.B b H' -> R J H') -> Z) : Z := by
  obtain ⟨pn,M,b,ρ,P,st,h,k⟩ := h
  exact f pn M b ρ P st h k
section
variable {X : Cx}{W : Wd}{e a b c l tg : Expr}{es : List Expr}{pos p : Pos}{fz : Bool}
end
end L2
set_option Elab.async false
set_option linter.all false
set_option maxRecDepth 100000
set_option maxHeartbeats 4000000
namespace L2
open PySem PySem.Spec PyProof.Rows
section
variable {X : Cx}{W : Wd}{e a b c l tg : Expr}{es : List Expr}{pos p : Pos}{d da db dc dl : DE3}{dA : DA3}{x : Str}{k : Nat}{ps : List Str}
variable {ta tb : DT3}{rest : List Expr}
abbrev DSp3 := List D -> (D -> Om) -> Om
def liftSp3 (K : PySem.W.Frag)(B : BagT)(S : DSp3) : Sp := fun vs H Q E => ∃ (M : Addr -> Prop) (b : Option Addr) (ds : List D) (P : D -> Om),S ds P (cnt b H) /\ RepAs K M b H ds vs /\ okB B b H /\ (∀ p,b = some p -> M p) /\ (∀ c,M c -> ∃ o,H c = some o) /\
  (∀ d v H',P d (cnt b H') -> Rep K M H' d v -> Kp b H H' -> okB B b H' -> Q v H')
variable {r : List V -> Hp -> VK -> Prop}{o : List D -> (D -> Prop) -> Prop}{id T : String}
variable {fz : Bool}
end
end L2
set_option Elab.async false
set_option linter.all false
set_option maxRecDepth 100000
set_option maxHeartbeats 4000000
namespace L2
open PySem PySem.Spec PyProof.Rows
structure DEnds3 where
  nx : Ev -> Om
  rt : D -> Om
  bk : Ev -> Om := fun _ _ => False
  ct : Ev -> Om := fun _ _ => False
  ro : List D -> Om := fun _ _ => False
abbrev DS3 := DEnds3 -> Ev -> Om
structure Link3 (W : Wd)(pn : List (D × V))(E : Ends)(F : DEnds3) : Prop where
  nx : ∀ M b ρ σ H,StS W pn M b H σ ρ -> F.nx ρ (cnt b H) -> E.nx σ H
  rt : ∀ d v H n,F.rt d n -> (∀ p,W.b0 = some p -> n = cnt W.b0 H) -> Rep W.K W.M0 H d v -> Kp W.b0 W.H0 H -> okB W.B W.b0 H -> E.rt v H
  bk : ∀ M b ρ σ H,StS W pn M b H σ ρ -> F.bk ρ (cnt b H) -> E.bk σ H
  ct : ∀ M b ρ σ H,StS W pn M b H σ ρ -> F.ct ρ (cnt b H) -> E.ct σ H
  ro : ∀ xs a vs H n,F.ro xs n -> (∀ p,W.b0 = some p -> n = cnt W.b0 H) -> W.H0 a = none -> ¬ W.M0 a -> H a = some (.lst vs) -> Reps W.K W.M0 H xs vs -> Kp W.b0 W.H0 H -> okB W.B W.b0 H -> E.rt (.ref a) H
def sn3 (W : Wd)(d : DS3) : TS := fun E σ H => ∃ pn M b ρ F,StS W pn M b H σ ρ /\ Link3 W pn E F /\ d F ρ (cnt b H)
theorem sn3.elim {W : Wd}{d : DS3}{E : Ends}{σ : St}{H : Hp}{Z : Prop}(h : sn3 W d E σ H)(f : ∀ pn M b ρ F,StS W pn M b H σ ρ -> Link3 W pn E F -> d F ρ (cnt b H) -> Z) : Z := by
  obtain ⟨pn,M,b,ρ,F,s,l,h⟩ := h
  exact f pn M b ρ F s l h
section
variable {X : Cx}{W : Wd}{e a b c tg iter l : Expr}{es : List Expr}{pos p : Pos}{d da db dc dl de : DE3}{dA di : DA3}{dt : DT3}{st : Stmt}{rest sts : List Stmt}{d1 d2 : DS3}{t : TS}
end
theorem liftSp3.len {K : PySem.W.Frag}{B : BagT}{S : DSp3}{m : Nat}(h : ∀ ds P n,S ds P n -> ds.length = m) : ∀ vs H Q E,liftSp3 K B S vs H Q E -> vs.length = m := fun vs H Q E ⟨M,b,ds,P,hS,hr,_⟩ => by rw [hr.length]; exact h _ _ _ hS
end L2
set_option Elab.async false
set_option linter.all false
set_option maxRecDepth 100000
set_option maxHeartbeats 4000000
namespace L2
open PySem PySem.Spec PyProof.Rows
abbrev DSO3 := List D -> (List D -> Om) -> Om
def liftSpO3 (K : PySem.W.Frag)(B : BagT)(S : DSO3) : Sp := fun vs H Q E => ∃ (M : Addr -> Prop) (b : Option Addr) (ds : List D) (P : List D -> Om),S ds P (cnt b H) /\ RepAs K M b H ds vs /\ okB B b H /\ (∀ p,b = some p -> M p) /\ (∀ c,M c -> ∃ o,H c = some o) /\
  (∀ xs a us H',P xs (cnt b H') -> H a = none -> H' a = some (.lst us) -> Reps K M H' xs us -> Kp b H H' -> okB B b H' -> Q (.ref a) H')
theorem liftSpO3.len {K : PySem.W.Frag}{B : BagT}{S : DSO3}{m : Nat}(h : ∀ ds P n,S ds P n -> ds.length = m) : ∀ vs H Q E,liftSpO3 K B S vs H Q E -> vs.length = m := fun vs H Q E ⟨M,b,ds,P,hS,hr,_⟩ => by rw [hr.length]; exact h _ _ _ hS
section
variable {X : Cx}{W : Wd}{e a b c tg iter l : Expr}{es : List Expr}{pos p : Pos}{d da db dc dl de : DE3}{dA di : DA3}{dt : DT3}{fz : Bool}{x : Str}{k : Nat}{ps : List Str}{S : DSO3}
end
end L2
set_option Elab.async false
set_option linter.all false
set_option maxRecDepth 100000
set_option maxHeartbeats 4000000
namespace L2
open PySem PySem.Spec PyProof.Rows
section
variable {X : Cx}{tg : Expr}
end
section
variable {X : Cx}{W : Wd}{tg a b c : Expr}{pos p : Pos}{dA : DA}{fz : Bool}
end
end L2
set_option Elab.async false
set_option linter.all false
set_option maxRecDepth 100000
set_option maxHeartbeats 4000000
namespace L2
open PySem PySem.Spec PyProof.Rows
end L2
set_option Elab.async false
set_option linter.all false
set_option maxRecDepth 100000
set_option maxHeartbeats 4000000
namespace L2
open PySem PySem.Spec PyProof.Rows
section
variable {X : Cx}{W : Wd}{a b c : Expr}{pos p : Pos}{dA : DA}{fz : Bool}
end
section
variable {X : Cx}{W : Wd}{tg a b c : Expr}{pos p : Pos}{dA : DA3}{fz : Bool}
end
end L2
set_option Elab.async false
set_option linter.all false
set_option maxRecDepth 100000
set_option maxHeartbeats 4000000
namespace L2
open PySem PySem.Spec PyProof.Rows
section
variable {X : Cx}{W : Wd}{e e1 e2 : Expr}{es : List Expr}{pos p : Pos}{dA : DA}{x : Str}{k : Nat}{ps : List Str}{S : DSO}
end
end L2
set_option Elab.async false
set_option linter.all false
set_option maxRecDepth 100000
set_option maxHeartbeats 4000000
namespace L2
open PySem PySem.Spec PyProof.Rows
def RowsR (K : PySem.W.Frag)(M : Addr -> Prop)(H : Hp) : List Addr -> List (List D) -> Prop
  | [],rows => rows = []
  | r :: rs,rows => ∃ row rest us,rows = row :: rest /\ H r = some (.lst us) /\ Reps K M H row us /\ RowsR K M H rs rest
section
variable {K : PySem.W.Frag}{M M' : Addr -> Prop}{H H' : Hp}
theorem RowsR.keep : ∀ (rs : List Addr) (rows : List (List D)),(∀ c o,(¬ M c \/ c ∈ rs) -> H c = some o -> H' c = some o) -> RowsR K M H rs rows -> RowsR K M H' rs rows
  | [],_,_,h => h
  | r :: rs,rows,k,h => by
    obtain ⟨row,rest,us,e,h1,h2,h3⟩ := h
    exact ⟨row,rest,us,e,k _ _ (.inr (List.mem_cons_self ..)) h1,Reps.keep (fun c o n e => k c o (.inl n) e) _ _ h2,RowsR.keep rs rest (fun c o q e => k c o (q.imp id (List.mem_cons_of_mem _)) e) h3⟩
theorem RowsR.avoid (k : ∀ c,M' c -> M c \/ H c = none) : ∀ (rs : List Addr) (rows : List (List D)),RowsR K M H rs rows -> RowsR K M' H rs rows
  | [],_,h => h
  | r :: rs,rows,h => by
    obtain ⟨row,rest,us,e,h1,h2,h3⟩ := h
    exact ⟨row,rest,us,e,h1,Reps.avoid k _ _ h2,RowsR.avoid k rs rest h3⟩
theorem RowsR.length : ∀ {rs : List Addr} {rows : List (List D)},RowsR K M H rs rows -> rows.length = rs.length
  | [],_,h => by rw [show _ = [] from h]; rfl
  | r :: rs,rows,h => by
    obtain ⟨row,rest,us,rfl,h1,h2,h3⟩ := h
    simp [RowsR.length h3]
theorem RowsR.lst : ∀ {rs : List Addr} {rows : List (List D)},RowsR K M H rs rows -> ∀ r ∈ rs,∃ us,H r = some (.lst us)
  | [],_,_,r,m => by cases m
  | r :: rs,rows,h,r',m => by
    obtain ⟨row,rest,us,rfl,h1,h2,h3⟩ := h
    rcases List.mem_cons.mp m with z | z
    · rw [z]; exact ⟨us,h1⟩
    · exact RowsR.lst h3 r' z
theorem RowsR.at : ∀ {rs : List Addr} {rows : List (List D)} {k : Nat} {r : Addr},RowsR K M H rs rows -> rs[k]? = some r -> ∃ row us,rows[k]? = some row /\ H r = some (.lst us) /\ Reps K M H row us
  | [],_,_,_,_,e => by simp at e
  | _ :: rs,rows,0,r,h,e => by
    obtain ⟨row,rest,us,rfl,h1,h2,h3⟩ := h
    simp at e; subst e
    exact ⟨row,us,rfl,h1,h2⟩
  | _ :: rs,rows,k + 1,r,h,e => by
    obtain ⟨row,rest,us,rfl,h1,h2,h3⟩ := h
    obtain ⟨row',us',e1,e2⟩ := RowsR.at (k := k) h3 (by simpa using e)
    exact ⟨row',us',by simpa using e1,e2⟩
theorem RowsR.set : ∀ {rs : List Addr} {rows : List (List D)} {k : Nat} {r : Addr} {row : List D} {us : List V},rs.Nodup -> (∀ c ∈ rs,M c) -> RowsR K M H rs rows -> rs[k]? = some r -> Reps K M H row us -> RowsR K M (upd H r (.lst us)) rs (rows.set k row)
  | [],_,_,_,_,_,_,_,_,e,_ => by simp at e
  | r0 :: rs,rows,0,r,row,us,nd,hm,h,e,hr => by
    obtain ⟨row0,rest,us0,rfl,h1,h2,h3⟩ := h
    simp at e; subst e
    have kk : ∀ c o,¬ M c -> H c = some o -> upd H r0 (.lst us) c = some o := fun c o n q => by rw [upd_ne (fun z => n (by rw [z]; exact hm r0 (List.mem_cons_self ..)))]; exact q
    refine ⟨row,rest,us,rfl,upd_same,Reps.keep kk _ _ hr,RowsR.keep rs rest (fun c o q e => ?_) h3⟩
    rcases q with q | q
    · exact kk c o q e
    · rw [upd_ne (fun z => (List.nodup_cons.mp nd).1 (by rw [<- z]; exact q))]; exact e
  | r0 :: rs,rows,k + 1,r,row,us,nd,hm,h,e,hr => by
    obtain ⟨row0,rest,us0,rfl,h1,h2,h3⟩ := h
    have er : rs[k]? = some r := by simpa using e
    have ne : r0 ≠ r := fun z => (List.nodup_cons.mp nd).1 (by rw [z]; exact List.mem_of_getElem? er)
    have kk : ∀ c o,¬ M c -> H c = some o -> upd H r (.lst us) c = some o := fun c o n q => by rw [upd_ne (fun z => n (by rw [z]; exact hm r (List.mem_cons_of_mem _ (List.mem_of_getElem? er))))]; exact q
    exact ⟨row0,rest.set k row,us0,rfl,by rw [upd_ne ne]; exact h1,Reps.keep kk _ _ h2,RowsR.set (List.nodup_cons.mp nd).2 (fun c m => hm c (List.mem_cons_of_mem _ m)) h3 er hr⟩
theorem RowsR.reps {A : List Addr} : ∀ (rs : List Addr) (rows : List (List D)),(∀ r ∈ rs,r ∈ A) -> RowsR K M H rs rows -> Reps K (fun c => M c /\ c ∉ A) H (rows.map D.lst) (rs.map V.ref)
  | [],rows,_,h => by rw [show rows = [] from h]; exact rfl
  | r :: rs,rows,hA,h => by
    obtain ⟨row,rest,us,rfl,h1,h2,h3⟩ := h
    exact ⟨.ref r,_,rfl,⟨r,us,rfl,⟨fun m => m.2 (hA r (List.mem_cons_self ..)),h1⟩,Reps.avoid (fun c m => .inl m.1) _ _ h2⟩,RowsR.reps rs rest (fun c m => hA c (List.mem_cons_of_mem _ m)) h3⟩
end
def gridF (K : PySem.W.Frag)(a : Addr)(rs : List Addr)(rows : List (List D)) : Frg where
  ads := a :: rs
  R := fun M H v => v = .ref a /\ (a :: rs).Nodup /\ H a = some (.lst (rs.map V.ref)) /\ RowsR K M H rs rows
  keep := fun M H H' v k h => ⟨h.1,h.2.1,k _ _ (.inr (List.mem_cons_self ..)) h.2.2.1,RowsR.keep rs rows (fun c o q e => k c o (q.imp id (List.mem_cons_of_mem _)) e) h.2.2.2⟩
  avoid := fun M M' H v k h => ⟨h.1,h.2.1,h.2.2.1,RowsR.avoid k rs rows h.2.2.2⟩
  ref := fun M H v h => ⟨a,h.1⟩
  nt := fun M H v h c m => by
    rcases List.mem_cons.mp m with z | z
    · rw [z]; exact ⟨_,h.2.2.1,fun _ y => by cases y⟩
    · obtain ⟨us,e⟩ := h.2.2.2.lst c z
      exact ⟨_,e,fun _ y => by cases y⟩
def rowsL (rows : List (List D)) : D := .lst (rows.map D.lst)
def grd (K : PySem.W.Frag)(a : Addr)(rs : List Addr)(rows : List (List D)) : D := .frg (gridF K a rs rows) (rowsL rows)
theorem grd_rep {W : Wd}{M : Addr -> Prop}{b : Option Addr}{H : Hp}{a : Addr}{rs : List Addr}{rows : List (List D)}(ho : ∀ c ∈ a :: rs,M c /\ b ≠ some c /\ W.H0 c = none /\ ¬ W.M0 c)(nd : (a :: rs).Nodup)(ha : H a = some (.lst (rs.map V.ref)))(hr : RowsR W.K M H rs rows) : RepX W M b H (grd W.K a rs rows) (.ref a) :=
  ⟨ho,⟨rfl,nd,ha,hr⟩,⟨a,_,rfl,⟨fun m => m.2 (List.mem_cons_self ..),ha⟩,RowsR.reps (A := a :: rs) rs rows (fun r m => List.mem_cons_of_mem _ m) hr⟩⟩
theorem grd_of {W : Wd}{M : Addr -> Prop}{b : Option Addr}{H : Hp}{a : Addr}{rs : List Addr}{rows : List (List D)}{v : V}(h : RepX W M b H (grd W.K a rs rows) v) : v = .ref a /\ (∀ c ∈ a :: rs,M c /\ b ≠ some c /\ W.H0 c = none /\ ¬ W.M0 c) /\ (a :: rs).Nodup /\ H a = some (.lst (rs.map V.ref)) /\ RowsR W.K M H rs rows := ⟨h.2.1.1,h.1,h.2.1.2.1,h.2.1.2.2.1,h.2.1.2.2.2⟩
theorem StS.setFrg {W : Wd}{pn : List (D × V)}{M : Addr -> Prop}{b : Option Addr}{H : Hp}{σ : St}{ρ : Ev}{f f' : Frg}{d d' : D}{v : V}{a : Addr}{o : HO}(s : StS W pn M b H σ ρ)(i : Nat)(e : ρ[i]? = some (some (.frg f d)))(ev : σ[i]? = some (some v))(ha : a ∈ f.ads)(hads : ∀ c,c ∈ f'.ads -> c ∈ f.ads)(r : RepX W M b (upd H a o) (.frg f' d') v) :
    StS W pn M b (upd H a o) σ (ρ.set i (some (.frg f' d'))) := by
  obtain ⟨v0,e1,r0⟩ := s.env i _ e
  rw [ev] at e1; cases e1
  obtain ⟨m1,m2,m3,m4⟩ := r0.1 a ha
  have kk : ∀ c u,¬ M c -> H c = some u -> upd H a o c = some u := fun c u n q => by rw [upd_ne (show c ≠ a from fun z => n (by rw [z]; exact m1))]; exact q
  have kb : ∀ c u,c ≠ a -> H c = some u -> upd H a o c = some u := fun c u n q => by rw [upd_ne n]; exact q
  refine s.of2 ⟨⟨fun q z => W.B.st q H _ (s.ok q z) fun u h => kb q u (fun w => m2 (w ▸ z)) h,s.bagM,fun c hc => ?_,s.m0⟩,fun c u n q => kb c u (fun z => by rw [z,m3] at q; cases q) (s.kp c u n q),s.new,fun j d2 e' => ?_,by simp [s.len],fun q hq => (s.pin q hq).to (fun _ _ r => Rep.keep kk _ _ r) (fun _ _ r => Reps.keep kk _ _ r) fun zs a2 us ed ev2 m n hh2 => ⟨m,n,kb _ _ (fun y => s.lj zs a2 (by rw [<- ed,<- ev2]; exact hq) i _ _ e ev (show a2 ∈ f.ads by rw [y]; exact ha)) hh2⟩⟩ (fun _ _ q => q) fun j d2 v2 c e' e2 m => ?_
  · by_cases z : c = a
    · rw [z]; exact ⟨_,upd_same⟩
    · obtain ⟨u,q⟩ := s.dom c hc; exact ⟨u,kb c u z q⟩
  · by_cases z : i = j
    · subst z
      rw [List.getElem?_set] at e'
      simp at e'
      obtain ⟨hl,rfl⟩ := e'
      exact ⟨v,ev,r⟩
    · rw [List.getElem?_set_ne z] at e'
      obtain ⟨w,e1,r1⟩ := s.env j d2 e'
      refine ⟨w,e1,?_⟩
      have na : ¬ mineA d2 w a := fun y => z (s.dj i j _ _ _ _ a e e' ev e1 ha y)
      cases d2
      case own zs =>
        obtain ⟨a2,us2,rfl,n1,n2,n3,n4,hh2,r2⟩ := r1
        exact ⟨a2,us2,rfl,n1,n2,n3,n4,kb _ _ (fun y => na (by rw [y]; rfl)) hh2,Reps.keep kk _ _ r2⟩
      case bag => exact r1
      case frg f2 _ => exact RepX.move r1 (fun c _ m n => ⟨m,n⟩) (fun c u q h => kb c u (fun y => q.elim (fun n => n (by rw [y]; exact m1)) (fun n => na (by show a ∈ f2.ads; rw [<- y]; exact n))) h) fun c m => .inl m
      all_goals exact Rep.keep kk _ _ r1
  · by_cases z : i = j
    · subst z
      rw [List.getElem?_set] at e'
      simp at e'
      obtain ⟨_,rfl⟩ := e'
      exact ⟨_,e,e2,hads c m⟩
    · rw [List.getElem?_set_ne z] at e'
      exact ⟨d2,e',e2,m⟩
theorem RepX.grow {W : Wd}{M M' : Addr -> Prop}{b : Option Addr}{H H' : Hp}{d : D}{v : V}(hM : ∀ c,M' c -> M c \/ H c = none)(sub : ∀ c,M c -> M' c)(hb : ∀ p,b = some p -> M p)(kp : Kp b H H')(r : RepX W M b H d v) : RepX W M' b H' d v := by
  have kk : ∀ c o,¬ M' c -> H c = some o -> H' c = some o := fun c o n e => kp c o (fun z => n (sub c (hb c z))) e
  cases d
  case own ys =>
    obtain ⟨a,us,rfl,m1,m2,m3,m4,hha,r'⟩ := r
    exact ⟨a,us,rfl,sub a m1,m2,m3,m4,kp _ _ m2 hha,Reps.keep kk _ _ (Reps.avoid hM _ _ r')⟩
  case bag => exact r
  case frg f _ => exact RepX.move r (fun c _ m n => ⟨sub c m,n⟩) (fun c o q e => q.elim (fun n => kk c o n e) fun m => kp c o (r.1 c m).2.1 e) hM
  all_goals exact Rep.keep kk _ _ (Rep.avoid hM _ _ r)
theorem Sta.grow {W : Wd}{pn : List (D × V)}{M M' : Addr -> Prop}{b : Option Addr}{H H' : Hp}{σ : St}{ρ : Ev}(s : Sta W pn M b H σ ρ)(hM : ∀ c,M' c -> M c \/ H c = none)(sub : ∀ c,M c -> M' c)(kp : Kp b H H')(ok : okB W.B b H')(dom : ∀ c,M' c -> ∃ o,H' c = some o) : Sta W pn M' b H' σ ρ := by
  have kk : ∀ c o,¬ M' c -> H c = some o -> H' c = some o := fun c o n e => kp c o (fun z => n (sub c (s.bagM c z))) e
  refine ⟨⟨ok,fun q e => sub q (s.bagM q e),dom,fun c m => sub c (s.m0 c m)⟩,(s.step kp ok).kp,s.new,fun j d e => ?_,s.len,fun q hq => (s.pin q hq).to (fun _ _ r => Rep.keep kk _ _ (Rep.avoid hM _ _ r)) (fun _ _ r => Reps.keep kk _ _ (Reps.avoid hM _ _ r)) fun xs a vs _ _ m n hh' => ⟨sub a m,n,kp _ _ n hh'⟩⟩
  obtain ⟨w,e1,r1⟩ := s.env j d e
  exact ⟨w,e1,r1.grow hM sub s.bagM kp⟩
end L2
set_option Elab.async false
set_option linter.all false
set_option maxRecDepth 100000
set_option maxHeartbeats 4000000
namespace L2
open PySem PySem.Spec PyProof.Rows
def dnF (W : Wd)(d : DA) : TE := fun σ H Q => ∃ pn M b ρ P,Sta W pn M b H σ ρ /\ d ρ P /\ ∀ xs vs p H',P xs -> H p = none -> H' p = some (.lst vs) -> Reps W.K (fun c => M c \/ c = p) H' xs vs -> Kp b H H' -> okB W.B b H' -> Q (.ref p) H'
structure JF (X : Cx)(W : Wd)(e : Expr)(d : DA) : Prop where
  h : PE X e (dnF W d)
theorem was_new {B : BagT}{b : Option Addr}{H H' : Hp}{p : Addr}(k : Kp b H H')(o : okB B b H')(h : H' p = none) : H p = none := by
  cases q : H p with
  | none => rfl
  | some u =>
    by_cases z : b = some p
    · obtain ⟨w,e⟩ := B.dm p H' (o p z)
      rw [h] at e; cases e
    · have := k p u z q
      rw [h] at this; cases this
section
variable {X : Cx}{W : Wd}{elt iter tg : Expr}{ifs : List Expr}{scope : Scope}{pos : Pos}{N' : List Str}{map : List (Option Nat)}{g : TG}{gd : D -> Ev -> (Ev -> Prop) -> Prop}{di : DA}{dt : DT}{de : DE}
end
theorem RowsR.append {K : PySem.W.Frag}{M : Addr -> Prop}{H : Hp}{p : Addr}{row : List D}{us : List V}(hp : H p = some (.lst us))(hr : Reps K M H row us) : ∀ {rs : List Addr} {rows : List (List D)},RowsR K M H rs rows -> RowsR K M H (rs ++ [p]) (rows ++ [row])
  | [],rows,h => by rw [show rows = [] from h]; exact ⟨row,[],us,rfl,hp,hr,rfl⟩
  | r :: rs,rows,h => by
    obtain ⟨row0,rest,us0,rfl,h1,h2,h3⟩ := h
    exact ⟨row0,rest ++ [row],us0,rfl,h1,h2,RowsR.append hp hr h3⟩
abbrev DSG := List D -> (List (List D) -> Prop) -> (Addr -> Prop) -> Prop
structure GNew (K : PySem.W.Frag)(M : Addr -> Prop)(H H' : Hp)(a : Addr)(rs : List Addr)(rows : List (List D)) : Prop where
  a0 : H a = none
  r0 : ∀ r ∈ rs,H r = none
  nd : (a :: rs).Nodup
  ha : H' a = some (.lst (rs.map V.ref))
  hr : RowsR K (fun c => M c \/ c ∈ a :: rs) H' rs rows
def liftSpG (K : PySem.W.Frag)(B : BagT)(S : DSG) : Sp := fun vs H Q E => ∃ (M : Addr -> Prop) (b : Option Addr) (ds : List D) (P : List (List D) -> Prop) (Ed : Addr -> Prop),S ds P Ed /\ RepAs K M b H ds vs /\ okB B b H /\ (∀ p,b = some p -> M p) /\ (∀ c,M c -> ∃ o,H c = some o) /\
  (∀ rows a rs H',P rows -> GNew K M H H' a rs rows -> Kp b H H' -> okB B b H' -> Q (.ref a) H') /\ ∀ C H',Ed C -> Kp b H H' -> okB B b H' -> E (.ref C) none H'
theorem liftSpG.len {K : PySem.W.Frag}{B : BagT}{S : DSG}{n : Nat}(h : ∀ ds P Ed,S ds P Ed -> ds.length = n) : ∀ vs H Q E,liftSpG K B S vs H Q E -> vs.length = n := fun vs H Q E ⟨M,b,ds,P,Ed,hS,hr,_⟩ => by rw [hr.length]; exact h _ _ _ hS
abbrev DG := (List (List D) -> Prop) -> DS
def snG (W : Wd)(d : DG) : TS := fun E σ H => ∃ pn M b ρ F P,StS W pn M b H σ ρ /\ Link W pn E F /\ (∀ rows a rs H',P rows -> GNew W.K W.M0 W.H0 H' a rs rows -> Kp W.b0 W.H0 H' -> okB W.B W.b0 H' -> E.rt (.ref a) H') /\ d P F ρ
structure JGs (X : Cx)(W : Wd)(sts : List Stmt)(d : DG) : Prop where
  h : PSs X sts (snG W d)
theorem jgs_cons {X : Cx}{W : Wd}{st : Stmt}{rest : List Stmt}{d1 : DS}{d2 : DG}(h1 : JS X W st d1)(h2 : JGs X W rest d2) : JGs X W (st :: rest) (fun P F => d1 { F with nx := d2 P F }) := ⟨(pss_cons h1.h h2.h).mono fun E σ H hh => by
  obtain ⟨pn,M,b,ρ,F,P,s,l,lg,h⟩ := hh
  exact ⟨pn,M,b,ρ,{ F with nx := d2 P F },s,⟨fun M b ρ σ H s' h' => ⟨pn,M,b,ρ,F,P,s',l,lg,h'⟩,l.rt,l.bk,l.ct,l.ro⟩,h⟩⟩
theorem Fun.okDXG {P : Program}{w : World}{K : PySem.W.Frag}{mg : Str -> Option Value}{base : Heap}{CX : CXT}{x qual : Str}{st : Stmt}{f : Addr}{fd : FuncData}{N ps : List Str}{k : Nat}{B : BagT}{Sd : DSG}(F : Fun K x qual st f fd)(S : FnScope N ps (defScope st))(len : ∀ ds PP Ed,Sd ds PP Ed -> ds.length = ps.length)
    (hbody : ∀ (cdv : Value) (A : Around) (outer : List Env) (s : Shared) (H : Hp) (E : XK) (M : Addr -> Prop) (bg : Option Addr) (ds : List D) (PP : List (List D) -> Prop) (Ed : Addr -> Prop),Room k (A.deeper (envOfC qual (defScope st) s.heap.objs.size f cdv)) -> ELink ⟨K,B,H,M,bg⟩ E Ed -> Sd ds PP Ed ->
      ∃ d : DG,JGs (cxOf CX P w K mg base N qual (defScope st) f cdv A outer s H E) ⟨K,B,H,M,bg⟩ (defBody st) d /\ d PP { nx := fun _ => False,rt := fun _ => False } (startD N ds)) : FnOk P w K mg base CX (k + 1) f fd ps (liftSpG K B Sd) :=
  F.okX S (liftSpG.len len) fun cdv A outer s H vs Q E hr h => by
    obtain ⟨M,bg,ds,PP,Ed,hS,hR,ho,hb,hd,hq,hx⟩ := h
    obtain ⟨d,J,q⟩ := hbody cdv A outer s H E M bg ds PP Ed hr (fun C H' e k o => hx C H' e k o) hS
    exact ⟨_,J.h,[],M,bg,startD N ds,{ nx := fun _ => False,rt := fun _ => False },PP,enter hR ho hb hd,⟨fun _ _ _ _ _ _ h => h.elim,fun _ _ _ h => h.elim,fun _ _ _ _ _ _ h => h.elim,fun _ _ _ _ _ _ h => h.elim,fun _ _ _ _ h => h.elim⟩,fun rows a rs H' hp gn k o => hq rows a rs H' hp gn k o,q⟩
end L2
set_option Elab.async false
set_option linter.all false
set_option maxRecDepth 100000
set_option maxHeartbeats 4000000
namespace L2
open PySem PySem.Spec PyProof.Rows
theorem RowsR.unbor {K : PySem.W.Frag}{M M' : Addr -> Prop}{H : Hp}(k : ∀ c,M c -> M' c \/ ∃ o,H c = some o /\ ∀ vs,o ≠ .tup vs) : ∀ (rs : List Addr) (rows : List (List D)),(∀ r ∈ rows,noLs r = true) -> RowsR K M' H rs rows -> RowsR K M H rs rows
  | [],_,_,h => h
  | r :: rs,rows,n,h => by
    obtain ⟨row,rest,us,rfl,h1,h2,h3⟩ := h
    exact ⟨row,rest,us,rfl,h1,Reps.unbor k _ _ (n row (List.mem_cons_self ..)) h2,RowsR.unbor k rs rest (fun r m => n r (List.mem_cons_of_mem _ m)) h3⟩
section
variable {X : Cx}{W : Wd}{e a b c tg iter l : Expr}{es : List Expr}{pos p : Pos}{d da db dc dl de : DE}{dA di : DA}{dt : DT}{fz : Bool}{x : Str}{k : Nat}{ps : List Str}{S : DSG}
theorem call_gridX {pn : List (D × V)}{M : Addr -> Prop}{b : Option Addr}{H1 : Hp}{σ : St}{ρ : Ev}{xs : List D}{vs : List V}{P : List (List D) -> Prop}{Q : VK}{E : XK}{Ed : Addr -> Prop}(hE : ELink W E Ed)(st1 : Sta W pn M b H1 σ ρ)(rx : RepXs W M b H1 xs vs)(hS : S (xs.map bor) (fun rows => (∀ r ∈ rows,noLs r = true) /\ P rows) Ed)
    (k : ∀ rows a rs H',P rows -> GNew W.K M H1 H' a rs rows -> Kp b H1 H' -> okB W.B b H' -> Q (.ref a) H') : liftSpG W.K W.B S vs H1 Q E := by
  refine ⟨fun c => M c /\ ¬ BorAt xs vs c,b,xs.map bor,_,Ed,hS,RepXs.bor2 (fun c h => h.1) _ _ (fun c h z => z.2 h) rx,st1.ok,fun p h => ⟨st1.bagM p h,fun z => (BorAt.lst xs vs rx z).1 h⟩,fun c hc => st1.dom c hc.1,fun rows a rs H' hp gn k2 o2 => ?_,fun C H' hC k2 o2 => ?_⟩
  · refine k rows a rs H' hp.2 ⟨gn.a0,gn.r0,gn.nd,gn.ha,RowsR.unbor (fun c m => ?_) rs rows hp.1 gn.hr⟩ k2 o2
    rcases m with m | m
    · by_cases z : BorAt xs vs c
      · obtain ⟨nb,us',e,nt⟩ := BorAt.lst xs vs rx z
        exact .inr ⟨us',k2 c _ nb e,nt⟩
      · exact .inl (.inl ⟨m,z⟩)
    · exact .inl (.inr m)
  · have st2 := st1.step k2 o2
    exact hE C H' hC st2.kp st2.ok0
def dCallGX (S : DSG)(Ed : Addr -> Prop)(dA : DA) : DE := fun ρ P => dA ρ fun ds => S (ds.map bor) (fun rows => (∀ r ∈ rows,noLs r = true) /\ P (rowsL rows)) Ed
theorem gnew_rep {K : PySem.W.Frag}{M : Addr -> Prop}{H H' : Hp}{a : Addr}{rs : List Addr}{rows : List (List D)}(gn : GNew K M H H' a rs rows)(dom : ∀ c,M c -> ∃ o,H c = some o) : Rep K M H' (rowsL rows) (.ref a) := by
  have nA : ∀ c,M c -> c ∉ a :: rs := fun c m z => by
    obtain ⟨o,e⟩ := dom c m
    rcases List.mem_cons.mp z with y | y
    · rw [y,gn.a0] at e; cases e
    · rw [gn.r0 c y] at e; cases e
  exact ⟨a,_,rfl,⟨fun m => nA a m (List.mem_cons_self ..),gn.ha⟩,Reps.avoid (fun c m => .inl ⟨.inl m,nA c m⟩) _ _ (RowsR.reps (A := a :: rs) rs rows (fun r m => List.mem_cons_of_mem _ m) gn.hr)⟩
theorem jde_ownGX {CX : CXT}{E : XK}{Ed : Addr -> Prop}(hE : ELink W E Ed)(hp : Passes CX X E)(G : Callee X.prog X.w X.K X.mg X.base CX x k ps (liftSpG W.K W.B S))(hr : Room k X.A)(hg : Gl X x)(ha : JA X W (e :: es) dA)(hdb : (x == ("__debug__" : Str)) = false := by decide) (he : starEach (e :: es) X.env = (false,eval e X.env) :: starEach es X.env := by rfl) (hpl : (backTo pos (starEach es X.env)).any (·.1) = false := by rfl) :
    JE X W (.Call (.Name x p) (e :: es) [] pos) (dCallGX S Ed dA) := ⟨(pe_ownX hp G hr hg ha.h hdb he hpl).mono fun σ H Q hh => hh.elim fun pn M b ρ P st h k => by
  refine ⟨pn,M,b,ρ,_,st,h,fun xs vs H1 hx rx k1 o1 => ?_⟩
  have st1 := st.step k1 o1
  show liftSpG W.K W.B S (vs ++ []) H1 Q E
  rw [List.append_nil]
  exact call_gridX (P := fun rows => P (rowsL rows)) hE st1 rx hx fun rows a rs H' hp gn k2 o2 => k _ _ H' hp (Rep.x (gnew_rep gn st1.dom)) (k1.trans k2) o2⟩
def dSetGX (K : PySem.W.Frag)(i : Nat)(S : DSG)(Ed : Addr -> Prop)(dA : DA) : DS := fun F ρ => dA ρ fun ds => S (ds.map bor) (fun rows => (∀ r ∈ rows,noLs r = true) /\ ∀ a rs,rs.length = rows.length -> F.nx (ρ.set i (some (grd K a rs rows)))) Ed
theorem StS.gotGrid {pn : List (D × V)}{M : Addr -> Prop}{b : Option Addr}{H H' : Hp}{σ : St}{ρ : Ev}{a : Addr}{rs : List Addr}{rows : List (List D)}(s : StS W pn M b H σ ρ)(i : Nat)(kp : Kp b H H')(ok : okB W.B b H')(gn : GNew W.K M H H' a rs rows) : StS W pn (fun c => M c \/ c ∈ a :: rs) b H' (σ.set i (some (.ref a))) (ρ.set i (some (grd W.K a rs rows))) := by
  have new : ∀ c,c ∈ a :: rs -> H c = none := fun c m => by
    rcases List.mem_cons.mp m with z | z
    · rw [z]; exact gn.a0
    · exact gn.r0 c z
  have t : Sta W pn (fun c => M c \/ c ∈ a :: rs) b H' σ ρ := s.toSta.grow (fun c z => z.imp id (new c)) (fun c z => .inl z) kp ok fun c z => z.elim ((s.toSta.step kp ok).dom c) fun y => by
    rcases List.mem_cons.mp y with w | w
    · rw [w]; exact ⟨_,gn.ha⟩
    · obtain ⟨us,e⟩ := gn.hr.lst c w
      exact ⟨_,e⟩
  refine s.add i (t.set i (grd_rep (fun c m => ?_) gn.nd gn.ha gn.hr)) fun c m => s.toHs.new (new c m)
  refine ⟨.inr m,fun z => ?_,s.toSta.fresh0 (new c m)⟩
  obtain ⟨o,e⟩ := W.B.dm c H (s.ok c z)
  rw [new c m] at e; cases e
theorem jds_setGX {CX : CXT}{E : XK}{Ed : Addr -> Prop}(hE : ELink W E Ed)(hp : Passes CX X E){i : Nat}{y : Str}{pos' cpos : Pos}(hN : X.N.Nodup)(hi : X.N[i]? = some y)(hx : Loc X.env.scope y)(G : Callee X.prog X.w X.K X.mg X.base CX x k ps (liftSpG W.K W.B S))(hr : Room k X.A)(hg : Gl X x)(ha : JA X W (e :: es) dA)
    (hs : swapsWith (.Call (.Name x p) (e :: es) [] cpos) (some (.Name y pos')) pos.line X.env = pure false := by rfl) (hf : X.fn y = true \/ X.env.scope.names.lookup y = some .local := by first | exact .inl rfl | exact .inr rfl | assumption)
    (hdb : (x == ("__debug__" : Str)) = false := by decide) (he : starEach (e :: es) X.env = (false,eval e X.env) :: starEach es X.env := by rfl) (hpl : (backTo cpos (starEach es X.env)).any (·.1) = false := by rfl) :
    JS X W (.Assign [.Name y pos'] (.Call (.Name x p) (e :: es) [] cpos) pos) (dSetGX W.K i S Ed dA) := ⟨(ps_set hN hi hx (pe_ownX hp G hr hg ha.h hdb he hpl) hs hf).mono fun E' σ H hh => hh.elim fun pn M b ρ F s l h => by
  refine ⟨pn,M,b,ρ,_,s.toSta,h,fun xs vs H1 hx rx k1 o1 => ?_⟩
  have s1 := s.step k1 o1
  show liftSpG W.K W.B S (vs ++ []) H1 _ E
  rw [List.append_nil]
  exact call_gridX (P := fun rows => ∀ a rs,rs.length = rows.length -> F.nx (ρ.set i (some (grd W.K a rs rows)))) hE s1.toSta rx hx fun rows a rs H' hp gn k2 o2 => l.nx _ _ _ _ _ (s1.gotGrid i k2 o2 gn) (hp a rs gn.hr.length.symm)⟩
end
end L2
set_option Elab.async false
set_option linter.all false
set_option maxRecDepth 100000
set_option maxHeartbeats 4000000
namespace L2
open PySem PySem.Spec PyProof.Rows
section
variable {X : Cx}{W : Wd}{e a b c tg iter l : Expr}{es : List Expr}{pos p : Pos}{dA : DA}{x : Str}{k : Nat}{ps : List Str}{S : DSG}{So : DSO}
end
end L2
set_option Elab.async false
set_option linter.all false
set_option maxRecDepth 100000
set_option maxHeartbeats 4000000
namespace L2
open PySem PySem.Spec PyProof.Rows
section
variable {X : Cx}{W : Wd}{e a b c tg iter l : Expr}{es : List Expr}{pos p : Pos}{dA : DA}
theorem StS.thaw {pn : List (D × V)}{M : Addr -> Prop}{b : Option Addr}{H : Hp}{σ : St}{ρ : Ev}{i : Nat}{f : Frg}{d : D}(s : StS W pn M b H σ ρ)(e : ρ[i]? = some (some (.frg f d))) : StS W pn (fun c => M c /\ c ∉ f.ads) b H σ (ρ.set i (some d)) := by
  obtain ⟨v,e1,r⟩ := s.env i _ e
  have pd : plain d = true := by
    have := r.2.2
    cases d <;> first | rfl | exact this.elim
  have st : Sta W pn (fun c => M c /\ c ∉ f.ads) b H σ (ρ.set i none) := by
    refine Sta.avoid (M := M) ⟨s.toHs,s.kp,s.new,fun j d' e' => ?_,by simp [s.len],s.pin⟩ (fun c m => m.1) (fun p z => ⟨s.bagM p z,fun y => (r.1 p y).2.1 z⟩) (fun c m => ⟨s.m0 c m,fun y => (r.1 c y).2.2.2 m⟩) (fun j d' v' c' e' e2 mm => ?_) fun ys a' hq => ⟨by
      obtain ⟨a2,us2,ev,n1,_⟩ := (s.pin _ hq)
      cases ev; exact n1,fun y => s.lj ys a' hq i _ _ e e1 y⟩
    · by_cases z : i = j
      · subst z; rw [List.getElem?_set] at e'; simp at e'
      · rw [List.getElem?_set_ne z] at e'; exact s.env j d' e'
    · by_cases z : i = j
      · subst z; rw [List.getElem?_set] at e'; simp at e'
      · rw [List.getElem?_set_ne z] at e'
        obtain ⟨v3,e3,r3⟩ := s.env j _ e'
        rw [e2] at e3; cases e3
        exact ⟨(r3.mine mm).1,fun y => z (s.dj i j _ _ _ _ c' e e' e1 e2 y mm)⟩
  have st2 := st.set (x := d) (v := v) i (Rep.x r.2.2)
  rw [set_same e1,List.set_set] at st2
  refine s.of st2 fun j d' hm e' => ?_
  by_cases z : i = j
  · subst z
    rw [List.getElem?_set] at e'
    simp at e'
    rw [<- e'.2] at hm
    cases d <;> first | (cases hm; done) | (cases pd; done)
  · rw [List.getElem?_set_ne z] at e'; exact ⟨e',rfl⟩
end
end L2
set_option Elab.async false
set_option linter.all false
set_option maxRecDepth 100000
set_option maxHeartbeats 4000000
namespace L2
open PySem PySem.Spec PyProof.Rows
section
variable {X : Cx}{W : Wd}{e a b c tg iter l : Expr}{es : List Expr}{pos p : Pos}{dA : DA}
theorem StS.dropFrg {pn : List (D × V)}{M : Addr -> Prop}{b : Option Addr}{H : Hp}{σ : St}{ρ : Ev}{f : Frg}{d : D}{v : V}{a : Addr}{o : HO}(s : StS W pn M b H σ ρ)(i : Nat)(e : ρ[i]? = some (some (.frg f d)))(ev : σ[i]? = some (some v))(ha : a ∈ f.ads) :
    StS W pn M b (upd H a o) σ (ρ.set i none) := by
  obtain ⟨v0,e1,r0⟩ := s.env i _ e
  rw [ev] at e1; cases e1
  obtain ⟨m1,m2,m3,m4⟩ := r0.1 a ha
  have kk : ∀ c u,¬ M c -> H c = some u -> upd H a o c = some u := fun c u n q => by rw [upd_ne (show c ≠ a from fun z => n (by rw [z]; exact m1))]; exact q
  have kb : ∀ c u,c ≠ a -> H c = some u -> upd H a o c = some u := fun c u n q => by rw [upd_ne n]; exact q
  refine s.of2 ⟨⟨fun q z => W.B.st q H _ (s.ok q z) fun u h => kb q u (fun w => m2 (w ▸ z)) h,s.bagM,fun c hc => ?_,s.m0⟩,fun c u n q => kb c u (fun z => by rw [z,m3] at q; cases q) (s.kp c u n q),s.new,fun j d2 e' => ?_,by simp [s.len],fun q hq => (s.pin q hq).to (fun _ _ r => Rep.keep kk _ _ r) (fun _ _ r => Reps.keep kk _ _ r) fun zs a2 us ed ev2 m n hh2 => ⟨m,n,kb _ _ (fun y => s.lj zs a2 (by rw [<- ed,<- ev2]; exact hq) i _ _ e ev (show a2 ∈ f.ads by rw [y]; exact ha)) hh2⟩⟩ (fun _ _ q => q) fun j d2 v2 c e' e2 m => ?_
  · by_cases z : c = a
    · rw [z]; exact ⟨_,upd_same⟩
    · obtain ⟨u,q⟩ := s.dom c hc; exact ⟨u,kb c u z q⟩
  · by_cases z : i = j
    · subst z
      rw [List.getElem?_set] at e'
      simp at e'
    · rw [List.getElem?_set_ne z] at e'
      obtain ⟨w,e1,r1⟩ := s.env j d2 e'
      refine ⟨w,e1,?_⟩
      have na : ¬ mineA d2 w a := fun y => z (s.dj i j _ _ _ _ a e e' ev e1 ha y)
      cases d2
      case own zs =>
        obtain ⟨a2,us2,rfl,n1,n2,n3,n4,hh2,r2⟩ := r1
        exact ⟨a2,us2,rfl,n1,n2,n3,n4,kb _ _ (fun y => na (by rw [y]; rfl)) hh2,Reps.keep kk _ _ r2⟩
      case bag => exact r1
      case frg f2 _ => exact RepX.move r1 (fun c _ m n => ⟨m,n⟩) (fun c u q h => kb c u (fun y => q.elim (fun n => n (by rw [y]; exact m1)) (fun n => na (by show a ∈ f2.ads; rw [<- y]; exact n))) h) fun c m => .inl m
      all_goals exact Rep.keep kk _ _ r1
  · by_cases z : i = j
    · subst z
      rw [List.getElem?_set] at e'
      simp at e'
    · rw [List.getElem?_set_ne z] at e'
      exact ⟨d2,e',e2,m⟩
end
end L2
set_option Elab.async false
set_option linter.all false
set_option maxRecDepth 100000
set_option maxHeartbeats 4000000
namespace L2
open PySem PySem.Spec PyProof.Rows
section
variable {X : Cx}{W : Wd}{pos : Pos}{dA : DA}
end
end L2
set_option Elab.async false
set_option linter.all false
set_option maxRecDepth 100000
set_option maxHeartbeats 4000000
namespace L2
open PySem PySem.Spec PyProof.Rows
section
variable {X : Cx}{W : Wd}{a b : Expr}{rest : List Expr}{pos : Pos}{da db : DE3}
end
end L2
set_option Elab.async false
set_option linter.all false
set_option maxRecDepth 100000
set_option maxHeartbeats 4000000
namespace L2
open PySem PySem.Spec PyProof.Rows
def dF (K : PySem.W.Frag)(d : D) : Frg where
  ads := []
  R := fun M H v => (∃ a,v = .ref a) /\ Rep K M H d v
  keep := fun M H H' v k h => ⟨h.1,Rep.keep (fun c o n e => k c o (.inl n) e) _ _ h.2⟩
  avoid := fun M M' H v k h => ⟨h.1,Rep.avoid k _ _ h.2⟩
  ref := fun M H v h => h.1
  nt := fun M H v h c m => by cases m
structure PNew (K : PySem.W.Frag)(M : Addr -> Prop)(H H' : Hp)(f : Frg)(d : D)(v : V) : Prop where
  new : ∀ c ∈ f.ads,H c = none
  R : f.R (fun c => M c \/ c ∈ f.ads) H' v
  rep : Rep K M H' d v
abbrev DSP3 := List D -> (Frg -> D -> Om) -> Om
def liftSpP3 (K : PySem.W.Frag)(B : BagT)(S : DSP3) : Sp := fun vs H Q E => ∃ (M : Addr -> Prop) (b : Option Addr) (ds : List D) (P : Frg -> D -> Om),S ds P (cnt b H) /\ RepAs K M b H ds vs /\ okB B b H /\ (∀ p,b = some p -> M p) /\ (∀ c,M c -> ∃ o,H c = some o) /\
  (∀ f d v H',P f d (cnt b H') -> PNew K M H H' f d v -> Kp b H H' -> okB B b H' -> Q v H')
theorem liftSpP3.len {K : PySem.W.Frag}{B : BagT}{S : DSP3}{m : Nat}(h : ∀ ds P n,S ds P n -> ds.length = m) : ∀ vs H Q E,liftSpP3 K B S vs H Q E -> vs.length = m := fun vs H Q E ⟨M,b,ds,P,hS,hr,_⟩ => by rw [hr.length]; exact h _ _ _ hS
section
variable {X : Cx}{W : Wd}{e a b c tg iter l : Expr}{es : List Expr}{pos p : Pos}{de : DE3}{dA di : DA3}{dt : DT3}{x : Str}{k : Nat}{ps : List Str}{S : DSP3}
end
end L2
set_option Elab.async false
set_option linter.all false
set_option maxRecDepth 100000
set_option maxHeartbeats 4000000
namespace L2
open PySem PySem.Spec PyProof.Rows
section
variable {X : Cx}{W : Wd}{e : Expr}{pos : Pos}{de : DE3}{dA : DA3}
end
end L2
set_option Elab.async false
set_option linter.all false
set_option maxRecDepth 100000
set_option maxHeartbeats 4000000
namespace L2
open PySem PySem.Spec PyProof.Rows
end L2
set_option Elab.async false
set_option linter.all false
set_option maxRecDepth 100000
set_option maxHeartbeats 4000000
namespace L2
open PySem PySem.Spec PyProof.Rows
def itemsP : PyData -> Option (List PyData)
  | .list ps => some ps
  | .tuple ps => some ps
  | _ => none
def rInG (K : PySem.W.Frag)(neg : Bool) : R2 := fun x y H Q => ∃ M dx dy p q ps,RepG K M H dx x /\ RepG K M H dy y /\ pyOf dx = some p /\ pyOf dy = some q /\ itemsP q = some ps /\ min (PyData.depthAll ps) p.depth <= 60 /\ Q (.bl ((ps.any fun y => PyData.eqv y p) != neg)) H
theorem layAll {ps : List PyData}{q : PyData}(h : q.canLay0 = true)(e : itemsP q = some ps) : PyData.canLayAll0 ps = true := by
  cases q <;> simp [itemsP] at e
  all_goals
    subst e
    unfold PyData.canLay0 at h
    exact h
theorem op_inG {X : Cx}(K : PySem.W.Frag)(hK : X.K = K)(hu : X.A.units + 64 < cLine) : OpR X (compareOp .In) (rInG K false) := by
  subst hK
  intro pins s σ H x y v u Q I rx ry h
  obtain ⟨M,dx,dy,p,q,ps,r1,r2,e1,e2,e3,hd,hq⟩ := h
  obtain ⟨as,a1⟩ := repG_reads I r1 rx e1
  obtain ⟨bs,a2⟩ := repG_reads I r2 ry e2
  have l2 := layAll (pyOf.lay _ _ e2) e3
  cases q <;> simp [itemsP] at e3
  case list qs => subst e3; exact SeqAt.in_list_reads a2 a1 l2 (pyOf.lay _ _ e1) (by omega) ⟨.bl _,H,I,rfl,by simpa using hq⟩
  case tuple qs => subst e3; exact SeqAt.in_tuple_reads a2 a1 l2 (pyOf.lay _ _ e1) (by omega) ⟨.bl _,H,I,rfl,by simpa using hq⟩
theorem op_notinG {X : Cx}(K : PySem.W.Frag)(hK : X.K = K)(hu : X.A.units + 64 < cLine) : OpR X (compareOp .NotIn) (rInG K true) := by
  subst hK
  intro pins s σ H x y v u Q I rx ry h
  obtain ⟨M,dx,dy,p,q,ps,r1,r2,e1,e2,e3,hd,hq⟩ := h
  obtain ⟨as,a1⟩ := repG_reads I r1 rx e1
  obtain ⟨bs,a2⟩ := repG_reads I r2 ry e2
  have l2 := layAll (pyOf.lay _ _ e2) e3
  cases q <;> simp [itemsP] at e3
  case list qs => subst e3; exact SeqAt.notIn_list_reads a2 a1 l2 (pyOf.lay _ _ e1) (by omega) ⟨.bl _,H,I,rfl,by simpa using hq⟩
  case tuple qs => subst e3; exact SeqAt.notIn_tuple_reads a2 a1 l2 (pyOf.lay _ _ e1) (by omega) ⟨.bl _,H,I,rfl,by simpa using hq⟩
inductive InG (neg : Bool)(x y : D)(P : D -> Prop) : Prop
  | mk (p q : PyData) (ps : List PyData) (e1 : pyOf x = some p) (e2 : pyOf y = some q) (e3 : itemsP q = some ps) (hd : min (PyData.depthAll ps) p.depth <= 60) (h : P (.bl ((ps.any fun y => PyData.eqv y p) != neg))) : InG neg x y P
def oInG (neg : Bool) : D -> D -> (D -> Prop) -> Prop := fun x y P => InG neg x y P
theorem od_inG {W : Wd}{neg : Bool} : OpD W (rInG W.K neg) (oInG neg) := by
  intro M b H x y v u P Q hs rx ry ho k
  obtain ⟨p,q,ps,e1,e2,e3,hd,hp⟩ := ho
  exact ⟨M,x,y,p,q,ps,rx.g e1,ry.g e2,e1,e2,e3,hd,k _ _ H hp (show _ = _ from rfl) (Kp.refl _ _) hs.ok⟩
theorem any_ints (ns : List Int)(n : Int) : ((ns.map PyData.int).any fun y => PyData.eqv y (.int n)) = decide (n ∈ ns) := by
  induction ns with
  | nil => rfl
  | cons m ns ih =>
    rw [List.map_cons,List.any_cons,ih]
    have : PyData.eqv (.int m) (.int n) = decide (m = n) := by simp only [PyData.eqv]; rfl
    rw [this]
    by_cases z : m = n
    · simp [z]
    · have : ¬ n = m := fun y => z y.symm
      simp [z,this]
theorem pys_ints : ∀ ns : List Int,pysOf (ns.map D.int) = some (ns.map PyData.int)
  | [] => rfl
  | n :: ns => by rw [List.map_cons]; unfold pysOf; rw [pys_ints ns]; rfl
theorem inG_ints {neg : Bool}{n : Int}{ns : List Int}{y : D}{P : D -> Prop}(e : y = .tup (ns.map D.int) \/ y = .lst (ns.map D.int) \/ y = .own (ns.map D.int))(h : P (.bl (decide (n ∈ ns) != neg))) : InG neg (.int n) y P := by
  have hd : min (PyData.depthAll (ns.map PyData.int)) (PyData.int n).depth <= 60 := Nat.le_trans (Nat.min_le_right _ _) (by show 0 <= 60; omega)
  rcases e with rfl | rfl | rfl
  · exact ⟨.int n,.tuple (ns.map .int),ns.map .int,rfl,by unfold pyOf; rw [pys_ints]; rfl,rfl,hd,by rw [any_ints]; exact h⟩
  · exact ⟨.int n,.list (ns.map .int),ns.map .int,rfl,by unfold pyOf; rw [pys_ints]; rfl,rfl,hd,by rw [any_ints]; exact h⟩
  · exact ⟨.int n,.list (ns.map .int),ns.map .int,rfl,by unfold pyOf; rw [pys_ints]; rfl,rfl,hd,by rw [any_ints]; exact h⟩
end L2
set_option Elab.async false
set_option linter.all false
set_option maxRecDepth 100000
set_option maxHeartbeats 4000000
namespace L2
open PySem PySem.Spec PyProof.Rows
structure Pc where
  (a : Addr) (f : Frg) (d : D)
abbrev Pc.g (p : Pc) : D := .frg p.f p.d
def Pc.at (p : Pc) : Prop := ∀ M H v,p.f.R M H v -> v = .ref p.a
structure RepP (K : PySem.W.Frag)(M : Addr -> Prop)(b : Option Addr)(H : Hp)(p : Pc) : Prop where
  at' : p.at
  ow : ∀ c ∈ p.f.ads,M c /\ b ≠ some c
  r : p.f.R M H (.ref p.a)
  d : Rep K (fun c => M c /\ c ∉ p.f.ads) H p.d (.ref p.a)
def adsP (ps : List Pc) : List Addr := ps.flatMap fun p => p.f.ads
def likeP (ps ps' : List Pc) : Prop := ps'.map (fun p => (p.a,p.f.ads)) = ps.map fun p => (p.a,p.f.ads)
theorem likeP.get {ps ps' : List Pc}{i : Nat}{p' : Pc}(h : likeP ps ps')(e : ps'[i]? = some p') : ∃ p,ps[i]? = some p /\ p'.a = p.a /\ p'.f.ads = p.f.ads := by
  have q := congrArg (fun l => l[i]?) h
  simp only [List.getElem?_map,e,Option.map_some] at q
  obtain ⟨p,e1,e2⟩ := Option.map_eq_some_iff.mp q.symm
  simp only [Prod.mk.injEq] at e2
  exact ⟨p,e1,e2.1.symm,e2.2.symm⟩
def disjP (ps : List Pc) : Prop := ∀ (i j : Nat) p q c,ps[i]? = some p -> ps[j]? = some q -> c ∈ p.f.ads -> c ∈ q.f.ads -> i = j
def KpA (A : List Addr)(b : Option Addr)(H H' : Hp) : Prop := ∀ c o,c ∉ A -> b ≠ some c -> H c = some o -> H' c = some o
abbrev DSU := List Pc -> List D -> (List Pc -> D -> Prop) -> Prop
def liftSpU (K : PySem.W.Frag)(B : BagT)(S : DSU) : Sp := fun vs H Q E => ∃ (M : Addr -> Prop) (b : Option Addr) (ps : List Pc) (ds : List D) (P : List Pc -> D -> Prop) (dvs : List V),vs = ps.map (fun p => .ref p.a) ++ dvs /\ S ps ds P /\ (∀ p ∈ ps,RepP K M b H p) /\ disjP ps /\ RepAs K M b H ds dvs /\ okB B b H /\ (∀ p,b = some p -> M p) /\ (∀ c,M c -> ∃ o,H c = some o) /\
  ∀ ps' r v H',P ps' r -> likeP ps ps' -> (∀ p ∈ ps',RepP K M b H' p) -> Rep K M H' r v -> KpA (adsP ps) b H H' -> okB B b H' -> Q v H'
theorem liftSpU.len {K : PySem.W.Frag}{B : BagT}{S : DSU}{n : Nat}(h : ∀ ps ds P,S ps ds P -> ps.length + ds.length = n) : ∀ vs H Q E,liftSpU K B S vs H Q E -> vs.length = n := fun vs H Q E ⟨M,b,ps,ds,P,dvs,e,hS,_,_,hr,_⟩ => by
  rw [e,List.length_append,List.length_map,hr.length]; exact h _ _ _ hS
end L2
set_option Elab.async false
set_option linter.all false
set_option maxRecDepth 100000
set_option maxHeartbeats 4000000
namespace L2
open PySem PySem.Spec PyProof.Rows
section
variable {W : Wd}{pn : List (D × V)}{M : Addr -> Prop}{b : Option Addr}{H H' : Hp}{σ : St}{ρ : Ev}{js : List Nat}{ps ps' : List Pc}
def heldP (js : List Nat)(ps : List Pc)(ρ : Ev) : Prop := js.length = ps.length /\ ∀ (k : Nat) p,ps[k]? = some p -> p.at /\ ∃ j,js[k]? = some j /\ ρ[j]? = some (some p.g)
theorem heldP.ads (s : StS W pn M b H σ ρ)(h : heldP js ps ρ){c : Addr}(m : c ∈ adsP ps) : ∃ (k j : Nat) (p : Pc),ps[k]? = some p /\ js[k]? = some j /\ ρ[j]? = some (some p.g) /\ c ∈ p.f.ads /\ σ[j]? = some (some (.ref p.a)) /\ RepX W M b H p.g (.ref p.a) := by
  obtain ⟨p,mp,mc⟩ := List.mem_flatMap.mp m
  obtain ⟨k,ek⟩ := List.getElem?_of_mem mp
  obtain ⟨pa,j,ej,er⟩ := h.2 k p ek
  obtain ⟨v,ev,r⟩ := s.env j _ er
  have hv := pa _ _ _ r.2.1
  subst hv
  exact ⟨k,j,p,ek,ej,er,mc,ev,r⟩
theorem heldP.rep (s : StS W pn M b H σ ρ)(h : heldP js ps ρ) : ∀ p ∈ ps,RepP W.K M b H p := fun p mp => by
  obtain ⟨k,ek⟩ := List.getElem?_of_mem mp
  obtain ⟨pa,j,ej,er⟩ := h.2 k p ek
  obtain ⟨v,ev,r⟩ := s.env j _ er
  have hv := pa _ _ _ r.2.1
  subst hv
  exact ⟨pa,fun c m => ⟨(r.1 c m).1,(r.1 c m).2.1⟩,r.2.1,r.2.2⟩
end
section
variable {X : Cx}{W : Wd}{S : DSU}{dA : DA}{pos : Pos}
end
end L2
set_option Elab.async false
set_option linter.all false
set_option maxRecDepth 100000
set_option maxHeartbeats 4000000
namespace L2
open PySem PySem.Spec PyProof.Rows
def dctR (K : PySem.W.Frag)(a : Addr)(t : Tg)(ks : List (List Int))(xs : List D)(M : Addr -> Prop)(H : Hp)(v : V) : Prop := v = .ref a /\ ∃ vs : List V,H a = some (DOb a t.1 t.2) /\ DctE K M H t.1 ks vs /\ Reps K M H xs vs
def dctF (K : PySem.W.Frag)(a : Addr)(t : Tg)(ks : List (List Int))(xs : List D) : Frg where
  ads := [a]
  R := dctR K a t ks xs
  keep := fun M H H' v k ⟨e,vs,h,hE,r⟩ => ⟨e,vs,k a _ (.inr (List.mem_cons_self ..)) h,hE.keep fun c o n q => k c o (.inl n) q,Reps.keep (fun c o n q => k c o (.inl n) q) _ _ r⟩
  avoid := fun M M' H v k ⟨e,vs,h,hE,r⟩ => ⟨e,vs,h,hE.avoid k,Reps.avoid k _ _ r⟩
  ref := fun M H v h => ⟨a,h.1⟩
  nt := fun M H v ⟨e,vs,h,hE,r⟩ c m => by
    rw [List.mem_singleton.mp m]
    exact ⟨_,h,fun vs z => by cases z⟩
abbrev dcg (K : PySem.W.Frag)(a : Addr)(t : Tg)(ks : List (List Int))(xs : List D) : D := .frg (dctF K a t ks xs) (.dct t ks xs)
section
variable {W : Wd}{pn : List (D × V)}{M : Addr -> Prop}{b : Option Addr}{H H' : Hp}{σ : St}{ρ : Ev}{a : Addr}{ks : List (List Int)}{xs : List D}{t : Tg}{vs : List V}
theorem dcg_of {v : V}(r : RepX W M b H (dcg W.K a t ks xs) v) : v = .ref a /\ (M a /\ b ≠ some a /\ W.H0 a = none /\ ¬ W.M0 a) /\ ∃ vs,H a = some (DOb a t.1 t.2) /\ DctE W.K M H t.1 ks vs /\ Reps W.K M H xs vs := by
  obtain ⟨ow,⟨e,q⟩,_⟩ := r
  exact ⟨e,ow a (List.mem_cons_self ..),q⟩
def asD (K : PySem.W.Frag)(d : D)(t : Tg)(ks : List (List Int))(xs : List D) : Prop := d = .dct t ks xs \/ ∃ a,d = dcg K a t ks xs
theorem asD.rep {d : D}{v : V}(h : asD W.K d t ks xs)(r : RepX W M b H d v) : ∃ a vs,v = .ref a /\ H a = some (DOb a t.1 t.2) /\ DctE W.K M H t.1 ks vs /\ Reps W.K M H xs vs := by
  rcases h with rfl | ⟨a,rfl⟩
  · obtain ⟨a,vs,e,⟨_,h,hE⟩,rr⟩ := r
    exact ⟨a,vs,e,h,hE,rr⟩
  · obtain ⟨e,_,vs,h,hE,rr⟩ := dcg_of r
    exact ⟨a,vs,e,h,hE,rr⟩
end
section
variable {K : PySem.W.Frag}{M : Addr -> Prop}{H : Hp}{n : List Int}{z : D}{v : V}{u : Value}{b : Addr}
end
section
variable {X : Cx}{W : Wd}{pos : Pos}
end
end L2
set_option Elab.async false
set_option linter.all false
set_option maxRecDepth 100000
set_option maxHeartbeats 4000000
namespace L2
open PySem PySem.Spec PyProof.Rows
section
variable {X : Cx}{W : Wd}{S : DSU}{dA : DA}{pos : Pos}
theorem ixN_nat {n j : Nat}(h : j < n) : ixN n (j : Int) = some j := by
  unfold ixN
  rw [if_pos (by omega)]
  simp; omega
end
end L2
set_option Elab.async false
set_option linter.all false
set_option maxRecDepth 100000
set_option maxHeartbeats 4000000
namespace L2
open PySem PySem.Spec PyProof.Rows
section
variable {X : Cx}{W : Wd}{pos : Pos}
variable {elt iter tg : Expr}{ifs : List Expr}{scope : Scope}{N' : List Str}{map : List (Option Nat)}{g : TG}{gd : D -> Ev -> (Ev -> Prop) -> Prop}{di : DA}{dt : DT}{de : DA}
end
end L2
set_option Elab.async false
set_option linter.all false
set_option maxRecDepth 100000
set_option maxHeartbeats 4000000
namespace L2
open PySem PySem.Spec PyProof.Rows
def RawD (h : Heap)(d : Addr)(ds : Array DictEntry)(ep : Nat) : Prop := ∃ o : Obj,h.get? d = some o /\ o.ExactDict /\ o.data = .dict ds ep
section
variable {prog : Program}{w : World}{A : Around}{E : Value -> Shared -> Prop}{s : Shared}{d it : Addr}{ds : Array DictEntry}{ep i : Nat}
end
end L2
set_option Elab.async false
set_option linter.all false
set_option maxRecDepth 100000
set_option maxHeartbeats 4000000
namespace L2
open PySem PySem.Spec PyProof.Rows
section
variable {X : Cx}{pins : List (Addr × Obj)}{σ : St}{H : Hp}{s : Shared}{a : Addr}{es : Ens}{ep : Nat}{tg : Expr}
end
end L2
set_option Elab.async false
set_option linter.all false
set_option maxRecDepth 100000
set_option maxHeartbeats 4000000
namespace L2
open PySem PySem.Spec PyProof.Rows
section
variable {X : Cx}{W : Wd}{e o f tg : Expr}{es : List Expr}{pos : Pos}{dA : DA}{de dk df : DE}
end
end L2
set_option Elab.async false
set_option linter.all false
set_option maxRecDepth 100000
set_option maxHeartbeats 4000000
namespace L2
open PySem PySem.Spec PyProof.Rows
section
variable {gd gd2 : D -> Ev -> (Ev -> Prop) -> Prop}{dt : DT}{de : DE}{ρc : Ev}{items acc0 : List D}{P : List D -> Prop}{mp2 : List (Option Nat)}{di2 : DA}
end
section
variable {X : Cx}{W : Wd}{pos : Pos}{a : Expr}{dA : DA}
end
end L2
set_option Elab.async false
set_option linter.all false
set_option maxRecDepth 100000
set_option maxHeartbeats 4000000
namespace L2
open PySem PySem.Spec PyProof.Rows
end L2
set_option Elab.async false
set_option linter.all false
set_option maxRecDepth 100000
set_option maxHeartbeats 4000000
namespace L2
open PySem PySem.Spec PyProof.Rows
section
variable {X : Cx}{W : Wd}{pos : Pos}{dA : DA}
end
end L2
set_option Elab.async false
set_option linter.all false
set_option maxRecDepth 100000
set_option maxHeartbeats 4000000
namespace L2
open PySem PySem.Spec PyProof.Rows
section
variable {prog : Program}{w : World}{A : Around}{R : Result -> Shared -> Prop}{I S : Addr}{fp wr : List Addr}{n : Nat}{P : Nat -> Value -> Prop}{St : Nat -> Heap -> Prop}{J : Heap -> Prop}{bt : Nat -> Nat -> Bool}
end
section
variable {prog : Program}{w : World}{A : Around}{E : Value -> Shared -> Prop}{s : Shared}
end
section
variable {prog : Program}{w : World}{A : Around}
theorem RawD.at {h h' : Heap}{d : Addr}{ds : Array DictEntry}{ep : Nat}(x : RawD h d ds ep)(k : ∀ o,h.get? d = some o -> h'.get? d = some o) : RawD h' d ds ep := let ⟨o,e,q⟩ := x; ⟨o,k o e,q⟩
end
section
variable {X : Cx}
end
end L2
set_option Elab.async false
set_option linter.all false
set_option maxRecDepth 100000
set_option maxHeartbeats 4000000
namespace L2
open PySem PySem.Spec PyProof.Rows
section
variable {X : Cx}{W : Wd}
end
end L2
set_option Elab.async false
set_option linter.all false
set_option maxRecDepth 100000
set_option maxHeartbeats 4000000
namespace L2
open PySem PySem.Spec PyProof.Rows
end L2
set_option Elab.async false
set_option linter.all false
set_option maxRecDepth 100000
set_option maxHeartbeats 4000000
namespace L2
open PySem PySem.Spec PyProof.Rows
section
variable {X : Cx}{W : Wd}{dt : DT}{dA dA1 dA2 : DA}{S S1 : DSO}{S2 : DSG}{st : Stmt}
end
end L2
set_option Elab.async false
set_option linter.all false
set_option maxRecDepth 100000
set_option maxHeartbeats 4000000
namespace L2
open PySem PySem.Spec PyProof.Rows
abbrev DST := List D -> (List (List D) -> Int -> Prop) -> (Addr -> Prop) -> Prop
structure TNew (K : PySem.W.Frag)(M : Addr -> Prop)(H H' : Hp)(p a : Addr)(rs : List Addr)(rows : List (List D))(n : Int) : Prop extends GNew K M H H' a rs rows where
  p0 : H p = none
  hp : H' p = some (.tup [.ref a,.int n])
def liftSpT (K : PySem.W.Frag)(B : BagT)(S : DST) : Sp := fun vs H Q E => ∃ (M : Addr -> Prop) (b : Option Addr) (ds : List D) (P : List (List D) -> Int -> Prop) (Ed : Addr -> Prop),S ds P Ed /\ RepAs K M b H ds vs /\ okB B b H /\ (∀ p,b = some p -> M p) /\ (∀ c,M c -> ∃ o,H c = some o) /\
  (∀ rows n p a rs H',P rows n -> TNew K M H H' p a rs rows n -> Kp b H H' -> okB B b H' -> Q (.ref p) H') /\ ∀ C H',Ed C -> Kp b H H' -> okB B b H' -> E (.ref C) none H'
theorem liftSpT.len {K : PySem.W.Frag}{B : BagT}{S : DST}{n : Nat}(h : ∀ ds P Ed,S ds P Ed -> ds.length = n) : ∀ vs H Q E,liftSpT K B S vs H Q E -> vs.length = n := fun vs H Q E ⟨M,b,ds,P,Ed,hS,hr,_⟩ => by rw [hr.length]; exact h _ _ _ hS
section
variable {X : Cx}{W : Wd}{e a : Expr}{es : List Expr}{pos p : Pos}{dA : DA}{x : Str}{k : Nat}{ps : List Str}{S : DST}
end
end L2
set_option Elab.async false
set_option linter.all false
set_option maxRecDepth 100000
set_option maxHeartbeats 4000000
namespace L2
open PySem PySem.Spec PyProof.Rows
section
variable {X : Cx}{W : Wd}{e o a b : Expr}{es : List Expr}{pos : Pos}{dO de : DE}{dA : DA}
variable {r : V -> List V -> Hp -> VK -> Prop}{f : Str -> List D -> (D -> Prop) -> Prop}{name : Str}{id : String}{apos cpos : Pos}
def strsOf : List D -> Option (List Str)
  | [] => some []
  | .str i :: r => (strsOf r).map (i :: ·)
  | _ => none
theorem strsOf.eq : ∀ {ds : List D} {ns : List Str},strsOf ds = some ns -> ds = ns.map D.str
  | [],ns,h => by cases h; rfl
  | d :: r,ns,h => by
    cases d <;> first | cases h | skip
    case str i =>
      simp only [strsOf,Option.map_eq_some_iff] at h
      obtain ⟨m,e,rfl⟩ := h
      rw [strsOf.eq e]; rfl
end
end L2
set_option Elab.async false
set_option linter.all false
set_option maxRecDepth 100000
set_option maxHeartbeats 4000000
namespace L2
open PySem PySem.Spec PyProof.Rows
end L2
set_option Elab.async false
set_option linter.all false
set_option maxRecDepth 100000
set_option maxHeartbeats 4000000
namespace L2
open PySem PySem.Spec PyProof.Rows
section
variable {X : Cx}{W : Wd}{e o a b l tg : Expr}{es : List Expr}{pos : Pos}{dO de da db dl : DE}{dA : DA}{fz : Bool}
end
end L2
set_option Elab.async false
set_option linter.all false
set_option maxRecDepth 100000
set_option maxHeartbeats 4000000
namespace L2
open PySem PySem.Spec PyProof.Rows
section
variable {X : Cx}
end
section
variable {X : Cx}{W : Wd}{ke ve iter tg : Expr}{ifs : List Expr}{scope : Scope}{pos : Pos}{N' : List Str}{map : List (Option Nat)}{g : TG}{gd : D -> Ev -> (Ev -> Prop) -> Prop}{di : DA}{dt : DT}{dk de : DE}
end
end L2
set_option Elab.async false
set_option linter.all false
set_option maxRecDepth 100000
set_option maxHeartbeats 4000000
namespace L2
open PySem PySem.Spec PyProof.Rows
theorem ints_of_vals : ∀ {ns : List Int} {us : List Value},Vals (ns.map V.int) us -> IntsAre us ns
  | [],us,r => by cases r; exact .nil
  | n :: ns,us,r => by
    cases r with
    | cons r1 r2 =>
      obtain ⟨t,rfl⟩ := r1
      exact .cons n t (ints_of_vals r2)
section
variable {prog : Program}{w : World}{A : Around}{E : Value -> Shared -> Prop}{s : Shared}
end
section
variable {X : Cx}
end
def rowD (r : List Int) : D := .tup (r.map D.int)
section
variable {X : Cx}{W : Wd}{a e : Expr}{pos : Pos}{dA : DA}
def dNewD (dF : DA) : DE := fun ρ P => dF ρ fun xs => P (.lst xs)
theorem jde_new (h : JF X W e dA) : JE X W e (dNewD dA) := ⟨h.h.mono fun σ H Q hh => by
  obtain ⟨pn,M,b,ρ,P,st,h,k⟩ := hh
  refine ⟨pn,M,b,ρ,_,st,h,fun xs vs p H' hx n1 e1 r1 k1 o1 => ?_⟩
  exact k _ _ H' hx ⟨p,vs,rfl,⟨st.toHs.new n1,e1⟩,Reps.avoid (fun c m => .inl (.inl m)) _ _ r1⟩ k1 o1⟩
def dRetF (dF : DA) : DS := fun F ρ => dF ρ fun xs => F.ro xs
theorem jds_retF (h : JF X W e dA) : JS X W (.Return (some e) pos) (dRetF dA) := ⟨(ps_ret h.h).mono fun E σ H hh => hh.elim fun pn M b ρ F s l hd => by
  refine ⟨pn,M,b,ρ,_,s.toSta,hd,fun xs vs p H' hx n1 e1 r1 k1 o1 => ?_⟩
  have s' := s.toSta.step k1 o1
  obtain ⟨h0,m0⟩ := s.toSta.fresh0 n1
  exact l.ro _ _ _ H' hx h0 m0 e1 (Reps.avoid (fun c z => z.elim (fun y => .inl (.inl (s'.m0 c y))) fun y => .inl (.inr y)) _ _ r1) s'.kp s'.ok0⟩
end
end L2
set_option Elab.async false
set_option linter.all false
set_option maxRecDepth 100000
set_option maxHeartbeats 4000000
namespace L2
open PySem PySem.Spec PyProof.Rows
section
variable {prog : Program}{w : World}{A : Around}{E : Value -> Shared -> Prop}{s : Shared}{d : Addr}{ds : Array DictEntry}{ep : Nat}
theorem RawD.frame {h h' : Heap}(x : RawD h d ds ep)(k : ∀ o,h.get? d = some o -> h'.get? d = some o) : RawD h' d ds ep := by
  obtain ⟨o,e,q⟩ := x
  exact ⟨o,k o e,q⟩
end
end L2
set_option Elab.async false
set_option linter.all false
set_option maxRecDepth 100000
set_option maxHeartbeats 4000000
namespace L2
open PySem PySem.Spec PyProof.Rows
section
variable {prog : Program}{w : World}{A : Around}{E : Value -> Shared -> Prop}{s : Shared}
end
section
variable {X : Cx}
end
section
variable {X : Cx}{W : Wd}{a e : Expr}{pos : Pos}{dA : DA}
end
end L2
set_option Elab.async false
set_option linter.all false
set_option maxRecDepth 100000
set_option maxHeartbeats 4000000
namespace L2
open PySem PySem.Spec PyProof.Rows
section
variable {prog : Program}{w : World}{A : Around}{E : Value -> Shared -> Prop}{s : Shared}
theorem sorted_nums {l : Addr}{vs : List Value}{zs : List Int}{Q : Value -> Shared -> Prop}(il : s.heap.IsList l vs.toArray)(vi : IntsAre vs zs)(h64 : vs.length < 64)
    (h : ∀ (out : Array Value) (ks : List Int) (L : Addr) (e : Nat) h' tk,IntsAre out.toList ks -> ks.Perm zs -> ks.Pairwise (· <= ·) -> h'.get? L = some (seqObj "list" out e) -> s.heap.objs.size <= L -> (∀ b o,s.heap.get? b = some o -> h'.get? b = some o) -> Q (.ref L) { s with heap := h',toks := tk }) :
    wpAny (model prog w) A (call (.builtin "sorted") [.ref l]) Q E s := by
  refine Calls.call_function_entry kind_sorted plain_sorted entry_sorted (args_sorted1 _) ?_
  unfold Builtin.«sorted»
  refine wpAny_bind (m := checkCount "sorted" 1 1 _) (wpAny_pure ?_)
  refine wpAny_bind (collect_list il ?_ (by rw [sizeLine_eq]; omega))
  refine wpAny_bind (wpAny_newList ?_)
  have z1 : ((s.heap.push (seqObj "list" #[] 0)).update s.heap.objs.size (Obj.mapSeq (· ++ vs.toArray))).objs.size = s.heap.objs.size + 1 := by
    rw [Heap.size_update,size_push']
  generalize hH : (s.heap.push (seqObj "list" #[] 0)).update s.heap.objs.size (Obj.mapSeq (· ++ vs.toArray)) = H1 at z1
  have k1 : ∀ b o,s.heap.get? b = some o -> H1.get? b = some o := fun b o e => by
    have hlt : b < s.heap.objs.size := Heap.lt_size e
    rw [<- hH,Heap.get?_update_ne _ _ _ _ (Nat.ne_of_lt hlt),Heap.get?_push_ne _ _ _ (Nat.ne_of_lt hlt)]
    exact e
  have g2 : (H1.push (seqObj "list" vs.toArray 0)).get? H1.objs.size = some (seqObj "list" vs.toArray 0) := Heap.get?_push_size _ rfl
  refine wpAny_bind (wpAny_holding (wpAny_call_entry (s := { s with heap := H1.push (seqObj "list" vs.toArray 0) }) slot_list_sort ⟨_,g2,rfl⟩ entry_list_sort (list_sort_tree g2 vi h64 fun out ks a1 a2 a3 => ⟨_,rfl,?_⟩) (args_list_sort _)))
  refine wpAny_pure ⟨_,rfl,?_⟩
  show Q (.ref H1.objs.size) { s with heap := sortedHeap (H1.push (seqObj "list" vs.toArray 0)) H1.objs.size vs out }
  unfold sortedHeap
  obtain ⟨e1,q1⟩ : ∃ e1,((H1.push (seqObj "list" vs.toArray 0)).update H1.objs.size (Obj.mapSeq fun _ => #[])).get? H1.objs.size = some (seqObj "list" #[] e1) := ⟨_,get?_update_seq g2 (fun _ => #[])⟩
  have q2 := Heap.get?_push_of_some (seqObj "list" #[] 0) (Heap.get?_push_of_some (seqObj "tuple" vs.toArray 0) q1)
  obtain ⟨e3,q3⟩ : ∃ e3,(((((H1.push (seqObj "list" vs.toArray 0)).update H1.objs.size (Obj.mapSeq fun _ => #[])).push (seqObj "tuple" vs.toArray 0)).push (seqObj "list" #[] 0)).update H1.objs.size (Obj.mapSeq fun _ => out)).get? H1.objs.size = some (seqObj "list" out e3) := ⟨_,get?_update_seq q2 (fun _ => out)⟩
  refine h out ks H1.objs.size e3 _ _ a1 a2 a3 q3 (by omega) fun b q e => ?_
  have bl := Heap.lt_size e
  have nb : b ≠ H1.objs.size := by
    intro z
    rw [z,z1] at bl
    exact Nat.lt_irrefl _ (Nat.lt_of_succ_lt bl)
  rw [Heap.get?_update_ne _ _ _ _ nb]
  refine Heap.get?_push_of_some _ (Heap.get?_push_of_some _ ?_)
  rw [Heap.get?_update_ne _ _ _ _ nb]
  exact Heap.get?_push_of_some _ (k1 b q e)
end
def rSortN (K : PySem.W.Frag) : List V -> Hp -> VK -> Prop := fun xs H Q => ∃ (D : Addr) (zs : List Int),xs = [.ref D] /\ SqL K H D (zs.map V.int) /\ zs.length < 64 /\ ∀ (p : Addr) (ks : List Int),H p = none -> ks.Perm zs -> ks.Pairwise (· <= ·) -> Q (.ref p) (upd H p (.lst (ks.map V.int)))
theorem call_sortN {X : Cx}(K : PySem.W.Frag)(hK : X.K = K) : CallR X (.builtin "sorted") (rSortN K) := by
  subst hK
  intro pins s σ H xs us Q I r h
  obtain ⟨D,zs,rfl,hD,h64,q⟩ := h
  obtain ⟨u,rfl,rx⟩ := vals1 r
  cases rx
  obtain ⟨its,rv,pl,hz⟩ := I.list hD
  have vi := ints_of_vals rv
  have hl := rv.length
  rw [List.length_map] at hl
  refine sorted_nums pl.isList vi (by omega) fun out ks L ep h' tk a1 a2 a3 g zL k => ?_
  have hL : H L = none := I.hok.fresh zL
  have J := I.laid (a := L) (o := .lst (ks.map V.int)) (t' := tk) (h' := h') k zL ⟨by rw [List.length_map,a2.length_eq,sizeLine_eq]; omega,out.toList,ep,vals_of_ints a1,by simpa using g⟩
  exact ⟨.ref L,_,J,rfl,q L ks hL a2 a3⟩
def srtNP (xs : List D)(P : List D -> Prop) : Prop := ∃ zs : List Int,xs = zs.map D.int /\ zs.length < 64 /\ ∀ ks : List Int,ks.Perm zs -> ks.Pairwise (· <= ·) -> P (ks.map D.int)
section
variable {X : Cx}{W : Wd}{a e : Expr}{pos : Pos}{dA : DA}
def dSrtN (da : DA) : DA := fun ρ P => da ρ fun xs => match xs with
  | [x] => (asL x).elim False fun ys => srtNP ys P
  | _ => False
theorem reps_of_ints {K : PySem.W.Frag}{M : Addr -> Prop}{H : Hp} : ∀ ns : List Int,Reps K M H (ns.map D.int) (ns.map V.int)
  | [] => rfl
  | n :: ns => ⟨.int n,ns.map V.int,rfl,rfl,reps_of_ints ns⟩
theorem jdf_sortN {lpos npos : Pos}(ha : JA X W [a] dA)(h : PE X (.Call (.Name "sorted" npos) [a] [] lpos) (tCB (rSortN W.K) (dnA W dA))) : JF X W (.Call (.Name "sorted" npos) [a] [] lpos) (dSrtN dA) := ⟨h.mono fun σ H Q hh => by
  obtain ⟨pn,M,b,ρ,P,st,h,k⟩ := hh
  refine ⟨pn,M,b,ρ,_,st,h,fun xs vs H1 hx rx k1 o1 => ?_⟩
  match xs,hx with
  | [x],hx =>
    obtain ⟨v,rfl,r⟩ := rx1 rx
    cases e1 : asL x with
    | none => simp only [e1] at hx; exact hx.elim
    | some ys =>
      simp only [e1] at hx
      obtain ⟨zs,rfl,h64,hP⟩ := hx
      obtain ⟨a1,us,rfl,h1,r1⟩ := asL.rep r e1
      cases reps_ints r1
      refine ⟨a1,zs,rfl,SqL.of h1,h64,fun p ks hp pq so => ?_⟩
      exact k _ _ p _ (hP ks pq so) (was_new k1 o1 hp) upd_same (reps_of_ints ks) (k1.trans (Kp.upd hp)) ((st.step k1 o1).toHs.okU hp)⟩
end
end L2
set_option Elab.async false
set_option linter.all false
set_option maxRecDepth 100000
set_option maxHeartbeats 4000000
namespace L2
open PySem PySem.Spec PyProof.Rows
section
variable {X : Cx}{W : Wd}{pos : Pos}
end
end L2
set_option Elab.async false
set_option linter.all false
set_option maxRecDepth 100000
set_option maxHeartbeats 4000000
namespace L2
open PySem PySem.Spec PyProof.Rows
section
variable {X : Cx}{W : Wd}{e o : Expr}{es : List Expr}{dA : DA3}{r : V -> List V -> Hp -> VK -> Prop}{f : Str -> List D -> (D -> Prop) -> Prop}{name : Str}{apos cpos : Pos}{z : Str}
end
end L2
set_option Elab.async false
set_option linter.all false
set_option maxRecDepth 100000
set_option maxHeartbeats 4000000
namespace L2
open PySem PySem.Spec PyProof.Rows
section
variable {X : Cx}{W : Wd}{dA : DA3}
end
end L2
set_option Elab.async false
set_option linter.all false
set_option maxRecDepth 100000
set_option maxHeartbeats 4000000
namespace L2
open PySem PySem.Spec PyProof.Rows
def asc (z : Str) : Prop := ∀ c ∈ z.cps.toList,c < 128
theorem asc.all {z : Str}(h : asc z) : z.cps.all (· < 128) = true := by
  refine (Array.all_toList ..).symm.trans (List.all_eq_true.mpr fun c hc => ?_)
  simpa using h c hc
end L2
set_option Elab.async false
set_option linter.all false
set_option maxRecDepth 100000
set_option maxHeartbeats 4000000
namespace L2
open PySem PySem.Spec PyProof.Rows
section
variable {X : Cx}{W : Wd}{e o a b : Expr}{es : List Expr}{pos : Pos}{dO de : DE}{dA : DA}
theorem bt_set : bootBuiltins "set" = some (.type "set") := by decide +kernel
theorem tup_is {s : Shared}{a : Addr}{its : List Value}(h : IsTup s.heap a its.toArray) : s.heap.IsTuple a its.toArray := h
end
end L2
set_option Elab.async false
set_option linter.all false
set_option maxRecDepth 100000
set_option maxHeartbeats 4000000
namespace L2
open PySem PySem.Spec PyProof.Rows
section
variable {X : Cx}
end
end L2
set_option Elab.async false
set_option linter.all false
set_option maxRecDepth 100000
set_option maxHeartbeats 4000000
namespace L2
open PySem PySem.Spec PyProof.Rows
section
variable {X : Cx}{W : Wd}
end
end L2
set_option Elab.async false
set_option linter.all false
set_option maxRecDepth 100000
set_option maxHeartbeats 4000000
namespace L2
open PySem PySem.Spec PyProof.Rows
section
variable {X : Cx}{W : Wd}{e : Expr}{dA : DA}
end
end L2
set_option Elab.async false
set_option linter.all false
set_option maxRecDepth 100000
set_option maxHeartbeats 4000000
namespace L2
open PySem PySem.Spec PyProof.Rows
end L2
set_option Elab.async false
set_option linter.all false
set_option maxRecDepth 100000
set_option maxHeartbeats 4000000
namespace L2
open PySem PySem.Spec PyProof.Rows
def tpF (K : PySem.W.Frag)(p : Addr)(rs : List Addr)(rows : List (List D)) : Frg where
  ads := rs
  R := fun M H v => v = .ref p /\ ¬ M p /\ rs.Nodup /\ H p = some (.tup (rs.map V.ref)) /\ RowsR K M H rs rows
  keep := fun M H H' v k h => ⟨h.1,h.2.1,h.2.2.1,k _ _ (.inl h.2.1) h.2.2.2.1,RowsR.keep rs rows k h.2.2.2.2⟩
  avoid := fun M M' H v k h => ⟨h.1,fun m => (k p m).elim h.2.1 (fun z => by rw [h.2.2.2.1] at z; cases z),h.2.2.1,h.2.2.2.1,RowsR.avoid k rs rows h.2.2.2.2⟩
  ref := fun M H v h => ⟨p,h.1⟩
  nt := fun M H v h c m => by
    obtain ⟨us,e⟩ := h.2.2.2.2.lst c m
    exact ⟨_,e,fun _ y => by cases y⟩
def tpd (K : PySem.W.Frag)(p : Addr)(rs : List Addr)(rows : List (List D)) : D := .frg (tpF K p rs rows) (.tup (rows.map D.lst))
abbrev DSPX := List D -> (Frg -> D -> Prop) -> (Addr -> Prop) -> Prop
def liftSpPX (K : PySem.W.Frag)(B : BagT)(S : DSPX) : Sp := fun vs H Q E => ∃ (M : Addr -> Prop) (b : Option Addr) (ds : List D) (P : Frg -> D -> Prop) (Ed : Addr -> Prop),S ds P Ed /\ RepAs K M b H ds vs /\ okB B b H /\ (∀ p,b = some p -> M p) /\ (∀ c,M c -> ∃ o,H c = some o) /\
  (∀ f d v H',P f d -> PNew K M H H' f d v -> Kp b H H' -> okB B b H' -> Q v H') /\ ∀ C H',Ed C -> Kp b H H' -> okB B b H' -> E (.ref C) none H'
theorem liftSpPX.len {K : PySem.W.Frag}{B : BagT}{S : DSPX}{n : Nat}(h : ∀ ds P Ed,S ds P Ed -> ds.length = n) : ∀ vs H Q E,liftSpPX K B S vs H Q E -> vs.length = n := fun vs H Q E ⟨M,b,ds,P,Ed,hS,hr,_⟩ => by rw [hr.length]; exact h _ _ _ hS
section
variable {X : Cx}{W : Wd}{e a b c tg iter l : Expr}{es : List Expr}{pos p : Pos}{dA : DA}{x : Str}{k : Nat}{ps : List Str}{S : DSO}{Sp' : DSPX}
end
end L2
set_option Elab.async false
set_option linter.all false
set_option maxRecDepth 100000
set_option maxHeartbeats 4000000
namespace L2
open PySem PySem.Spec PyProof.Rows
section
variable {X : Cx}{W : Wd}{e a b c tg iter l : Expr}{es : List Expr}{pos p : Pos}{dA : DA}{x : Str}{k : Nat}{ps : List Str}{S : DSPX}
structure TpAt (W : Wd)(M : Addr -> Prop)(b : Option Addr)(H : Hp)(v : V)(p : Addr)(rs : List Addr)(rows : List (List D)) : Prop where
  ev : v = .ref p
  np : ¬ M p
  hp : H p = some (.tup (rs.map V.ref))
  ho : ∀ c ∈ rs,M c /\ b ≠ some c /\ W.H0 c = none /\ ¬ W.M0 c
  nd : rs.Nodup
  hr : RowsR W.K M H rs rows
theorem TpAt.of {M : Addr -> Prop}{b : Option Addr}{H : Hp}{v : V}{p : Addr}{rs : List Addr}{rows : List (List D)}(r : RepX W M b H (tpd W.K p rs rows) v) : TpAt W M b H v p rs rows := by
  obtain ⟨ho,⟨e,np,nd,hp,hr⟩,_⟩ := r
  exact ⟨e,np,hp,ho,nd,hr⟩
theorem TpAt.get {M : Addr -> Prop}{b : Option Addr}{H : Hp}{v : V}{p : Addr}{rs : List Addr}{rows : List (List D)}{k : Nat}{row : List D}(t : TpAt W M b H v p rs rows)(er : rows[k]? = some row) : ∃ r us,rs[k]? = some r /\ H r = some (.lst us) /\ Reps W.K M H row us := by
  have hk : k < rs.length := by rw [<- t.hr.length]; exact (List.getElem?_eq_some_iff.mp er).1
  obtain ⟨row',us,er',hh,rr⟩ := t.hr.at (List.getElem?_eq_getElem hk)
  rw [er] at er'; cases er'
  exact ⟨_,us,List.getElem?_eq_getElem hk,hh,rr⟩
theorem PNew.out {pn : List (D × V)}{M : Addr -> Prop}{b : Option Addr}{H H' : Hp}{σ : St}{ρ : Ev}{f : Frg}{d : D}{v : V}(s : Sta W pn M b H σ ρ)(gn : PNew W.K M H H' f d v) : PNew W.K W.M0 W.H0 H' f d v :=
  ⟨fun c m => (s.fresh0 (gn.new c m)).1,f.avoid _ _ H' v (fun c z => .inl (z.imp (s.m0 c) id)) gn.R,Rep.avoid (fun c m => .inl (s.m0 c m)) _ _ gn.rep⟩
end
end L2
set_option Elab.async false
set_option linter.all false
set_option maxRecDepth 100000
set_option maxHeartbeats 4000000
namespace L2
open PySem PySem.Spec PyProof.Rows
end L2
set_option Elab.async false
set_option linter.all false
set_option maxRecDepth 100000
set_option maxHeartbeats 4000000
namespace L2
open PySem PySem.Spec PyProof.Rows
end L2
set_option Elab.async false
set_option linter.all false
set_option maxRecDepth 100000
set_option maxHeartbeats 4000000
namespace L2
open PySem PySem.Spec PyProof.Rows
def tLR1 (ta : TA) : TE := fun σ H Q => ta σ H fun vs H1 => ∃ j,vs = [.int j] /\ (-(2 ^ 20) <= j /\ j <= 1000) /\ ∀ p,H1 p = none -> Q (.ref p) (upd H1 p (.lst (rngV 0 j.toNat)))
theorem pe_listRange1 {X : Cx}{b : Expr}{ta : TA}{p1 p2 pos2 pos : Pos}(hc : X.calm = true)(hg1 : Gl X "list") (hm1 : X.mg "list" = none) (hg2 : Gl X "range") (hm2 : X.mg "range" = none) (ha : PA X [b] ta) (hs2 : starEach [b] X.env = [(false,eval b X.env)] := by rfl)
    (hsl : starEach [.Call (.Name "range" p2) [b] [] pos2] X.env = [(false,eval (.Call (.Name "range" p2) [b] [] pos2) X.env)] := by rfl) : PE X (.Call (.Name "list" p1) [.Call (.Name "range" p2) [b] [] pos2] [] pos) (tLR1 ta) := by
  intro pins s σ H Q I h
  refine Call_ (ld_blt I hg1 hm1 bt_list (PyProof.Rows.callWith_type1 ?_ hsl rfl))
  rw [hsl]
  show wpAny _ _ (spliced ((false,eval (.Call (.Name "range" p2) [b] [] pos2) X.env) :: backTo pos [])) _ _ s
  refine Calls.spliced_cons ?_
  refine Call_ (ld_blt I hg2 hm2 boot_range (PyProof.Rows.callWith_type1 (thn (ha pos2 pins s σ H _ I h) fun us s1 ⟨vs,H1,I1,r1,q1⟩ => ?_) (by rw [hs2]; rfl) (by rfl)))
  obtain ⟨j,rfl,⟨b1,b2⟩,q⟩ := q1
  obtain ⟨u1,rfl,t1⟩ := vals1 r1
  obtain ⟨t,rfl⟩ := t1
  refine call_range_1 ?_
  refine Calls.spliced_nil ?_
  have I2 : Inv X pins σ H1 { s1 with heap := s1.heap.push { cls := .type "range",data := .fields #[.int 0 s1.toks,.int j t,.int 1 (s1.toks + 1)] },toks := s1.toks + 1 + 1 } := I1.kept fun b o e => Heap.get?_push_of_some _ e
  refine call_list_range (n := j.toNat) (I1.ok.hd hc) (IsRange.new ..) (small_one (by omega) (by omega) (by omega) (by omega)) (by rw [rangeSize_one]; split <;> omega) (by omega) fun h' tk acc' c' kp e it => ?_
  refine ⟨.ref _,_,I2.laid (t' := tk) (o := .lst (rngV 0 j.toNat)) kp (Nat.le_refl _) ⟨?_,acc'.toList,c',?_,by simpa using e⟩,rfl,q _ (I2.hok.fresh (Nat.le_refl _))⟩
  · unfold rngV
    rw [List.length_map,List.length_range]
    exact Nat.le_trans (show j.toNat <= 1000 by omega) le1000
  · refine Vals.of_get (by unfold rngV; rw [List.length_map,List.length_range,Array.length_toList,it.1]) fun k x v e1 e2 => ?_
    unfold rngV at e1
    rw [List.getElem?_map] at e1
    have hk : k < j.toNat := by
      have := (List.getElem?_eq_some_iff.mp e2).1
      rw [Array.length_toList,it.1] at this
      exact this
    rw [List.getElem?_range hk] at e1
    cases e1
    obtain ⟨t',rfl⟩ := it.2 k v (by simpa using e2)
    exact ⟨t',by rw [Int.mul_one]⟩
section
variable {X : Cx}{W : Wd}{e a b : Expr}{pos : Pos}{dA : DA}
def dRng1 (dA : DA) : DA := fun ρ P => dA ρ fun xs => match xs with
  | [.int j] => (-(2 ^ 20) <= j /\ j <= 1000) /\ P (rangeD 0 j.toNat)
  | _ => False
theorem jdf_listRange1 {p1 p2 pos2 : Pos}(h : PE X (.Call (.Name "list" p1) [.Call (.Name "range" p2) [b] [] pos2] [] pos) (tLR1 (dnA W dA))) : JF X W (.Call (.Name "list" p1) [.Call (.Name "range" p2) [b] [] pos2] [] pos) (dRng1 dA) := ⟨h.mono fun σ H Q hh => by
  obtain ⟨pn,M,b,ρ,P,st,h,k⟩ := hh
  refine ⟨pn,M,b,ρ,_,st,h,fun xs vs H1 hx rx k1 o1 => ?_⟩
  match xs,hx with
  | [.int j],hx =>
    obtain ⟨v,rfl,r⟩ := rx1 rx
    cases (show _ = _ from r)
    have st1 := st.step k1 o1
    exact ⟨j,rfl,hx.1,fun p hp => k _ _ p _ hx.2 (was_new k1 o1 hp) upd_same (reps_range 0 _) (k1.trans (Kp.upd hp)) (st1.okU hp)⟩⟩
def dSetF (i : Nat)(dF : DA) : DS := fun F ρ => dF ρ fun xs => F.nx (ρ.set i (some (.own xs)))
theorem jds_setF {i : Nat}{y : Str}{pos' : Pos}(hN : X.N.Nodup)(hi : X.N[i]? = some y)(hx : Loc X.env.scope y)(h : JF X W e dA)
    (hs : swapsWith e (some (.Name y pos')) pos.line X.env = pure false := by rfl) (hf : X.fn y = true \/ X.env.scope.names.lookup y = some .local := by first | exact .inl rfl | exact .inr rfl | assumption) :
    JS X W (.Assign [.Name y pos'] e pos) (dSetF i dA) := ⟨(ps_set hN hi hx h.h hs hf).mono fun E σ H hh => hh.elim fun pn M b ρ F s l hd => ⟨pn,M,b,ρ,_,s.toSta,hd,fun xs vs p H' hx n1 e1 r1 k1 o1 => l.nx _ _ _ _ _ (s.gotOwn2 i k1 o1 n1 e1 r1) hx⟩⟩
end
end L2
set_option Elab.async false
set_option linter.all false
set_option maxRecDepth 100000
set_option maxHeartbeats 4000000
namespace L2
open PySem PySem.Spec PyProof.Rows
def masks (m : Nat) : Prop := m = 7 \/ m = 31 \/ m = 127
def advM (m : Nat)(p : SetTable.Probe) : SetTable.Probe := if p.more > 0 then { p with j := p.j + 1,more := p.more - 1 } else { p with j := (SetTable.leap m p.i p.perturb).1,more := SetTable.runEnd m (SetTable.leap m p.i p.perturb).1 - (SetTable.leap m p.i p.perturb).1,i := (SetTable.leap m p.i p.perturb).1,perturb := (SetTable.leap m p.i p.perturb).2 }
def stM (m i q : Nat) : SetTable.Probe := { j := i,more := SetTable.runEnd m i - i,i,perturb := q,dummy := none }
def sqM (m : Nat)(h : Int) : Nat -> SetTable.Probe
  | 0 => stM m (SetTable.bits h % (m + 1)) (SetTable.bits h)
  | n + 1 => advM m (sqM m h n)
def posM (m : Nat)(h : Int)(n : Nat) : Nat := (sqM m h n).j
def gI (m : Nat) : Nat -> Nat -> Nat
  | 0,i => i
  | r + 1,i => gI m r ((5 * i + 1) % (m + 1))
theorem gI_add (m : Nat) : ∀ a b i,gI m (a + b) i = gI m b (gI m a i)
  | 0,b,i => by rw [Nat.zero_add]; rfl
  | a + 1,b,i => by rw [Nat.add_right_comm]; exact gI_add m a b _
theorem orbit_all {m : Nat}(h : masks m) : (∀ j,j <= m -> ∃ r,r <= m /\ gI m r 0 = j) /\ gI m (m + 1) 0 = 0 := by
  have f : ∀ m : Nat,((List.range (m + 1)).all fun j => (List.range (m + 1)).any fun r => gI m r 0 == j) = true -> ∀ j,j <= m -> ∃ r,r <= m /\ gI m r 0 = j := fun m e j hj => by
    have := List.all_eq_true.mp e j (List.mem_range.mpr (by omega))
    obtain ⟨r,hr,q⟩ := List.any_eq_true.mp this
    exact ⟨r,by have := List.mem_range.mp hr; omega,by simpa using q⟩
  rcases h with rfl | rfl | rfl
  · exact ⟨f _ (by decide +kernel),by decide +kernel⟩
  · exact ⟨f _ (by decide +kernel),by decide +kernel⟩
  · exact ⟨f _ (by decide +kernel),by decide +kernel⟩
theorem orbit_any {m : Nat}(h : masks m){i j : Nat}(hi : i <= m)(hj : j <= m) : ∃ r,r <= m /\ gI m r i = j := by
  obtain ⟨o,z⟩ := orbit_all h
  obtain ⟨a,ha,rfl⟩ := o i hi
  obtain ⟨b,hb,rfl⟩ := o j hj
  by_cases l : a <= b
  · exact ⟨b - a,by omega,by rw [<- gI_add,show a + (b - a) = b by omega]⟩
  · refine ⟨b + (m + 1) - a,by omega,?_⟩
    rw [<- gI_add,show a + (b + (m + 1) - a) = (m + 1) + b by omega,gI_add,z]
theorem run_le (m i : Nat)(h : i <= m) : i <= SetTable.runEnd m i /\ SetTable.runEnd m i <= m /\ SetTable.runEnd m i - i <= 9 := by
  unfold SetTable.runEnd
  split <;> omega
theorem run_steps {m i q : Nat}{h : Int}{n : Nat}(e : sqM m h n = stM m i q) : ∀ c,c <= SetTable.runEnd m i - i -> sqM m h (n + c) = { stM m i q with j := i + c,more := SetTable.runEnd m i - i - c }
  | 0,_ => by rw [Nat.add_zero,e]; rfl
  | c + 1,hc => by
    have := run_steps e c (by omega)
    show advM m (sqM m h (n + c)) = _
    rw [this]
    unfold advM
    rw [if_pos (by show SetTable.runEnd m i - i - c > 0; omega)]
    show ({ j := i + c + 1,more := _,i := _,perturb := _,dummy := _ } : SetTable.Probe) = _
    congr 1
theorem run_next {m i q : Nat}{h : Int}{n : Nat}(e : sqM m h n = stM m i q) : sqM m h (n + (SetTable.runEnd m i - i) + 1) = stM m (SetTable.leap m i q).1 (SetTable.leap m i q).2 := by
  have := run_steps e (SetTable.runEnd m i - i) (Nat.le_refl _)
  show advM m (sqM m h (n + (SetTable.runEnd m i - i))) = _
  rw [this]
  unfold advM
  rw [if_neg (by show ¬ SetTable.runEnd m i - i - (SetTable.runEnd m i - i) > 0; omega)]
  rfl
def bsM (m : Nat)(h : Int) : Nat -> Nat × Nat
  | 0 => (SetTable.bits h % (m + 1),SetTable.bits h)
  | k + 1 => SetTable.leap m (bsM m h k).1 (bsM m h k).2
theorem bs_le (m : Nat)(h : Int) : ∀ k,(bsM m h k).1 <= m
  | 0 => Nat.le_of_lt_succ (Nat.mod_lt _ (Nat.succ_pos m))
  | k + 1 => Nat.le_of_lt_succ (Nat.mod_lt _ (Nat.succ_pos m))
theorem bs_at (m : Nat)(h : Int) : ∀ k,∃ n,n <= 10 * k /\ sqM m h n = stM m (bsM m h k).1 (bsM m h k).2
  | 0 => ⟨0,Nat.le_refl _,rfl⟩
  | k + 1 => by
    obtain ⟨n,hn,e⟩ := bs_at m h k
    have := run_le m _ (bs_le m h k)
    exact ⟨_,by omega,run_next e⟩
theorem bs_pert (m : Nat)(h : Int) : ∀ k,(bsM m h k).2 = SetTable.bits h / 32 ^ k
  | 0 => by rw [Nat.pow_zero,Nat.div_one]; rfl
  | k + 1 => by
    show (bsM m h k).2 / 32 = _
    rw [bs_pert m h k,Nat.div_div_eq_div_mul,Nat.pow_succ]
theorem bits_lt (h : Int) : SetTable.bits h < 2 ^ 64 := by
  unfold SetTable.bits
  have := Int.emod_nonneg h (show (2 ^ 64 : Int) ≠ 0 by decide)
  have := Int.emod_lt_of_pos h (show (0 : Int) < 2 ^ 64 by decide)
  omega
theorem bs_late (m : Nat)(h : Int) : ∀ r,(bsM m h (13 + r)).1 = gI m r (bsM m h 13).1
  | 0 => rfl
  | r + 1 => by
    have e := bs_late m h r
    show (((bsM m h (13 + r)).1 * 5 + 1 + (bsM m h (13 + r)).2 / 32) % (m + 1)) = _
    have z : (bsM m h (13 + r)).2 / 32 = 0 := by
      rw [bs_pert,Nat.div_div_eq_div_mul]
      refine Nat.div_eq_of_lt (Nat.lt_of_lt_of_le (bits_lt h) ?_)
      have : 32 ^ 13 <= 32 ^ (13 + r) := Nat.pow_le_pow_right (by decide) (by omega)
      have : (2 : Nat) ^ 64 <= 32 ^ 13 := by decide +kernel
      omega
    rw [z,e,Nat.add_zero,gI_add m r 1]
    show _ = (5 * _ + 1) % (m + 1)
    rw [Nat.mul_comm]
theorem pos_all {m : Nat}(h : masks m)(x : Int){j : Nat}(hj : j <= m) : ∃ n,n < 10 * (m + 15) /\ posM m x n = j := by
  obtain ⟨r,hr,e⟩ := orbit_any h (bs_le m x 13) hj
  obtain ⟨n,hn,q⟩ := bs_at m x (13 + r)
  refine ⟨n,by omega,?_⟩
  unfold posM
  rw [q,bs_late,e]
  rfl
theorem sub_len {α : Type}[BEq α][LawfulBEq α] : ∀ (ks L : List α),ks.Nodup -> (∀ r ∈ ks,r ∈ L) -> ks.length <= L.length
  | [],_,_,_ => Nat.zero_le _
  | k :: ks,L,nd,h => by
    have hk := h k (List.mem_cons_self ..)
    have := sub_len ks (L.erase k) (List.nodup_cons.mp nd).2 fun r hr => (List.mem_erase_of_ne (fun (z : r = k) => (List.nodup_cons.mp nd).1 (by rw [<- z]; exact hr))).mpr (h r (List.mem_cons_of_mem _ hr))
    rw [List.length_erase_of_mem hk] at this
    have := List.length_pos_of_mem hk
    rw [List.length_cons]
    omega
theorem slot_place {t : SetTable}(asc : Asc t.place){i j : Nat}(e : t.place[i]? = some j) : t.slot j = .live i := by
  obtain ⟨b1,b2,b3⟩ := below_spec asc j
  obtain ⟨hi,ei⟩ := Array.getElem?_eq_some_iff.mp e
  have eb : SetTable.below t.place j = i := by
    rcases Nat.lt_trichotomy (SetTable.below t.place j) i with z | z | z
    · have hb : SetTable.below t.place j < t.place.size := by omega
      have a := b3 _ hb (Nat.le_refl _)
      have b := asc.lt z hi
      omega
    · exact z
    · have := b2 i hi z
      omega
  unfold SetTable.slot
  dsimp only
  rw [eb,e]
  simp
theorem slot_not {t : SetTable}(d : t.dummies = #[]){j : Nat}(h : t.slot j ≠ .empty) : ∃ i,t.slot j = .live i /\ t.place[i]? = some j := by
  unfold SetTable.slot at h ⊢
  dsimp only at h ⊢
  split
  · rename_i z
    exact ⟨_,rfl,by simpa using z⟩
  · rename_i z
    rw [if_neg z,d] at h
    simp [SetTable.has] at h
theorem has_room {t : SetTable}(d : t.dummies = #[])(f : t.place.size <= t.mask) : ∃ j,j <= t.mask /\ t.slot j = .empty := by
  apply Decidable.byContradiction
  intro n
  have all : ∀ j ∈ List.range (t.mask + 1),j ∈ t.place.toList := fun j hj => by
    have hj := List.mem_range.mp hj
    have : t.slot j ≠ .empty := fun z => n ⟨j,by omega,z⟩
    obtain ⟨i,_,e⟩ := slot_not d this
    rw [<- Array.getElem?_toList] at e
    exact List.mem_of_getElem? e
  have := sub_len _ _ List.nodup_range all
  rw [List.length_range,Array.length_toList] at this
  omega
theorem least {P : Nat -> Prop} : ∀ n,P n -> ∃ N,N <= n /\ P N /\ ∀ m,m < N -> ¬ P m := by
  intro n
  induction n using Nat.strongRecOn with
  | _ n ih =>
    intro h
    by_cases z : ∃ m,m < n /\ P m
    · obtain ⟨m,hm,q⟩ := z
      obtain ⟨N,a,b,c⟩ := ih m hm q
      exact ⟨N,by omega,b,c⟩
    · exact ⟨n,Nat.le_refl _,h,fun m hm q => z ⟨m,hm,q⟩⟩
theorem search_end {t : SetTable}(hm : masks t.mask)(d : t.dummies = #[])(f : t.place.size <= t.mask)(h : Int) : ∃ N,N < 10 * (t.mask + 15) /\ t.slot (posM t.mask h N) = .empty /\ ∀ m,m < N -> t.slot (posM t.mask h m) ≠ .empty := by
  obtain ⟨j,hj,e⟩ := has_room d f
  obtain ⟨n,hn,rfl⟩ := pos_all hm h hj
  obtain ⟨N,a,b,c⟩ := least (P := fun n => t.slot (posM t.mask h n) = .empty) n e
  exact ⟨N,by omega,b,c⟩
end L2
set_option Elab.async false
set_option linter.all false
set_option maxRecDepth 100000
set_option maxHeartbeats 4000000
namespace L2
open PySem PySem.Spec PyProof.Rows
def Rch (m : Nat)(occ : Nat -> Prop)(h : Int)(j : Nat) : Prop := ∃ n,posM m h n = j /\ ∀ k,k < n -> occ (posM m h k)
structure RT (t : SetTable)(es : Array (Int × Value)) : Prop where
  msk : masks t.mask
  dum : t.dummies = #[]
  asc : Asc t.place
  siz : t.place.size = es.size
  le : es.size <= t.mask
  rch : ∀ q ∈ t.place.toList.zip es.toList,Rch t.mask (· ∈ t.place.toList) q.2.1 q.1
theorem slot_occ {t : SetTable}(d : t.dummies = #[])(a : Asc t.place)(j : Nat) : t.slot j ≠ .empty ↔ j ∈ t.place.toList := by
  constructor
  · intro h
    obtain ⟨i,_,e⟩ := slot_not d h
    rw [<- Array.getElem?_toList] at e
    exact List.mem_of_getElem? e
  · intro h
    obtain ⟨i,e⟩ := List.getElem?_of_mem h
    rw [Array.getElem?_toList] at e
    rw [slot_place a e]
    exact fun z => by cases z
theorem RT.plain {t : SetTable}{es : Array (Int × Value)}(r : RT t es)(b : Bool) : RT { t with plain := b } es := ⟨r.msk,r.dum,r.asc,r.siz,r.le,r.rch⟩
theorem RT.fresh (f m : Nat)(l : Bool) : RT (.fresh f m l) #[] := ⟨.inl rfl,rfl,by simp [SetTable.fresh,Asc],rfl,Nat.zero_le _,fun q h => by simp [SetTable.fresh] at h⟩
theorem RT.end {t : SetTable}{es : Array (Int × Value)}(r : RT t es)(h : Int) : ∃ N,N < 10 * (t.mask + 15) /\ t.slot (posM t.mask h N) = .empty /\ ∀ m,m < N -> t.slot (posM t.mask h m) ≠ .empty := search_end r.msk r.dum (by rw [r.siz]; exact r.le) h
theorem RT.met {t : SetTable}{es : Array (Int × Value)}(r : RT t es){i N : Nat}{e : Int × Value}(he : es[i]? = some e)(eN : t.slot (posM t.mask e.1 N) = .empty) : ∃ n,n < N /\ t.slot (posM t.mask e.1 n) = .live i := by
  have hi : i < es.size := (Array.getElem?_eq_some_iff.mp he).1
  have hp : t.place[i]? = some (t.place[i]'(by rw [r.siz]; exact hi)) := Array.getElem?_eq_getElem _
  have hz : (t.place[i]'(by rw [r.siz]; exact hi),e) ∈ t.place.toList.zip es.toList := by
    refine List.mem_of_getElem? (i := i) ?_
    rw [List.getElem?_zip_eq_some]
    exact ⟨by rw [Array.getElem?_toList]; exact hp,by rw [Array.getElem?_toList]; exact he⟩
  obtain ⟨n,en,o⟩ := r.rch _ hz
  have sl := slot_place r.asc hp
  have en : posM t.mask e.1 n = t.place[i]'(by rw [r.siz]; exact hi) := en
  rw [<- en] at sl
  refine ⟨n,?_,sl⟩
  apply Decidable.byContradiction
  intro z
  by_cases y : N = n
  · rw [y,sl] at eN
    cases eN
  · exact absurd eN ((slot_occ r.dum r.asc _).mpr (o N (by omega)))
end L2
set_option Elab.async false
set_option linter.all false
set_option maxRecDepth 100000
set_option maxHeartbeats 4000000
namespace L2
open PySem PySem.Spec PyProof.Rows
local macro_rules | `(tactic| walk_at "un stored") => do let n := Lean.mkIdent (Lean.mkPrivateNameCore `PySem.SetOps `PySem.storedHashAt); `(tactic| unfold $n)
abbrev TK := List Int × Addr
abbrev thash (prog : Program)(w : World)(k : List Int) : Int := (tiK prog w).hash k
structure TS0 (prog : Program)(w : World)(xs : List TK)(o : Obj)(es : Array (Int × Value))(ep : Nat)(t : SetTable) : Prop where
  ex : o.ExactSet
  da : o.data = .set es ep t
  el : es.toList = xs.map fun x => (thash prog w x.1,Value.ref x.2)
  nd : (xs.map (·.1)).Nodup
  rt : RT t es
  led : w.params.followText "set-order" = false -> t.led = true
  ft : t.fits es.size = true
structure TSo (prog : Program)(w : World)(h : Heap)(xs : List TK)(o : Obj)(es : Array (Int × Value))(ep : Nat)(t : SetTable) : Prop extends TS0 prog w xs o es ep t where
  is : ∀ x ∈ xs,(tiK prog w).is h x.1 x.2
section
variable {prog : Program}{w : World}{A : Around}{E : Value -> Shared -> Prop}{s : Shared}{xs : List TK}{a b : Addr}{o : Obj}{es : Array (Int × Value)}{ep : Nat}{t : SetTable}{k : List Int}
theorem TSo.at (T : TSo prog w s.heap xs o es ep t){i : Nat}{e : Int × Value}(h : es[i]? = some e) : ∃ x,xs[i]? = some x /\ e = (thash prog w x.1,.ref x.2) /\ (tiK prog w).is s.heap x.1 x.2 := by
  rw [<- Array.getElem?_toList,T.el,List.getElem?_map] at h
  obtain ⟨x,ex,rfl⟩ := Option.map_eq_some_iff.mp h
  exact ⟨x,ex,rfl,T.is x (List.mem_of_getElem? ex)⟩
end
end L2
set_option Elab.async false
set_option linter.all false
set_option maxRecDepth 100000
set_option maxHeartbeats 4000000
namespace L2
open PySem PySem.Spec PyProof.Rows
local macro_rules | `(tactic| walk_at "un reordered") => do let n := Lean.mkIdent (Lean.mkPrivateNameCore `PySem.SetOps `PySem.reordered); `(tactic| unfold $n)
def TSt (prog : Program)(w : World)(kas : List TK)(a : Addr)(h : Heap) : Prop := ∃ o xs es ep t,h.get? a = some o /\ TS0 prog w xs o es ep t /\ (∀ x ∈ xs,x ∈ kas) /\ (∀ x ∈ kas,x.1 ∈ xs.map (·.1)) /\ es.size * 5 < t.mask * 3
section
variable {prog : Program}{w : World}{A : Around}{E : Value -> Shared -> Prop}{s : Shared}{xs : List TK}{a b : Addr}{o : Obj}{es : Array (Int × Value)}{ep : Nat}{t : SetTable}{k : List Int}{kas : List TK}
end
end L2
set_option Elab.async false
set_option linter.all false
set_option maxRecDepth 100000
set_option maxHeartbeats 4000000
namespace L2
open PySem PySem.Spec PyProof.Rows
local macro_rules | `(tactic| walk_at "un mled") => do let n := Lean.mkIdent (Lean.mkPrivateNameCore `PySem.SetOps `PySem.mustBeLed); `(tactic| unfold $n)
section
variable {prog : Program}{w : World}{A : Around}{E : Value -> Shared -> Prop}{s : Shared}{xs : List TK}{a b : Addr}{o : Obj}{es : Array (Int × Value)}{ep : Nat}{t : SetTable}{k : List Int}{kas : List TK}
end
end L2
set_option Elab.async false
set_option linter.all false
set_option maxRecDepth 100000
set_option maxHeartbeats 4000000
namespace L2
open PySem PySem.Spec PyProof.Rows
local macro_rules | `(tactic| walk_at "un scmp") => do let n := Lean.mkIdent (Lean.mkPrivateNameCore `PySem.Builtin.Frozenset.W1All `PySem.Builtin.compare); `(tactic| unfold $n)
section
variable {prog : Program}{w : World}{A : Around}{E : Value -> Shared -> Prop}{s : Shared}{xs ys : List TK}{a b : Addr}{o o2 : Obj}{es es2 : Array (Int × Value)}{ep ep2 : Nat}{t t2 : SetTable}{k : List Int}
end
end L2
set_option Elab.async false
set_option linter.all false
set_option maxRecDepth 100000
set_option maxHeartbeats 4000000
namespace L2
open PySem PySem.Spec PyProof.Rows
local macro_rules | `(tactic| walk_at "un scmp") => do let n := Lean.mkIdent (Lean.mkPrivateNameCore `PySem.Builtin.Frozenset.W1All `PySem.Builtin.compare); `(tactic| unfold $n)
section
variable {prog : Program}{w : World}{A : Around}{E : Value -> Shared -> Prop}{s : Shared}{xs ys : List TK}{a b : Addr}{o o2 : Obj}{es es2 : Array (Int × Value)}{ep ep2 : Nat}{t t2 : SetTable}
end
end L2
set_option Elab.async false
set_option linter.all false
set_option maxRecDepth 100000
set_option maxHeartbeats 4000000
namespace L2
open PySem PySem.Spec PyProof.Rows
def TG0 (prog : Program)(w : World)(kas : List TK)(o : Obj) : Prop := ∃ xs es ep t,TS0 prog w xs o es ep t /\ (∀ x ∈ xs,x ∈ kas) /\ (∀ x ∈ kas,x.1 ∈ xs.map (·.1)) /\ es.size * 5 < t.mask * 3
theorem TG0.new {prog : Program}{w : World} : TG0 prog w [] (nSet (!w.params.followText "set-order")) := ⟨[],#[],0,.fresh 0 0 (!w.params.followText "set-order"),⟨⟨rfl,rfl,rfl⟩,rfl,rfl,List.nodup_nil,RT.fresh 0 0 _,fun z => by simp [SetTable.fresh,z],rfl⟩,fun x hx => (by cases hx),fun x hx => (by cases hx),(by show 0 * 5 < 7 * 3; decide)⟩
section
variable {X : Cx}{elt iter tg : Expr}{ifs : List Expr}{scope : Scope}{pos : Pos}{N' : List Str}{map : List (Option Nat)}{wi : TI}{g : TG}{tt : TT}{te : TE}
end
end L2
set_option Elab.async false
set_option linter.all false
set_option maxRecDepth 100000
set_option maxHeartbeats 4000000
namespace L2
open PySem PySem.Spec PyProof PyProof.Rows
section
variable {prog : Program}{w : World}{A : Around}{E : Value -> Shared -> Prop}{s : Shared}{kas : List TK}
theorem TSt.keep {a : Addr}{h h' : Heap}(x : TSt prog w kas a h)(e : ∀ o,h.get? a = some o -> h'.get? a = some o) : TSt prog w kas a h' := by
  obtain ⟨o,xs,es,ep,t,g,r⟩ := x
  exact ⟨o,xs,es,ep,t,e _ g,r⟩
section
variable {R : Result -> Shared -> Prop}{I : Addr}{fp wr : List Addr}{G : Array GenState -> Array GenState -> Prop}{n : Nat}{P : Nat -> Value -> Prop}{St : Nat -> Shared -> Prop}
end
theorem code_new_t (x : Value){Q : Value -> Shared -> Prop}(h : Q (.ref s.heap.objs.size) { s with heap := s.heap.push (nSet (!w.params.followText "set-order")) }) : codeAny (model prog w) A (.call (.builtin "set.__new__") ⟨[.type "set",x],[]⟩) (wants Q E) s := by
  refine codeAny_of_tree ?_
  show wpAny _ A.in1 (do checkBuiltinCall "set.__new__" ⟨[.type "set",x],[]⟩; again (.builtin "set.__new__" ⟨[.type "set",x],[]⟩)) _ _ s
  refine wpAny_bind (wpAny_of_eq (PySem.F.newCall_set_1 x) (wpAny_pure ⟨plainId_quiet PySem.F.plain_set_new _,codeAny_builtin PySem.F.entry_set_new ?_⟩))
  rw [Around.under_plainId PySem.F.plain_set_new _]
  unfold Builtin.«set.__new__» Builtin.Frozenset.newClass
  have hsub := sub_set_self
  obtain ⟨hp,g,d,tk,os⟩ := s
  dsimp only
  wp_walk
  refine wpAny_askSetting (wpAny_pure ?_)
  dsimp only
  simp only [newObj]
  refine wpAny_bind (wpAny_alloc (wpAny_pure ?_))
  exact wpAny_pure h
theorem TSt.new {h : Heap} : TSt prog w [] h.objs.size (h.push (nSet (!w.params.followText "set-order"))) := by
  obtain ⟨xs,es,ep,t,r⟩ := TG0.new (prog := prog) (w := w)
  exact ⟨_,xs,es,ep,t,Heap.get?_push_size _ rfl,r⟩
end
end L2
set_option Elab.async false
set_option linter.all false
set_option maxRecDepth 100000
set_option maxHeartbeats 4000000
namespace L2
open PySem PySem.Spec PyProof PyProof.Rows
section
variable {prog : Program}{w : World}{A : Around}{E : Value -> Shared -> Prop}{s : Shared}{ns : List Int}
theorem ISet.keep {a : Addr}{h h' : Heap}(x : ISet prog w ns a h)(e : ∀ o,h.get? a = some o -> h'.get? a = some o) : ISet prog w ns a h' := by
  obtain ⟨o,es,ep,t,g,r⟩ := x
  exact ⟨o,es,ep,t,e _ g,r⟩
section
variable {R : Result -> Shared -> Prop}{I : Addr}{fp wr : List Addr}{G : Array GenState -> Array GenState -> Prop}{n : Nat}{P : Nat -> Value -> Prop}{St : Nat -> Shared -> Prop}
theorem loop_i (W : WalksS prog w A.in1 I fp wr G n P St)(S : Addr)(hSf : S ∉ fp)(hP : ∀ i v,P i v -> ∃ x k,ns[i]? = some x /\ v = .int x k)(hn : ns.length = n)(hb : ns.length <= 1000) :
    ∀ (k i : Nat) (s : Shared),n - i = k -> i <= n -> St i s -> ISet prog w (ns.take i) S s.heap ->
      (∀ s',Moved (S :: wr) G s s' -> ISet prog w ns S s'.heap -> R (.ok (.ret .none)) s') ->
      codeAny (model prog w) A (.builtin "set.update.loop" ⟨[.ref S,.ref I],[]⟩) R s := by
  have hSw : S ∉ wr := fun h => hSf (W.sub _ h)
  have more : ∀ b ∈ wr,b ∈ S :: wr := fun b hb => List.mem_cons_of_mem _ hb
  intro k
  induction k with
  | zero =>
    intro i s hk hi st T R'
    have e : i = n := by omega
    subst e
    refine codeAny_builtin PyProof.Rows.F.entry_set_update_loop ?_
    rw [Around.under_plainId PyProof.Rows.F.plain_set_update_loop _]
    show wpAny _ A.in1 (pyNext (.ref I) >>= _) _ _ s
    refine wpAny_bind (W.done s _ _ st fun s' hm => ?_)
    refine wpAny_pure (R' s' (hm.mono more) ?_)
    rw [List.take_of_length_le (by omega)] at T
    exact T.keep fun o => hm.heap S o hSw
  | succ k ih =>
    intro i s hk hi st T R'
    have hlt : i < n := by omega
    refine codeAny_builtin PyProof.Rows.F.entry_set_update_loop ?_
    rw [Around.under_plainId PyProof.Rows.F.plain_set_update_loop _]
    show wpAny _ A.in1 (pyNext (.ref I) >>= _) _ _ s
    refine wpAny_bind (W.item i s _ _ hlt st fun v s' hp st' hm => ?_)
    obtain ⟨x,kx,ex,rfl⟩ := hP i v hp
    have T' : ISet prog w (ns.take i) S s'.heap := T.keep fun o => hm.heap S o hSw
    have tk : ns.take (i + 1) = ns.take i ++ [x] := by rw [List.take_add_one,ex]; rfl
    show wpAny _ A.in1 (holding [Value.int x kx] (setAdd S (.int x kx)) >>= _) _ _ s'
    refine wpAny_bind (wpAny_holding (setAdd_i T' (by rw [List.length_take]; omega) fun _ h' sb T2 => ?_))
    rw [<- tk] at T2
    refine wpAny_pure ⟨plainId_quiet PyProof.Rows.F.plain_set_update_loop _,ih (i + 1) _ (by omega) hlt (W.frame _ s' _ _ st' ?_ fun b hb o e => ?_) T2 fun s'' hm'' T3 => ?_⟩
    · exact Nat.le_succ _
    · rw [sb.2 b (fun h : b = S => hSf (by rw [<- h]; exact hb))]; exact e
    · refine R' s'' (Moved.trans W.gtrans ((hm.mono more).then_heap ?_ fun b o hb e => ?_) hm'') T3
      · exact Nat.le_succ _
      · rw [sb.2 b (fun h : b = S => hb (by rw [h]; exact List.mem_cons_self))]; exact e
end
theorem ISet.new {h : Heap} : ISet prog w [] h.objs.size (h.push (nSet (!w.params.followText "set-order"))) := ⟨_,_,_,_,Heap.get?_push_size _ rfl,ISo.new⟩
set_option maxHeartbeats 3200000 in
theorem call_set_nums {l : Addr}{items : Array Value}{Q : Value -> Shared -> Prop}(hh : A.handled = none)(hu : A.units + 8 < cLine)(hl : s.heap.IsList l items)(hi : IntsAre items.toList ns)(hb : ns.length <= 1000)
    (h : ∀ h' tk,ISet prog w ns s.heap.objs.size h' -> (∀ b o,b < s.heap.objs.size -> s.heap.get? b = some o -> h'.get? b = some o) -> Q (.ref s.heap.objs.size) { s with heap := h',toks := tk }) : wpAny (model prog w) A (call (.type "set") [.ref l]) Q E s := by
  obtain ⟨c,tl,hmro⟩ := PySem.F.called_set.mro
  have hmade := PySem.F.called_set.made
  have hsub := PySem.F.called_set.sub
  refine wpAny_call (codeAny_of_tree ?_)
  show wpAny _ _ (callAny (.type "set") _) _ _ _
  refine wpAny_pure ⟨Code.quiet_builtin _ (by decide +kernel),codeAny_builtin PySem.F.entry_type_call ?_⟩
  rw [Around.under_plain (weight_type_call_type "set" [.ref l] []) rfl]
  have h1 := PySem.F.called_set.notType
  have h2 := PySem.F.called_set.canCreate
  have hct := PySem.F.typeCall_set_1 (.ref l)
  repeat (any_goals (first | assumption | wp_step))
  obtain ⟨led,hled⟩ : ∃ led,led = !w.params.followText "set-order" := ⟨_,rfl⟩
  have tn : ISet prog w [] s.heap.objs.size (s.heap.push (nSet led)) := by rw [hled]; exact ISet.new
  refine codeAny_mono (code_new_t (.ref l) (E := E) (Q := fun obj s₁ => obj = .ref s.heap.objs.size /\ s₁ = { s with heap := s.heap.push (nSet led) }) ⟨rfl,by rw [hled]⟩) fun r s₁ hr => ?_
  cases r with
  | error e => exact hr
  | ok fl =>
    cases fl with
    | ret obj =>
      obtain ⟨rfl,rfl⟩ := hr
      have hS : (s.heap.push (nSet led)).get? s.heap.objs.size = some (nSet led) := Heap.get?_push_size _ rfl
      have hT : Shared.TypeIs { s with heap := s.heap.push (nSet led) } (.ref s.heap.objs.size) "set" := ⟨_,hS,rfl⟩
      have hli := PySem.F.called_set.init.lookup
      have hbi := PySem.F.called_set.init.bind (.ref s.heap.objs.size)
      repeat (any_goals (first | assumption | wp_step))
      refine codeAny_mono (codeAny_call_builtin (R := wants (fun r s₂ => r = .none /\ ∃ h' tk,s₂ = { s with heap := h',toks := tk } /\ ISet prog w ns s.heap.objs.size h' /\ (∀ b o,b < s.heap.objs.size -> s.heap.get? b = some o -> h'.get? b = some o)) E) PySem.F.called_set.init.plain PySem.F.entry_set_init (check_set_init_1 hT ?_)) fun r₂ s₂ hr₂ => ?_
      · obtain ⟨ol,hol,hcl,nl',hdl⟩ := hl
        obtain ⟨ocls,odict,odata,oslots⟩ := ol
        simp only at hcl hdl
        subst hcl; subst hdl
        have hol' : (s.heap.push (nSet led)).get? l = some { cls := .type "list",dict := odict,data := .seq items nl',slots := oslots } := Heap.get?_push_of_some _ hol
        have hsls := PySem.F.sub_list_set
        have hslf := PySem.F.sub_list_frozenset
        have hne : (Value.type "list" == Value.type "dict") = false := by decide
        have hl1 : (s.heap.push (nSet led)).IsList l items := ⟨_,hol',rfl,nl',rfl⟩
        unfold Builtin.«set.__init__» noKeywords Builtin.Frozenset.updateFrom
        generalize hPI : pyIter = PI
        unfold nSet at *
        wp_walk
        subst hPI
        refine wpAny_pyIter_list hl1 ?_
        refine wpAny_bind (wpAny_runValue ?_)
        have hlS : l < s.heap.objs.size := Heap.lt_size hol
        have hh3 : A.in1.in1.in1.handled = none := by simp [hh]
        have hneI : l ≠ (s.heap.push (nSet led)).objs.size := by
          rw [Heap.size_push]; exact Nat.ne_of_lt (Nat.lt_succ_of_lt hlS)
        have hSf : s.heap.objs.size ∉ [(s.heap.push (nSet led)).objs.size,l] := by
          rw [Heap.size_push]; simp only [List.mem_cons,List.not_mem_nil,or_false,not_or]
          exact ⟨Nat.ne_of_lt (Nat.lt_succ_self _),Nat.ne_of_gt hlS⟩
        have hz : ns.length = items.size := by rw [<- Array.length_toList]; exact (IntsAre.length hi).symm
        refine loop_i (ns := ns) ((Walks.list hh3 _ l hneI items).toS) s.heap.objs.size hSf (fun i v hv => ?_) hz hb (items.size - 0) 0 _ (by omega) (Nat.zero_le _) ⟨⟨_,Heap.get?_push_size _ rfl,rfl,rfl⟩,(hl1.push _)⟩ (tn.keep fun o => Heap.get?_push_of_some _) fun s' hm T => ?_
        · have e : items.toList[i]? = some v := by rw [Array.getElem?_toList]; exact hv
          obtain ⟨k,ek⟩ := IntsAre.int_at hi i v e
          have il : i < ns.length := by
            have := (List.getElem?_eq_some_iff.mp e).1
            rw [IntsAre.length hi] at this
            exact this
          refine ⟨ns[i],k,List.getElem?_eq_getElem il,?_⟩
          rw [ek,List.getD_eq_getElem?_getD,List.getElem?_eq_getElem il]
          rfl
        · obtain ⟨h',g',d',tk',os'⟩ := s'
          have eg : g' = s.gens := hm.gens
          have ed : d' = s.drawn := hm.drawn
          have eo : os' = s.os := hm.os
          subst eg; subst ed; subst eo
          show wpAny _ _ _ _ _ _
          refine wpAny_pure ?_
          show wpAny _ _ (ret Value.none) _ _ _
          refine wpAny_pure ⟨rfl,h',tk',rfl,T,fun b o hb e => ?_⟩
          refine hm.heap b o ?_ (Heap.get?_push_of_some _ (Heap.get?_push_of_some _ e))
          rw [Heap.size_push]
          simp only [List.mem_cons,List.not_mem_nil,or_false,not_or]
          exact ⟨Nat.ne_of_lt hb,Nat.ne_of_lt (Nat.lt_succ_of_lt hb)⟩
      · cases r₂ with
        | error e => exact hr₂
        | ok fl₂ =>
          cases fl₂ with
          | ret r =>
            obtain ⟨rfl,h',tk,rfl,T,k⟩ := hr₂
            repeat (any_goals (first | assumption | wp_step))
            exact h _ _ T k
          | _ => exact hr₂.elim
    | _ => exact hr.elim
end
end L2
set_option Elab.async false
set_option linter.all false
set_option maxRecDepth 100000
set_option maxHeartbeats 4000000
namespace L2
open PySem PySem.Spec PyProof.Rows
section
variable {X : Cx}{W : Wd}{e : Expr}{dA : DA}
def rSetI (K : PySem.W.Frag)(P : Program × World) : List V -> Hp -> VK -> Prop := fun xs H Q => ∃ (l : Addr) (ns : List Int),xs = [.ref l] /\ SqL K H l (ns.map V.int) /\ ns.length <= 1000 /\ ∀ p,H p = none -> Q (.ref p) (upd H p (SOb P.1 P.2 ns p))
theorem call_setI (K : PySem.W.Frag)(hK : X.K = K)(hc : X.calm = true)(hu : X.A.units + 8 < cLine) : CallR X (.type "set") (rSetI K (X.prog,X.w)) := by
  subst hK
  intro pins s σ H xs us Q I r h
  obtain ⟨l,ns,rfl,ha,hl,q⟩ := h
  obtain ⟨u,rfl,ru⟩ := vals1 r
  cases (show _ = _ from ru)
  obtain ⟨its,rv,pl,_⟩ := I.list ha
  refine call_set_nums (I.ok.hd hc) hu pl.isList (ns := ns) (by simpa using intsAre_of rv) hl fun h' tk T old => ?_
  obtain ⟨oS,es,ep,t,gS,rest⟩ := T
  have new : ObjOk X.prog X.w (upd H s.heap.objs.size (SOb X.prog X.w ns s.heap.objs.size)) h' s.heap.objs.size (SOb X.prog X.w ns s.heap.objs.size) := ⟨⟨oS,es,ep,t,gS,rest⟩,⟨oS,gS⟩,fun h1 h2 ⟨o,es,ep,t,g,I⟩ k => ⟨o,es,ep,t,k o g,I⟩⟩
  exact ⟨.ref s.heap.objs.size,_,I.laid (a := s.heap.objs.size) (h' := h') (t' := tk) (o := SOb X.prog X.w ns s.heap.objs.size) (fun b o e => old b o (Heap.lt_size e) e) (Nat.le_refl _) new,rfl,q _ (I.hok.fresh (Nat.le_refl _))⟩
def rSortS (P : Program × World) : List V -> Hp -> VK -> Prop := fun xs H Q => ∃ (D : Addr) (ns : List Int) (N : Nat),xs = [.ref D] /\ H D = some (SOb P.1 P.2 ns D) /\ (∀ z ∈ ns,0 <= z /\ z < (N : Int)) /\ N < 64 /\ ∀ (p : Addr) (ks : List Int),H p = none -> ks.Pairwise (· < ·) -> (∀ z,z ∈ ks ↔ z ∈ ns) -> Q (.ref p) (upd H p (.lst (ks.map V.int)))
theorem call_sortedI (hc : X.calm = true) : CallR X (.builtin "sorted") (rSortS (X.prog,X.w)) := call_sortedS hc
def dSortSet (dA : DA) : DE := fun ρ P => dA ρ fun xs => ∃ (ns : List Int) (N : Nat),xs = [.lst (ns.map D.int)] /\ ns.length <= 1000 /\ (∀ z ∈ ns,0 <= z /\ z < (N : Int)) /\ N < 64 /\ ∀ ks : List Int,ks.Pairwise (· < ·) -> (∀ z,z ∈ ks ↔ z ∈ ns) -> P (.lst (ks.map D.int))
theorem jde_sortSet (h : PE X e (tCB (rSortS (X.prog,X.w)) (tCons (tCB (rSetI W.K (X.prog,X.w)) (dnA W dA)) tNil))) : JE X W e (dSortSet dA) := ⟨h.mono fun σ H Q hh => hh.elim fun pn M b ρ P st h k => by
  refine ⟨pn,M,b,ρ,_,st,h,fun xs vs H1 hx rx k1 o1 => ?_⟩
  obtain ⟨ns,N,rfl,hl,hN,h64,hP⟩ := hx
  obtain ⟨v,rfl,r⟩ := rx1 rx
  obtain ⟨a,us,rfl,ha,rr⟩ := r
  cases reps_ints rr
  have st1 := st.step k1 o1
  refine ⟨a,ns,rfl,SqL.of ha.2,hl,fun D hD => ?_⟩
  have o3 := st1.toHs.okU (o := SOb X.prog X.w ns D) hD
  have st3 := st1.step (Kp.upd (o := SOb X.prog X.w ns D) hD) o3
  refine ⟨D,ns,N,rfl,upd_same,hN,h64,fun r ks hr so me => ?_⟩
  exact k _ _ _ (hP ks so me) (new_ints st3.toHs hr ks) ((k1.trans (Kp.upd hD)).trans (Kp.upd hr)) (st3.toHs.okU hr)⟩
end
end L2
set_option Elab.async false
set_option linter.all false
set_option maxRecDepth 100000
set_option maxHeartbeats 4000000
namespace L2
open PySem PySem.Spec PyProof.Rows
section
variable {prog : Program}{w : World}{A : Around}{E : Value -> Shared -> Prop}{s : Shared}
theorem collect_tup {l : Addr}{vs : List Value}{Q : List Value -> Shared -> Prop}(hl : s.heap.IsTuple l vs.toArray)
    (h : Q vs { s with heap := (s.heap.push (seqObj "list" #[] 0)).update s.heap.objs.size (Obj.mapSeq (· ++ vs.toArray)) }) (hsz : vs.length <= sizeLine) : wpAny (model prog w) A (collect (.ref l)) Q E s := by
  obtain ⟨o,ho,hc,n,hd⟩ := id hl
  unfold collect
  refine wpAny_bind (wpAny_runValue (codeAny_builtin F.entry_proto_collect ?_))
  rw [Around.under_plainId F.plain_proto_collect _]
  show wpAny _ A.in1 (newList [] >>= fun r => again (.builtin "list.__iadd__" ⟨[r,.ref l],[]⟩)) _ _ s
  refine wpAny_bind (wpAny_newList ?_)
  refine wpAny_pure ⟨plainId_quiet F.plain_list_iadd _,codeAny_builtin F.entry_list_iadd ?_⟩
  rw [Around.under_plainId F.plain_list_iadd _]
  show wpAny _ A.in1 (Builtin.List.listExtendWith (.ref s.heap.objs.size) (.ref l) (.ref s.heap.objs.size)) _ _ { s with heap := s.heap.push (seqObj "list" #[] 0) }
  unfold Builtin.List.listExtendWith
  have ho2 : (s.heap.push (seqObj "list" #[] 0)).get? l = some o := Heap.get?_push_of_some _ ho
  refine wpAny_bind (wpAny_typeOf (T := "tuple") ⟨o,ho2,hc⟩ ?_)
  rw [if_pos (by rw [show (Value.type "tuple" == Value.type "tuple") = true from by rfl,Bool.or_true])]
  refine wpAny_bind (listItems_at ho2 hd ?_)
  refine wpAny_bind (listItems_at (xs := #[]) (n := 0) (Heap.get?_push_size _ rfl) rfl ?_)
  rw [if_neg (by simp)]
  refine wpAny_bind (listUpdate_at (xs := #[]) (n := 0) (Heap.get?_push_size _ rfl) rfl ?_ (Nat.zero_le _) (by show (#[] ++ vs.toArray).size <= sizeLine + 1; simp; omega))
  refine wpAny_pure (wpAny_bind (wpAny_load (get?_update_seq (Heap.get?_push_size _ rfl) _) ?_))
  show wpAny _ _ (pure ((#[] : Array Value) ++ vs.toArray).toList) Q E _
  rw [show ((#[] : Array Value) ++ vs.toArray).toList = vs by simp]
  exact wpAny_pure h
theorem sorted_numsT {l : Addr}{vs : List Value}{zs : List Int}{Q : Value -> Shared -> Prop}(il : s.heap.IsTuple l vs.toArray)(vi : IntsAre vs zs)(h64 : vs.length < 64)
    (h : ∀ (out : Array Value) (ks : List Int) (L : Addr) (e : Nat) h' tk,IntsAre out.toList ks -> ks.Perm zs -> ks.Pairwise (· <= ·) -> h'.get? L = some (seqObj "list" out e) -> s.heap.objs.size <= L -> (∀ b o,s.heap.get? b = some o -> h'.get? b = some o) -> Q (.ref L) { s with heap := h',toks := tk }) :
    wpAny (model prog w) A (call (.builtin "sorted") [.ref l]) Q E s := by
  refine Calls.call_function_entry kind_sorted plain_sorted entry_sorted (args_sorted1 _) ?_
  unfold Builtin.«sorted»
  refine wpAny_bind (m := checkCount "sorted" 1 1 _) (wpAny_pure ?_)
  refine wpAny_bind (collect_tup il ?_ (by rw [sizeLine_eq]; omega))
  refine wpAny_bind (wpAny_newList ?_)
  have z1 : ((s.heap.push (seqObj "list" #[] 0)).update s.heap.objs.size (Obj.mapSeq (· ++ vs.toArray))).objs.size = s.heap.objs.size + 1 := by
    rw [Heap.size_update,size_push']
  generalize hH : (s.heap.push (seqObj "list" #[] 0)).update s.heap.objs.size (Obj.mapSeq (· ++ vs.toArray)) = H1 at z1
  have k1 : ∀ b o,s.heap.get? b = some o -> H1.get? b = some o := fun b o e => by
    have hlt : b < s.heap.objs.size := Heap.lt_size e
    rw [<- hH,Heap.get?_update_ne _ _ _ _ (Nat.ne_of_lt hlt),Heap.get?_push_ne _ _ _ (Nat.ne_of_lt hlt)]
    exact e
  have g2 : (H1.push (seqObj "list" vs.toArray 0)).get? H1.objs.size = some (seqObj "list" vs.toArray 0) := Heap.get?_push_size _ rfl
  refine wpAny_bind (wpAny_holding (wpAny_call_entry (s := { s with heap := H1.push (seqObj "list" vs.toArray 0) }) slot_list_sort ⟨_,g2,rfl⟩ entry_list_sort (list_sort_tree g2 vi h64 fun out ks a1 a2 a3 => ⟨_,rfl,?_⟩) (args_list_sort _)))
  refine wpAny_pure ⟨_,rfl,?_⟩
  show Q (.ref H1.objs.size) { s with heap := sortedHeap (H1.push (seqObj "list" vs.toArray 0)) H1.objs.size vs out }
  unfold sortedHeap
  obtain ⟨e1,q1⟩ : ∃ e1,((H1.push (seqObj "list" vs.toArray 0)).update H1.objs.size (Obj.mapSeq fun _ => #[])).get? H1.objs.size = some (seqObj "list" #[] e1) := ⟨_,get?_update_seq g2 (fun _ => #[])⟩
  have q2 := Heap.get?_push_of_some (seqObj "list" #[] 0) (Heap.get?_push_of_some (seqObj "tuple" vs.toArray 0) q1)
  obtain ⟨e3,q3⟩ : ∃ e3,(((((H1.push (seqObj "list" vs.toArray 0)).update H1.objs.size (Obj.mapSeq fun _ => #[])).push (seqObj "tuple" vs.toArray 0)).push (seqObj "list" #[] 0)).update H1.objs.size (Obj.mapSeq fun _ => out)).get? H1.objs.size = some (seqObj "list" out e3) := ⟨_,get?_update_seq q2 (fun _ => out)⟩
  refine h out ks H1.objs.size e3 _ _ a1 a2 a3 q3 (by omega) fun b q e => ?_
  have bl := Heap.lt_size e
  have nb : b ≠ H1.objs.size := by
    intro z
    rw [z,z1] at bl
    exact Nat.lt_irrefl _ (Nat.lt_of_succ_lt bl)
  rw [Heap.get?_update_ne _ _ _ _ nb]
  refine Heap.get?_push_of_some _ (Heap.get?_push_of_some _ ?_)
  rw [Heap.get?_update_ne _ _ _ _ nb]
  exact Heap.get?_push_of_some _ (k1 b q e)
end
def rSortNT (K : PySem.W.Frag) : List V -> Hp -> VK -> Prop := fun xs H Q => ∃ (D : Addr) (zs : List Int),xs = [.ref D] /\ SqT K H D (zs.map V.int) /\ zs.length < 64 /\ ∀ (p : Addr) (ks : List Int),H p = none -> ks.Perm zs -> ks.Pairwise (· <= ·) -> Q (.ref p) (upd H p (.lst (ks.map V.int)))
theorem call_sortNT {X : Cx}(K : PySem.W.Frag)(hK : X.K = K) : CallR X (.builtin "sorted") (rSortNT K) := by
  subst hK
  intro pins s σ H xs us Q I r h
  obtain ⟨D,zs,rfl,hD,h64,q⟩ := h
  obtain ⟨u,rfl,rx⟩ := vals1 r
  cases rx
  obtain ⟨its,rv,pl,hz⟩ := I.tuple hD
  have vi := ints_of_vals rv
  have hl := rv.length
  rw [List.length_map] at hl
  refine sorted_numsT (tup_is pl) vi (by omega) fun out ks L ep h' tk a1 a2 a3 g zL k => ?_
  have hL : H L = none := I.hok.fresh zL
  have J := I.laid (a := L) (o := .lst (ks.map V.int)) (t' := tk) (h' := h') k zL ⟨by rw [List.length_map,a2.length_eq,sizeLine_eq]; omega,out.toList,ep,vals_of_ints a1,by simpa using g⟩
  exact ⟨.ref L,_,J,rfl,q L ks hL a2 a3⟩
def srtNTP (x : D)(P : List D -> Prop) : Prop := ∃ zs : List Int,x = .tup (zs.map D.int) /\ zs.length < 64 /\ ∀ ks : List Int,ks.Perm zs -> ks.Pairwise (· <= ·) -> P (ks.map D.int)
section
variable {X : Cx}{W : Wd}{a : Expr}{dA : DA}
def dSrtNT (da : DA) : DA := fun ρ P => da ρ fun xs => match xs with
  | [x] => srtNTP x P
  | _ => False
theorem jdf_sortNT {lpos npos : Pos}(ha : JA X W [a] dA)(h : PE X (.Call (.Name "sorted" npos) [a] [] lpos) (tCB (rSortNT W.K) (dnA W dA))) : JF X W (.Call (.Name "sorted" npos) [a] [] lpos) (dSrtNT dA) := ⟨h.mono fun σ H Q hh => by
  obtain ⟨pn,M,b,ρ,P,st,h,k⟩ := hh
  refine ⟨pn,M,b,ρ,_,st,h,fun xs vs H1 hx rx k1 o1 => ?_⟩
  match xs,hx with
  | [x],hx =>
    obtain ⟨v,rfl,r⟩ := rx1 rx
    obtain ⟨zs,rfl,h64,hP⟩ := hx
    obtain ⟨a1,us,rfl,h1,r1⟩ := r
    cases reps_ints r1
    refine ⟨a1,zs,rfl,h1.sq,h64,fun p ks hp pq so => ?_⟩
    exact k _ _ p _ (hP ks pq so) (was_new k1 o1 hp) upd_same (reps_of_ints ks) (k1.trans (Kp.upd hp)) ((st.step k1 o1).toHs.okU hp)⟩
end
end L2
set_option Elab.async false
set_option linter.all false
set_option maxRecDepth 100000
set_option maxHeartbeats 4000000
namespace L2
open PySem PySem.Spec PyProof.Rows
end L2
set_option Elab.async false
set_option linter.all false
set_option maxRecDepth 100000
set_option maxHeartbeats 4000000
namespace L2
open PySem PySem.Spec PyProof.Rows
section
variable {X : Cx}{W : Wd}{pos : Pos}{e : Expr}
theorem grd_at {pn : List (D × V)}{M : Addr -> Prop}{b : Option Addr}{H : Hp}{σ : St}{ρ : Ev}{i : Nat}{a : Addr}{rs : List Addr}{rows : List (List D)}(s : Sta W pn M b H σ ρ)(e1 : ρ[i]? = some (some (grd W.K a rs rows))) : σ[i]? = some (some (.ref a)) /\ H a = some (.lst (rs.map V.ref)) /\ RowsR W.K M H rs rows := by
  obtain ⟨v,ev,rg⟩ := s.env i _ e1
  obtain ⟨rfl,ho,nd,ha,hr⟩ := grd_of rg
  exact ⟨ev,ha,hr⟩
end
end L2
set_option Elab.async false
set_option linter.all false
set_option maxRecDepth 100000
set_option maxHeartbeats 4000000
namespace L2
open PySem PySem.Spec PyProof.Rows
def rwI (row : List Int) : D := .lst (row.map D.int)
def bnkF (H0 : Hp)(a : Addr)(rs : List Addr)(rows : List (List Int)) : Frg where
  ads := [a]
  R := fun M H v => v = .ref a /\ H a = some (.lst (rs.map V.ref)) /\ rs.Nodup /\ rs.length = rows.length /\ ∀ (k : Nat) r row,rs[k]? = some r -> rows[k]? = some row -> ¬ M r /\ H0 r = none /\ H r = some (.lst (row.map V.int))
  keep := fun M H H' v k h => ⟨h.1,k _ _ (.inr (by simp)) h.2.1,h.2.2.1,h.2.2.2.1,fun i r row e1 e2 => let ⟨z1,z2,z3⟩ := h.2.2.2.2 i r row e1 e2; ⟨z1,z2,k _ _ (.inl z1) z3⟩⟩
  avoid := fun M M' H v k h => ⟨h.1,h.2.1,h.2.2.1,h.2.2.2.1,fun i r row e1 e2 => by
    obtain ⟨z1,z2,z3⟩ := h.2.2.2.2 i r row e1 e2
    refine ⟨fun m => ?_,z2,z3⟩
    rcases k r m with n | n
    · exact z1 n
    · rw [n] at z3; cases z3⟩
  ref := fun M H v h => ⟨a,h.1⟩
  nt := fun M H v h c m => by
    obtain rfl := List.mem_singleton.mp m
    exact ⟨_,h.2.1,fun vs => by simp⟩
def bnk (H0 : Hp)(a : Addr)(rs : List Addr)(rows : List (List Int)) : D := .frg (bnkF H0 a rs rows) (.lst (rows.map rwI))
theorem repsI11 {K : PySem.W.Frag}{M : Addr -> Prop}{H : Hp} : ∀ row : List Int,Reps K M H (row.map D.int) (row.map V.int)
  | [] => rfl
  | i :: r => ⟨_,_,rfl,rfl,repsI11 r⟩
theorem bnk_reps {K : PySem.W.Frag}{M : Addr -> Prop}{H : Hp} : ∀ (rs : List Addr) (rows : List (List Int)),rs.length = rows.length -> (∀ (k : Nat) r row,rs[k]? = some r -> rows[k]? = some row -> ¬ M r /\ H r = some (.lst (row.map V.int))) -> Reps K M H (rows.map rwI) (rs.map V.ref)
  | [],[],_,_ => rfl
  | [],_ :: _,e,_ => by cases e
  | _ :: _,[],e,_ => by cases e
  | r :: rs,row :: rows,e,h => by
    obtain ⟨z1,z2⟩ := h 0 r row rfl rfl
    exact ⟨.ref r,_,rfl,⟨r,_,rfl,⟨z1,z2⟩,repsI11 row⟩,bnk_reps rs rows (by simpa using e) fun k r' row' e1 e2 => h (k + 1) r' row' (by simpa using e1) (by simpa using e2)⟩
theorem bnk_rep {W : Wd}{M : Addr -> Prop}{b : Option Addr}{H : Hp}{a : Addr}{rs : List Addr}{rows : List (List Int)}(ho : M a /\ b ≠ some a /\ W.H0 a = none /\ ¬ W.M0 a)(ha : H a = some (.lst (rs.map V.ref)))(nd : rs.Nodup)(hl : rs.length = rows.length)(hr : ∀ (k : Nat) r row,rs[k]? = some r -> rows[k]? = some row -> ¬ M r /\ W.H0 r = none /\ H r = some (.lst (row.map V.int))) : RepX W M b H (bnk W.H0 a rs rows) (.ref a) :=
  ⟨fun c m => by
    obtain rfl := List.mem_singleton.mp m
    exact ho,⟨rfl,ha,nd,hl,hr⟩,⟨a,_,rfl,⟨fun m => m.2 (List.mem_singleton.mpr rfl),ha⟩,bnk_reps rs rows hl fun k r row e1 e2 => ⟨fun m => (hr k r row e1 e2).1 m.1,(hr k r row e1 e2).2.2⟩⟩⟩
theorem bnk_of {W : Wd}{M : Addr -> Prop}{b : Option Addr}{H H0 : Hp}{a : Addr}{rs : List Addr}{rows : List (List Int)}{v : V}(h : RepX W M b H (bnk H0 a rs rows) v) : v = .ref a /\ (M a /\ b ≠ some a /\ W.H0 a = none /\ ¬ W.M0 a) /\ H a = some (.lst (rs.map V.ref)) /\ rs.Nodup /\ rs.length = rows.length /\ ∀ (k : Nat) r row,rs[k]? = some r -> rows[k]? = some row -> ¬ M r /\ H0 r = none /\ H r = some (.lst (row.map V.int)) := ⟨h.2.1.1,h.1 a (List.mem_singleton.mpr rfl),h.2.1.2⟩
section
variable {X : Cx}{W : Wd}{sts : List Stmt}{d : DS}
theorem set_idem {α : Type}{l : List (Option α)}{i : Nat}{x : α}(h : l[i]? = some (some x)) : l.set i (some x) = l := by
  apply List.ext_getElem?
  intro n
  by_cases z : i = n
  · subst z; rw [List.getElem?_set,h]; simp; exact (List.getElem?_eq_some_iff.mp h).1
  · rw [List.getElem?_set_ne z]
theorem StS.bank {pn : List (D × V)}{M : Addr -> Prop}{b : Option Addr}{H : Hp}{σ : St}{ρ : Ev}(s : StS W pn M b H σ ρ){i : Nat}(e : ρ[i]? = some (some (.own []))) : ∃ a,StS W pn M b H σ (ρ.set i (some (bnk W.H0 a [] []))) := by
  obtain ⟨v,e1,a,us,rfl,m1,m2,m3,m4,hh,r⟩ := s.env i _ e
  obtain rfl : us = [] := r
  refine ⟨a,s.of2 ⟨s.toHs,s.kp,s.new,fun j d' e' => ?_,by simp [s.len],s.pin⟩ (fun _ _ q => q) fun j d' v' c e' e2 m => ?_⟩
  · by_cases z : i = j
    · subst z
      rw [List.getElem?_set] at e'
      simp at e'
      obtain ⟨_,rfl⟩ := e'
      exact ⟨.ref a,e1,bnk_rep ⟨m1,m2,m3,m4⟩ hh List.nodup_nil rfl fun k r row e1 e2 => by simp at e1⟩
    · rw [List.getElem?_set_ne z] at e'; exact s.env j d' e'
  · by_cases z : i = j
    · subst z
      rw [List.getElem?_set] at e'
      simp at e'
      obtain ⟨_,rfl⟩ := e'
      rw [e1] at e2
      cases e2
      obtain rfl := List.mem_singleton.mp (show c ∈ [a] from m)
      exact ⟨_,e,e1,rfl⟩
    · rw [List.getElem?_set_ne z] at e'; exact ⟨d',e',e2,m⟩
def dThenB (H0 : Hp)(i : Nat)(d : DS) : DS := fun F ρ => d { F with nx := fun ρ' => ρ'[i]? = some (some (.own [])) /\ ∀ a,F.nx (ρ'.set i (some (bnk H0 a [] []))) } ρ
theorem jds_thenB {st : Stmt}(i : Nat)(h : JS X W st d) : JS X W st (dThenB W.H0 i d) := ⟨h.h.mono fun E σ H hh => hh.elim fun pn M b ρ F s l q =>
  ⟨pn,M,b,ρ,{ F with nx := fun ρ' => ρ'[i]? = some (some (.own [])) /\ ∀ a,F.nx (ρ'.set i (some (bnk W.H0 a [] []))) },s,⟨fun M b ρ σ H s' h' => by
    obtain ⟨a,s2⟩ := s'.bank h'.1
    exact l.nx _ _ _ _ _ s2 (h'.2 a),l.rt,l.bk,l.ct,l.ro⟩,q⟩⟩
theorem StS.frz {pn : List (D × V)}{M : Addr -> Prop}{b : Option Addr}{H : Hp}{σ : St}{ρ : Ev}(s : StS W pn M b H σ ρ){i : Nat}{xs : List D}{a : Addr}(e : ρ[i]? = some (some (.own xs)))(e1 : σ[i]? = some (some (.ref a))) : StS W pn (fun c => M c /\ c ≠ a) b H σ (ρ.set i (some (.lst xs))) := by
  obtain ⟨v,e0,a',us,ev,m1,m2,m3,m4,hh,r⟩ := s.env i _ e
  rw [e1] at e0
  cases e0
  cases ev
  have st : Sta W pn (fun c => M c /\ c ≠ a) b H σ (ρ.set i none) := by
    refine Sta.avoid (M := M) ⟨s.toHs,s.kp,s.new,fun j d e' => ?_,by simp [s.len],s.pin⟩ (fun c m => m.1) (fun p z => ⟨s.bagM p z,fun y => m2 (by rw [<- y]; exact z)⟩) (fun c m => ⟨s.m0 c m,fun y => m4 (by rw [<- y]; exact m)⟩) (fun j d' v' c' e' e2 mm => ?_) fun ys a' hq => ⟨by
      obtain ⟨a2,us2,ev,n1,_⟩ := (s.pin _ hq)
      cases ev; exact n1,fun y => s.lk ys a' hq i xs e (by rw [y]; exact e1)⟩
    · by_cases z : i = j
      · subst z; rw [List.getElem?_set] at e'; simp at e'
      · rw [List.getElem?_set_ne z] at e'; exact s.env j d e'
    · by_cases z : i = j
      · subst z; rw [List.getElem?_set] at e'; simp at e'
      · rw [List.getElem?_set_ne z] at e'
        obtain ⟨v3,e3,r3⟩ := s.env j _ e'
        rw [e2] at e3; cases e3
        exact ⟨(r3.mine mm).1,fun y => z (s.dj i j _ _ _ _ a e e' e1 e2 rfl (by rw [<- y]; exact mm))⟩
  have st2 := st.set (x := .lst xs) (v := .ref a) i ⟨a,us,rfl,⟨fun m => m.2 rfl,hh⟩,Reps.avoid (fun c m => .inl m.1) _ _ r⟩
  rw [set_idem e1,List.set_set] at st2
  refine s.of st2 fun j ys hm e' => ?_
  by_cases z : i = j
  · subst z; rw [List.getElem?_set] at e'; simp at e'; rw [<- e'.2] at hm; cases hm
  · rw [List.getElem?_set_ne z] at e'; exact ⟨e',rfl⟩
theorem valsI11 {K : PySem.W.Frag}{M : Addr -> Prop}{H : Hp} : ∀ {row : List Int} {us : List V},Reps K M H (row.map D.int) us -> us = row.map V.int
  | [],_,h => h
  | i :: r,_,h => by
    obtain ⟨v,rest,rfl,h1,h2⟩ := h
    rw [show v = V.int i from h1,valsI11 h2]
    rfl
def dAppB (H0 : Hp)(i j : Nat) : DS := fun F ρ => i ≠ j /\ ∃ a rs rows row,ρ[i]? = some (some (bnk H0 a rs rows)) /\ ρ[j]? = some (some (.own (row.map D.int))) /\ rs.length < 1000 /\ ∀ r,F.nx ((ρ.set j (some (rwI row))).set i (some (bnk H0 a (rs ++ [r]) (rows ++ [row]))))
theorem jds_appB {i j : Nat}{x : Str}{e : Expr}{npos apos cpos pos : Pos}(hK : X.K = W.K)
    (h : PE X (.Call (.Attribute (.Name x npos) "append" apos) [e] [] cpos) (tBM X.K "list" rAppend (tVar i) (tCons (tVar j) tNil))) (hs : swapsWith (.Call (.Attribute (.Name x npos) "append" apos) [e] [] cpos) none pos.line X.env = pure false := by rfl) :
    JS X W (.Expr (.Call (.Attribute (.Name x npos) "append" apos) [e] [] cpos) pos) (dAppB W.H0 i j) := ⟨(ps_expr (by rw [hK] at h; exact h) hs).mono fun E σ H hh => hh.elim fun pn M b ρ F s l q => by
  obtain ⟨nij,a,rs,rows,row,e1,e2,hl,hn⟩ := q
  obtain ⟨v,ev,rb⟩ := s.env i _ e1
  obtain ⟨rfl,ho,ha,nd,hlen,hr⟩ := bnk_of rb
  obtain ⟨v2,ev2,r,us,rfl,m1,m2,m3,m4,hh,rr⟩ := s.env j _ e2
  obtain rfl := valsI11 rr
  have nar : a ≠ r := fun z => nij (s.dj i j _ _ _ _ a e1 e2 ev ev2 (List.mem_singleton.mpr rfl) (by rw [z]; rfl))
  have nrs : r ∉ rs := fun z => by
    obtain ⟨k,ek⟩ := List.getElem?_of_mem z
    have hk := (List.getElem?_eq_some_iff.mp ek).1
    exact (hr k r _ ek (List.getElem?_eq_getElem (by omega))).1 m1
  have sf := s.frz e2 ev2
  refine ⟨.ref a,ev,.inl ⟨rfl,_,SqL.of ha⟩,.ref r,ev2,a,rs.map V.ref,.ref r,rfl,rfl,ha,by rw [List.length_map]; have := le1000; omega,?_⟩
  have e1' : (ρ.set j (some (.lst (row.map D.int))))[i]? = some (some (.frg (bnkF W.H0 a rs rows) (.lst (rows.map rwI)))) := by rw [List.getElem?_set_ne (Ne.symm nij)]; exact e1
  refine l.nx _ _ _ _ _ (sf.setFrg (f' := bnkF W.H0 a (rs ++ [r]) (rows ++ [row])) (d' := .lst ((rows ++ [row]).map rwI)) i e1' ev (List.mem_singleton.mpr rfl) (fun c m => m) (o := .lst (rs.map V.ref ++ [.ref r])) ?_) (hn r)
  refine bnk_rep ⟨⟨ho.1,nar⟩,ho.2⟩ (by rw [upd_same,List.map_append]; rfl) (by rw [List.nodup_append]; exact ⟨nd,by simp,fun u hu w hw => by rw [List.mem_singleton.mp hw]; exact fun z => nrs (z ▸ hu)⟩) (by rw [List.length_append,List.length_append,hlen]; rfl) fun k r' row' q1 q2 => ?_
  by_cases hk : k < rs.length
  · rw [List.getElem?_append_left hk] at q1
    rw [List.getElem?_append_left (by omega)] at q2
    obtain ⟨z1,z2,z3⟩ := hr k r' row' q1 q2
    exact ⟨fun m => z1 m.1,z2,by rw [upd_ne (fun z => by rw [z] at z1; exact z1 ho.1)]; exact z3⟩
  · rw [List.getElem?_append_right (by omega)] at q1
    rw [List.getElem?_append_right (by omega),<- hlen] at q2
    obtain ⟨rfl,_⟩ : r = r' /\ k - rs.length = 0 := by
      cases hz : k - rs.length with
      | zero => rw [hz] at q1; simp at q1; exact ⟨q1,rfl⟩
      | succ n => rw [hz] at q1; simp at q1
    have z0 : k - rs.length = 0 := by
      cases hz : k - rs.length with
      | zero => rfl
      | succ n => rw [hz] at q1; simp at q1
    rw [z0] at q2
    simp at q2
    subst q2
    exact ⟨fun m => m.2 rfl,m3,by rw [upd_ne (Ne.symm nar)]; exact hh⟩⟩
def dRetB (H0 : Hp)(i : Nat) : DG := fun P F ρ => ∃ a rs rows,ρ[i]? = some (some (bnk H0 a rs rows)) /\ P (rows.map fun r => r.map D.int)
theorem rowsR_ints {K : PySem.W.Frag}{M : Addr -> Prop}{H : Hp} : ∀ (rs : List Addr) (rows : List (List Int)),rs.length = rows.length -> (∀ (k : Nat) r row,rs[k]? = some r -> rows[k]? = some row -> H r = some (.lst (row.map V.int))) -> RowsR K M H rs (rows.map fun r => r.map D.int)
  | [],[],_,_ => rfl
  | [],_ :: _,e,_ => by cases e
  | _ :: _,[],e,_ => by cases e
  | r :: rs,row :: rows,e,h => ⟨_,_,_,rfl,h 0 r row rfl rfl,repsI11 row,rowsR_ints rs rows (by simpa using e) fun k r' row' e1 e2 => h (k + 1) r' row' (by simpa using e1) (by simpa using e2)⟩
theorem jgs_retB {i : Nat}{e : Expr}{pos : Pos}(h : PE X e (tVar i)) : JGs X W [.Return (some e) pos] (dRetB W.H0 i) := ⟨(pss_one (ps_ret h)).mono fun E σ H hh => by
  obtain ⟨pn,M,b,ρ,F,P,s,l,lg,a,rs,rows,e,hP⟩ := hh
  obtain ⟨v,ev,r⟩ := s.env i _ e
  obtain ⟨rfl,ho,ha,nd,hlen,hr⟩ := bnk_of r
  have hrr : ∀ r ∈ rs,¬ M r /\ W.H0 r = none := fun r m => by
    obtain ⟨k,ek⟩ := List.getElem?_of_mem m
    have hk := (List.getElem?_eq_some_iff.mp ek).1
    obtain ⟨z1,z2,_⟩ := hr k r _ ek (List.getElem?_eq_getElem (by omega))
    exact ⟨z1,z2⟩
  exact ⟨.ref a,ev,lg _ a rs H hP ⟨ho.2.2.1,fun r m => (hrr r m).2,List.nodup_cons.mpr ⟨fun z => (hrr a z).1 ho.1,nd⟩,ha,rowsR_ints rs rows hlen fun k r row e1 e2 => (hr k r row e1 e2).2.2⟩ s.kp s.ok0⟩⟩
def dIfT (i : Nat)(dt : DT)(d1 d2 : DS) : DS := fun F ρ => match ρ[i]? with | some (some (.frg _ x)) => dt (ρ.set i (some x)) fun c => IfP c (d1 F ρ) (d2 F ρ) | _ => False
theorem jds_ifT {c : Expr}{dt : DT}{d1 d2 : DS}{s1 s2 : List Stmt}{pos : Pos}(i : Nat)(hc : JT X W c dt)(ha : JSs X W s1 d1)(hb : JSs X W s2 d2) : JS X W (.If c s1 s2 pos) (dIfT i dt d1 d2) := ⟨(ps_if hc.h ha.h hb.h).mono fun E σ H hh => hh.elim fun pn M b ρ F s l q => by
  unfold dIfT at q
  split at q
  case h_2 => exact q.elim
  case h_1 f x e =>
    refine ⟨pn,_,b,_,_,(s.thaw e).toSta,q,fun x H' hx k o => ?_⟩
    have s' := s.step k o
    cases x with
    | true => exact ⟨pn,M,b,ρ,F,s',l,IfP_true.mp hx⟩
    | false => exact ⟨pn,M,b,ρ,F,s',l,IfP_false.mp hx⟩⟩
end
end L2
set_option Elab.async false
set_option linter.all false
namespace L2
namespace A11
section
variable (J : Nat -> Nat -> Prop)
def Re (i j : Nat) : Prop := ∀ S : Nat -> Prop,S i -> (∀ m n,S m -> J m n -> S n) -> S j
variable {J}
theorem Re.refl (i : Nat) : Re J i i := fun _ h _ => h
theorem Re.step {i m n : Nat}(h : Re J i m)(k : J m n) : Re J i n := fun S h0 hc => hc m n (h S h0 hc) k
theorem Re.trans {i j k : Nat}(h : Re J i j)(h' : Re J j k) : Re J i k := fun S h0 hc => h' S (h S h0 hc) hc
theorem Re.symm (sy : ∀ m n,J m n -> J n m){i j : Nat}(h : Re J i j) : Re J j i :=
  h (fun x => Re J x i) (Re.refl i) fun m n hm k => (Re.refl n |>.step (sy m n k)).trans hm
theorem least_of {p : Nat -> Prop} : ∀ n,p n -> ∃ m,m <= n /\ p m /\ ∀ k,p k -> m <= k := by
  intro n
  induction n using Nat.strongRecOn with
  | ind n ih =>
    intro hn
    by_cases h : ∃ k,k < n /\ p k
    · obtain ⟨k,hk,pk⟩ := h
      obtain ⟨m,h1,h2,h3⟩ := ih k hk pk
      exact ⟨m,by omega,h2,h3⟩
    · refine ⟨n,Nat.le_refl _,hn,fun k pk => ?_⟩
      rcases Nat.lt_or_ge k n with z | z
      · exact absurd ⟨k,z,pk⟩ h
      · exact z
structure Lab (J : Nat -> Nat -> Prop)(lab : Nat -> Nat) : Prop where
  le : ∀ i,lab i <= i
  re : ∀ i,Re J (lab i) i
  min : ∀ i k,Re J k i -> lab i <= k
theorem lab_ex (J : Nat -> Nat -> Prop) : ∃ lab : Nat -> Nat,Lab J lab := by
  have h : ∀ i,∃ m,m <= i /\ Re J m i /\ ∀ k,Re J k i -> m <= k := fun i => least_of (p := fun k => Re J k i) i (Re.refl i)
  exact ⟨fun i => Classical.choose (h i),fun i => (Classical.choose_spec (h i)).1,fun i => (Classical.choose_spec (h i)).2.1,fun i => (Classical.choose_spec (h i)).2.2⟩
theorem Lab.eq {lab : Nat -> Nat}(L : Lab J lab)(sy : ∀ m n,J m n -> J n m){i j : Nat}(h : Re J i j) : lab i = lab j := by
  have h1 := L.min j (lab i) ((L.re i).trans h)
  have h2 := L.min i (lab j) ((L.re j).trans (h.symm sy))
  omega
theorem Lab.lab {lab : Nat -> Nat}(L : Lab J lab)(sy : ∀ m n,J m n -> J n m)(i : Nat) : lab (lab i) = lab i := L.eq sy (L.re i)
theorem Lab.iff {lab : Nat -> Nat}(L : Lab J lab)(sy : ∀ m n,J m n -> J n m)(i j : Nat) : Re J (lab i) j ↔ lab j = lab i := by
  constructor
  · intro h
    rw [<- L.eq sy h,L.lab sy]
  · intro h
    have := L.re j
    rwa [h] at this
theorem Lab.led {lab v : Nat -> Nat}(L : Lab J lab){N : Nat}(lt : ∀ m n,J m n -> n < N)(le : ∀ j,j < N -> v j <= j)(re : ∀ j,j < N -> Re J (v j) j)(st : ∀ m n,m < N -> J m n -> v n <= v m){j : Nat}(hj : j < N) : v j = lab j := by
  have h1 := L.min j (v j) (re j hj)
  have hl : lab j < N := by have := L.le j; omega
  have h2 := L.re j (fun x => x < N /\ v x <= lab j) ⟨hl,le _ hl⟩ fun m n hm k => ⟨lt m n k,Nat.le_trans (st m n hm.1 k) hm.2⟩
  omega
def labs (lab : Nat -> Nat)(N : Nat) : List Nat := (List.range N).filter fun i => decide (lab i = i)
def row (lab : Nat -> Nat)(N i : Nat) : List Nat := (List.range N).filter fun j => decide (lab j = i)
def left (lab : Nat -> Nat)(N : Nat)(done : List Nat) : List Nat := (List.range N).filter fun j => decide (lab j ∉ done)
theorem mem_labs {lab : Nat -> Nat}{N i : Nat} : i ∈ labs lab N ↔ i < N /\ lab i = i := by
  unfold labs
  rw [List.mem_filter,List.mem_range,decide_eq_true_eq]
theorem mem_left {lab : Nat -> Nat}{N j : Nat}{done : List Nat} : j ∈ left lab N done ↔ j < N /\ lab j ∉ done := by
  unfold left
  rw [List.mem_filter,List.mem_range,decide_eq_true_eq]
theorem labs_up (lab : Nat -> Nat)(N : Nat) : (labs lab N).Pairwise (· < ·) := List.Pairwise.filter _ List.pairwise_lt_range
theorem left_up (lab : Nat -> Nat)(N : Nat)(done : List Nat) : (left lab N done).Pairwise (· < ·) := List.Pairwise.filter _ List.pairwise_lt_range
theorem left_none (lab : Nat -> Nat)(N : Nat) : left lab N [] = List.range N := by
  unfold left
  rw [List.filter_eq_self]
  intro j _
  simp
theorem left_next {lab : Nat -> Nat}(L : Lab J lab)(sy : ∀ m n,J m n -> J n m){N k : Nat}(hk : k < (labs lab N).length) : ∃ rest,left lab N ((labs lab N).take k) = (labs lab N)[k] :: rest := by
  have up := labs_up lab N
  have nd : ∀ a b : Nat,(ha : a < (labs lab N).length) -> (hb : b < (labs lab N).length) -> a < b -> (labs lab N)[a] < (labs lab N)[b] := fun a b ha hb h => List.pairwise_iff_getElem.mp up a b ha hb h
  have mk := mem_labs.mp (List.getElem_mem hk)
  have hin : (labs lab N)[k] ∈ left lab N ((labs lab N).take k) := by
    refine mem_left.mpr ⟨mk.1,fun h => ?_⟩
    rw [mk.2] at h
    obtain ⟨a,ha,e⟩ := List.mem_iff_getElem.mp h
    rw [List.getElem_take] at e
    rw [List.length_take] at ha
    have := nd a k (by omega) hk (by omega)
    omega
  have hmin : ∀ j ∈ left lab N ((labs lab N).take k),(labs lab N)[k] <= j := fun j hj => by
    obtain ⟨h1,h2⟩ := mem_left.mp hj
    have hl : lab j ∈ labs lab N := mem_labs.mpr ⟨by have := L.le j; omega,L.lab sy j⟩
    obtain ⟨b,hb,e⟩ := List.mem_iff_getElem.mp hl
    have hbk : k <= b := by
      rcases Nat.lt_or_ge b k with z | z
      · refine absurd ?_ h2
        rw [<- e]
        exact List.mem_iff_getElem.mpr ⟨b,by rw [List.length_take]; omega,by rw [List.getElem_take]⟩
      · exact z
    have := L.le j
    rcases Nat.lt_or_eq_of_le hbk with z | z
    · have := nd k b hk hb z
      omega
    · subst z
      omega
  have lu := left_up lab N ((labs lab N).take k)
  cases q : left lab N ((labs lab N).take k) with
  | nil => rw [q] at hin; cases hin
  | cons x rest =>
    rw [q] at hin hmin lu
    have h1 := hmin x (List.mem_cons_self ..)
    have h2 : x <= (labs lab N)[k] := by
      rcases List.mem_cons.mp hin with z | z
      · omega
      · have := (List.pairwise_cons.mp lu).1 _ z
        omega
    exact ⟨rest,by rw [show x = (labs lab N)[k] by omega]⟩
theorem left_done {lab : Nat -> Nat}(L : Lab J lab)(sy : ∀ m n,J m n -> J n m){N : Nat} : left lab N (labs lab N) = [] := by
  unfold left
  rw [List.filter_eq_nil_iff]
  intro j hj
  have hj := List.mem_range.mp hj
  have : lab j ∈ labs lab N := mem_labs.mpr ⟨by have := L.le j; omega,L.lab sy j⟩
  simp [this]
theorem left_step {lab : Nat -> Nat}{N k : Nat}(hk : k < (labs lab N).length) : (left lab N ((labs lab N).take k)).filter (fun j => decide (j ∉ row lab N (labs lab N)[k])) = left lab N ((labs lab N).take (k + 1)) := by
  unfold left
  rw [List.filter_filter]
  refine List.filter_congr fun j hj => ?_
  have hj := List.mem_range.mp hj
  rw [List.take_add_one,List.getElem?_eq_getElem hk,Option.toList_some]
  have e : j ∈ row lab N (labs lab N)[k] ↔ lab j = (labs lab N)[k] := by
    unfold row
    rw [List.mem_filter,List.mem_range,decide_eq_true_eq]
    exact ⟨fun h => h.2,fun h => ⟨hj,h⟩⟩
  rw [Bool.eq_iff_iff,Bool.and_eq_true,decide_eq_true_eq,decide_eq_true_eq,decide_eq_true_eq,List.mem_append,List.mem_singleton,e,not_or]
  exact ⟨fun h => ⟨h.2,h.1⟩,fun h => ⟨h.2,h.1⟩⟩
end
end A11
end L2
set_option Elab.async false
set_option linter.all false
set_option maxRecDepth 100000
set_option maxHeartbeats 4000000
namespace L2
open PySem PySem.Spec PyProof.Rows
def paceIx (lo : Option Int)(n : Int)(l : Nat) : List Nat := sliceRange (sliceBounds lo none (some n) l).1 (sliceBounds lo none (some n) l).2.1 (sliceBounds lo none (some n) l).2.2
def paceG {α : Type}(xs : List α)(lo : Option Int)(n : Int) : List α := (paceIx lo n xs.length).filterMap (xs[·]?)
theorem paceG_mem {α : Type}{xs : List α}{lo : Option Int}{n : Int}{x : α}(h : x ∈ paceG xs lo n) : x ∈ xs := by
  obtain ⟨i,_,e⟩ := List.mem_filterMap.mp h
  exact List.mem_of_getElem? e
theorem paceG_map {α β : Type}(f : α -> β)(xs : List α)(lo : Option Int)(n : Int) : paceG (xs.map f) lo n = (paceG xs lo n).map f := by
  unfold paceG
  rw [List.length_map,List.map_filterMap]
  congr 1
  funext i
  exact List.getElem?_map
theorem paceG_len_le {α : Type}(xs : List α)(lo : Option Int)(n : Int) : (paceG xs lo n).length <= (paceIx lo n xs.length).length := List.length_filterMap_le _ _
theorem paceIx_le {m : Nat}{n l : Nat}(h : 1 <= n) : (paceIx (some (m : Int)) (n : Int) l).length <= (l + n - 1) / n /\ (paceIx none (n : Int) l).length <= (l + n - 1) / n := by
  have key : ∀ a b : Int,0 <= a -> b <= l -> (sliceRange a b (n : Int)).length <= (l + n - 1) / n := fun a b ha hb => by
    unfold sliceRange
    rw [List.length_map,List.length_range,if_pos (show (n : Int) > 0 by omega)]
    split
    · have h1 : (b - a + n - 1) / (n : Int) <= ((l : Int) + n - 1) / n := Int.ediv_le_ediv (by omega) (by omega)
      have h2 : ((l : Int) + n - 1) / n = (((l + n - 1) / n : Nat) : Int) := by
        rw [Int.natCast_ediv]; congr 1; omega
      rw [h2] at h1
      exact Int.toNat_le.mpr h1
    · exact Nat.zero_le _
  have hp : (n : Int) > 0 := by omega
  unfold paceIx sliceBounds
  simp only [Option.getD_some,hp,if_true]
  constructor
  · exact key _ _ (by omega) (Int.le_refl _)
  · exact key _ _ (Int.le_refl _) (Int.le_refl _)
theorem Vals.places {xs : List V}{us : List Value}(h : Vals xs us) : ∀ js : List Nat,Vals (js.filterMap (xs[·]?)) (js.filterMap (us[·]?))
  | [] => .nil
  | j :: js => by
    have ih := Vals.places h js
    cases hx : xs[j]? with
    | some x =>
      obtain ⟨u,hu,r⟩ := h.get hx
      simp only [List.filterMap_cons,hx,hu]
      exact .cons r ih
    | none =>
      have hu : us[j]? = none := by
        rw [List.getElem?_eq_none_iff] at hx ⊢
        rw [<- h.length]; exact hx
      simp only [List.filterMap_cons,hx,hu]
      exact ih
theorem pick_pace {us : List Value}(lo : Option Int)(n : Int) : slicePick us.toArray lo none (some n) = (paceG us lo n).toArray := by
  unfold slicePick paceG paceIx
  rw [List.size_toArray]
  simp only [List.getElem?_toArray]
def rPaceL (K : PySem.W.Frag)(lo : Option Int) : V -> Hp -> V -> VK -> Prop := fun x H y Q => ∃ (a : Addr) (xs : List V) (n : Int),x = .ref a /\ y = .int n /\ n ≠ 0 /\ SqL K H a xs /\ ∀ p,H p = none -> Q (.ref p) (upd H p (.lst (paceG xs lo n)))
def tPaceL (K : PySem.W.Frag)(te : TE)(tl : TO)(ts : TE) : TE := fun σ H Q => te σ H fun x H1 => tl σ H1 fun l H2 => ts σ H2 fun y H3 => rPaceL K l x H3 y Q
theorem pe_pace {X : Cx}{e st : Expr}{lo : Option Expr}{te ts : TE}{tl : TO}{p2 pos : Pos}(K : PySem.W.Frag)(hK : X.K = K)(he : PE X e te)(hl : PO X lo tl)(hst : PE X st ts){ops : Addr -> Addr -> List Value}(hsub : ∀ l sl,subscripted (.Slice lo none (some st) p2) false (.ref l) (.ref sl) = operate (ops l sl) (getItem (.ref l) (.ref sl))) : PE X (.Subscript e (.Slice lo none (some st) p2) pos) (tPaceL K te tl ts) := by
  subst hK
  intro pins s σ H Q I h
  refine Subscript_ (thn (he pins s σ H _ I h) fun v s1 ⟨x,H1,I1,r1,q1⟩ => ?_)
  refine wpAny_Slice (thn (hl pins s1 σ H1 _ I1 q1) fun vl s2 ⟨l,H2,I2,pl,q2⟩ => ?_)
  rw [evalPart_none]
  refine wpAny_pure ?_
  rw [evalPart_some]
  refine thn (hst pins s2 σ H2 _ I2 q2) fun u s3 ⟨y,H3,I3,r3,q3⟩ => ?_
  obtain ⟨a,xs,n,rfl,rfl,hn,hx,q⟩ := q3
  obtain ⟨t,rfl⟩ := r3
  cases r1
  have I4 : Inv X pins σ H3 { s3 with heap := s3.heap.push { cls := .type "slice",data := .fields #[vl,.none,.int n t] } } := I3.kept (t' := s3.toks) fun b ob q => Heap.get?_push_of_some _ q
  obtain ⟨its,r,ht,hz⟩ := I4.list hx
  have hlen := r.length
  refine tail_any (ops := ops a s3.heap.objs.size) ht.isList.typeIs slot_list_getitem.lookup ?_ (hsub a _)
  refine wpAny_getItem_list_slice ht.isList (Heap.IsSliceOf.new ..) pl .none (.int _ _) (by simpa using hn) ?_ (by rw [List.size_toArray] <;> omega)
  rw [pick_pace]
  have rv : Vals (paceG xs l n) (paceG its l n) := by
    unfold paceG
    rw [hlen]
    exact r.places _
  have hc : (paceG xs l n).length <= xs.length := by
    have := slicePick_size_le its.toArray l none (some n)
    rw [pick_pace,List.size_toArray,List.size_toArray,<- rv.length,<- hlen] at this
    exact this
  refine ⟨.ref _,_,I4.laid (t' := s3.toks) (o := .lst (paceG xs l n)) (fun b ob q => Heap.get?_push_of_some _ q) (Nat.le_refl _) ⟨Nat.le_trans hc hz,paceG its l n,0,rv,?_⟩,rfl,q _ (I4.hok.fresh (Nat.le_refl _))⟩
  rw [Heap.get?_push_size _ rfl]
end L2
set_option Elab.async false
set_option linter.all false
set_option maxRecDepth 100000
set_option maxHeartbeats 4000000
namespace L2
open PySem PySem.Spec PyProof.Rows
section
variable {X : Cx}{W : Wd}{e st : Expr}{lo : Option Expr}{pos : Pos}{de ds : DE}{dl : DO}
theorem Reps.places {K : PySem.W.Frag}{M : Addr -> Prop}{H : Hp}{xs : List D}{vs : List V}(h : Reps K M H xs vs) : ∀ js : List Nat,Reps K M H (js.filterMap (xs[·]?)) (js.filterMap (vs[·]?))
  | [] => rfl
  | j :: js => by
    have ih := Reps.places h js
    cases hx : xs[j]? with
    | some x =>
      obtain ⟨v,hv,r⟩ := h.get hx
      simp only [List.filterMap_cons,hx,hv]
      exact ⟨_,_,rfl,r,ih⟩
    | none =>
      have hv : vs[j]? = none := by
        rw [List.getElem?_eq_none_iff] at hx ⊢
        rw [h.length]; exact hx
      simp only [List.filterMap_cons,hx,hv]
      exact ih
def dPace (de : DE)(dl : DO)(ds : DE) : DE := fun ρ P => de ρ fun x => dl ρ fun lo => ds ρ fun y => match asL x,y with
  | some xs,.int n => n ≠ 0 /\ P (.lst (paceG xs lo n))
  | _,_ => False
theorem jde_pace {p2 : Pos}(he : JE X W e de)(hl : JO X W lo dl)(hst : JE X W st ds)(h : PE X (.Subscript e (.Slice lo none (some st) p2) pos) (tPaceL W.K (dn W de) (dnO W dl) (dn W ds))) : JE X W (.Subscript e (.Slice lo none (some st) p2) pos) (dPace de dl ds) := ⟨h.mono fun σ H Q hh => hh.elim fun pn M b ρ P st h k => by
  refine ⟨pn,M,b,ρ,_,st,h,fun x v H1 hx rx k1 o1 => ?_⟩
  refine ⟨pn,M,b,ρ,_,st.step k1 o1,hx,fun l H2 hl k2 o2 => ?_⟩
  refine ⟨pn,M,b,ρ,_,(st.step k1 o1).step k2 o2,hl,fun y u H3 hy ry k3 o3 => ?_⟩
  have s3 := ((st.step k1 o1).step k2 o2).step k3 o3
  have rx := (rx.step st.bagM k2).step st.bagM k3
  split at hy
  case h_2 => exact hy.elim
  case h_1 xs n e1 =>
    cases (show _ = _ from ry)
    obtain ⟨a,vs,rfl,hh,r⟩ := asL.rep rx e1
    have rr : Reps W.K M H3 (paceG xs l n) (paceG vs l n) := by
      unfold paceG
      rw [r.length]
      exact r.places _
    exact ⟨a,vs,n,rfl,rfl,hy.1,SqL.of hh,fun p hp => k _ _ _ hy.2 (new_lst s3.toHs rr hp) (((k1.trans k2).trans k3).trans (Kp.upd hp)) (s3.okU hp)⟩⟩
def dLenG (K : PySem.W.Frag)(i : Nat) : DE := fun ρ P => ∃ (a : Addr) (rs : List Addr) (rows : List (List D)),ρ[i]? = some (some (grd K a rs rows)) /\ P (.int rs.length)
theorem jde_lenG {i : Nat}(hK : X.K = W.K)(h : PE X e (tCB (fun xs H Q => ∃ p ys,xs = [.ref p] /\ (SqL X.K H p ys \/ SqT X.K H p ys) /\ Q (.int ys.length) H) (tCons (tVar i) tNil))) : JE X W e (dLenG W.K i) := ⟨h.mono fun σ H Q hh => by
  rw [hK]
  obtain ⟨pn,M,b,ρ,P,st,h,kq⟩ := hh
  obtain ⟨a,rs,rows,e1,q⟩ := h
  obtain ⟨ev,ha,hr⟩ := grd_at st e1
  refine ⟨.ref a,ev,a,rs.map V.ref,rfl,.inl (SqL.of ha),?_⟩
  rw [List.length_map]
  exact kq _ _ H q (show _ = _ from rfl) (Kp.refl _ _) st.ok⟩
def dAppIG (K : PySem.W.Frag)(i : Nat)(dk : DE)(dA : DA) : DS := fun F ρ => ∃ (a : Addr) (rs : List Addr) (rows : List (List D)),ρ[i]? = some (some (grd K a rs rows)) /\ rs.length = rows.length /\ dk ρ fun y => ∃ (k : Nat) (row : List D),y = .int (k : Int) /\ rows[k]? = some row /\ dA ρ fun ys => (match ys with | [y] => (plain y && decide (row.length < 1000)) = true /\ F.nx (ρ.set i (some (grd K a rs (rows.set k (row ++ [y]))))) | _ => False)
theorem jds_appIG {i : Nat}{r e : Expr}{dk : DE}{dA : DA}{apos cpos : Pos}(hK : X.K = W.K)
    (h : PE X (.Call (.Attribute r "append" apos) [e] [] cpos) (tBM X.K "list" rAppend (tOp (rIxL X.K) (tVar i) (dn W dk)) (dnA W dA))) (hs : swapsWith (.Call (.Attribute r "append" apos) [e] [] cpos) none pos.line X.env = pure false := by rfl) :
    JS X W (.Expr (.Call (.Attribute r "append" apos) [e] [] cpos) pos) (dAppIG W.K i dk dA) := ⟨(ps_expr (by rw [hK] at h; exact h) hs).mono fun E σ H hh => hh.elim fun pn M b ρ F s l h => by
  obtain ⟨a,rs,rows,e1,hl,hd⟩ := h
  refine ⟨.ref a,(grd_at s.toSta e1).1,pn,M,b,ρ,_,s.toSta,hd,fun y u H1 hy ry k1 o1 => ?_⟩
  obtain ⟨k,row,rfl,er,hy⟩ := hy
  cases (show _ = _ from ry)
  have s1 := s.step k1 o1
  obtain ⟨r,ek⟩ : ∃ r,rs[k]? = some r := by
    have := (List.getElem?_eq_some_iff.mp er).1
    exact ⟨rs[k]'(by omega),List.getElem?_eq_getElem _⟩
  have at' : ∀ {H' : Hp},StS W pn M b H' σ ρ -> σ[i]? = some (some (.ref a)) /\ (∀ c ∈ a :: rs,M c /\ b ≠ some c /\ W.H0 c = none /\ ¬ W.M0 c) /\ (a :: rs).Nodup /\ H' a = some (.lst (rs.map V.ref)) /\ RowsR W.K M H' rs rows /\ ∃ us,H' r = some (.lst us) /\ Reps W.K M H' row us := fun {H'} s => by
    obtain ⟨v,ev,rg⟩ := s.env i _ e1
    obtain ⟨rfl,ho,nd,ha,hr⟩ := grd_of rg
    obtain ⟨row',us,er',hh,rr⟩ := hr.at ek
    rw [er] at er'; cases er'
    exact ⟨ev,ho,nd,ha,hr,us,hh,rr⟩
  obtain ⟨ev0,_,_,ha0,_,us0,hh0,_⟩ := at' s1
  refine ⟨a,rs.map V.ref,k,.ref r,rfl,rfl,SqL.of ha0,atI_nat (by rw [List.getElem?_map,ek]; rfl),.inl ⟨rfl,us0,SqL.of hh0⟩,pn,M,b,ρ,_,s1.toSta,hy,fun xs us H' hx rx k' o => ?_⟩
  match xs,hx with
  | [y],hx =>
    obtain ⟨u,rfl,ru⟩ := rx1 rx
    obtain ⟨p1,p2⟩ := (Bool.and_eq_true _ _).mp hx.1
    have p2 := of_decide_eq_true p2
    have s' := s1.step k' o
    obtain ⟨ev,ho,nd,ha,hr,us',hh',rr⟩ := at' s'
    have mr : r ∈ rs := List.mem_of_getElem? ek
    have nar : a ≠ r := fun z => (List.nodup_cons.mp nd).1 (by rw [z]; exact mr)
    refine ⟨r,us',u,rfl,rfl,hh',by rw [rr.length]; have := le1000; omega,l.nx _ _ _ _ _ (s'.setFrg (f' := gridF W.K a rs (rows.set k (row ++ [y]))) (d' := rowsL (rows.set k (row ++ [y]))) i (show ρ[i]? = some (some (.frg (gridF W.K a rs rows) (rowsL rows))) from e1) ev (List.mem_cons_of_mem _ mr) (fun c m => m) (grd_rep ho nd (by rw [upd_ne nar]; exact ha) (RowsR.set (List.nodup_cons.mp nd).2 (fun c m => (ho c (List.mem_cons_of_mem _ m)).1) hr ek (Reps.append rr (show Reps W.K M H' [y] [u] from ⟨u,[],rfl,ru.rep p1,rfl⟩))))) hx.2⟩⟩
def dAppGn (K : PySem.W.Frag)(i : Nat)(dA : DA) : DS := fun F ρ => ∃ (a : Addr) (rs : List Addr) (rows : List (List D)),ρ[i]? = some (some (grd K a rs rows)) /\ rs.length < 1000 /\ dA ρ fun ys => ∃ y,ys = [y] /\ F.nx (ρ.set i none)
theorem jds_appGn {i : Nat}{x : Str}{e : Expr}{dA : DA}{npos apos cpos : Pos}(hK : X.K = W.K)
    (h : PE X (.Call (.Attribute (.Name x npos) "append" apos) [e] [] cpos) (tBM X.K "list" rAppend (tVar i) (dnA W dA))) (hs : swapsWith (.Call (.Attribute (.Name x npos) "append" apos) [e] [] cpos) none pos.line X.env = pure false := by rfl) :
    JS X W (.Expr (.Call (.Attribute (.Name x npos) "append" apos) [e] [] cpos) pos) (dAppGn W.K i dA) := ⟨(ps_expr (by rw [hK] at h; exact h) hs).mono fun E σ H hh => hh.elim fun pn M b ρ F s l h => by
  obtain ⟨a,rs,rows,e1,hl,hd⟩ := h
  have at' : ∀ {H' : Hp},StS W pn M b H' σ ρ -> σ[i]? = some (some (.ref a)) /\ H' a = some (.lst (rs.map V.ref)) := fun {H'} s => ⟨(grd_at s.toSta e1).1,(grd_at s.toSta e1).2.1⟩
  obtain ⟨ev0,ha0⟩ := at' s
  refine ⟨.ref a,ev0,.inl ⟨rfl,_,SqL.of ha0⟩,pn,M,b,ρ,_,s.toSta,hd,fun xs us H' hx rx k' o => ?_⟩
  obtain ⟨y,rfl,hx⟩ := hx
  obtain ⟨u,rfl,ru⟩ := rx1 rx
  have s' := s.step k' o
  obtain ⟨ev,ha⟩ := at' s'
  exact ⟨a,_,u,rfl,rfl,ha,by rw [List.length_map]; have := le1000; omega,l.nx _ _ _ _ _ (s'.dropFrg i (show ρ[i]? = some (some (.frg (gridF W.K a rs rows) (rowsL rows))) from e1) ev (List.mem_cons_self ..)) hx⟩⟩
end
end L2
set_option Elab.async false
set_option linter.all false
set_option maxRecDepth 100000
set_option maxHeartbeats 4000000
namespace K
open PySem PySem.Spec PyProof.Rows L2
local macro_rules | `(tactic| walk_at "o") => `(tactic| first | exact Or.inl rfl | exact Or.inr rfl)
local macro_rules | `(tactic| walk_at "v") => `(tactic| first | exact Or.inl rfl | exact Or.inr (Or.inl rfl) | exact Or.inr (Or.inr rfl))
local macro_rules | `(tactic| walk_at "bg") => `(tactic| first | assumption | exact Bag.same (by walk_at "bg") (Same.upd (by assumption)) | exact Bag.same (by walk_at "bg") (by assumption))
local macro_rules | `(tactic| walk_at "hp") => `(tactic| first | assumption | exact upd_same | (refine Same.get (Same.upd (by assumption)) ?_; walk_at "hp") | (refine Same.get (by assumption) ?_; walk_at "hp") | (refine Keep.tup (by assumption) (by walk_at "bg") ?_; (walk_at "hp")))
local macro_rules | `(tactic| walk_at "sm") => `(tactic| first | exact Same.refl _ | assumption | (refine Same.trans ?_ (Same.upd (by assumption)); walk_at "sm") | (refine Same.trans ?_ (by assumption); walk_at "sm"))
local macro_rules | `(tactic| walk_at "kp") => `(tactic| first | exact Keep.refl _ _ | assumption | (refine Keep.trans ?_ (Same.keep (Same.upd (by assumption))); walk_at "kp") | (refine Keep.trans ?_ (by assumption); walk_at "kp") | (refine Keep.trans ?_ (Same.keep (by assumption)); walk_at "kp"))
local macro_rules | `(tactic| walk_at "bd") => `(tactic| first | assumption | exact Bd.mul (by walk_at "bd") (by walk_at "bd") | exact Bd.add (by walk_at "bd") (by walk_at "bd") | exact Bd.sub (by walk_at "bd") (by walk_at "bd") | exact Bd.neg (by walk_at "bd") | exact Bd.num _ (by decide))
local macro_rules | `(tactic| walk_at "rd1") => `(tactic| first | refine ⟨_,_,rfl,rfl,?_⟩ | refine ⟨_,rfl,?_⟩ | (refine' ⟨_,?xs,_,?vv,rfl,rfl,SqT.of ?ia,?ib,?_⟩; (case ia => walk_at "hp"); (case ib => rfl)) | refine And.intro (CMulB.right (Bd.num _ (by decide))) ?_ | (refine' rd_mul ?m1 ?m2 ?m3 ?_; (case m1 => walk_at "bd"); (case m2 => walk_at "bd"); (case m3 => first | decide | omega)) | refine ⟨rfl,?_⟩)
local macro_rules | `(tactic| walk_at "rd") => `(tactic| repeat (walk_at "rd1"))
local macro_rules | `(tactic| walk_at "al") => `(tactic| (refine ⟨(Nat.le_trans (Nat.le_of_ble_eq_true rfl) le1000),?_⟩; intro p en))
local macro_rules | `(tactic| walk_at "w") => `(tactic| (conv => whnf))
local macro_rules | `(tactic| walk_at "go1") => `(tactic| first | refine And.intro (by exact rfl) ?_ | refine IfP.t (by exact rfl) ?_ | refine IfP.f (by exact rfl) ?_ | refine And.intro (by exact Nat.le_of_ble_eq_true rfl) ?_ | refine And.intro (by decide) ?_ | refine And.intro (by dsimp only; decide) ?_ | refine And.intro (CMulB.right (Bd.num _ (by decide))) ?_ | refine And.intro (Or.inl ⟨_,_,by walk_at "bd",by walk_at "bd",by first | decide | omega⟩) ?_| refine And.intro ⟨by decide,by decide⟩ ?_)
local macro_rules | `(tactic| walk_at "go") => `(tactic| ((conv => whnf); repeat (walk_at "go1"; (conv => whnf))))
local macro_rules | `(tactic| walk_at "nz") => `(tactic| simp only [startD,List.map_cons,List.map_nil,List.length_cons,List.length_nil,List.replicate,List.cons_append,List.nil_append,List.set_cons_succ,List.set_cons_zero,captD,List.getElem?_cons_succ,List.getElem?_cons_zero,Option.bind_some,Option.bind_none,Option.join_some,Option.join_none,setAll,Nat.reduceAdd,Nat.reduceSub,Int.reduceAdd,Nat.zero_add])
local macro_rules | `(tactic| walk_at "gr") => `(tactic| ((try walk_at "nz"); refine for_rec ?_; walk_at "go"))
local macro_rules | `(tactic| walk_at "gc") => `(tactic| ((try walk_at "nz"); refine comp_rec ?_; walk_at "go"))
local macro_rules | `(tactic| walk_at "sp") => `(tactic| (refine IfP.of (fun h => ?_) (fun h => ?_) <;> (try simp only [decide_eq_true_eq,Bool.bne_false,Bool.bne_true,Bool.not_eq_true',decide_eq_false_iff_not,Bool.not_true,Bool.not_false,Bool.not_eq_false',bne_iff_ne,ne_eq,Bool.not_not] at h)))
def top (i : Nat) : Stmt := PySem.Challenge.pw_onceshade_k11_parts.main.body.getD i (.Pass ⟨0,0,0,0⟩)
structure Bi (mg : Str -> Option Value) : Prop where
  abs_ : mg "abs" = none
  len_ : mg "len" = none
  max_ : mg "max" = none
  min_ : mg "min" = none
  range_ : mg "range" = none
  isinstance_ : mg "isinstance" = none
  int_ : mg "int" = none
  bool_ : mg "bool" = none
  tuple_ : mg "tuple" = none
  zip_ : mg "zip" = none
  sum_ : mg "sum" = none
  all_ : mg "all" = none
  any_ : mg "any" = none
  list_ : mg "list" = none
  sorted_ : mg "sorted" = none
  enumerate_ : mg "enumerate" = none
  set_ : mg "set" = none
def BagP (H : Hp)(p : Addr) : Prop := ∃ f m q : Int,H p = some (.lst [.int f,.int m,.int q]) /\ 0 <= f /\ 0 <= m /\ m < 4294967296 /\ 2147483353 <= q /\ q <= 2147483629
theorem BagP.ne {H : Hp}{p a : Addr}{xs : List V}(b : BagP H p)(h : H a = some (.tup xs)) : a ≠ p := by
  obtain ⟨f,m,st,e,_⟩ := b
  exact ne_of h e (by intro z; cases z)
def DigP (p : Addr)(many : Int)(H : Hp)(Q : VK) : Prop := ∀ (r : Int) H',0 <= r -> r < many -> BagP H' p -> Keep p H H' -> Q (.int r) H'
abbrev s__law_bag : Stmt := top 7
theorem sc__law_bag : FnScope ["_law_script","_law_at","_law_cell","_law_prime","_law_great"] ["_law_script","_law_at"] (defScope s__law_bag) := ⟨rfl,rfl,rfl,by decide +kernel,rfl,by decide +kernel,by decide +kernel⟩
def sp_bag (K : PySem.W.Frag) : Sp := fun vs H Q _ => ∃ (a : Addr) (ns : List Int) (i : Nat),vs = [.ref a,.int i] /\ SqL K H a (ns.map V.int) /\ i <= 1000 /\ ∀ p H',H p = none -> Same H H' -> BagP H' p -> Q (.ref p) H'
theorem ok0__law_bag {P : Program}{w : World}{K : PySem.W.Frag}{mg : Str -> Option Value}{base : Heap}{f : Addr}{fd : FuncData}(F : Fun K "_law_bag" "_law_bag" s__law_bag f fd) (Z : Bi mg) : FnOk P w K mg base CX0 1 f fd ["_law_script","_law_at"] (sp_bag K) := by
  refine F.ok sc__law_bag (fun vs H Q E h => ?_) (fun cdv A outer s H vs Q E hr h => ?_)
  · obtain ⟨a,ns,i,rfl,hS,hi,k⟩ := h
    rfl
  · obtain ⟨a,ns,i,rfl,hS,hi,k⟩ := h
    obtain ⟨es1,hes1⟩ : ∃ es : List Expr,es = List.map (fun c : Int × Nat × Pos => Expr.Constant (.int c.1) c.2.1 c.2.2) [(2147483629,0,⟨32,18,32,28⟩),(2147483587,0,⟨32,30,32,40⟩),(2147483579,0,⟨32,42,32,52⟩),(2147483563,0,⟨32,54,32,64⟩),(2147483549,0,⟨32,66,32,76⟩),(2147483543,0,⟨32,78,32,88⟩),(2147483497,0,⟨32,90,32,100⟩),(2147483489,0,⟨32,102,32,112⟩),(2147483477,0,⟨32,114,32,124⟩),(2147483423,0,⟨32,126,32,136⟩),(2147483399,0,⟨32,138,32,148⟩),(2147483353,0,⟨32,150,32,160⟩)] := ⟨_,rfl⟩
    have hT1 : PS (cxOf CX0 P w K mg base ["_law_script","_law_at","_law_cell","_law_prime","_law_great"] "_law_bag" (defScope s__law_bag) f cdv A outer s H E).nox (Stmt.Assign [Expr.Name "_law_prime" ⟨32,4,32,14⟩] (Expr.Subscript (Expr.Tuple es1 0 ⟨32,17,32,161⟩) (Expr.BinOp (Expr.Name "_law_at" ⟨32,162,32,169⟩) .Mod (Expr.Constant (Const.int 12) 0 ⟨32,172,32,174⟩) ⟨32,162,32,174⟩) ⟨32,17,32,175⟩) ⟨32,4,32,175⟩) _ := ps_set (i := 3) sc__law_bag.nd rfl (by walk_at "o") (pe_ix (ix_tupK K (by rfl)) (pe_tupInts (x1 := 0) (pos := ⟨32,17,32,161⟩) [(2147483629,0,⟨32,18,32,28⟩),(2147483587,0,⟨32,30,32,40⟩),(2147483579,0,⟨32,42,32,52⟩),(2147483563,0,⟨32,54,32,64⟩),(2147483549,0,⟨32,66,32,76⟩),(2147483543,0,⟨32,78,32,88⟩),(2147483497,0,⟨32,90,32,100⟩),(2147483489,0,⟨32,102,32,112⟩),(2147483477,0,⟨32,114,32,124⟩),(2147483423,0,⟨32,126,32,136⟩),(2147483399,0,⟨32,138,32,148⟩),(2147483353,0,⟨32,150,32,160⟩)] hes1) (pe_op op_mod (pv 1) pe_int) (fun _ _ => rfl)) rfl (.inl rfl)
    generalize hst1 : Stmt.Assign [Expr.Name "_law_prime" ⟨32,4,32,14⟩] (Expr.Subscript (Expr.Tuple es1 0 ⟨32,17,32,161⟩) (Expr.BinOp (Expr.Name "_law_at" ⟨32,162,32,169⟩) .Mod (Expr.Constant (Const.int 12) 0 ⟨32,172,32,174⟩) ⟨32,162,32,174⟩) ⟨32,17,32,175⟩) ⟨32,4,32,175⟩ = st1 at hT1
    have hR1 := ((pss_cons (ps_set (i := 4) sc__law_bag.nd rfl (by walk_at "o") pe_int)
      (pss_cons (ps_if (pt_cmpR op_ge (pv 2) (pe_op op_pow pe_int pe_int) (nomark _)) (pss_one (ps_set (i := 4) sc__law_bag.nd rfl (by walk_at "o") (pv 2))) pss_nil)
      (pss_one (ps_ret (pe_lst (pa_cons (pv 4) (pa_cons (pe_op op_mod (pe_op op_pow (pe_op op_add (pe_op op_mod (pv 2) (pv 3)) pe_int) pe_int) (pv 3)) (pa_cons (pv 3) pa_nil)))))))) : PSs (cxOf CX0 P w K mg base ["_law_script","_law_at","_law_cell","_law_prime","_law_great"] "_law_bag" (defScope s__law_bag) f cdv A outer s H E).nox ((defBody s__law_bag).drop 3) _)
    have hV1 := @pss_says _ _ _ (pss_cons hT1 hR1)
    refine ⟨_,(pss_cons (ps_set (i := 2) sc__law_bag.nd rfl (by walk_at "o") pe_int)
      (pss_cons (ps_if (pt_cmpR op_lt (pv 1) (pe_callB (call_len_seqK K (by rfl)) rfl Z.len_ bt_len (pa_cons (pv 0) pa_nil)) (nomark _)) (pss_one (ps_set (i := 2) sc__law_bag.nd rfl (by walk_at "o") (pe_ix (ix_listK K (by rfl)) (pv 0) (pv 1) (fun _ _ => rfl)))) pss_nil)
      hV1)),?_⟩
    have ixp : ∀ j : Int,∃ q : Int,atI [.int 2147483629,.int 2147483587,.int 2147483579,.int 2147483563,.int 2147483549,.int 2147483543,.int 2147483497,.int 2147483489,.int 2147483477,.int 2147483423,.int 2147483399,.int 2147483353] (j % 12) = some (V.int q) /\ 2147483353 <= q /\ q <= 2147483629 := fun j => by
      obtain ⟨v,ev,mv⟩ := atI_some (xs := [.int 2147483629,.int 2147483587,.int 2147483579,.int 2147483563,.int 2147483549,.int 2147483543,.int 2147483497,.int 2147483489,.int 2147483477,.int 2147483423,.int 2147483399,.int 2147483353]) (i := j % 12) (Int.emod_nonneg _ (by decide)) (Int.emod_lt_of_pos _ (by decide))
      simp only [List.mem_cons,List.not_mem_nil,or_false] at mv
      rcases mv with e | e | e | e | e | e | e | e | e | e | e | e <;> exact ⟨_,e ▸ ev,by decide,by decide⟩
    obtain ⟨q,xq,q0,q1⟩ := ixp (i : Int)
    have fin : ∀ (cv f : Int) (H1 : Hp),Same H H1 -> 0 <= f -> ∀ p,H1 p = none -> Q (.ref p) (upd H1 p (.lst [.int f,.int ((cv % q + 7919) ^ (3 : Int).toNat % q),.int q])) := fun cv f H1 S hf p hp => by
      have h1 := Int.emod_nonneg ((cv % q + 7919) ^ (3 : Int).toNat) (show q ≠ 0 by omega)
      have h2 := Int.emod_lt_of_pos ((cv % q + 7919) ^ (3 : Int).toNat) (show 0 < q by omega)
      exact k p _ (S.free hp) (S.trans (Same.upd hp)) ⟨_,_,_,upd_same,hf,h1,by omega,q0,q1⟩
    have hpw : ∀ cv : Int,(cv % q + 7919).natAbs < 2 ^ 64 := fun cv => by
      have h1 := Int.emod_nonneg cv (show q ≠ 0 by omega)
      have h2 := Int.emod_lt_of_pos cv (show 0 < q by omega)
      omega
    walk_at "rd"
    refine ⟨_,_,rfl,.inl hS,?_⟩
    walk_at "rd"
    refine iteB (fun h => ?_) (fun h => ?_)
    · have h : (i : Int) < ((ns.map V.int).length : Nat) := dec_t h
      have hi' : i < ns.length := by rw [List.length_map] at h; omega
      walk_at "rd"
      refine ⟨_,_,_,_,rfl,rfl,hS,atI_nat (v := V.int ns[i]) (by rw [List.getElem?_map,List.getElem?_eq_getElem hi']; rfl),?_⟩
      walk_at "rd"
      refine ⟨by rw [<- hst1,hes1]; rfl,?_⟩
      walk_at "al"
      rename_i pr npr
      walk_at "rd"
      refine ⟨(by show (0 : Int) < 12; decide),?_⟩
      refine ⟨_,_,_,_,rfl,rfl,SqT.of upd_same,xq,?_⟩
      walk_at "rd"
      refine ⟨⟨by decide,by decide,by decide⟩,?_⟩
      walk_at "rd"
      refine iteB (fun h => ?_) (fun h => ?_)
      all_goals
        walk_at "rd"
        refine ⟨(by show 0 < q; omega),?_⟩
        walk_at "rd"
        refine ⟨⟨by decide,by decide,hpw _⟩,?_⟩
        walk_at "rd"
        refine ⟨(by show 0 < q; omega),?_⟩
        walk_at "rd"
        refine ⟨(Nat.le_trans (Nat.le_of_ble_eq_true rfl) le1000),?_⟩
      · exact fin _ _ _ (Same.upd npr) (by have h : (10 : Int) ^ Int.toNat 18 <= _ := dec_t h; have e : (10 : Int) ^ Int.toNat 18 = 1000000000000000000 := (by decide); omega)
      · exact fin _ _ _ (Same.upd npr) (by decide)
    · walk_at "rd"
      refine ⟨by rw [<- hst1,hes1]; rfl,?_⟩
      walk_at "al"
      rename_i pr npr
      walk_at "rd"
      refine ⟨(by show (0 : Int) < 12; decide),?_⟩
      refine ⟨_,_,_,_,rfl,rfl,SqT.of upd_same,xq,?_⟩
      walk_at "rd"
      refine ⟨⟨by decide,by decide,by decide⟩,?_⟩
      walk_at "rd"
      refine ⟨(by show 0 < q; omega),?_⟩
      walk_at "rd"
      refine ⟨⟨by decide,by decide,hpw _⟩,?_⟩
      walk_at "rd"
      refine ⟨(by show 0 < q; omega),?_⟩
      walk_at "rd"
      refine ⟨(Nat.le_trans (Nat.le_of_ble_eq_true rfl) le1000),?_⟩
      exact fin _ _ _ (Same.upd npr) (by decide)
abbrev s__law_digit : Stmt := top 8
theorem sc__law_digit : FnScope ["_law_bag_here","_law_many","_law_found"] ["_law_bag_here","_law_many"] (defScope s__law_digit) := ⟨rfl,rfl,rfl,by decide +kernel,rfl,by decide +kernel,by decide +kernel⟩
def sp_digit : Sp := fun vs H Q _ => ∃ (p : Addr) (many : Int) (n : Nat),vs = [.ref p,.int many] /\ BagP H p /\ 0 < many /\ Bd n many /\ n <= 9000 /\ DigP p many H Q
theorem ok0__law_digit {P : Program}{w : World}{K : PySem.W.Frag}{mg : Str -> Option Value}{base : Heap}{f : Addr}{fd : FuncData}(F : Fun K "_law_digit" "_law_digit" s__law_digit f fd) (Z : Bi mg) : FnOk P w K mg base CX0 1 f fd ["_law_bag_here","_law_many"] sp_digit := by
  refine F.ok sc__law_digit (fun vs H Q E h => ?_) (fun cdv A outer s H vs Q E hr h => ?_)
  · obtain ⟨p,many,n,rfl,⟨fg,m,q,hp,hf,hm,hm2,q0,q1⟩,h0,hb,hn,k⟩ := h
    rfl
  · obtain ⟨p,many,n,rfl,⟨fg,m,q,hp,hf,hm,hm2,q0,q1⟩,h0,hb,hn,k⟩ := h
    refine ⟨_,(pss_cons (ps_if (pt_cmpR op_gt (pe_ix (ix_listK K (by rfl)) (pv 0) pe_int (fun _ _ => rfl)) pe_int (nomark _)) (pss_cons (ps_set (i := 2) sc__law_digit.nd rfl (by walk_at "o") (pe_op op_mod (pe_ix (ix_listK K (by rfl)) (pv 0) pe_int (fun _ _ => rfl)) (pv 1)))
      (pss_cons (ps_asg (pe_op op_fdivB (pe_ix (ix_listK K (by rfl)) (pv 0) pe_int (fun _ _ => rfl)) (pv 1)) (pg_sub (pv 0) pe_int set_list))
      (pss_one (ps_ret (pv 2))))) pss_nil)
      (pss_cons (ps_asg (pe_op op_mod (pe_op op_add (pe_op op_mulB (pe_ix (ix_listK K (by rfl)) (pv 0) pe_int (fun _ _ => rfl)) pe_int) pe_int) (pe_ix (ix_listK K (by rfl)) (pv 0) pe_int (fun _ _ => rfl))) (pg_sub (pv 0) pe_int set_list))
      (pss_one (ps_ret (pe_op op_mod (pe_op op_fdivB (pe_op op_mod (pe_op op_pow (pe_ix (ix_listK K (by rfl)) (pv 0) pe_int (fun _ _ => rfl)) pe_int) pe_int) pe_int) (pv 1)))))),?_⟩
    have md : ∀ x : Int,0 <= x % many /\ x % many < many := fun x => ⟨Int.emod_nonneg _ (by omega),Int.emod_lt_of_pos _ h0⟩
    walk_at "rd"
    refine ⟨_,_,_,_,rfl,rfl,SqL.of hp,rfl,?_⟩
    walk_at "rd"
    refine iteB (fun h => ?_) (fun h => ?_)
    · have h : 0 < fg := dec_t h
      walk_at "rd"
      refine ⟨_,_,_,_,rfl,rfl,SqL.of hp,rfl,?_⟩
      walk_at "rd"
      refine ⟨h0,?_⟩
      walk_at "rd"
      refine ⟨_,_,_,_,rfl,rfl,SqL.of hp,rfl,?_⟩
      walk_at "rd"
      refine ⟨⟨h0,n,hb,hn⟩,?_⟩
      walk_at "rd"
      refine ⟨_,_,_,0,rfl,rfl,hp,rfl,?_⟩
      walk_at "rd"
      exact k _ _ (md fg).1 (md fg).2 ⟨_,_,_,upd_same,Int.ediv_nonneg hf (by omega),hm,hm2,q0,q1⟩ Keep.upd
    · have bm : Bd 32 m := Bd.of (by omega) (by omega)
      walk_at "rd"
      refine ⟨_,_,_,_,rfl,rfl,SqL.of hp,rfl,?_⟩
      walk_at "rd"
      refine ⟨_,_,_,_,rfl,rfl,SqL.of hp,rfl,?_⟩
      walk_at "rd"
      refine ⟨(by show 0 < q; omega),?_⟩
      walk_at "rd"
      refine ⟨_,_,_,1,rfl,rfl,hp,rfl,?_⟩
      have h1 := Int.emod_nonneg (m * 48271 + 7919) (show q ≠ 0 by omega)
      have h2 := Int.emod_lt_of_pos (m * 48271 + 7919) (show 0 < q by omega)
      walk_at "rd"
      refine ⟨_,_,_,_,rfl,rfl,SqL.of upd_same,rfl,?_⟩
      walk_at "rd"
      refine ⟨⟨by decide,by decide,(by show ((m * 48271 + 7919) % q).natAbs < 2 ^ 64; omega)⟩,?_⟩
      walk_at "rd"
      refine ⟨(by show (0 : Int) < 2147483647; decide),?_⟩
      walk_at "rd"
      refine ⟨⟨by decide,64,Bd.num _ (by decide),by decide⟩,?_⟩
      walk_at "rd"
      refine ⟨h0,?_⟩
      exact k _ _ (md _).1 (md _).2 ⟨_,_,_,upd_same,hf,h1,by omega,q0,q1⟩ Keep.upd
def BT : BagT := ⟨fun p H => BagP H p,fun p H H' b k => by
  obtain ⟨f,m,q,e,r⟩ := b
  exact ⟨f,m,q,k _ e,r⟩,fun p H b => by
  obtain ⟨f,m,q,e,r⟩ := b
  exact ⟨_,e⟩⟩
theorem keep_kp {p : Addr}{H H' : Hp}(k : Keep p H H') : Kp (some p) H H' := fun c o n e => k c o (fun z => n (by rw [z])) e
def pre_bag : List D -> Prop := fun ds => ∃ (ns : List Int) (i : Nat),ds = [.scr ns,.int i] /\ i <= 1000
theorem up__law_bag {K : PySem.W.Frag} : ∀ vs H Q E,(bagSp K BT pre_bag) vs H Q E -> (sp_bag K) vs H Q E := by
  rintro vs H Q E ⟨M,b,ds,hr,⟨ns,i,rfl,hi⟩,k⟩
  obtain ⟨v,r,rfl,⟨a,rfl,hS⟩,u,r',rfl,h2,h3⟩ := hr
  cases (show _ = _ from h2)
  cases (show _ = _ from h3)
  exact ⟨a,ns,i,rfl,hS.imp (·.2) id,hi,k⟩
theorem ok__law_bag {P : Program}{w : World}{K : PySem.W.Frag}{mg : Str -> Option Value}{base : Heap}{f : Addr}{fd : FuncData}(F : Fun K "_law_bag" "_law_bag" s__law_bag f fd) (Z : Bi mg) : FnOk P w K mg base CX0 1 f fd ["_law_script","_law_at"] (bagSp K BT pre_bag) := FnOk.imp (ok0__law_bag F Z) up__law_bag
def S_digit : DSp := fun ds P _ => ∃ (many : Int) (n : Nat),ds = [.bag,.int many] /\ 0 < many /\ Bd n many /\ n <= 9000 /\ ∀ r,0 <= r -> r < many -> P (.int r)
theorem up__law_digit {K : PySem.W.Frag} : ∀ vs H Q E,(liftSp K BT S_digit) vs H Q E -> sp_digit vs H Q E := by
  rintro vs H Q E ⟨M,b,ds,P,Ed,⟨many,n,rfl,h0,hbd,hn,hP⟩,⟨v,r,rfl,⟨p,rfl,rfl⟩,u,r',rfl,h2,h3⟩,ho,hb,hd,hq,hx⟩
  cases (show _ = _ from h2)
  cases (show _ = _ from h3)
  exact ⟨p,many,n,rfl,ho p rfl,h0,hbd,hn,fun r H' r0 r1 b' k => hq _ _ H' (hP r r0 r1) rfl (keep_kp k) fun q e => by cases e; exact b'⟩
theorem ok__law_digit {P : Program}{w : World}{K : PySem.W.Frag}{mg : Str -> Option Value}{base : Heap}{f : Addr}{fd : FuncData}(F : Fun K "_law_digit" "_law_digit" s__law_digit f fd) (Z : Bi mg) : FnOk P w K mg base CX0 1 f fd ["_law_bag_here","_law_many"] (liftSp K BT S_digit) := FnOk.imp (ok0__law_digit F Z) up__law_digit
def dCut (d1 d2 : DS) : DS := fun F ρ => ∃ C : Ev -> Prop,d1 { F with nx := C } ρ /\ ∀ ρ',C ρ' -> d2 F ρ'
theorem jdss_cut {X : Cx}{W : Wd}{st : Stmt}{rest : List Stmt}{d1 d2 : DS}(h1 : JS X W st d1)(h2 : JSs X W rest d2) : JSs X W (st :: rest) (dCut d1 d2) := ⟨(pss_cons h1.h h2.h).mono fun E σ H hh => hh.elim fun pn M b ρ F s l h => by
  obtain ⟨C,q1,q2⟩ := h
  exact ⟨pn,M,b,ρ,{ F with nx := C },s,⟨fun M b ρ σ H s' h' => ⟨pn,M,b,ρ,F,s',l,q2 ρ h'⟩,l.rt,l.bk,l.ct,l.ro⟩,q1⟩⟩
structure R3 where
  x : Int
  y : Int
  z : Int
abbrev R3.d (r : R3) : D := t3 r.x r.y r.z
structure F3i where
  i : Nat
  j : Nat
  k : Nat
abbrev F3i.d (f : F3i) : D := t3 f.i f.j f.k
def F3i.has (f : F3i)(n : Nat) : Prop := n = f.i \/ n = f.j \/ n = f.k
theorem get_of {α : Type}{g : α -> D}{l : List α}{i : Nat}{x : D}(h : (l.map g)[i]? = some x) : ∃ a,l[i]? = some a /\ x = g a := by
  rw [List.getElem?_map] at h
  obtain ⟨a,e,rfl⟩ := Option.map_eq_some_iff.mp h
  exact ⟨a,e,rfl⟩
structure R3.sm (r : R3) : Prop where
  x : -999999 <= r.x /\ r.x <= 999999
  y : -999999 <= r.y /\ r.y <= 999999
  z : -999999 <= r.z /\ r.z <= 999999
structure F3i.ok (f : F3i)(n : Nat) : Prop where
  i : f.i < n
  j : f.j < n
  k : f.k < n
  ij : f.i ≠ f.j
  jk : f.j ≠ f.k
  ki : f.k ≠ f.i
def cb (ex : List Int)(n : Nat) : Nat := (ex.filter fun z : Int => decide (z < (n : Int))).length
theorem cb_mono (ex : List Int)(n : Nat) : cb ex n <= cb ex (n + 1) := by
  induction ex with
  | nil => exact Nat.le_refl _
  | cons z ex ih =>
    unfold cb at ih ⊢
    rw [List.filter_cons,List.filter_cons]
    by_cases h : z < (n : Int)
    · have h' : z < ((n + 1 : Nat) : Int) := by omega
      simp only [h,h',decide_true,if_true,List.length_cons]
      omega
    · by_cases h' : z < ((n + 1 : Nat) : Int)
      · simp only [h,h',decide_true,decide_false,if_true,Bool.false_eq_true,if_false,List.length_cons]
        omega
      · simp only [h,h',decide_false,Bool.false_eq_true,if_false]
        exact ih
theorem cb_in {ex : List Int}{n : Nat}(h : (n : Int) ∈ ex) : cb ex n + 1 <= cb ex (n + 1) := by
  induction ex with
  | nil => cases h
  | cons z ex ih =>
    have mo := cb_mono ex n
    unfold cb at ih mo ⊢
    rw [List.filter_cons,List.filter_cons]
    by_cases e : z = (n : Int)
    · have h1 : ¬ z < (n : Int) := by omega
      have h2 : z < ((n + 1 : Nat) : Int) := by omega
      simp only [h1,h2,decide_true,decide_false,if_true,Bool.false_eq_true,if_false,List.length_cons]
      omega
    · have ih := ih ((List.mem_cons.mp h).resolve_left fun z => e z.symm)
      by_cases h1 : z < (n : Int)
      · have h2 : z < ((n + 1 : Nat) : Int) := by omega
        simp only [h1,h2,decide_true,if_true,List.length_cons]
        omega
      · have h2 : ¬ z < ((n + 1 : Nat) : Int) := by omega
        simp only [h1,h2,decide_false,Bool.false_eq_true,if_false]
        exact ih
def Left (ex : List Int)(n : Nat)(acc : List D) : Prop := ∃ ns : List Int,acc = ns.map D.int /\ (∀ z ∈ ns,z ∉ ex /\ 0 <= z /\ z < n) /\ n <= ns.length + cb ex n /\ ns.length <= n
theorem Left.nil (ex : List Int) : Left ex 0 [] := ⟨[],rfl,by simp,Nat.zero_le _,Nat.le_refl _⟩
theorem Left.add {ex : List Int}{n : Nat}{acc : List D}(h : Left ex n acc)(ni : (n : Int) ∉ ex) : Left ex (n + 1) (acc ++ [.int n]) := by
  obtain ⟨ns,rfl,h1,h2,h3⟩ := h
  refine ⟨ns ++ [(n : Int)],by simp,fun z hz => ?_,?_,by simp; omega⟩
  · rcases List.mem_append.mp hz with q | q
    · have := h1 z q
      exact ⟨this.1,this.2.1,by omega⟩
    · rw [List.mem_singleton.mp q]
      exact ⟨ni,by omega,by omega⟩
  · have := cb_mono ex n
    rw [List.length_append,List.length_singleton]
    omega
theorem Left.skip {ex : List Int}{n : Nat}{acc : List D}(h : Left ex n acc)(m : (n : Int) ∈ ex) : Left ex (n + 1) acc := by
  obtain ⟨ns,rfl,h1,h2,h3⟩ := h
  have := cb_in m
  exact ⟨ns,rfl,fun z hz => ⟨(h1 z hz).1,(h1 z hz).2.1,by have := (h1 z hz).2.2; omega⟩,by omega,by omega⟩
theorem Left.len {ex : List Int}{n : Nat}{acc : List D}(h : Left ex n acc) : n <= acc.length + ex.length := by
  obtain ⟨ns,rfl,h1,h2,h3⟩ := h
  have : cb ex n <= ex.length := List.length_filter_le ..
  rw [List.length_map]
  omega
theorem Left.mem {ex : List Int}{n : Nat}{acc : List D}(h : Left ex n acc){d : D}(m : d ∈ acc) : ∃ z : Nat,d = .int z /\ (z : Int) ∉ ex /\ z < n := by
  obtain ⟨ns,rfl,h1,h2,h3⟩ := h
  obtain ⟨z,hz,rfl⟩ := List.mem_map.mp m
  obtain ⟨q1,q2,q3⟩ := h1 z hz
  exact ⟨z.toNat,by rw [Int.toNat_of_nonneg q2],by rw [Int.toNat_of_nonneg q2]; exact q1,by omega⟩
theorem wrap_mod {a m : Int}(h0 : 0 <= a)(h : a < 2 * m) : (a < m /\ a % m = a) \/ (m <= a /\ a % m = a - m) := by
  by_cases c : a < m
  · exact .inl ⟨c,Int.emod_eq_of_lt h0 c⟩
  · refine .inr ⟨by omega,?_⟩
    rw [show a % m = (a - m) % m by rw [Int.sub_emod,Int.emod_self,Int.sub_zero,Int.emod_emod]]
    exact Int.emod_eq_of_lt (by omega) (by omega)
theorem cut_to {xs : List D}{k : Nat}(h : k <= xs.length) : L2.cutD xs none (some (k : Int)) = xs.take k := by
  unfold L2.cutD
  have e1 : HT.sIx xs.length 0 none = 0 := rfl
  have e2 : HT.sIx xs.length xs.length (some (k : Int)) = k := by rw [HT.sIx_nat,Nat.min_eq_left h]
  rw [e1,e2,List.drop_zero,Nat.sub_zero]
theorem cut_from {xs : List D}{k : Nat}(h : k <= xs.length) : L2.cutD xs (some (k : Int)) none = xs.drop k := by
  unfold L2.cutD
  have e1 : HT.sIx xs.length 0 (some (k : Int)) = k := by rw [HT.sIx_nat,Nat.min_eq_left h]
  have e2 : HT.sIx xs.length xs.length none = xs.length := rfl
  rw [e1,e2]
  exact List.take_of_length_le (by simp)
abbrev s__law_corner : Stmt := top 9
theorem sc__law_corner : FnScope ["_law_bag_here"] ["_law_bag_here"] (defScope s__law_corner) := ⟨rfl,rfl,rfl,by decide +kernel,rfl,by decide +kernel,by decide +kernel⟩
def S_crn : DSp := fun ds P _ => ds = [.bag] /\ ∀ r : R3,r.sm -> P r.d
structure C__law_corner (P : Program)(w : World)(K : PySem.W.Frag)(mg : Str -> Option Value)(base : Heap) : Prop where
  _law_digit_ : Callee P w K mg base CX0 "_law_digit" 1 ["_law_bag_here","_law_many"] (liftSp K BT S_digit)
theorem ok__law_corner {P : Program}{w : World}{K : PySem.W.Frag}{mg : Str -> Option Value}{base : Heap}{f : Addr}{fd : FuncData}(F : Fun K "_law_corner" "_law_corner" s__law_corner f fd) (Z : Bi mg) (G : C__law_corner P w K mg base) : FnOk P w K mg base CX0 2 f fd ["_law_bag_here"] (liftSp K BT S_crn) := by
  refine F.okD sc__law_corner (fun ds PP Ed h => ?_) (fun cdv A outer s H E M bg ds PP Ed hr hS_ => ?_)
  · obtain ⟨rfl,hP⟩ := h
    rfl
  · obtain ⟨rfl,hP⟩ := hS_
    refine ⟨_,(jdss_cons (jds_if (jdt_cmp op_eq od_eqS (jde_own G._law_digit_ (hr.mono (by decide)) rfl (jda_cons (jdv 0) (jda_cons jde_int jda_nil))) jde_int (nomark _)) (jdss_one (jds_ret (jde_tup (jda_cons (jde_own G._law_digit_ (hr.mono (by decide)) rfl (jda_cons (jdv 0) (jda_cons jde_int jda_nil))) (jda_cons (jde_own G._law_digit_ (hr.mono (by decide)) rfl (jda_cons (jdv 0) (jda_cons jde_int jda_nil))) (jda_cons (jde_own G._law_digit_ (hr.mono (by decide)) rfl (jda_cons (jdv 0) (jda_cons jde_int jda_nil))) jda_nil)))))) jdss_nil)
      (jdss_one (jds_ret (jde_callTy (call_tuple_ofK K (by rfl)) cd_tuple rfl Z.tuple_ bt_tuple (jda_cons (jde_comp (X := (cxOf CX0 P w K mg base ["_law_bag_here"] "_law_corner" (defScope s__law_corner) f cdv A outer s H E).nox) (gd_name 0) (blkJ (X := (cxOf CX0 P w K mg base ["_law_bag_here"] "_law_corner" (defScope s__law_corner) f cdv A outer s H E).nox) (N' := ["_law_k","_law_bag_here"]) (map := [none,some 0]) (by rfl) (by rfl) (by decide +kernel) (by rfl) ⟨⟨rfl,rfl,rfl,by walk_at "o"⟩,True.intro⟩ (gkeep_name rfl) fun cl0 C0 fp0 s0 H0 => ⟨(pg_name (X := (cxComp (cxOf CX0 P w K mg base ["_law_bag_here"] "_law_corner" (defScope s__law_corner) f cdv A outer s H E).nox ["_law_k","_law_bag_here"] _ cl0 C0 fp0 s0 H0)) (i := 0) (nodupS ["_law_k","_law_bag_here"] (by decide +kernel)) rfl (by walk_at "o")),jdif_nil,(jde_op (X := (cxComp (cxOf CX0 P w K mg base ["_law_bag_here"] "_law_corner" (defScope s__law_corner) f cdv A outer s H E).nox ["_law_k","_law_bag_here"] _ cl0 C0 fp0 s0 H0)) op_sub od_I0 (jde_own G._law_digit_ (hr.mono (by decide)) rfl (jda_cons (jdv 1) (jda_cons jde_int jda_nil))) jde_int)⟩) (jdi_range1 rfl Z.range_ (jda_cons jde_int jda_nil))) jda_nil))))),?_⟩
    walk_at "go"
    refine ⟨_,64,rfl,by decide,Bd.num _ (by decide),by decide,fun q q0 q1 => ?_⟩
    walk_at "go"
    walk_at "sp"
    · walk_at "go"
      refine ⟨_,64,rfl,by decide,Bd.num _ (by decide),by decide,fun a a0 a1 => ?_⟩
      walk_at "go"
      refine ⟨_,64,rfl,by decide,Bd.num _ (by decide),by decide,fun b b0 b1 => ?_⟩
      walk_at "go"
      refine ⟨_,64,rfl,by decide,Bd.num _ (by decide),by decide,fun c c0 c1 => ?_⟩
      walk_at "go"
      exact hP ⟨a,b,c⟩ ⟨⟨by dsimp only; omega,by dsimp only; omega⟩,⟨by dsimp only; omega,by dsimp only; omega⟩,⟨by dsimp only; omega,by dsimp only; omega⟩⟩
    · walk_at "go"
      walk_at "gc"
      refine ⟨_,64,rfl,by decide,Bd.num _ (by decide),by decide,fun a a0 a1 => ?_⟩
      walk_at "go"
      refine ⟨_,64,rfl,by decide,Bd.num _ (by decide),by decide,fun b b0 b1 => ?_⟩
      walk_at "go"
      refine ⟨_,64,rfl,by decide,Bd.num _ (by decide),by decide,fun c c0 c1 => ?_⟩
      walk_at "go"
      exact hP ⟨a - 999999,b - 999999,c - 999999⟩ ⟨⟨by dsimp only; omega,by dsimp only; omega⟩,⟨by dsimp only; omega,by dsimp only; omega⟩,⟨by dsimp only; omega,by dsimp only; omega⟩⟩
abbrev s__law_face : Stmt := top 10
theorem sc__law_face : FnScope ["_law_bag_here","_law_many","_law_i","_law_j","_law_k"] ["_law_bag_here","_law_many"] (defScope s__law_face) := ⟨rfl,rfl,rfl,by decide +kernel,rfl,by decide +kernel,by decide +kernel⟩
def S_bfc : DSp := fun ds P _ => ∃ m : Nat,ds = [.bag,.int m] /\ 3 <= m /\ m <= 24 /\ ∀ f : F3i,f.ok m -> P f.d
structure C__law_face (P : Program)(w : World)(K : PySem.W.Frag)(mg : Str -> Option Value)(base : Heap) : Prop where
  _law_digit_ : Callee P w K mg base CX0 "_law_digit" 1 ["_law_bag_here","_law_many"] (liftSp K BT S_digit)
theorem ok__law_face {P : Program}{w : World}{K : PySem.W.Frag}{mg : Str -> Option Value}{base : Heap}{f : Addr}{fd : FuncData}(F : Fun K "_law_face" "_law_face" s__law_face f fd) (Z : Bi mg) (G : C__law_face P w K mg base) : FnOk P w K mg base CX0 2 f fd ["_law_bag_here","_law_many"] (liftSp K BT S_bfc) := by
  refine F.okD sc__law_face (fun ds PP Ed h => ?_) (fun cdv A outer s H E M bg ds PP Ed hr hS_ => ?_)
  · obtain ⟨m,rfl,m3,m24,hP⟩ := h
    rfl
  · obtain ⟨m,rfl,m3,m24,hP⟩ := hS_
    refine ⟨_,(jdss_cons (jds_set (i := 2) sc__law_face.nd rfl (by walk_at "o") (jde_own G._law_digit_ (hr.mono (by decide)) rfl (jda_cons (jdv 0) (jda_cons (jdv 1) jda_nil))))
      (jdss_cons (jds_set (i := 3) sc__law_face.nd rfl (by walk_at "o") (jde_op op_mod od_I (jde_op op_add od_I0 (jde_op op_add od_I0 (jdv 2) jde_int) (jde_own G._law_digit_ (hr.mono (by decide)) rfl (jda_cons (jdv 0) (jda_cons (jde_op op_sub od_I0 (jdv 1) jde_int) jda_nil)))) (jdv 1)))
      (jdss_cons (jds_set (i := 4) sc__law_face.nd rfl (by walk_at "o") (jde_ix (ix_any K (by rfl)) od_ix (jde_comp (X := (cxOf CX0 P w K mg base ["_law_bag_here","_law_many","_law_i","_law_j","_law_k"] "_law_face" (defScope s__law_face) f cdv A outer s H E).nox) (gd_name 0) (blkJ (X := (cxOf CX0 P w K mg base ["_law_bag_here","_law_many","_law_i","_law_j","_law_k"] "_law_face" (defScope s__law_face) f cdv A outer s H E).nox) (N' := ["_law_one","_law_i","_law_j"]) (map := [none,some 2,some 3]) (by rfl) (by rfl) (by decide +kernel) (by rfl) ⟨⟨rfl,rfl,rfl,by walk_at "o"⟩,⟨⟨rfl,rfl,rfl,by walk_at "o"⟩,True.intro⟩⟩ (gkeep_name rfl) fun cl0 C0 fp0 s0 H0 => ⟨(pg_name (X := (cxComp (cxOf CX0 P w K mg base ["_law_bag_here","_law_many","_law_i","_law_j","_law_k"] "_law_face" (defScope s__law_face) f cdv A outer s H E).nox ["_law_one","_law_i","_law_j"] _ cl0 C0 fp0 s0 H0)) (i := 0) (nodupS ["_law_one","_law_i","_law_j"] (by decide +kernel)) rfl (by walk_at "o")),(jdif_one (jdt_cmp (op_notinG K (by rfl) hr.units) od_inG (jdv 0) (jde_tup (jda_cons (jdv 1) (jda_cons (jdv 2) jda_nil))) (by with_unfolding_all rfl))),(jdv (X := (cxComp (cxOf CX0 P w K mg base ["_law_bag_here","_law_many","_law_i","_law_j","_law_k"] "_law_face" (defScope s__law_face) f cdv A outer s H E).nox ["_law_one","_law_i","_law_j"] _ cl0 C0 fp0 s0 H0)) 0)⟩) (jdi_range1 rfl Z.range_ (jda_cons (jdv 1) jda_nil))) (jde_own G._law_digit_ (hr.mono (by decide)) rfl (jda_cons (jdv 0) (jda_cons (jde_op op_sub od_I0 (jdv 1) jde_int) jda_nil))) (fun _ _ => rfl)))
      (jdss_one (jds_ret (jde_tup (jda_cons (jdv 2) (jda_cons (jdv 3) (jda_cons (jdv 4) jda_nil))))))))),?_⟩
    have bm : Bd 64 (m : Int) := Bd.of (by omega) (by omega)
    walk_at "go"
    refine ⟨(m : Int),64,rfl,by omega,bm,by decide,fun i i0 i1 => ?_⟩
    walk_at "go"
    refine ⟨(m : Int) - 1,64,rfl,by omega,Bd.of (by omega) (by omega),by decide,fun j j0 j1 => ?_⟩
    have wr := wrap_mod (a := i + 1 + j) (m := m) (by omega) (by omega)
    have bi : Bd 64 (i + 1 + j) := Bd.of (by omega) (by omega)
    walk_at "go"
    refine And.intro (show (0 : Int) < m by omega) ?_
    walk_at "go"
    obtain ⟨jn,ej,jm,jne⟩ : ∃ jn : Nat,(i + 1 + j) % (m : Int) = jn /\ jn < m /\ (jn : Int) ≠ i := by
      rcases wr with ⟨w1,w2⟩ | ⟨w1,w2⟩
      · exact ⟨(i + 1 + j).toNat,by omega,by omega,by omega⟩
      · exact ⟨(i + 1 + j - m).toNat,by omega,by omega,by omega⟩
    rw [ej]
    obtain ⟨iN,rfl⟩ : ∃ iN : Nat,i = iN := ⟨i.toNat,by omega⟩
    clear wr bi
    refine And.intro ⟨by omega,by omega⟩ ?_
    refine And.intro (by rw [rangeD_len]; omega) ?_
    refine ⟨fun n acc => Left [(iN : Int),(jn : Int)] n acc,Left.nil _,?_,?_⟩
    · rintro n x acc e hI
      obtain ⟨rfl,hn⟩ := rangeD_get e
      clear e
      rw [Int.zero_add]
      walk_at "go"
      refine inG_ints (ns := [(iN : Int),(jn : Int)]) (.inl rfl) ?_
      walk_at "go"
      by_cases z : (n : Int) ∈ [(iN : Int),(jn : Int)]
      · refine IfP.f (by simp [z]) ?_
        exact hI.skip z
      · refine IfP.t (by simp [z]) ?_
        walk_at "go"
        exact hI.add z
    · rintro acc hI
      rw [rangeD_len,Int.toNat_natCast] at hI
      have hl := hI.len
      have hl : m <= acc.length + 2 := hl
      walk_at "go"
      refine ⟨(m : Int) - 2,64,rfl,by omega,Bd.of (by omega) (by omega),by decide,fun k k0 k1 => ?_⟩
      walk_at "go"
      refine ixm k0 (by omega) fun d md => ?_
      obtain ⟨kn,rfl,k2,k3⟩ := hI.mem md
      simp only [List.mem_cons,List.not_mem_nil,or_false,not_or] at k2
      walk_at "go"
      exact hP ⟨iN,jn,kn⟩ ⟨by dsimp only; omega,jm,k3,by dsimp only; omega,by dsimp only; omega,by dsimp only; omega⟩
structure Bod (cs : List R3)(fs : List F3i) : Prop where
  l3 : 3 <= cs.length
  l24 : cs.length <= 24
  sm : ∀ r ∈ cs,r.sm
  ok : ∀ f ∈ fs,f.ok cs.length
  f24 : fs.length <= 24
theorem R3s_of : ∀ {acc : List D},(∀ y ∈ acc,∃ t : R3,t.sm /\ y = t.d) -> ∃ ts : List R3,acc = ts.map R3.d /\ ∀ t ∈ ts,t.sm
  | [],_ => ⟨[],rfl,by simp⟩
  | y :: r,h => by
    obtain ⟨t,ht,rfl⟩ := h y (by simp)
    obtain ⟨ts,rfl,hts⟩ := R3s_of (acc := r) fun y' h' => h y' (List.mem_cons_of_mem _ h')
    exact ⟨t :: ts,rfl,fun t' h' => by
      rcases List.mem_cons.mp h' with rfl | q
      · exact ht
      · exact hts t' q⟩
theorem F3is_of {n : Nat} : ∀ {acc : List D},(∀ y ∈ acc,∃ t : F3i,t.ok n /\ y = t.d) -> ∃ ts : List F3i,acc = ts.map F3i.d /\ ∀ t ∈ ts,t.ok n
  | [],_ => ⟨[],rfl,by simp⟩
  | y :: r,h => by
    obtain ⟨t,ht,rfl⟩ := h y (by simp)
    obtain ⟨ts,rfl,hts⟩ := F3is_of (acc := r) fun y' h' => h y' (List.mem_cons_of_mem _ h')
    exact ⟨t :: ts,rfl,fun t' h' => by
      rcases List.mem_cons.mp h' with rfl | q
      · exact ht
      · exact hts t' q⟩
abbrev s__law_body : Stmt := top 11
theorem sc__law_body : FnScope ["_law_bag_here","_law_most","_law_way","_law_many","_law_corners","_law_faces","_law_i","_law_j","_law_k","_law_top","_law_last","_law_at","_law_one","_law_more"] ["_law_bag_here","_law_most"] (defScope s__law_body) := ⟨rfl,rfl,rfl,by decide +kernel,rfl,by decide +kernel,by decide +kernel⟩
def S_body : DSp := fun ds P _ => ∃ most : Nat,ds = [.bag,.int most] /\ (6 <= most /\ most <= 24) /\ ∀ cs fs,Bod cs fs -> P (.tup [.lst (cs.map R3.d),.lst (fs.map F3i.d)])
structure C__law_body (P : Program)(w : World)(K : PySem.W.Frag)(mg : Str -> Option Value)(base : Heap) : Prop where
  _law_digit_ : Callee P w K mg base CX0 "_law_digit" 1 ["_law_bag_here","_law_many"] (liftSp K BT S_digit)
  _law_corner_ : Callee P w K mg base CX0 "_law_corner" 2 ["_law_bag_here"] (liftSp K BT S_crn)
  _law_face_ : Callee P w K mg base CX0 "_law_face" 2 ["_law_bag_here","_law_many"] (liftSp K BT S_bfc)
theorem ok__law_body {P : Program}{w : World}{K : PySem.W.Frag}{mg : Str -> Option Value}{base : Heap}{f : Addr}{fd : FuncData}(F : Fun K "_law_body" "_law_body" s__law_body f fd) (Z : Bi mg) (G : C__law_body P w K mg base) : FnOk P w K mg base CX0 3 f fd ["_law_bag_here","_law_most"] (liftSp K BT S_body) := by
  refine F.okD sc__law_body (fun ds PP Ed h => ?_) (fun cdv A outer s H E M bg ds PP Ed hr hS_ => ?_)
  · obtain ⟨most,rfl,⟨m6,m24⟩,hP⟩ := h
    rfl
  · obtain ⟨most,rfl,⟨m6,m24⟩,hP⟩ := hS_
    refine ⟨_,(jdss_cons (jds_set (i := 2) sc__law_body.nd rfl (by walk_at "o") (jde_own G._law_digit_ (hr.mono (by decide)) rfl (jda_cons (jdv 0) (jda_cons jde_int jda_nil))))
      (jdss_cons (jds_set (i := 3) sc__law_body.nd rfl (by walk_at "o") (jde_op op_add od_I0 jde_int (jde_own G._law_digit_ (hr.mono (by decide)) rfl (jda_cons (jdv 0) (jda_cons (jde_op op_sub od_I0 (jdv 1) jde_int) jda_nil)))))
      (jdss_cons (jds_setC (X := (cxOf CX0 P w K mg base ["_law_bag_here","_law_most","_law_way","_law_many","_law_corners","_law_faces","_law_i","_law_j","_law_k","_law_top","_law_last","_law_at","_law_one","_law_more"] "_law_body" (defScope s__law_body) f cdv A outer s H E).nox) false (i := 4) sc__law_body.nd rfl (by walk_at "o") (gd_name 0) (blkJ (X := (cxOf CX0 P w K mg base ["_law_bag_here","_law_most","_law_way","_law_many","_law_corners","_law_faces","_law_i","_law_j","_law_k","_law_top","_law_last","_law_at","_law_one","_law_more"] "_law_body" (defScope s__law_body) f cdv A outer s H E).nox) (N' := ["_law_k","_law_bag_here"]) (map := [none,some 0]) (by rfl) (by rfl) (by decide +kernel) (by rfl) ⟨⟨rfl,rfl,rfl,by walk_at "o"⟩,True.intro⟩ (gkeep_name rfl) fun cl0 C0 fp0 s0 H0 => ⟨(pg_name (X := (cxComp (cxOf CX0 P w K mg base ["_law_bag_here","_law_most","_law_way","_law_many","_law_corners","_law_faces","_law_i","_law_j","_law_k","_law_top","_law_last","_law_at","_law_one","_law_more"] "_law_body" (defScope s__law_body) f cdv A outer s H E).nox ["_law_k","_law_bag_here"] _ cl0 C0 fp0 s0 H0)) (i := 0) (nodupS ["_law_k","_law_bag_here"] (by decide +kernel)) rfl (by walk_at "o")),jdif_nil,(jde_own (X := (cxComp (cxOf CX0 P w K mg base ["_law_bag_here","_law_most","_law_way","_law_many","_law_corners","_law_faces","_law_i","_law_j","_law_k","_law_top","_law_last","_law_at","_law_one","_law_more"] "_law_body" (defScope s__law_body) f cdv A outer s H E).nox ["_law_k","_law_bag_here"] _ cl0 C0 fp0 s0 H0)) G._law_corner_ (hr.mono (by decide)) rfl (jda_cons (jdv 1) jda_nil))⟩) (jdi_range1 rfl Z.range_ (jda_cons (jdv 3) jda_nil)))
      (jdss_cons (jds_set (i := 5) sc__law_body.nd rfl (by walk_at "o") (jde_lst jda_nil))
      (jdss_cut (jds_if (jdt_cmp op_eq od_eqS (jdv 2) jde_int (nomark _)) (jdss_one (jds_setC (X := (cxOf CX0 P w K mg base ["_law_bag_here","_law_most","_law_way","_law_many","_law_corners","_law_faces","_law_i","_law_j","_law_k","_law_top","_law_last","_law_at","_law_one","_law_more"] "_law_body" (defScope s__law_body) f cdv A outer s H E).nox) false (i := 5) sc__law_body.nd rfl (by walk_at "o") (gd_name 0) (blkJ (X := (cxOf CX0 P w K mg base ["_law_bag_here","_law_most","_law_way","_law_many","_law_corners","_law_faces","_law_i","_law_j","_law_k","_law_top","_law_last","_law_at","_law_one","_law_more"] "_law_body" (defScope s__law_body) f cdv A outer s H E).nox) (N' := ["_law_k","_law_bag_here","_law_many"]) (map := [none,some 0,some 3]) (by rfl) (by rfl) (by decide +kernel) (by rfl) ⟨⟨rfl,rfl,rfl,by walk_at "o"⟩,⟨⟨rfl,rfl,rfl,by walk_at "o"⟩,True.intro⟩⟩ (gkeep_name rfl) fun cl0 C0 fp0 s0 H0 => ⟨(pg_name (X := (cxComp (cxOf CX0 P w K mg base ["_law_bag_here","_law_most","_law_way","_law_many","_law_corners","_law_faces","_law_i","_law_j","_law_k","_law_top","_law_last","_law_at","_law_one","_law_more"] "_law_body" (defScope s__law_body) f cdv A outer s H E).nox ["_law_k","_law_bag_here","_law_many"] _ cl0 C0 fp0 s0 H0)) (i := 0) (nodupS ["_law_k","_law_bag_here","_law_many"] (by decide +kernel)) rfl (by walk_at "o")),jdif_nil,(jde_own (X := (cxComp (cxOf CX0 P w K mg base ["_law_bag_here","_law_most","_law_way","_law_many","_law_corners","_law_faces","_law_i","_law_j","_law_k","_law_top","_law_last","_law_at","_law_one","_law_more"] "_law_body" (defScope s__law_body) f cdv A outer s H E).nox ["_law_k","_law_bag_here","_law_many"] _ cl0 C0 fp0 s0 H0)) G._law_face_ (hr.mono (by decide)) rfl (jda_cons (jdv 1) (jda_cons (jdv 2) jda_nil)))⟩) (jdi_range1 rfl Z.range_ (jda_cons (jde_own G._law_digit_ (hr.mono (by decide)) rfl (jda_cons (jdv 0) (jda_cons (jdv 1) jda_nil))) jda_nil)))) (jdss_one (jds_if (jdt_cmp op_gt od_B0 (jdv 3) jde_int (nomark _)) (jdss_cons (jds_asg (gd_seq [6,7,8]) (jde_own G._law_face_ (hr.mono (by decide)) rfl (jda_cons (jdv 0) (jda_cons (jdv 3) jda_nil))) (PG.or (pg_tupK (n := 3) K (by rfl) (by rfl) (pgs_cons (pg_name (i := 6) sc__law_body.nd rfl (by walk_at "o")) (pgs_cons (pg_name (i := 7) sc__law_body.nd rfl (by walk_at "o")) (pgs_cons (pg_name (i := 8) sc__law_body.nd rfl (by walk_at "o")) pgs_nil)))) (pg_lstK (n := 3) K (by rfl) (by rfl) (pgs_cons (pg_name (i := 6) sc__law_body.nd rfl (by walk_at "o")) (pgs_cons (pg_name (i := 7) sc__law_body.nd rfl (by walk_at "o")) (pgs_cons (pg_name (i := 8) sc__law_body.nd rfl (by walk_at "o")) pgs_nil))))))
      (jdss_cons (jds_set (i := 9) sc__law_body.nd rfl (by walk_at "o") (jde_ix (ix_any K (by rfl)) od_ix (jde_comp (X := (cxOf CX0 P w K mg base ["_law_bag_here","_law_most","_law_way","_law_many","_law_corners","_law_faces","_law_i","_law_j","_law_k","_law_top","_law_last","_law_at","_law_one","_law_more"] "_law_body" (defScope s__law_body) f cdv A outer s H E).nox) (gd_name 0) (blkJ (X := (cxOf CX0 P w K mg base ["_law_bag_here","_law_most","_law_way","_law_many","_law_corners","_law_faces","_law_i","_law_j","_law_k","_law_top","_law_last","_law_at","_law_one","_law_more"] "_law_body" (defScope s__law_body) f cdv A outer s H E).nox) (N' := ["_law_one","_law_i","_law_j","_law_k"]) (map := [none,some 6,some 7,some 8]) (by rfl) (by rfl) (by decide +kernel) (by rfl) ⟨⟨rfl,rfl,rfl,by walk_at "o"⟩,⟨⟨rfl,rfl,rfl,by walk_at "o"⟩,⟨⟨rfl,rfl,rfl,by walk_at "o"⟩,True.intro⟩⟩⟩ (gkeep_name rfl) fun cl0 C0 fp0 s0 H0 => ⟨(pg_name (X := (cxComp (cxOf CX0 P w K mg base ["_law_bag_here","_law_most","_law_way","_law_many","_law_corners","_law_faces","_law_i","_law_j","_law_k","_law_top","_law_last","_law_at","_law_one","_law_more"] "_law_body" (defScope s__law_body) f cdv A outer s H E).nox ["_law_one","_law_i","_law_j","_law_k"] _ cl0 C0 fp0 s0 H0)) (i := 0) (nodupS ["_law_one","_law_i","_law_j","_law_k"] (by decide +kernel)) rfl (by walk_at "o")),(jdif_one (jdt_cmp (op_notinG K (by rfl) hr.units) od_inG (jdv 0) (jde_tup (jda_cons (jdv 1) (jda_cons (jdv 2) (jda_cons (jdv 3) jda_nil)))) (by with_unfolding_all rfl))),(jdv (X := (cxComp (cxOf CX0 P w K mg base ["_law_bag_here","_law_most","_law_way","_law_many","_law_corners","_law_faces","_law_i","_law_j","_law_k","_law_top","_law_last","_law_at","_law_one","_law_more"] "_law_body" (defScope s__law_body) f cdv A outer s H E).nox ["_law_one","_law_i","_law_j","_law_k"] _ cl0 C0 fp0 s0 H0)) 0)⟩) (jdi_range1 rfl Z.range_ (jda_cons (jdv 3) jda_nil))) (jde_own G._law_digit_ (hr.mono (by decide)) rfl (jda_cons (jdv 0) (jda_cons (jde_op op_sub od_I0 (jdv 3) jde_int) jda_nil))) (fun _ _ => rfl)))
      (jdss_cons (jds_set (i := 5) sc__law_body.nd rfl (by walk_at "o") (jde_lst (jda_cons (jde_tup (jda_cons (jdv 6) (jda_cons (jdv 8) (jda_cons (jdv 7) jda_nil)))) (jda_cons (jde_tup (jda_cons (jdv 6) (jda_cons (jdv 7) (jda_cons (jdv 9) jda_nil)))) (jda_cons (jde_tup (jda_cons (jdv 7) (jda_cons (jdv 8) (jda_cons (jdv 9) jda_nil)))) (jda_cons (jde_tup (jda_cons (jdv 8) (jda_cons (jdv 6) (jda_cons (jdv 9) jda_nil)))) jda_nil))))))
      (jdss_one (jds_if (jdt_and (jdt_cmp op_eq od_eqS (jdv 2) jde_int (nomark _)) (jdw_and1 (jdt_cmp op_gt od_B0 (jdv 3) jde_int (nomark _)))) (jdss_cons (jds_set (i := 10) sc__law_body.nd rfl (by walk_at "o") (jde_ix (ix_any K (by rfl)) od_ix (jde_comp (X := (cxOf CX0 P w K mg base ["_law_bag_here","_law_most","_law_way","_law_many","_law_corners","_law_faces","_law_i","_law_j","_law_k","_law_top","_law_last","_law_at","_law_one","_law_more"] "_law_body" (defScope s__law_body) f cdv A outer s H E).nox) (gd_name 0) (blkJ (X := (cxOf CX0 P w K mg base ["_law_bag_here","_law_most","_law_way","_law_many","_law_corners","_law_faces","_law_i","_law_j","_law_k","_law_top","_law_last","_law_at","_law_one","_law_more"] "_law_body" (defScope s__law_body) f cdv A outer s H E).nox) (N' := ["_law_one","_law_i","_law_j","_law_k","_law_top"]) (map := [none,some 6,some 7,some 8,some 9]) (by rfl) (by rfl) (by decide +kernel) (by rfl) ⟨⟨rfl,rfl,rfl,by walk_at "o"⟩,⟨⟨rfl,rfl,rfl,by walk_at "o"⟩,⟨⟨rfl,rfl,rfl,by walk_at "o"⟩,⟨⟨rfl,rfl,rfl,by walk_at "o"⟩,True.intro⟩⟩⟩⟩ (gkeep_name rfl) fun cl0 C0 fp0 s0 H0 => ⟨(pg_name (X := (cxComp (cxOf CX0 P w K mg base ["_law_bag_here","_law_most","_law_way","_law_many","_law_corners","_law_faces","_law_i","_law_j","_law_k","_law_top","_law_last","_law_at","_law_one","_law_more"] "_law_body" (defScope s__law_body) f cdv A outer s H E).nox ["_law_one","_law_i","_law_j","_law_k","_law_top"] _ cl0 C0 fp0 s0 H0)) (i := 0) (nodupS ["_law_one","_law_i","_law_j","_law_k","_law_top"] (by decide +kernel)) rfl (by walk_at "o")),(jdif_one (jdt_cmp (op_notinG K (by rfl) hr.units) od_inG (jdv 0) (jde_tup (jda_cons (jdv 1) (jda_cons (jdv 2) (jda_cons (jdv 3) (jda_cons (jdv 4) jda_nil))))) (by with_unfolding_all rfl))),(jdv (X := (cxComp (cxOf CX0 P w K mg base ["_law_bag_here","_law_most","_law_way","_law_many","_law_corners","_law_faces","_law_i","_law_j","_law_k","_law_top","_law_last","_law_at","_law_one","_law_more"] "_law_body" (defScope s__law_body) f cdv A outer s H E).nox ["_law_one","_law_i","_law_j","_law_k","_law_top"] _ cl0 C0 fp0 s0 H0)) 0)⟩) (jdi_range1 rfl Z.range_ (jda_cons (jdv 3) jda_nil))) (jde_own G._law_digit_ (hr.mono (by decide)) rfl (jda_cons (jdv 0) (jda_cons (jde_op op_sub od_I0 (jdv 3) jde_int) jda_nil))) (fun _ _ => rfl)))
      (jdss_one (jds_set (i := 5) sc__law_body.nd rfl (by walk_at "o") (jde_op op_cat od_cat (jde_slice (sl_any K (by rfl)) (jdv 5) (jdo_some jde_int) jdo_none) (jde_lst (jda_cons (jde_tup (jda_cons (jdv 7) (jda_cons (jdv 6) (jda_cons (jdv 10) jda_nil)))) (jda_cons (jde_tup (jda_cons (jdv 8) (jda_cons (jdv 7) (jda_cons (jdv 10) jda_nil)))) (jda_cons (jde_tup (jda_cons (jdv 6) (jda_cons (jdv 8) (jda_cons (jdv 10) jda_nil)))) jda_nil)))))))) jdss_nil))))) jdss_nil)))
      (jdss_cut (jds_if (jdt_and (jdt_cmp op_gt od_B0 (jde_callB (call_len_seqK K (by rfl)) cd_len rfl Z.len_ bt_len (jda_cons (jdv 5) jda_nil)) jde_int (nomark _)) (jdw_and1 (jdt_cmp op_eq od_eqS (jde_own G._law_digit_ (hr.mono (by decide)) rfl (jda_cons (jdv 0) (jda_cons jde_int jda_nil))) jde_int (nomark _)))) (jdss_cons (jds_set (i := 11) sc__law_body.nd rfl (by walk_at "o") (jde_own G._law_digit_ (hr.mono (by decide)) rfl (jda_cons (jdv 0) (jda_cons (jde_callB (call_len_seqK K (by rfl)) cd_len rfl Z.len_ bt_len (jda_cons (jdv 5) jda_nil)) jda_nil))))
      (jdss_cons (jds_set (i := 12) sc__law_body.nd rfl (by walk_at "o") (jde_ix (ix_any K (by rfl)) od_ix (jdv 5) (jdv 11) (fun _ _ => rfl)))
      (jdss_cons (jds_set (i := 13) sc__law_body.nd rfl (by walk_at "o") (jde_ix (ix_any K (by rfl)) od_ix (jde_lst (jda_cons (jde_lst jda_nil) (jda_cons (jde_lst (jda_cons (jde_tup (jda_cons (jde_ix (ix_any K (by rfl)) od_ix (jdv 12) jde_int (fun _ _ => rfl)) (jda_cons (jde_ix (ix_any K (by rfl)) od_ix (jdv 12) jde_int (fun _ _ => rfl)) (jda_cons (jde_ix (ix_any K (by rfl)) od_ix (jdv 12) jde_int (fun _ _ => rfl)) jda_nil)))) jda_nil)) (jda_cons (jde_lst (jda_cons (jdv 12) (jda_cons (jdv 12) jda_nil))) (jda_cons (jde_lst (jda_cons (jde_tup (jda_cons (jde_ix (ix_any K (by rfl)) od_ix (jdv 12) jde_int (fun _ _ => rfl)) (jda_cons (jde_ix (ix_any K (by rfl)) od_ix (jdv 12) jde_int (fun _ _ => rfl)) (jda_cons (jde_ix (ix_any K (by rfl)) od_ix (jdv 12) jde_int (fun _ _ => rfl)) jda_nil)))) jda_nil)) jda_nil))))) (jde_own G._law_digit_ (hr.mono (by decide)) rfl (jda_cons (jdv 0) (jda_cons jde_int jda_nil))) (fun _ _ => rfl)))
      (jdss_one (jds_set (i := 5) sc__law_body.nd rfl (by walk_at "o") (jde_op op_cat od_cat (jde_op op_cat od_cat (jde_slice (sl_any K (by rfl)) (jdv 5) jdo_none (jdo_some (jdv 11))) (jdv 13)) (jde_slice (sl_any K (by rfl)) (jdv 5) (jdo_some (jde_op op_add od_I0 (jdv 11) jde_int)) jdo_none))))))) jdss_nil)
      (jdss_one (jds_ret (jde_tup (jda_cons (jdv 4) (jda_cons (jdv 5) jda_nil))))))))))),?_⟩
    walk_at "go"
    refine ⟨_,64,rfl,by decide,Bd.num _ (by decide),by decide,fun way y0 y1 => ?_⟩
    walk_at "go"
    refine ⟨(most : Int) - 2,64,rfl,by omega,Bd.of (by omega) (by omega),by decide,fun mm mm0 mm1 => ?_⟩
    walk_at "go"
    obtain ⟨many,em,m3,ml⟩ : ∃ many : Nat,3 + mm = many /\ 3 <= many /\ many <= most := ⟨(3 + mm).toNat,by omega,by omega,by omega⟩
    rw [em]
    clear em mm0 mm1
    refine And.intro ⟨by omega,by omega⟩ ?_
    refine And.intro (by rw [rangeD_len]; omega) ?_
    refine comp_all (fun _ y => ∃ t : R3,t.sm /\ y = t.d) (fun k y Q e hQ => ?_) (fun k y ⟨t,_,h⟩ => by rw [h]; rfl) (fun acc hla ha => ?_)
    · walk_at "go"
      exact fun r hr => hQ _ ⟨r,hr,rfl⟩
    obtain ⟨cs,rfl,hcs⟩ := R3s_of (acc := acc) (fun y hy => by obtain ⟨k,ek⟩ := List.getElem?_of_mem hy; exact ha k y ek)
    rw [List.length_map,rangeD_len] at hla
    have hla : cs.length = many := by omega
    clear ha
    walk_at "go"
    have LF : ∀ (ex : List Int) (N : Nat),ex.length <= N -> ∀ n acc,Left ex n acc -> n <= acc.length + N := fun ex N h n acc q => Nat.le_trans q.len (Nat.add_le_add_left h _)
    refine ⟨fun ρ => ∃ (fs : List F3i) (w6 w7 w8 w9 w10 w11 w12 w13 : Option D),ρ = [some .bag,some (.int most),some (.int way),some (.int many),some (.lst (cs.map R3.d)),some (.lst (fs.map F3i.d)),w6,w7,w8,w9,w10,w11,w12,w13] /\ (∀ f ∈ fs,F3i.ok f many) /\ fs.length <= 23,?_,?_⟩
    · walk_at "go"
      walk_at "sp"
      · walk_at "go"
        refine ⟨(most : Int),64,rfl,by omega,Bd.of (by omega) (by omega),by decide,fun n n0 n1 => ?_⟩
        walk_at "go"
        refine And.intro ⟨by omega,by omega⟩ ?_
        refine And.intro (by rw [rangeD_len]; omega) ?_
        refine comp_all (fun _ y => ∃ t : F3i,t.ok many /\ y = t.d) (fun k y Q e hQ => ?_) (fun k y ⟨t,_,h⟩ => by rw [h]; rfl) (fun acc hl2 ha => ?_)
        · walk_at "go"
          exact ⟨many,rfl,m3,by omega,fun f hf => hQ _ ⟨f,hf,rfl⟩⟩
        · obtain ⟨fs,rfl,hfs⟩ := F3is_of (acc := acc) (fun y hy => by obtain ⟨k,ek⟩ := List.getElem?_of_mem hy; exact ha k y ek)
          rw [List.length_map,rangeD_len] at hl2
          exact ⟨fs,_,_,_,_,_,_,_,_,rfl,hfs,by omega⟩
      · walk_at "go"
        by_cases c3 : 3 < many
        · refine IfP.t (by simp; omega) ?_
          walk_at "go"
          refine ⟨many,rfl,m3,by omega,fun f hf => ?_⟩
          obtain ⟨o1,o2,o3,o4,o5,o6⟩ := hf
          walk_at "go"
          refine And.intro ⟨by omega,by omega⟩ ?_
          refine And.intro (by rw [rangeD_len]; omega) ?_
          refine ⟨fun n acc => Left [(f.i : Int),(f.j : Int),(f.k : Int)] n acc,Left.nil _,?_,?_⟩
          · rintro n x acc e hI
            obtain ⟨rfl,hn⟩ := rangeD_get e
            clear e
            rw [Int.zero_add]
            walk_at "go"
            refine inG_ints (ns := [(f.i : Int),(f.j : Int),(f.k : Int)]) (.inl rfl) ?_
            walk_at "go"
            by_cases z : (n : Int) ∈ [(f.i : Int),(f.j : Int),(f.k : Int)]
            · exact IfP.f (by simp [z]) (hI.skip z)
            · refine IfP.t (by simp [z]) ?_
              walk_at "go"
              exact hI.add z
          rintro acc hI
          rw [rangeD_len,Int.toNat_natCast] at hI
          have hl := LF [(f.i : Int),(f.j : Int),(f.k : Int)] 3 (Nat.le_refl 3) _ _ hI
          walk_at "go"
          refine ⟨(many : Int) - 3,64,rfl,by omega,Bd.of (by omega) (by omega),by decide,fun k k0 k1 => ?_⟩
          walk_at "go"
          refine ixm k0 (by omega) fun d md => ?_
          obtain ⟨t,rfl,t2_,t3_⟩ := hI.mem md
          simp only [List.mem_cons,List.not_mem_nil,or_false,not_or] at t2_
          have F1 : F3i.ok ⟨f.i,f.k,f.j⟩ many := ⟨o1,o3,o2,fun z => o6 z.symm,fun z => o5 z.symm,fun z => o4 z.symm⟩
          have F2 : F3i.ok ⟨f.i,f.j,t⟩ many := ⟨o1,o2,t3_,o4,by dsimp only; omega,by dsimp only; omega⟩
          have F3 : F3i.ok ⟨f.j,f.k,t⟩ many := ⟨o2,o3,t3_,o5,by dsimp only; omega,by dsimp only; omega⟩
          have F4 : F3i.ok ⟨f.k,f.i,t⟩ many := ⟨o3,o1,t3_,o6,by dsimp only; omega,by dsimp only; omega⟩
          have all4 : ∀ x ∈ [(⟨f.i,f.k,f.j⟩ : F3i),⟨f.i,f.j,t⟩,⟨f.j,f.k,t⟩,⟨f.k,f.i,t⟩],x.ok many := fun x hx => by
            simp only [List.mem_cons,List.not_mem_nil,or_false] at hx
            rcases hx with rfl | rfl | rfl | rfl <;> assumption
          clear hl hI md acc
          walk_at "go"
          walk_at "sp"
          · walk_at "go"
            by_cases c4 : 4 < many
            · refine IfP.t (by simp; omega) ?_
              walk_at "go"
              refine And.intro ⟨by omega,by omega⟩ ?_
              refine And.intro (by rw [rangeD_len]; omega) ?_
              refine ⟨fun n acc => Left [(f.i : Int),(f.j : Int),(f.k : Int),(t : Int)] n acc,Left.nil _,?_,?_⟩
              · rintro n x acc e hI
                obtain ⟨rfl,hn⟩ := rangeD_get e
                clear e
                rw [Int.zero_add]
                walk_at "go"
                refine inG_ints (ns := [(f.i : Int),(f.j : Int),(f.k : Int),(t : Int)]) (.inl rfl) ?_
                walk_at "go"
                by_cases z : (n : Int) ∈ [(f.i : Int),(f.j : Int),(f.k : Int),(t : Int)]
                · exact IfP.f (by simp [z]) (hI.skip z)
                · refine IfP.t (by simp [z]) ?_
                  walk_at "go"
                  exact hI.add z
              rintro acc hI
              rw [rangeD_len,Int.toNat_natCast] at hI
              have hl := LF [(f.i : Int),(f.j : Int),(f.k : Int),(t : Int)] 4 (Nat.le_refl 4) _ _ hI
              walk_at "go"
              refine ⟨(many : Int) - 4,64,rfl,by omega,Bd.of (by omega) (by omega),by decide,fun k k0 k1 => ?_⟩
              walk_at "go"
              refine ixm k0 (by omega) fun d md => ?_
              obtain ⟨u,rfl,u2_,u3_⟩ := hI.mem md
              simp only [List.mem_cons,List.not_mem_nil,or_false,not_or] at u2_
              clear hl hI md acc
              walk_at "go"
              refine ⟨[⟨f.i,f.j,t⟩,⟨f.j,f.k,t⟩,⟨f.k,f.i,t⟩,⟨f.j,f.i,u⟩,⟨f.k,f.j,u⟩,⟨f.i,f.k,u⟩],_,_,_,_,_,_,_,_,rfl,fun x hx => ?_,(show 6 <= 23 by decide)⟩
              simp only [List.mem_cons,List.not_mem_nil,or_false] at hx
              rcases hx with rfl | rfl | rfl | rfl | rfl | rfl
              · exact F2
              · exact F3
              · exact F4
              · exact ⟨o2,o1,u3_,fun z => o4 z.symm,by dsimp only; omega,by dsimp only; omega⟩
              · exact ⟨o3,o2,u3_,fun z => o5 z.symm,by dsimp only; omega,by dsimp only; omega⟩
              · exact ⟨o1,o3,u3_,fun z => o6 z.symm,by dsimp only; omega,by dsimp only; omega⟩
            · refine IfP.f (by simp; omega) ?_
              walk_at "go"
              exact ⟨[⟨f.i,f.k,f.j⟩,⟨f.i,f.j,t⟩,⟨f.j,f.k,t⟩,⟨f.k,f.i,t⟩],_,_,_,_,_,_,_,_,rfl,all4,(show 4 <= 23 by decide)⟩
          · walk_at "go"
            exact ⟨[⟨f.i,f.k,f.j⟩,⟨f.i,f.j,t⟩,⟨f.j,f.k,t⟩,⟨f.k,f.i,t⟩],_,_,_,_,_,_,_,_,rfl,all4,(show 4 <= 23 by decide)⟩
        · refine IfP.f (by simp; omega) ?_
          walk_at "go"
          exact ⟨[],_,_,_,_,_,_,_,_,rfl,by simp,Nat.zero_le _⟩
    · rintro ρ ⟨fs,w6,w7,w8,w9,w10,w11,w12,w13,rfl,hok,hfl⟩
      walk_at "go"
      refine ⟨fun ρ => ∃ (fs : List F3i) (w6 w7 w8 w9 w10 w11 w12 w13 : Option D),ρ = [some .bag,some (.int most),some (.int way),some (.int many),some (.lst (cs.map R3.d)),some (.lst (fs.map F3i.d)),w6,w7,w8,w9,w10,w11,w12,w13] /\ (∀ f ∈ fs,F3i.ok f many) /\ fs.length <= 24,?_,?_⟩
      · walk_at "go"
        by_cases c0 : 0 < fs.length
        · refine IfP.t (by simp; omega) ?_
          walk_at "go"
          refine ⟨_,64,rfl,by decide,Bd.num _ (by decide),by decide,fun q q0 q1 => ?_⟩
          walk_at "go"
          walk_at "sp"
          · walk_at "go"
            refine ⟨_,64,rfl,by rw [List.length_map]; omega,Bd.of (by rw [List.length_map]; omega) (by rw [List.length_map]; omega),by decide,fun a a0 a1 => ?_⟩
            rw [List.length_map] at a1
            obtain ⟨n,rfl⟩ : ∃ n : Nat,a = n := ⟨a.toNat,by omega⟩
            have hn : n < fs.length := by omega
            have en : atI (fs.map F3i.d) (n : Int) = some fs[n].d := atI_nat (j := n) (by rw [List.getElem?_map,List.getElem?_eq_getElem hn]; rfl)
            obtain ⟨o1,o2,o3,o4,o5,o6⟩ := hok _ (List.getElem_mem hn)
            have okn := hok _ (List.getElem_mem hn)
            walk_at "go"
            rw [en]
            generalize fs[n] = f at *
            walk_at "go"
            refine ⟨_,64,rfl,by decide,Bd.num _ (by decide),by decide,fun w y0 y1 => ?_⟩
            walk_at "go"
            refine ixm y0 (by exact y1) fun dm mm => ?_
            obtain ⟨more,rfl,mo,ml2⟩ : ∃ more : List F3i,dm = .lst (more.map F3i.d) /\ (∀ x ∈ more,x.ok many) /\ more.length <= 2 := by
              have two : ∀ x ∈ [f,f],x.ok many := fun x hx => by
                simp only [List.mem_cons,List.not_mem_nil,or_false] at hx
                rcases hx with rfl | rfl <;> exact okn
              simp only [List.mem_cons,List.not_mem_nil,or_false] at mm
              rcases mm with e | e | e | e
              · exact ⟨[],e,by simp,by decide⟩
              · exact ⟨[⟨f.i,f.k,f.j⟩],e,fun x hx => by rw [List.mem_singleton.mp hx]; exact ⟨o1,o3,o2,fun z => o6 z.symm,fun z => o5 z.symm,fun z => o4 z.symm⟩,(show 1 <= 2 by decide)⟩
              · exact ⟨[f,f],e,two,Nat.le_refl 2⟩
              · exact ⟨[⟨f.j,f.k,f.i⟩],e,fun x hx => by rw [List.mem_singleton.mp hx]; exact ⟨o2,o3,o1,o5,o6,o4⟩,(show 1 <= 2 by decide)⟩
            clear mm
            walk_at "go"
            have e1 : L2.cutD (fs.map F3i.d) none (some (n : Int)) = (fs.take n).map F3i.d := by rw [cut_to (by rw [List.length_map]; omega),List.map_take]
            have e2 : L2.cutD (fs.map F3i.d) (some ((n : Int) + 1)) none = (fs.drop (n + 1)).map F3i.d := by rw [show (n : Int) + 1 = ((n + 1 : Nat) : Int) by omega,cut_from (by rw [List.length_map]; omega),List.map_drop]
            rw [e1]
            refine And.intro (by rw [List.length_map,List.length_map,List.length_take]; omega) ?_
            walk_at "go"
            rw [e2,<- List.map_append]
            refine And.intro (by rw [List.length_map,List.length_map,List.length_append,List.length_take,List.length_drop]; omega) ?_
            walk_at "go"
            rw [<- List.map_append]
            refine ⟨fs.take n ++ more ++ fs.drop (n + 1),_,_,_,_,_,_,_,_,rfl,fun x hx => ?_,by rw [List.length_append,List.length_append,List.length_take,List.length_drop]; omega⟩
            rcases List.mem_append.mp hx with hx | hx
            · rcases List.mem_append.mp hx with hx | hx
              · exact hok x (List.mem_of_mem_take hx)
              · exact mo x hx
            · exact hok x (List.mem_of_mem_drop hx)
          · walk_at "go"
            exact ⟨fs,_,_,_,_,_,_,_,_,rfl,hok,Nat.le_trans hfl (by decide)⟩
        · refine IfP.f (by have z : fs = [] := List.eq_nil_of_length_eq_zero (by omega); simp [z]) ?_
          walk_at "go"
          exact ⟨fs,_,_,_,_,_,_,_,_,rfl,hok,by omega⟩
      · rintro ρ ⟨fs,w6,w7,w8,w9,w10,w11,w12,w13,rfl,hok,hfl⟩
        walk_at "go"
        exact hP cs fs ⟨by omega,by omega,hcs,by rw [hla]; exact hok,hfl⟩
abbrev s__law_copied : Stmt := top 12
theorem sc__law_copied : FnScope ["_law_body_here"] ["_law_body_here"] (defScope s__law_copied) := ⟨rfl,rfl,rfl,by decide +kernel,rfl,by decide +kernel,by decide +kernel⟩
def S_copied : DSp := fun ds P _ => ∃ (xs ys : List D),ds = [.tup [.lst xs,.lst ys]] /\ P (.tup [.lst xs,.lst ys])
theorem ok__law_copied {P : Program}{w : World}{K : PySem.W.Frag}{mg : Str -> Option Value}{base : Heap}{f : Addr}{fd : FuncData}(F : Fun K "_law_copied" "_law_copied" s__law_copied f fd) (Z : Bi mg) : FnOk P w K mg base CX0 1 f fd ["_law_body_here"] (liftSp K BT S_copied) := by
  refine F.okD sc__law_copied (fun ds PP Ed h => ?_) (fun cdv A outer s H E M bg ds PP Ed hr hS_ => ?_)
  · obtain ⟨xs,ys,rfl,hP⟩ := h
    rfl
  · obtain ⟨xs,ys,rfl,hP⟩ := hS_
    refine ⟨_,(jdss_one (jds_ret (jde_tup (jda_cons (jde_callTy (call_list_ofK K (by rfl)) cd_list rfl Z.list_ bt_list (jda_cons (jde_ix (ix_any K (by rfl)) od_ix (jdv 0) jde_int (fun _ _ => rfl)) jda_nil)) (jda_cons (jde_callTy (call_list_ofK K (by rfl)) cd_list rfl Z.list_ bt_list (jda_cons (jde_ix (ix_any K (by rfl)) od_ix (jdv 0) jde_int (fun _ _ => rfl)) jda_nil)) jda_nil))))),?_⟩
    walk_at "go"
    exact hP
def sdR (f : F3i) : List (List Int) := [[(f.i : Int),(f.j : Int)],[(f.j : Int),(f.k : Int)],[(f.k : Int),(f.i : Int)]]
def sdsR (fs : List F3i) : List (List Int) := fs.flatMap sdR
def felR : List Int -> List Int
  | [a,b] => [b,a]
  | r => r
theorem sdsR_len (fs : List F3i) : (sdsR fs).length = 3 * fs.length := by
  induction fs with
  | nil => rfl
  | cons f fs ih =>
    show (sdR f ++ sdsR fs).length = _
    rw [List.length_append,ih,List.length_cons]
    show 3 + _ = _
    omega
structure Cnt (L : List (List Int))(ks : List (List Int))(xs : List D) : Prop where
  len : ks.length = xs.length
  nd : ks.Nodup
  get : ∀ r,findD ks xs r = if r ∈ L then some (.int (L.count r)) else none
  mem : ∀ r,r ∈ ks ↔ r ∈ L
theorem Cnt.nil : Cnt [] [] [] := ⟨rfl,List.nodup_nil,fun r => by simp [findD],fun r => Iff.rfl⟩
theorem fine_rows (rows : List (List Int)) : finesD 2 (rows.map rowD) = true := by
  induction rows with
  | nil => rfl
  | cons r rows ih =>
    rw [List.map_cons]
    unfold finesD
    rw [ih]
    have : fineD 2 (rowD r) = true := by
      unfold rowD fineD
      induction r with
      | nil => rfl
      | cons a r ih => rw [List.map_cons]; unfold finesD; rw [ih]; rfl
    rw [this]; rfl
abbrev s_sides_of : Stmt := top 1
theorem sc_sides_of : FnScope ["face","i","j","k"] ["face"] (defScope s_sides_of) := ⟨rfl,rfl,rfl,by decide +kernel,rfl,by decide +kernel,by decide +kernel⟩
def S_sd : DSp := fun ds P _ => ∃ f : F3i,ds = [f.d] /\ P (.lst ((sdR f).map rowD))
theorem ok_sides_of {P : Program}{w : World}{K : PySem.W.Frag}{mg : Str -> Option Value}{base : Heap}{f : Addr}{fd : FuncData}(F : Fun K "sides_of" "sides_of" s_sides_of f fd) (Z : Bi mg) : FnOk P w K mg base CX0 1 f fd ["face"] (liftSp K BT S_sd) := by
  refine F.okD sc_sides_of (fun ds PP Ed h => ?_) (fun cdv A outer s H E M bg ds PP Ed hr hS_ => ?_)
  · obtain ⟨f_,rfl,hP⟩ := h
    rfl
  · obtain ⟨f_,rfl,hP⟩ := hS_
    refine ⟨_,(jdss_cons (jds_asg (gd_seq [1,2,3]) (jdv 0) (PG.or (pg_tupK (n := 3) K (by rfl) (by rfl) (pgs_cons (pg_name (i := 1) sc_sides_of.nd rfl (by walk_at "o")) (pgs_cons (pg_name (i := 2) sc_sides_of.nd rfl (by walk_at "o")) (pgs_cons (pg_name (i := 3) sc_sides_of.nd rfl (by walk_at "o")) pgs_nil)))) (pg_lstK (n := 3) K (by rfl) (by rfl) (pgs_cons (pg_name (i := 1) sc_sides_of.nd rfl (by walk_at "o")) (pgs_cons (pg_name (i := 2) sc_sides_of.nd rfl (by walk_at "o")) (pgs_cons (pg_name (i := 3) sc_sides_of.nd rfl (by walk_at "o")) pgs_nil))))))
      (jdss_one (jds_ret (jde_lst (jda_cons (jde_tup (jda_cons (jdv 1) (jda_cons (jdv 2) jda_nil))) (jda_cons (jde_tup (jda_cons (jdv 2) (jda_cons (jdv 3) jda_nil))) (jda_cons (jde_tup (jda_cons (jdv 3) (jda_cons (jdv 1) jda_nil))) jda_nil))))))),?_⟩
    walk_at "go"
    exact hP
abbrev s_fellow : Stmt := top 2
theorem sc_fellow : FnScope ["pair"] ["pair"] (defScope s_fellow) := ⟨rfl,rfl,rfl,by decide +kernel,rfl,by decide +kernel,by decide +kernel⟩
def S_fel : DSp := fun ds P _ => ∃ a b : Int,ds = [t2 a b] /\ P (t2 b a)
theorem ok_fellow {P : Program}{w : World}{K : PySem.W.Frag}{mg : Str -> Option Value}{base : Heap}{f : Addr}{fd : FuncData}(F : Fun K "fellow" "fellow" s_fellow f fd) (Z : Bi mg) : FnOk P w K mg base CX0 1 f fd ["pair"] (liftSp K BT S_fel) := by
  refine F.okD sc_fellow (fun ds PP Ed h => ?_) (fun cdv A outer s H E M bg ds PP Ed hr hS_ => ?_)
  · obtain ⟨a,b,rfl,hP⟩ := h
    rfl
  · obtain ⟨a,b,rfl,hP⟩ := hS_
    refine ⟨_,(jdss_one (jds_ret (jde_tup (jda_cons (jde_ix (ix_any K (by rfl)) od_ix (jdv 0) jde_int (fun _ _ => rfl)) (jda_cons (jde_ix (ix_any K (by rfl)) od_ix (jdv 0) jde_int (fun _ _ => rfl)) jda_nil))))),?_⟩
    walk_at "go"
    exact hP
theorem eqvAll_ints : ∀ s r : List Int,PyData.eqvAll (s.map PyData.int) (r.map PyData.int) = decide (s = r)
  | [],[] => by simp [PyData.eqvAll]
  | [],_ :: _ => by simp [PyData.eqvAll]
  | _ :: _,[] => by simp [PyData.eqvAll]
  | a :: s,b :: r => by
    simp only [List.map_cons]
    unfold PyData.eqvAll
    rw [eqvAll_ints s r]
    have : PyData.eqv (.int a) (.int b) = decide (a = b) := by simp only [PyData.eqv]; rfl
    rw [this]
    by_cases h1 : a = b <;> by_cases h2 : s = r <;> simp [h1,h2]
theorem any_rows (L : List (List Int))(r : List Int) : ((L.map fun s => PyData.tuple (s.map PyData.int)).any fun y => PyData.eqv y (.tuple (r.map PyData.int))) = decide (r ∈ L) := by
  induction L with
  | nil => rfl
  | cons s L ih =>
    rw [List.map_cons,List.any_cons,ih]
    have : PyData.eqv (.tuple (s.map PyData.int)) (.tuple (r.map PyData.int)) = decide (s = r) := by rw [<- eqvAll_ints]; unfold PyData.eqv; rfl
    rw [this]
    by_cases z : r = s
    · simp [z]
    · have : ¬ s = r := fun y => z y.symm
      simp [z,this]
theorem pys_rows : ∀ L : List (List Int),pysOf (L.map rowD) = some (L.map fun s => PyData.tuple (s.map PyData.int))
  | [] => rfl
  | r :: L => by
    rw [List.map_cons]
    unfold pysOf
    rw [pys_rows L]
    have : pyOf (rowD r) = some (.tuple (r.map PyData.int)) := by unfold rowD pyOf; rw [pys_ints]; rfl
    rw [this]
    rfl
theorem inG_rows {neg : Bool}{r : List Int}{L : List (List Int)}{P : D -> Prop}(h : P (.bl (decide (r ∈ L) != neg))) : InG neg (rowD r) (.lst (L.map rowD)) P := by
  have e : pyOf (rowD r) = some (.tuple (r.map PyData.int)) := by unfold rowD pyOf; rw [pys_ints]; rfl
  have f : fineD 2 (rowD r) = true := by
    have := fine_rows [r]
    rw [List.map_cons] at this
    unfold finesD at this
    exact ((Bool.and_eq_true _ _).mp this).1
  obtain ⟨p,e1,d1,_⟩ := fine_py 2 (rowD r) f
  rw [e] at e1
  cases e1
  exact ⟨_,_,_,e,by unfold pyOf; rw [pys_rows]; rfl,rfl,Nat.le_trans (Nat.min_le_right _ _) (Nat.le_trans d1 (by decide)),by rw [any_rows]; exact h⟩
def joinB (f h : F3i) : Bool := (sdR f).any fun r => decide (r ∈ sdR h) || decide (felR r ∈ sdR h)
def jnV (h : F3i) : D -> D
  | .tup [.int a,.int b] => .bl (decide ([a,b] ∈ sdR h) || decide ([b,a] ∈ sdR h))
  | d => d
abbrev s_are_joined : Stmt := top 3
theorem sc_are_joined : FnScope ["one","other","sides"] ["one","other"] (defScope s_are_joined) := ⟨rfl,rfl,rfl,by decide +kernel,rfl,by decide +kernel,by decide +kernel⟩
def S_join : DSp := fun ds P _ => ∃ f h : F3i,ds = [f.d,h.d] /\ P (.bl (joinB f h))
structure C_are_joined (P : Program)(w : World)(K : PySem.W.Frag)(mg : Str -> Option Value)(base : Heap) : Prop where
  sides_of_ : Callee P w K mg base CX0 "sides_of" 1 ["face"] (liftSp K BT S_sd)
  fellow_ : Callee P w K mg base CX0 "fellow" 1 ["pair"] (liftSp K BT S_fel)
theorem ok_are_joined {P : Program}{w : World}{K : PySem.W.Frag}{mg : Str -> Option Value}{base : Heap}{f : Addr}{fd : FuncData}(F : Fun K "are_joined" "are_joined" s_are_joined f fd) (Z : Bi mg) (G : C_are_joined P w K mg base) : FnOk P w K mg base CX0 2 f fd ["one","other"] (liftSp K BT S_join) := by
  refine F.okD sc_are_joined (fun ds PP Ed h => ?_) (fun cdv A outer s H E M bg ds PP Ed hr hS_ => ?_)
  · obtain ⟨fa,fb,rfl,hP⟩ := h
    rfl
  · obtain ⟨fa,fb,rfl,hP⟩ := hS_
    refine ⟨_,(jdss_cons (jds_set (i := 2) sc_are_joined.nd rfl (by walk_at "o") (jde_own G.sides_of_ (hr.mono (by decide)) rfl (jda_cons (jdv 1) jda_nil)))
      (jdss_one (jds_ret (jde_callB (call_anyL K (by rfl) (by rfl)) cd_bls rfl Z.any_ bt_any (jda_cons (jde_comp (X := (cxOf CX0 P w K mg base ["one","other","sides"] "are_joined" (defScope s_are_joined) f cdv A outer s H E).nox) (gd_name 0) (blkJ (X := (cxOf CX0 P w K mg base ["one","other","sides"] "are_joined" (defScope s_are_joined) f cdv A outer s H E).nox) (N' := ["pair","sides"]) (map := [none,some 2]) (by rfl) (by rfl) (by decide +kernel) (by rfl) ⟨⟨rfl,rfl,rfl,by walk_at "o"⟩,True.intro⟩ (gkeep_name rfl) fun cl0 C0 fp0 s0 H0 => ⟨(pg_name (X := (cxComp (cxOf CX0 P w K mg base ["one","other","sides"] "are_joined" (defScope s_are_joined) f cdv A outer s H E).nox ["pair","sides"] _ cl0 C0 fp0 s0 H0)) (i := 0) (nodupS ["pair","sides"] (by decide +kernel)) rfl (by walk_at "o")),jdif_nil,(jde_or (X := (cxComp (cxOf CX0 P w K mg base ["one","other","sides"] "are_joined" (defScope s_are_joined) f cdv A outer s H E).nox ["pair","sides"] _ cl0 C0 fp0 s0 H0)) (jde_cmp (op_inG K (by rfl) hr.units) od_inG (jdv 0) (jdv 1) (by with_unfolding_all rfl)) (jde_one (jde_cmp (op_inG K (by rfl) hr.units) od_inG (jde_own G.fellow_ (hr.mono (by decide)) rfl (jda_cons (jdv 0) jda_nil)) (jdv 1) (by with_unfolding_all rfl))))⟩) (jdi_seq (by rfl) (jde_own G.sides_of_ (hr.mono (by decide)) rfl (jda_cons (jdv 0) jda_nil)))) jda_nil))))),?_⟩
    walk_at "go"
    refine ⟨fb,rfl,?_⟩
    walk_at "go"
    refine ⟨fa,rfl,?_⟩
    walk_at "go"
    refine comp_map (jnV fb) (fun x Q hx hQ => ?_) (fun x hx => ?_) ?_
    · obtain ⟨p,q,rfl⟩ : ∃ p q : Int,x = rowD [p,q] := by
        simp only [List.map_cons,List.map_nil,List.mem_cons,List.not_mem_nil,or_false,sdR] at hx
        rcases hx with rfl | rfl | rfl <;> exact ⟨_,_,rfl⟩
      walk_at "go"
      refine inG_rows (r := [p,q]) (L := sdR fb) ?_
      by_cases z : [p,q] ∈ sdR fb
      · refine IfP.t (by simp [z]) ?_
        have hQ : Q (.bl (decide ([p,q] ∈ sdR fb) || decide ([q,p] ∈ sdR fb))) := hQ
        simpa [z] using hQ
      · refine IfP.f (by simp [z]) ?_
        walk_at "go"
        refine ⟨p,q,rfl,?_⟩
        walk_at "go"
        refine inG_rows (r := [q,p]) (L := sdR fb) ?_
        have hQ : Q (.bl (decide ([p,q] ∈ sdR fb) || decide ([q,p] ∈ sdR fb))) := hQ
        simpa [z] using hQ
    · simp only [List.map_cons,List.map_nil,List.mem_cons,List.not_mem_nil,or_false,sdR] at hx
      rcases hx with rfl | rfl | rfl <;> rfl
    walk_at "go"
    exact hP
def joinN (fs : List F3i)(m n : Nat) : Prop := ∃ f h,fs[m]? = some f /\ fs[n]? = some h /\ joinB f h = true
structure Comp (fs : List F3i)(a : Nat)(C : Nat -> Prop) : Prop where
  st : C a
  lt : ∀ n,C n -> n < fs.length
  cl : ∀ m n,C m -> joinN fs m n -> C n
  re : ∀ S : Nat -> Prop,S a -> (∀ m n,S m -> joinN fs m n -> S n) -> ∀ n,C n -> S n
def nD (ns : List Nat) : List Int := ns.map fun n : Nat => (n : Int)
theorem nD_mem {ns : List Nat}{n : Nat} : (n : Int) ∈ nD ns ↔ n ∈ ns := ⟨fun h => by
  obtain ⟨m,hm,e⟩ := List.mem_map.mp h
  have e : m = n := by omega
  rw [<- e]; exact hm,fun h => List.mem_map.mpr ⟨n,h,rfl⟩⟩
theorem nD_nodup {ns : List Nat}(h : ns.Nodup) : (nD ns).Nodup := by
  unfold nD
  exact List.Pairwise.map _ (fun a b q e => q (by omega)) h
theorem nD_len (ns : List Nat) : (nD ns).length = ns.length := List.length_map ..
theorem nD_app (ns ms : List Nat) : nD (ns ++ ms) = nD ns ++ nD ms := List.map_append
theorem nat_bound {N : Nat}{ns : List Nat}(h : ns.Nodup)(k : ∀ n ∈ ns,n < N) : ns.length <= N := by
  have := nodup_bound N (nD ns) (nD_nodup h) fun z hz => by
    obtain ⟨m,hm,rfl⟩ := List.mem_map.mp hz
    have := k m hm
    omega
  rwa [nD_len] at this
theorem nD_at {ns : List Nat}{d : Nat}(h : d < ns.length) : atI ((nD ns).map D.int) (d : Int) = some (.int (ns[d]'h : Nat)) := atI_nat (j := d) (by
  unfold nD
  rw [List.map_map,List.getElem?_map,List.getElem?_eq_getElem h]
  rfl)
theorem enumF {fs : List F3i}{i : Nat}{x : D}(e : (enumD (fs.map F3i.d))[i]? = some x) : ∃ h,fs[i]? = some h /\ x = .tup [.int i,h.d] := by
  unfold enumD at e
  rw [List.getElem?_mapIdx] at e
  obtain ⟨y,e1,rfl⟩ := Option.map_eq_some_iff.mp e
  obtain ⟨h,e2,rfl⟩ := get_of e1
  exact ⟨h,e2,rfl⟩
abbrev s_part_from : Stmt := top 4
theorem sc_part_from : FnScope ["faces","first","part","done","face"] ["faces","first"] (defScope s_part_from) := ⟨rfl,rfl,rfl,by decide +kernel,rfl,by decide +kernel,by decide +kernel⟩
def S_pfrom : DSO := fun ds P _ => ∃ (fs : List F3i) (a : Nat) (C : Nat -> Prop),ds = [.lst (fs.map F3i.d),.int a] /\ fs.length <= 24 /\ Comp fs a C /\ ∀ ks : List Int,ks.Pairwise (· < ·) -> (∀ z,z ∈ ks ↔ ∃ n : Nat,C n /\ z = n) -> P (ks.map D.int)
structure C_part_from (P : Program)(w : World)(K : PySem.W.Frag)(mg : Str -> Option Value)(base : Heap) : Prop where
  are_joined_ : Callee P w K mg base CX0 "are_joined" 2 ["one","other"] (liftSp K BT S_join)
theorem ok_part_from {P : Program}{w : World}{K : PySem.W.Frag}{mg : Str -> Option Value}{base : Heap}{f : Addr}{fd : FuncData}(F : Fun K "part_from" "part_from" s_part_from f fd) (Z : Bi mg) (G : C_part_from P w K mg base) : FnOk P w K mg base CX0 3 f fd ["faces","first"] (liftSpO K BT S_pfrom) := by
  refine F.okDO sc_part_from (fun ds PP Ed h => ?_) (fun cdv A outer s H E M bg ds PP Ed hr hS_ => ?_)
  · obtain ⟨fs,a,C,rfl,hl,hC,hP⟩ := h
    rfl
  · obtain ⟨fs,a,C,rfl,hl,hC,hP⟩ := hS_
    refine ⟨_,(jdss_cons (jds_ownL (i := 2) sc_part_from.nd rfl (by walk_at "o") (jda_cons (jdv 1) jda_nil))
      (jdss_cons (jds_set (i := 3) sc_part_from.nd rfl (by walk_at "o") jde_int)
      (jdss_cons (jds_while PassesOwn.never (jdt_cmp op_lt od_B0 (jdv 3) (jde_callB (call_len_seqK K (by rfl)) cd_len rfl Z.len_ bt_len (jda_cons (jdv 2) jda_nil)) (nomark _)) (jdss_cons (jds_set (i := 4) sc_part_from.nd rfl (by walk_at "o") (jde_ix (ix_any K (by rfl)) od_ix (jdv 0) (jde_ix (ix_any K (by rfl)) od_ix (jdv 2) (jdv 3) (fun _ _ => rfl)) (fun _ _ => rfl)))
      (jdss_cons (jds_aug (i := 3) sc_part_from.nd rfl (by walk_at "o") jde_int ip_add)
      (jdss_one (jds_extend (i := 2) (by rfl) (jda_cons (jde_comp (X := (cxOf CX0 P w K mg base ["faces","first","part","done","face"] "part_from" (defScope s_part_from) f cdv A outer s H E).nox) (gd_seq [0,1]) (blkJ (X := (cxOf CX0 P w K mg base ["faces","first","part","done","face"] "part_from" (defScope s_part_from) f cdv A outer s H E).nox) (N' := ["at","other","part","face"]) (map := [none,none,some 2,some 4]) (by rfl) (by rfl) (by decide +kernel) (by rfl) ⟨⟨rfl,rfl,rfl,by walk_at "o"⟩,⟨⟨rfl,rfl,rfl,by walk_at "o"⟩,True.intro⟩⟩ (gkeep_seq (js := [0,1]) (by decide)) fun cl0 C0 fp0 s0 H0 => ⟨(PG.or (pg_tupK (n := 2) K (by rfl) (by rfl) (pgs_cons (pg_name (i := 0) (nodupS ["at","other","part","face"] (by decide +kernel)) rfl (by walk_at "o")) (pgs_cons (pg_name (i := 1) (nodupS ["at","other","part","face"] (by decide +kernel)) rfl (by walk_at "o")) pgs_nil))) (pg_lstK (n := 2) K (by rfl) (by rfl) (pgs_cons (pg_name (i := 0) (nodupS ["at","other","part","face"] (by decide +kernel)) rfl (by walk_at "o")) (pgs_cons (pg_name (i := 1) (nodupS ["at","other","part","face"] (by decide +kernel)) rfl (by walk_at "o")) pgs_nil)))),(jdif_one (jdt_and (jdt_cmp (op_notinG K (by rfl) hr.units) od_inG (jdv 0) (jdv 2) (by with_unfolding_all rfl)) (jdw_and1 (jdt_truth (by rfl) (jde_own G.are_joined_ (hr.mono (by decide)) rfl (jda_cons (jdv 3) (jda_cons (jdv 1) jda_nil))) (fun _ => rfl))))),(jdv (X := (cxComp (cxOf CX0 P w K mg base ["faces","first","part","done","face"] "part_from" (defScope s_part_from) f cdv A outer s H E).nox ["at","other","part","face"] _ cl0 C0 fp0 s0 H0)) 0)⟩) (jdi_enum (by rfl) (jda_cons (jdv 0) jda_nil) (pi_enum K (by rfl) rfl Z.enumerate_ (JA.h (jda_cons (jdv 0) jda_nil))))) jda_nil) (pe_bm PySem.F.plainAttrs_list PySem.F.slot_list_extend PySem.F.type_list_extend mt_extend (pv 2) (JA.h (jda_cons (jde_comp (X := (cxOf CX0 P w K mg base ["faces","first","part","done","face"] "part_from" (defScope s_part_from) f cdv A outer s H E).nox) (gd_seq [0,1]) (blkJ (X := (cxOf CX0 P w K mg base ["faces","first","part","done","face"] "part_from" (defScope s_part_from) f cdv A outer s H E).nox) (N' := ["at","other","part","face"]) (map := [none,none,some 2,some 4]) (by rfl) (by rfl) (by decide +kernel) (by rfl) ⟨⟨rfl,rfl,rfl,by walk_at "o"⟩,⟨⟨rfl,rfl,rfl,by walk_at "o"⟩,True.intro⟩⟩ (gkeep_seq (js := [0,1]) (by decide)) fun cl0 C0 fp0 s0 H0 => ⟨(PG.or (pg_tupK (n := 2) K (by rfl) (by rfl) (pgs_cons (pg_name (i := 0) (nodupS ["at","other","part","face"] (by decide +kernel)) rfl (by walk_at "o")) (pgs_cons (pg_name (i := 1) (nodupS ["at","other","part","face"] (by decide +kernel)) rfl (by walk_at "o")) pgs_nil))) (pg_lstK (n := 2) K (by rfl) (by rfl) (pgs_cons (pg_name (i := 0) (nodupS ["at","other","part","face"] (by decide +kernel)) rfl (by walk_at "o")) (pgs_cons (pg_name (i := 1) (nodupS ["at","other","part","face"] (by decide +kernel)) rfl (by walk_at "o")) pgs_nil)))),(jdif_one (jdt_and (jdt_cmp (op_notinG K (by rfl) hr.units) od_inG (jdv 0) (jdv 2) (by with_unfolding_all rfl)) (jdw_and1 (jdt_truth (by rfl) (jde_own G.are_joined_ (hr.mono (by decide)) rfl (jda_cons (jdv 3) (jda_cons (jdv 1) jda_nil))) (fun _ => rfl))))),(jdv (X := (cxComp (cxOf CX0 P w K mg base ["faces","first","part","done","face"] "part_from" (defScope s_part_from) f cdv A outer s H E).nox ["at","other","part","face"] _ cl0 C0 fp0 s0 H0)) 0)⟩) (jdi_enum (by rfl) (jda_cons (jdv 0) jda_nil) (pi_enum K (by rfl) rfl Z.enumerate_ (JA.h (jda_cons (jdv 0) jda_nil))))) jda_nil))))))))
      (jdss_one (jds_retF (jdf_sortN (X := (cxOf CX0 P w K mg base ["faces","first","part","done","face"] "part_from" (defScope s_part_from) f cdv A outer s H E).nox) (jda_cons (jdv 2) jda_nil) (pe_callB (call_sortN K (by rfl)) rfl Z.sorted_ bt_sorted (JA.h (jda_cons (jdv 2) jda_nil))))))))),?_⟩
    walk_at "go"
    refine ⟨fun m ρ => ∃ (ns : List Nat) (d : Nat) (v4 : Option D),ρ = [some (.lst (fs.map F3i.d)),some (.int a),some (.own ((nD ns).map D.int)),some (.int d),v4] /\ m = fs.length - d /\ d <= ns.length /\ ns.Nodup /\ a ∈ ns /\ (∀ n ∈ ns,C n) /\ ∀ i (hi : i < ns.length),i < d -> ∀ n,joinN fs ns[i] n -> n ∈ ns,fs.length,⟨[a],0,_,rfl,rfl,Nat.zero_le _,by simp,by simp,fun n hn => by rw [List.mem_singleton.mp hn]; exact hC.st,fun i _ z => absurd z (Nat.not_lt_zero i)⟩,?_⟩
    rintro m ρ ⟨ns,d,v4,rfl,rfl,hd,nd,ha,hc,hj⟩
    have nb : ns.length <= fs.length := nat_bound nd fun n hn => hC.lt n (hc n hn)
    walk_at "go"
    by_cases q : d < ns.length
    · refine IfP.t (by rw [List.length_map,nD_len]; simp; omega) ?_
      walk_at "go"
      rw [nD_at q]
      walk_at "go"
      have hm := hc _ (List.getElem_mem q)
      have hlt := hC.lt _ hm
      have hx : atI (fs.map F3i.d) ((ns[d] : Nat) : Int) = some (fs[ns[d]]'hlt).d := atI_nat (j := ns[d]) (by rw [List.getElem?_map,List.getElem?_eq_getElem hlt]; rfl)
      rw [hx]
      have hjn : ∀ n h,fs[n]? = some h -> (joinN fs ns[d] n ↔ joinB (fs[ns[d]]'hlt) h = true) := fun n h e => ⟨fun ⟨f',h',e1,e2,j⟩ => by
        rw [List.getElem?_eq_getElem hlt] at e1
        rw [e] at e2
        cases e1; cases e2
        exact j,fun j => ⟨_,h,List.getElem?_eq_getElem hlt,e,j⟩⟩
      have hm0 : ns[d] ∈ ns := List.getElem_mem q
      generalize hmm : ns[d] = m0 at *
      generalize hff : fs[m0]'hlt = f0 at *
      walk_at "go"
      refine And.intro (by unfold enumD; rw [List.length_mapIdx,List.length_map]; omega) ?_
      refine ⟨fun i acc => ∃ ms : List Nat,acc = (nD ms).map D.int /\ ms.Nodup /\ ∀ n,n ∈ ms ↔ n < i /\ n ∉ ns /\ joinN fs m0 n,⟨[],rfl,List.nodup_nil,by simp⟩,?_,?_⟩
      · rintro i x acc e ⟨ms,rfl,nm,hms⟩
        obtain ⟨h,eh,rfl⟩ := enumF e
        clear e
        have hb : ms.length <= fs.length := nat_bound nm fun n hn => by
          have := (List.getElem?_eq_some_iff.mp eh).1
          have := ((hms n).mp hn).1
          omega
        have skip : ¬ (i ∉ ns /\ joinN fs m0 i) -> ∀ n,n ∈ ms ↔ n < i + 1 /\ n ∉ ns /\ joinN fs m0 n := fun z n => by
          rw [hms n]
          constructor
          · rintro ⟨h1,h2⟩
            exact ⟨by omega,h2⟩
          · rintro ⟨h1,h2⟩
            refine ⟨?_,h2⟩
            by_cases e : n = i
            · rw [e] at h2; exact absurd h2 z
            · omega
        walk_at "go"
        refine inG_ints (ns := nD ns) (.inr (.inr rfl)) ?_
        by_cases z : i ∈ ns
        · refine IfP.f (by simp [nD_mem.mpr z]) ?_
          walk_at "go"
          exact ⟨ms,rfl,nm,skip fun y => y.1 z⟩
        · refine IfP.t (by have : ¬ (i : Int) ∈ nD ns := fun y => z (nD_mem.mp y); simp [this]) ?_
          walk_at "go"
          refine ⟨f0,h,rfl,?_⟩
          walk_at "go"
          by_cases j : joinB f0 h = true
          · refine IfP.t j ?_
            have mi : i ∉ ms := fun y => by
              have := ((hms i).mp y).1
              omega
            refine ⟨rfl,ms ++ [i],by rw [nD_app,List.map_append]; rfl,by rw [List.nodup_append]; exact ⟨nm,by simp,fun u hu v hv e => by rw [List.mem_singleton.mp hv] at e; rw [e] at hu; exact mi hu⟩,fun n => ?_⟩
            rw [List.mem_append,List.mem_singleton,hms n]
            constructor
            · rintro (⟨h1,h2⟩ | rfl)
              · exact ⟨by omega,h2⟩
              · exact ⟨by omega,z,(hjn _ h eh).mpr j⟩
            · rintro ⟨h1,h2⟩
              by_cases e : n = i
              · exact .inr e
              · exact .inl ⟨by omega,h2⟩
          · refine IfP.f (by simpa using j) ?_
            exact ⟨ms,rfl,nm,skip fun y => j ((hjn _ h eh).mp y.2)⟩
      · rintro acc ⟨ms,rfl,nm,hms⟩
        have hel : (enumD (fs.map F3i.d)).length = fs.length := by unfold enumD; rw [List.length_mapIdx,List.length_map]
        rw [hel] at hms
        have hb : ms.length <= fs.length := nat_bound nm fun n hn => ((hms n).mp hn).1
        walk_at "go"
        refine And.intro (by rw [List.length_map,List.length_map,nD_len,nD_len]; omega) ?_
        refine ⟨fs.length - (d + 1),by omega,ns ++ ms,d + 1,_,by rw [nD_app,List.map_append]; rfl,rfl,by rw [List.length_append]; omega,?_,List.mem_append_left _ ha,fun n hn => ?_,fun i hi hid n hjo => ?_⟩
        · rw [List.nodup_append]
          exact ⟨nd,nm,fun u hu v hv e => ((hms v).mp hv).2.1 (by rw [<- e]; exact hu)⟩
        · rcases List.mem_append.mp hn with hn | hn
          · exact hc n hn
          · exact hC.cl m0 n hm ((hms n).mp hn).2.2
        · have hin : i < ns.length := by omega
          rw [List.getElem_append_left hin] at hjo
          by_cases e : i = d
          · subst e
            rw [hmm] at hjo
            by_cases z : n ∈ ns
            · exact List.mem_append_left _ z
            · obtain ⟨f',h',e1,e2,_⟩ := id hjo
              exact List.mem_append_right _ ((hms n).mpr ⟨(List.getElem?_eq_some_iff.mp e2).1,z,hjo⟩)
          · exact List.mem_append_left _ (hj i hin (by omega) n hjo)
    · refine IfP.f (by rw [List.length_map,nD_len]; simp; omega) ?_
      walk_at "go"
      refine ⟨nD ns,rfl,by rw [nD_len]; omega,fun ks pm so => hP ks ?_ fun z => ?_⟩
      · have kn : ks.Nodup := pm.nodup_iff.mpr (nD_nodup nd)
        exact (List.pairwise_and_iff.mpr ⟨so,kn⟩).imp fun {a b} q => by obtain ⟨q1,q2⟩ := q; omega
      · rw [pm.mem_iff]
        constructor
        · intro hz
          obtain ⟨n,hn,rfl⟩ := List.mem_map.mp hz
          exact ⟨n,hc n hn,rfl⟩
        · rintro ⟨n,hn,rfl⟩
          refine nD_mem.mpr (hC.re (· ∈ ns) ha (fun m n hm hjo => ?_) n hn)
          obtain ⟨i,hi,rfl⟩ := List.mem_iff_getElem.mp hm
          exact hj i hi (by omega) n hjo
open L2.A11 in
theorem fel_fel {f : F3i}{r : List Int}(h : r ∈ sdR f) : felR (felR r) = r := by
  simp only [sdR,List.mem_cons,List.not_mem_nil,or_false] at h
  rcases h with rfl | rfl | rfl <;> rfl
theorem joinB_iff {f h : F3i} : joinB f h = true ↔ ∃ r ∈ sdR f,r ∈ sdR h \/ felR r ∈ sdR h := by
  unfold joinB
  rw [List.any_eq_true]
  constructor
  · rintro ⟨r,h1,h2⟩
    rcases (Bool.or_eq_true _ _).mp h2 with z | z
    · exact ⟨r,h1,.inl (of_decide_eq_true z)⟩
    · exact ⟨r,h1,.inr (of_decide_eq_true z)⟩
  · rintro ⟨r,h1,z | z⟩
    · exact ⟨r,h1,by simp [z]⟩
    · exact ⟨r,h1,by simp [z]⟩
theorem joinB_symm {f h : F3i}(j : joinB f h = true) : joinB h f = true := by
  obtain ⟨r,h1,h2⟩ := joinB_iff.mp j
  refine joinB_iff.mpr ?_
  rcases h2 with z | z
  · exact ⟨r,z,.inl h1⟩
  · exact ⟨felR r,z,.inr (by rw [fel_fel h1]; exact h1)⟩
theorem joinN_symm {fs : List F3i}(m n : Nat)(j : joinN fs m n) : joinN fs n m := by
  obtain ⟨f,h,e1,e2,j⟩ := j
  exact ⟨h,f,e2,e1,joinB_symm j⟩
theorem joinN_lt {fs : List F3i}{m n : Nat}(j : joinN fs m n) : m < fs.length /\ n < fs.length := by
  obtain ⟨f,h,e1,e2,_⟩ := j
  exact ⟨(List.getElem?_eq_some_iff.mp e1).1,(List.getElem?_eq_some_iff.mp e2).1⟩
theorem comp_re {fs : List F3i}{a : Nat}(ha : a < fs.length) : Comp fs a (A11.Re (joinN fs) a) := ⟨A11.Re.refl a,fun n h => h (· < fs.length) ha fun m n _ j => (joinN_lt j).2,fun m n h j => h.step j,fun S h0 hc n h => h S h0 hc⟩
theorem up_eq : ∀ {xs ys : List Int},xs.Pairwise (· < ·) -> ys.Pairwise (· < ·) -> (∀ z,z ∈ xs ↔ z ∈ ys) -> xs = ys
  | [],[],_,_,_ => rfl
  | [],y :: ys,_,_,h => absurd ((h y).mpr (List.mem_cons_self ..)) (by simp)
  | x :: xs,[],_,_,h => absurd ((h x).mp (List.mem_cons_self ..)) (by simp)
  | x :: xs,y :: ys,h1,h2,h => by
    obtain ⟨a1,a2⟩ := List.pairwise_cons.mp h1
    obtain ⟨b1,b2⟩ := List.pairwise_cons.mp h2
    have e : x = y := by
      rcases List.mem_cons.mp ((h x).mp (List.mem_cons_self ..)) with z | z
      · exact z
      · rcases List.mem_cons.mp ((h y).mpr (List.mem_cons_self ..)) with w | w
        · exact w.symm
        · have := b1 x z
          have := a1 y w
          omega
    subst e
    congr 1
    refine up_eq a2 b2 fun z => ⟨fun m => ?_,fun m => ?_⟩
    · rcases List.mem_cons.mp ((h z).mp (List.mem_cons_of_mem _ m)) with w | w
      · have := a1 z m; omega
      · exact w
    · rcases List.mem_cons.mp ((h z).mpr (List.mem_cons_of_mem _ m)) with w | w
      · have := b1 z m; omega
      · exact w
theorem nD_up {ns : List Nat}(h : ns.Pairwise (· < ·)) : (nD ns).Pairwise (· < ·) := by
  unfold nD
  exact List.Pairwise.map _ (fun a b q => by omega) h
theorem rng_nD (n : Nat) : rangeD 0 n = (nD (List.range n)).map D.int := by
  unfold rangeD nD
  rw [List.map_map]
  exact List.map_congr_left fun i _ => by show D.int (0 + i) = D.int i; rw [Int.zero_add]
theorem nD_get {L : List Nat}{i : Nat}{x : D}(e : ((nD L).map D.int)[i]? = some x) : ∃ n,L[i]? = some n /\ x = .int (n : Nat) := by
  unfold nD at e
  rw [List.map_map] at e
  obtain ⟨n,e1,e2⟩ := get_of e
  exact ⟨n,e1,e2⟩
theorem noL_ints (ns : List Int) : noLs (ns.map D.int) = true := noLs_all fun d hd => by
  obtain ⟨t,_,rfl⟩ := List.mem_map.mp hd
  rfl
def partR (lab : Nat -> Nat)(N : Nat) : List (List Int) := (A11.labs lab N).map fun l => nD (A11.row lab N l)
abbrev s_parts : Stmt := top 5
theorem sc_parts : FnScope ["body","faces","left","told","part"] ["body"] (defScope s_parts) := ⟨rfl,rfl,rfl,by decide +kernel,rfl,by decide +kernel,by decide +kernel⟩
def S_parts : DSG := fun ds P _ => ∃ (cs : List D) (fs : List F3i) (lab : Nat -> Nat),ds = [.tup [.lst cs,.lst (fs.map F3i.d)]] /\ fs.length <= 24 /\ A11.Lab (joinN fs) lab /\ P ((partR lab fs.length).map fun r => r.map D.int)
structure C_parts (P : Program)(w : World)(K : PySem.W.Frag)(mg : Str -> Option Value)(base : Heap) : Prop where
  part_from_ : Callee P w K mg base CX0 "part_from" 3 ["faces","first"] (liftSpO K BT S_pfrom)
theorem ok_parts {P : Program}{w : World}{K : PySem.W.Frag}{mg : Str -> Option Value}{base : Heap}{f : Addr}{fd : FuncData}(F : Fun K "parts" "parts" s_parts f fd) (Z : Bi mg) (G : C_parts P w K mg base) : FnOk P w K mg base (CX1 P w base) 4 f fd ["body"] (liftSpG K BT S_parts) := by
  refine F.okDXG sc_parts (fun ds PP Ed h => ?_) (fun cdv A outer s H E M bg ds PP Ed hr hE hS_ => ?_)
  · obtain ⟨cs,fs,lab,rfl,hl,L,hP⟩ := h
    rfl
  · obtain ⟨cs,fs,lab,rfl,hl,L,hP⟩ := hS_
    refine ⟨_,(jgs_cons (jds_set (i := 1) sc_parts.nd rfl (by walk_at "o") (jde_ix (ix_any K (by rfl)) od_ix (jdv 0) jde_int (fun _ _ => rfl)))
      (jgs_cons (jds_set (i := 2) sc_parts.nd rfl (by walk_at "o") (jde_new (jdf_listRange1 (pe_listRange1 rfl rfl Z.list_ rfl Z.range_ (JA.h (jda_cons (jde_callB (call_len_seqK K (by rfl)) cd_len rfl Z.len_ bt_len (jda_cons (jdv 1) jda_nil)) jda_nil))))))
      (jgs_cons (jds_thenB 3 (jds_ownL (i := 3) sc_parts.nd rfl (by walk_at "o") jda_nil))
      (jgs_cons (jds_while PassesOwn.leaving (jdt_truth (by rfl) (jdv 2) (fun _ => rfl)) (jdss_cons (jds_setO (i := 4) sc_parts.nd rfl (by walk_at "o") G.part_from_ (hr.mono (by decide)) rfl (jda_cons (jdv 1) (jda_cons (jde_ix (ix_any K (by rfl)) od_ix (jdv 2) jde_int (fun _ _ => rfl)) jda_nil)))
      (jdss_cons (jds_appB (i := 3) (j := 4) (by rfl) (pe_bm PySem.F.plainAttrs_list PySem.F.slot_list_append PySem.F.type_list_append mt_append (pv 3) (pa_cons (pv 4) pa_nil)))
      (jdss_one (jds_setC (X := (cxOf (CX1 P w base) P w K mg base ["body","faces","left","told","part"] "parts" (defScope s_parts) f cdv A outer s H E)) false (i := 2) sc_parts.nd rfl (by walk_at "o") (gd_name 0) (blkJ (X := (cxOf (CX1 P w base) P w K mg base ["body","faces","left","told","part"] "parts" (defScope s_parts) f cdv A outer s H E)) (N' := ["at","part"]) (map := [none,some 4]) (by rfl) (by rfl) (by decide +kernel) (by rfl) ⟨⟨rfl,rfl,rfl,by walk_at "o"⟩,True.intro⟩ (gkeep_name rfl) fun cl0 C0 fp0 s0 H0 => ⟨(pg_name (X := (cxComp (cxOf (CX1 P w base) P w K mg base ["body","faces","left","told","part"] "parts" (defScope s_parts) f cdv A outer s H E) ["at","part"] _ cl0 C0 fp0 s0 H0)) (i := 0) (nodupS ["at","part"] (by decide +kernel)) rfl (by walk_at "o")),(jdif_one (jdt_cmp (op_notinG K (by rfl) hr.units) od_inG (jdv 0) (jdv 1) (by with_unfolding_all rfl))),(jdv (X := (cxComp (cxOf (CX1 P w base) P w K mg base ["body","faces","left","told","part"] "parts" (defScope s_parts) f cdv A outer s H E) ["at","part"] _ cl0 C0 fp0 s0 H0)) 0)⟩) (jdi_seq (by rfl) (jdv 2)))))))
      (jgs_retB (pv 3)))))),?_⟩
    walk_at "go"
    refine And.intro ⟨by omega,by rw [List.length_map]; omega⟩ ?_
    rw [Int.toNat_natCast,List.length_map,rng_nD]
    have sy : ∀ m n,joinN fs m n -> joinN fs n m := joinN_symm
    generalize hN : fs.length = N at *
    have labN : (A11.labs lab N).length <= N := by
      have := List.length_filter_le (fun i => decide (lab i = i)) (List.range N)
      rw [List.length_range] at this
      exact this
    walk_at "go"
    intro a0
    walk_at "go"
    refine ⟨fun m ρ => ∃ (k : Nat) (a : Addr) (rs : List Addr) (v4 : Option D),ρ = [some (.tup [.lst cs,.lst (fs.map F3i.d)]),some (.lst (fs.map F3i.d)),some (.lst ((nD (A11.left lab N ((A11.labs lab N).take k))).map D.int)),some (bnk H a rs ((partR lab N).take k)),v4] /\ m = (A11.labs lab N).length - k /\ k <= (A11.labs lab N).length /\ rs.length = k,(A11.labs lab N).length,⟨0,a0,[],none,by rw [List.take_zero,A11.left_none]; rfl,rfl,Nat.zero_le _,rfl⟩,?_⟩
    rintro m ρ ⟨k,a,rs,v4,rfl,rfl,hk,hrs⟩
    by_cases hlt : k < (A11.labs lab N).length
    · obtain ⟨rest,er⟩ := A11.left_next L sy hlt
      have es := A11.left_step (lab := lab) (N := N) hlt
      have ml := A11.mem_labs.mp (List.getElem_mem hlt)
      have hcr : ∀ n,A11.Re (joinN fs) (A11.labs lab N)[k] n ↔ n ∈ A11.row lab N (A11.labs lab N)[k] := fun n => by
        have h1 := L.iff sy (A11.labs lab N)[k] n
        rw [ml.2] at h1
        rw [h1]
        unfold A11.row
        rw [List.mem_filter,List.mem_range,decide_eq_true_eq]
        refine ⟨fun h => ⟨?_,h⟩,fun h => h.2⟩
        have h2 := h1.mpr h
        exact h2 (· < N) ml.1 fun m n _ j => by rw [<- hN]; exact (joinN_lt j).2
      have etk : (partR lab N).take (k + 1) = (partR lab N).take k ++ [nD (A11.row lab N (A11.labs lab N)[k])] := by
        unfold partR
        rw [List.take_add_one,List.getElem?_map,List.getElem?_eq_getElem hlt]
        rfl
      have rup : (A11.row lab N (A11.labs lab N)[k]).Pairwise (· < ·) := List.Pairwise.filter _ List.pairwise_lt_range
      rw [er] at es ⊢
      have ll : ((A11.labs lab N)[k] :: rest).length <= N := by
        rw [<- er]
        have := List.length_filter_le (fun j => decide (lab j ∉ (A11.labs lab N).take k)) (List.range N)
        rw [List.length_range] at this
        exact this
      generalize (A11.labs lab N)[k] = x at *
      generalize (partR lab N).take k = told at *
      walk_at "go"
      rw [show atI ((nD (x :: rest)).map D.int) 0 = some (.int (x : Nat)) from atI_nat (j := 0) rfl]
      walk_at "go"
      refine ⟨fs,x,_,rfl,by omega,comp_re (by rw [hN]; exact ml.1),fun ks so me => ?_⟩
      obtain rfl : ks = nD (A11.row lab N x) := up_eq so (nD_up rup) fun z => by
        rw [me z]
        constructor
        · rintro ⟨n,h1,rfl⟩
          exact nD_mem.mpr ((hcr n).mp h1)
        · intro h
          obtain ⟨n,h1,rfl⟩ := List.mem_map.mp h
          exact ⟨n,(hcr n).mpr h1,rfl⟩
      refine ⟨noL_ints _,noL_ints _,?_⟩
      walk_at "go"
      refine ⟨a,rs,told,nD (A11.row lab N x),rfl,rfl,by omega,fun r => ?_⟩
      walk_at "go"
      refine And.intro (by rw [List.length_map,nD_len]; omega) ?_
      generalize hLL : x :: rest = LL at *
      generalize hRW : A11.row lab N x = rw_ at *
      refine ⟨fun i acc => acc = (nD ((LL.take i).filter fun n => decide (n ∉ rw_))).map D.int,rfl,?_,?_⟩
      · rintro i y acc e rfl
        obtain ⟨n,en,rfl⟩ := nD_get e
        clear e
        rw [List.take_add_one,en,Option.toList_some,List.filter_append]
        walk_at "go"
        refine inG_ints (ns := nD rw_) (.inr (.inl rfl)) ?_
        by_cases z : n ∈ rw_
        · refine IfP.f (by simp [nD_mem.mpr z]) ?_
          show _ = _
          rw [List.filter_cons]
          simp [z]
        · refine IfP.t (by have : ¬ (n : Int) ∈ nD rw_ := fun y => z (nD_mem.mp y); simp [this]) ?_
          walk_at "go"
          rw [List.filter_cons]
          simp [z,nD]
      · rintro acc rfl
        rw [List.length_map,nD_len,List.take_length,es]
        walk_at "go"
        exact ⟨(A11.labs lab N).length - (k + 1),by omega,k + 1,a,rs ++ [r],_,by rw [etk]; rfl,rfl,by omega,by rw [List.length_append,hrs]; rfl⟩
    · have ek : k = (A11.labs lab N).length := by omega
      have e1 : (A11.labs lab N).take k = A11.labs lab N := List.take_of_length_le (by omega)
      have e2 : (partR lab N).take k = partR lab N := List.take_of_length_le (by unfold partR; rw [List.length_map]; omega)
      rw [e1,e2,A11.left_done L sy]
      walk_at "go"
      exact ⟨a,rs,_,rfl,hP⟩
theorem sds_take {fs : List F3i}{i : Nat}{f : F3i}(e : fs[i]? = some f) : sdsR (fs.take (i + 1)) = sdsR (fs.take i) ++ sdR f := by
  unfold sdsR
  rw [List.take_add_one,e,Option.toList_some,List.flatMap_append]
  simp
abbrev s__law_sides : Stmt := top 13
theorem sc__law_sides : FnScope ["_law_faces","_law_found","_law_i","_law_j","_law_k"] ["_law_faces"] (defScope s__law_sides) := ⟨rfl,rfl,rfl,by decide +kernel,rfl,by decide +kernel,by decide +kernel⟩
def S_lsd : DSp := fun ds P _ => ∃ fs : List F3i,ds = [.lst (fs.map F3i.d)] /\ fs.length <= 300 /\ P (.lst ((sdsR fs).map rowD))
theorem ok__law_sides {P : Program}{w : World}{K : PySem.W.Frag}{mg : Str -> Option Value}{base : Heap}{f : Addr}{fd : FuncData}(F : Fun K "_law_sides" "_law_sides" s__law_sides f fd) (Z : Bi mg) : FnOk P w K mg base CX0 1 f fd ["_law_faces"] (liftSp K BT S_lsd) := by
  refine F.okD sc__law_sides (fun ds PP Ed h => ?_) (fun cdv A outer s H E M bg ds PP Ed hr hS_ => ?_)
  · obtain ⟨fs,rfl,hl,hP⟩ := h
    rfl
  · obtain ⟨fs,rfl,hl,hP⟩ := hS_
    refine ⟨_,(jdss_cons (jds_ownL (i := 1) sc__law_sides.nd rfl (by walk_at "o") jda_nil)
      (jdss_cons (jds_for (gd_seq [2,3,4]) PassesOwn.never rfl (jdi_seq (by rfl) (jdv 0)) (PG.or (pg_tupK (n := 3) K (by rfl) (by rfl) (pgs_cons (pg_name (i := 2) sc__law_sides.nd rfl (by walk_at "o")) (pgs_cons (pg_name (i := 3) sc__law_sides.nd rfl (by walk_at "o")) (pgs_cons (pg_name (i := 4) sc__law_sides.nd rfl (by walk_at "o")) pgs_nil)))) (pg_lstK (n := 3) K (by rfl) (by rfl) (pgs_cons (pg_name (i := 2) sc__law_sides.nd rfl (by walk_at "o")) (pgs_cons (pg_name (i := 3) sc__law_sides.nd rfl (by walk_at "o")) (pgs_cons (pg_name (i := 4) sc__law_sides.nd rfl (by walk_at "o")) pgs_nil))))) (jdss_one (jds_extend (i := 1) (by rfl) (jda_cons (jde_lst (jda_cons (jde_tup (jda_cons (jdv 2) (jda_cons (jdv 3) jda_nil))) (jda_cons (jde_tup (jda_cons (jdv 3) (jda_cons (jdv 4) jda_nil))) (jda_cons (jde_tup (jda_cons (jdv 4) (jda_cons (jdv 2) jda_nil))) jda_nil)))) jda_nil) (pe_bm PySem.F.plainAttrs_list PySem.F.slot_list_extend PySem.F.type_list_extend mt_extend (pv 1) (JA.h (jda_cons (jde_lst (jda_cons (jde_tup (jda_cons (jdv 2) (jda_cons (jdv 3) jda_nil))) (jda_cons (jde_tup (jda_cons (jdv 3) (jda_cons (jdv 4) jda_nil))) (jda_cons (jde_tup (jda_cons (jdv 4) (jda_cons (jdv 2) jda_nil))) jda_nil)))) jda_nil))))))
      (jdss_frz 1 (jdss_one (jds_ret (jdv 1)))))),?_⟩
    walk_at "go"
    refine ⟨fun i ρ => ∃ v2 v3 v4,ρ = [some (.lst (fs.map F3i.d)),some (.own ((sdsR (fs.take i)).map rowD)),v2,v3,v4],⟨_,_,_,rfl⟩,?_,?_⟩
    · rintro i x ρ e ⟨v2,v3,v4,rfl⟩
      obtain ⟨f_,ef,rfl⟩ := get_of e
      have hi : i < fs.length := (List.getElem?_eq_some_iff.mp ef).1
      rw [sds_take ef]
      have hz : (sdsR (fs.take i)).length <= 900 := by rw [sdsR_len,List.length_take]; omega
      generalize sdsR (fs.take i) = L at *
      walk_at "go"
      refine And.intro (by rw [List.length_map]; show _ + 3 <= 1000; omega) ?_
      exact ⟨_,_,_,by rw [List.map_append]; rfl⟩
    · rintro ρ ⟨v2,v3,v4,rfl⟩
      rw [List.length_map,List.take_length]
      walk_at "go"
      exact hP
def srt2 : List Int -> List Int
  | [a,b] => if a <= b then [a,b] else [b,a]
  | r => r
theorem srt2_iff {a b c d : Int} : srt2 [a,b] = srt2 [c,d] ↔ [a,b] = [c,d] \/ [b,a] = [c,d] := by
  by_cases h1 : a <= b <;> by_cases h2 : c <= d <;> simp only [srt2,h1,h2,if_true,if_false,List.cons.injEq,and_true] <;> omega
def sdS (f : F3i) : List (List Int) := (sdR f).map srt2
theorem sdR_two {f : F3i}{r : List Int}(h : r ∈ sdR f) : ∃ a b,r = [a,b] := by
  simp only [sdR,List.mem_cons,List.not_mem_nil,or_false] at h
  rcases h with rfl | rfl | rfl <;> exact ⟨_,_,rfl⟩
theorem met_iff {f h : F3i} : ((sdS f).any fun r => decide (r ∈ sdS h)) = joinB f h := by
  rw [Bool.eq_iff_iff,joinB_iff,List.any_eq_true]
  unfold sdS
  constructor
  · rintro ⟨r,hr,hd⟩
    obtain ⟨x,hx,rfl⟩ := List.mem_map.mp hr
    obtain ⟨y,hy,e⟩ := List.mem_map.mp (of_decide_eq_true hd)
    obtain ⟨a,b,rfl⟩ := sdR_two hx
    obtain ⟨c,d,rfl⟩ := sdR_two hy
    refine ⟨[a,b],hx,?_⟩
    rcases srt2_iff.mp e.symm with z | z
    · rw [z]; exact .inl hy
    · exact .inr (by show [b,a] ∈ _; rw [z]; exact hy)
  · rintro ⟨r,hr,hh⟩
    obtain ⟨a,b,rfl⟩ := sdR_two hr
    refine ⟨srt2 [a,b],List.mem_map.mpr ⟨_,hr,rfl⟩,decide_eq_true (List.mem_map.mpr ?_)⟩
    rcases hh with z | z
    · exact ⟨_,z,rfl⟩
    · exact ⟨[b,a],z,srt2_iff.mpr (.inr rfl)⟩
theorem srt_perm {a b : Int}{ks : List Int}(p : ks.Perm [a,b])(h : ks.Pairwise (· <= ·)) : ks = srt2 [a,b] := by
  have hl := p.length_eq
  match ks,hl with
  | [c,d],_ =>
    have hcd : c <= d := by simp at h; exact h
    have h1 : c = a \/ c = b := by have := p.mem_iff.mp (List.mem_cons_self ..); simpa using this
    have h2 : d = a \/ d = b := by have := p.mem_iff.mp (List.mem_cons_of_mem _ (List.mem_cons_self ..) : d ∈ [c,d]); simpa using this
    have h3 : a = c \/ a = d := by have := p.mem_iff.mpr (List.mem_cons_self .. : a ∈ [a,b]); simpa using this
    have h4 : b = c \/ b = d := by have := p.mem_iff.mpr (List.mem_cons_of_mem _ (List.mem_cons_self ..) : b ∈ [a,b]); simpa using this
    by_cases h5 : a <= b <;> simp only [srt2,h5,if_true,if_false,List.cons.injEq,and_true] <;> omega
structure Led (fs : List F3i)(vs : List Nat) : Prop where
  len : vs.length = fs.length
  le : ∀ (j : Nat) v,vs[j]? = some v -> v <= j /\ A11.Re (joinN fs) v j
theorem Led.set {fs : List F3i}{vs : List Nat}(h : Led fs vs){a b u v : Nat}(ea : vs[a]? = some u)(eb : vs[b]? = some v)(j : joinN fs a b)(hlt : u < v) : Led fs (vs.set b u) /\ (vs.set b u).sum < vs.sum := by
  refine ⟨⟨by rw [List.length_set]; exact h.len,fun k w e => ?_⟩,?_⟩
  · by_cases z : b = k
    · subst z
      rw [List.getElem?_set] at e
      simp at e
      obtain ⟨_,rfl⟩ := e
      exact ⟨by have := (h.le _ _ eb).1; omega,(h.le _ _ ea).2.step j⟩
    · rw [List.getElem?_set_ne z] at e
      exact h.le k w e
  · have key : ∀ (l : List Nat) (b v u : Nat),l[b]? = some v -> u < v -> (l.set b u).sum < l.sum := by
      intro l
      induction l with
      | nil => intro b v u e; simp at e
      | cons x l ih =>
        intro b v u e hu
        cases b with
        | zero =>
          have e : x = v := by simpa using e
          rw [List.set_cons_zero,List.sum_cons,List.sum_cons]; omega
        | succ b =>
          have := ih b v u (by simpa using e) hu
          rw [List.set_cons_succ,List.sum_cons,List.sum_cons]; omega
    exact key vs b v u eb hlt
def sdV : D -> D
  | .tup [.int i,.int j,.int k] => .lst ([srt2 [i,j],srt2 [j,k],srt2 [k,i]].map rowD)
  | d => d
def srtV : D -> D
  | .tup [.int a,.int b] => rowD (srt2 [a,b])
  | d => d
def rwV (lab : Nat -> Nat)(N : Nat) : D -> D
  | .int z => rwI (nD (A11.row lab N z.toNat))
  | d => d
def inV (h : F3i) : D -> Bool
  | .tup [.int a,.int b] => decide ([a,b] ∈ sdS h)
  | _ => false
theorem sdS_two {f : F3i}{r : List Int}(h : r ∈ sdS f) : ∃ a b,r = [a,b] := by
  obtain ⟨x,hx,rfl⟩ := List.mem_map.mp h
  obtain ⟨a,b,rfl⟩ := sdR_two hx
  by_cases h : a <= b
  · exact ⟨a,b,by simp [srt2,h]⟩
  · exact ⟨b,a,by simp [srt2,h]⟩
def sdL (f : F3i) : D := .lst ((sdS f).map rowD)
theorem rng_get {n i k : Nat}(e : (List.range n)[i]? = some k) : i < n /\ i = k := by
  have h := (List.getElem?_eq_some_iff.mp e)
  obtain ⟨h1,h2⟩ := h
  rw [List.length_range] at h1
  rw [List.getElem_range] at h2
  exact ⟨h1,h2⟩
theorem Led.start (fs : List F3i) : Led fs (List.range fs.length) := ⟨List.length_range,fun j v e => by
  obtain ⟨_,rfl⟩ := rng_get e
  exact ⟨Nat.le_refl _,A11.Re.refl _⟩⟩
def Stb (fs : List F3i)(vs : List Nat)(i j : Nat) : Prop := ∀ a b u v,(a < i \/ (a = i /\ b < j)) -> joinN fs a b -> vs[a]? = some u -> vs[b]? = some v -> v <= u
theorem nD_set (vs : List Nat)(b u : Nat) : ((nD vs).map D.int).set b (.int (u : Nat)) = (nD (vs.set b u)).map D.int := by
  unfold nD
  rw [List.map_map,List.map_map,List.map_set]
  rfl
abbrev s__law_due : Stmt := top 17
theorem sc__law_due : FnScope ["_law_faces","_law_least","_law_sides_due","_law_again","_law_one","_law_other","_law_met"] ["_law_faces"] (defScope s__law_due) := ⟨rfl,rfl,rfl,by decide +kernel,rfl,by decide +kernel,by decide +kernel⟩
def S_due : DSp := fun ds P _ => ∃ (fs : List F3i) (lab : Nat -> Nat),ds = [.lst (fs.map F3i.d)] /\ fs.length <= 24 /\ (∀ f ∈ fs,∀ q,f.has q -> q < 1000) /\ A11.Lab (joinN fs) lab /\ P (.lst ((partR lab fs.length).map rwI))
structure C__law_due (P : Program)(w : World)(K : PySem.W.Frag)(mg : Str -> Option Value)(base : Heap) : Prop where
  _law_sides_ : Callee P w K mg base CX0 "_law_sides" 1 ["_law_faces"] (liftSp K BT S_lsd)
theorem ok__law_due {P : Program}{w : World}{K : PySem.W.Frag}{mg : Str -> Option Value}{base : Heap}{f : Addr}{fd : FuncData}(F : Fun K "_law_due" "_law_due" s__law_due f fd) (Z : Bi mg) (G : C__law_due P w K mg base) : FnOk P w K mg base CX0 2 f fd ["_law_faces"] (liftSp K BT S_due) := by
  refine F.okD sc__law_due (fun ds PP Ed h => ?_) (fun cdv A outer s H E M bg ds PP Ed hr hS_ => ?_)
  · obtain ⟨fs,lab,rfl,hl,hsm,L,hP⟩ := h
    rfl
  · obtain ⟨fs,lab,rfl,hl,hsm,L,hP⟩ := hS_
    refine ⟨_,(jdss_cons (jds_setF (i := 1) sc__law_due.nd rfl (by walk_at "o") (jdf_listRange1 (pe_listRange1 rfl rfl Z.list_ rfl Z.range_ (JA.h (jda_cons (jde_callB (call_len_seqK K (by rfl)) cd_len rfl Z.len_ bt_len (jda_cons (jdv 0) jda_nil)) jda_nil)))))
      (jdss_cons (jds_setC2 (X := (cxOf CX0 P w K mg base ["_law_faces","_law_least","_law_sides_due","_law_again","_law_one","_law_other","_law_met"] "_law_due" (defScope s__law_due) f cdv A outer s H E).nox) false (i := 2) sc__law_due.nd rfl (by walk_at "o") (gd_name 0) (blkJ (X := (cxOf CX0 P w K mg base ["_law_faces","_law_least","_law_sides_due","_law_again","_law_one","_law_other","_law_met"] "_law_due" (defScope s__law_due) f cdv A outer s H E).nox) (N' := ["_law_face_here"]) (map := [none]) (by rfl) (by rfl) (by decide +kernel) (by rfl) True.intro (gkeep_name rfl) fun cl0 C0 fp0 s0 H0 => ⟨(pg_name (X := (cxComp (cxOf CX0 P w K mg base ["_law_faces","_law_least","_law_sides_due","_law_again","_law_one","_law_other","_law_met"] "_law_due" (defScope s__law_due) f cdv A outer s H E).nox ["_law_face_here"] _ cl0 C0 fp0 s0 H0)) (i := 0) (nodupS ["_law_face_here"] (by decide +kernel)) rfl (by walk_at "o")),jdif_nil,(jde_comp (X := (cxComp (cxOf CX0 P w K mg base ["_law_faces","_law_least","_law_sides_due","_law_again","_law_one","_law_other","_law_met"] "_law_due" (defScope s__law_due) f cdv A outer s H E).nox ["_law_face_here"] _ cl0 C0 fp0 s0 H0)) (gd_name 0) (blkJ (X := (cxComp (cxOf CX0 P w K mg base ["_law_faces","_law_least","_law_sides_due","_law_again","_law_one","_law_other","_law_met"] "_law_due" (defScope s__law_due) f cdv A outer s H E).nox ["_law_face_here"] _ cl0 C0 fp0 s0 H0)) (N' := ["_law_one"]) (map := [none]) (by rfl) (by rfl) (by decide +kernel) (by rfl) True.intro (gkeep_name rfl) fun cl1 C1 fp1 s1 H1 => ⟨(pg_name (X := (cxComp (cxComp (cxOf CX0 P w K mg base ["_law_faces","_law_least","_law_sides_due","_law_again","_law_one","_law_other","_law_met"] "_law_due" (defScope s__law_due) f cdv A outer s H E).nox ["_law_face_here"] _ cl0 C0 fp0 s0 H0) ["_law_one"] _ cl1 C1 fp1 s1 H1)) (i := 0) (nodupS ["_law_one"] (by decide +kernel)) rfl (by walk_at "o")),jdif_nil,(jde_callTy (X := (cxComp (cxComp (cxOf CX0 P w K mg base ["_law_faces","_law_least","_law_sides_due","_law_again","_law_one","_law_other","_law_met"] "_law_due" (defScope s__law_due) f cdv A outer s H E).nox ["_law_face_here"] _ cl0 C0 fp0 s0 H0) ["_law_one"] _ cl1 C1 fp1 s1 H1)) (call_tuple_ofK K (by rfl)) cd_tuple rfl Z.tuple_ bt_tuple (jda_cons (jde_new (jdf_sortNT (X := (cxComp (cxComp (cxOf CX0 P w K mg base ["_law_faces","_law_least","_law_sides_due","_law_again","_law_one","_law_other","_law_met"] "_law_due" (defScope s__law_due) f cdv A outer s H E).nox ["_law_face_here"] _ cl0 C0 fp0 s0 H0) ["_law_one"] _ cl1 C1 fp1 s1 H1)) (jda_cons (jdv 0) jda_nil) (pe_callB (call_sortNT K (by rfl)) rfl Z.sorted_ bt_sorted (JA.h (jda_cons (jdv 0) jda_nil))))) jda_nil))⟩) (jdi_seq (by rfl) (jde_own G._law_sides_ (hr.mono (by decide)) rfl (jda_cons (jde_lst (jda_cons (jdv 0) jda_nil)) jda_nil))))⟩) (jdi_seq (by rfl) (jdv 0)))
      (jdss_cons (jds_set (i := 3) sc__law_due.nd rfl (by walk_at "o") jde_bl)
      (jdss_cons (jds_while PassesOwn.never (jdt_truth (by rfl) (jdv 3) (fun _ => rfl)) (jdss_cons (jds_set (i := 3) sc__law_due.nd rfl (by walk_at "o") jde_bl)
      (jdss_one (jds_for (gd_name 4) PassesOwn.never rfl (jdi_range1 rfl Z.range_ (jda_cons (jde_callB (call_len_seqK K (by rfl)) cd_len rfl Z.len_ bt_len (jda_cons (jdv 0) jda_nil)) jda_nil)) (pg_name (i := 4) sc__law_due.nd rfl (by walk_at "o")) (jdss_one (jds_for (gd_name 5) PassesOwn.never rfl (jdi_range1 rfl Z.range_ (jda_cons (jde_callB (call_len_seqK K (by rfl)) cd_len rfl Z.len_ bt_len (jda_cons (jdv 0) jda_nil)) jda_nil)) (pg_name (i := 5) sc__law_due.nd rfl (by walk_at "o")) (jdss_cons (jds_set (i := 6) sc__law_due.nd rfl (by walk_at "o") (jde_callB (call_anyL K (by rfl) (by rfl)) cd_bls rfl Z.any_ bt_any (jda_cons (jde_comp (X := (cxOf CX0 P w K mg base ["_law_faces","_law_least","_law_sides_due","_law_again","_law_one","_law_other","_law_met"] "_law_due" (defScope s__law_due) f cdv A outer s H E).nox) (gd_name 0) (blkJ (X := (cxOf CX0 P w K mg base ["_law_faces","_law_least","_law_sides_due","_law_again","_law_one","_law_other","_law_met"] "_law_due" (defScope s__law_due) f cdv A outer s H E).nox) (N' := ["_law_pair","_law_sides_due","_law_other"]) (map := [none,some 2,some 5]) (by rfl) (by rfl) (by decide +kernel) (by rfl) ⟨⟨rfl,rfl,rfl,by walk_at "o"⟩,⟨⟨rfl,rfl,rfl,by walk_at "o"⟩,True.intro⟩⟩ (gkeep_name rfl) fun cl0 C0 fp0 s0 H0 => ⟨(pg_name (X := (cxComp (cxOf CX0 P w K mg base ["_law_faces","_law_least","_law_sides_due","_law_again","_law_one","_law_other","_law_met"] "_law_due" (defScope s__law_due) f cdv A outer s H E).nox ["_law_pair","_law_sides_due","_law_other"] _ cl0 C0 fp0 s0 H0)) (i := 0) (nodupS ["_law_pair","_law_sides_due","_law_other"] (by decide +kernel)) rfl (by walk_at "o")),jdif_nil,(jde_cmp (X := (cxComp (cxOf CX0 P w K mg base ["_law_faces","_law_least","_law_sides_due","_law_again","_law_one","_law_other","_law_met"] "_law_due" (defScope s__law_due) f cdv A outer s H E).nox ["_law_pair","_law_sides_due","_law_other"] _ cl0 C0 fp0 s0 H0)) (op_inG K (by rfl) hr.units) od_inG (jdv 0) (jde_ix (ix_any K (by rfl)) od_ix (jdv 1) (jdv 2) (fun _ _ => rfl)) (by with_unfolding_all rfl))⟩) (jdi_seq (by rfl) (jde_ix (ix_any K (by rfl)) od_ix (jdv 2) (jdv 4) (fun _ _ => rfl)))) jda_nil)))
      (jdss_one (jds_if (jdt_and (jdt_truth (by rfl) (jdv 6) (fun _ => rfl)) (jdw_and1 (jdt_cmp op_gt od_B0 (jde_ix (ix_any K (by rfl)) od_ix (jdv 1) (jdv 5) (fun _ _ => rfl)) (jde_ix (ix_any K (by rfl)) od_ix (jdv 1) (jdv 4) (fun _ _ => rfl)) (nomark _)))) (jdss_cons (jds_setI (i := 1) rfl (by walk_at "v") (jde_ix (ix_any K (by rfl)) od_ix (jdv 1) (jdv 4) (fun _ _ => rfl)) (jdv 5) (pg_sub (pv 1) (JE.h (jdv 5)) set_list))
      (jdss_one (jds_set (i := 3) sc__law_due.nd rfl (by walk_at "o") jde_bl))) jdss_nil)))))))))
      (jdss_frz 1 (jdss_one (jds_ret (jde_comp (X := (cxOf CX0 P w K mg base ["_law_faces","_law_least","_law_sides_due","_law_again","_law_one","_law_other","_law_met"] "_law_due" (defScope s__law_due) f cdv A outer s H E).nox) (gd_name 0) (blkJ (X := (cxOf CX0 P w K mg base ["_law_faces","_law_least","_law_sides_due","_law_again","_law_one","_law_other","_law_met"] "_law_due" (defScope s__law_due) f cdv A outer s H E).nox) (N' := ["_law_one","_law_faces","_law_least"]) (map := [none,some 0,some 1]) (by rfl) (by rfl) (by decide +kernel) (by rfl) ⟨⟨rfl,rfl,rfl,by walk_at "o"⟩,⟨⟨rfl,rfl,rfl,by walk_at "o"⟩,True.intro⟩⟩ (gkeep_name rfl) fun cl0 C0 fp0 s0 H0 => ⟨(pg_name (X := (cxComp (cxOf CX0 P w K mg base ["_law_faces","_law_least","_law_sides_due","_law_again","_law_one","_law_other","_law_met"] "_law_due" (defScope s__law_due) f cdv A outer s H E).nox ["_law_one","_law_faces","_law_least"] _ cl0 C0 fp0 s0 H0)) (i := 0) (nodupS ["_law_one","_law_faces","_law_least"] (by decide +kernel)) rfl (by walk_at "o")),jdif_nil,(jde_comp (X := (cxComp (cxOf CX0 P w K mg base ["_law_faces","_law_least","_law_sides_due","_law_again","_law_one","_law_other","_law_met"] "_law_due" (defScope s__law_due) f cdv A outer s H E).nox ["_law_one","_law_faces","_law_least"] _ cl0 C0 fp0 s0 H0)) (gd_name 0) (blkJ (X := (cxComp (cxOf CX0 P w K mg base ["_law_faces","_law_least","_law_sides_due","_law_again","_law_one","_law_other","_law_met"] "_law_due" (defScope s__law_due) f cdv A outer s H E).nox ["_law_one","_law_faces","_law_least"] _ cl0 C0 fp0 s0 H0)) (N' := ["_law_k","_law_least","_law_one"]) (map := [none,some 2,some 0]) (by rfl) (by rfl) (by decide +kernel) (by rfl) ⟨⟨rfl,rfl,rfl,by walk_at "o"⟩,⟨⟨rfl,rfl,rfl,by walk_at "o"⟩,True.intro⟩⟩ (gkeep_name rfl) fun cl1 C1 fp1 s1 H1 => ⟨(pg_name (X := (cxComp (cxComp (cxOf CX0 P w K mg base ["_law_faces","_law_least","_law_sides_due","_law_again","_law_one","_law_other","_law_met"] "_law_due" (defScope s__law_due) f cdv A outer s H E).nox ["_law_one","_law_faces","_law_least"] _ cl0 C0 fp0 s0 H0) ["_law_k","_law_least","_law_one"] _ cl1 C1 fp1 s1 H1)) (i := 0) (nodupS ["_law_k","_law_least","_law_one"] (by decide +kernel)) rfl (by walk_at "o")),(jdif_one (jdt_cmp op_eq od_eqS (jde_ix (ix_any K (by rfl)) od_ix (jdv 1) (jdv 0) (fun _ _ => rfl)) (jdv 2) (nomark _))),(jdv (X := (cxComp (cxComp (cxOf CX0 P w K mg base ["_law_faces","_law_least","_law_sides_due","_law_again","_law_one","_law_other","_law_met"] "_law_due" (defScope s__law_due) f cdv A outer s H E).nox ["_law_one","_law_faces","_law_least"] _ cl0 C0 fp0 s0 H0) ["_law_k","_law_least","_law_one"] _ cl1 C1 fp1 s1 H1)) 0)⟩) (jdi_range1 rfl Z.range_ (jda_cons (jde_callB (call_len_seqK K (by rfl)) cd_len rfl Z.len_ bt_len (jda_cons (jdv 1) jda_nil)) jda_nil)))⟩) (jdi_seq (by rfl) (jde_sortSet (pe_callB (call_sortedI (by rfl)) rfl Z.sorted_ bt_sorted (pa_cons (pe_callTy (call_setI K (by rfl) (by rfl) (Nat.lt_of_le_of_lt (Nat.add_le_add_left (by decide : 8 <= 64) _) hr.units)) rfl Z.set_ bt_set (JA.h (jda_cons (jdv 1) jda_nil))) pa_nil)))))))))))),?_⟩
    walk_at "go"
    refine And.intro ⟨by omega,by rw [List.length_map]; omega⟩ ?_
    rw [Int.toNat_natCast,List.length_map]
    rw [show rangeD 0 fs.length = (nD (List.range fs.length)).map D.int from rng_nD _]
    walk_at "go"
    refine And.intro (by rw [List.length_map]; omega) ?_
    refine comp_map sdV (fun x Q hx q => ?_) (fun x hx => ?_) ?_
    · obtain ⟨f_,hf,rfl⟩ := List.mem_map.mp hx
      walk_at "go"
      refine ⟨[f_],rfl,by show 1 <= 300; decide,?_⟩
      walk_at "go"
      refine comp_map srtV (fun y Q2 hy q2 => ?_) (fun y hy => ?_) ?_
      · obtain ⟨r,hr,rfl⟩ := List.mem_map.mp hy
        have hr : r ∈ sdR f_ := by simpa [sdsR] using hr
        obtain ⟨a,b,rfl⟩ := sdR_two hr
        walk_at "go"
        refine ⟨[a,b],rfl,by show 2 < 64; decide,fun ks pm so => ?_⟩
        rw [srt_perm pm so]
        walk_at "go"
        exact q2
      · obtain ⟨r,hr,rfl⟩ := List.mem_map.mp hy
        have hr : r ∈ sdR f_ := by simpa [sdsR] using hr
        obtain ⟨a,b,rfl⟩ := sdR_two hr
        rfl
      walk_at "go"
      exact q
    · obtain ⟨f_,hf,rfl⟩ := List.mem_map.mp hx
      rfl
    rw [show (fs.map F3i.d).map sdV = fs.map sdL by rw [List.map_map]; rfl]
    walk_at "go"
    refine ⟨fun m ρ => ∃ (vs : List Nat) (ag : Bool) (v4 v5 v6 : Option D),ρ = [some (.lst (fs.map F3i.d)),some (.own ((nD vs).map D.int)),some (.lst (fs.map sdL)),some (.bl ag),v4,v5,v6] /\ Led fs vs /\ m = vs.sum + (if ag then 1 else 0) /\ (ag = false -> Stb fs vs fs.length 0),_,⟨List.range fs.length,true,none,none,none,rfl,Led.start fs,rfl,fun z => by cases z⟩,?_⟩
    rintro m ρ ⟨vs,ag,v4,v5,v6,rfl,hL,rfl,hst⟩
    cases ag with
    | true =>
      clear hst
      walk_at "go"
      refine And.intro ⟨by omega,by rw [List.length_map]; omega⟩ ?_
      rw [Int.toNat_natCast,List.length_map]
      rw [show rangeD 0 fs.length = (nD (List.range fs.length)).map D.int from rng_nD _]
      refine ⟨fun i ρ => ∃ (ws : List Nat) (ag : Bool) (v4 v5 v6 : Option D),ρ = [some (.lst (fs.map F3i.d)),some (.own ((nD ws).map D.int)),some (.lst (fs.map sdL)),some (.bl ag),v4,v5,v6] /\ Led fs ws /\ ws.sum <= vs.sum /\ (ag = true -> ws.sum < vs.sum) /\ (ag = false -> Stb fs ws i 0),⟨vs,false,_,_,_,rfl,hL,Nat.le_refl _,(fun z => absurd z Bool.false_ne_true),fun _ a b u v h => by omega⟩,?_,?_⟩
      · rintro i x ρ e ⟨ws,ag,v4,v5,v6,rfl,hL,hs1,hs2,hs3⟩
        obtain ⟨i',ei,rfl⟩ := nD_get e
        obtain ⟨hi,rfl⟩ := rng_get ei
        clear e ei
        walk_at "go"
        refine And.intro ⟨by omega,by rw [List.length_map]; omega⟩ ?_
        rw [Int.toNat_natCast,List.length_map]
        rw [show rangeD 0 fs.length = (nD (List.range fs.length)).map D.int from rng_nD _]
        refine ⟨fun j ρ => ∃ (us : List Nat) (ag : Bool) (v5 v6 : Option D),ρ = [some (.lst (fs.map F3i.d)),some (.own ((nD us).map D.int)),some (.lst (fs.map sdL)),some (.bl ag),some (.int (i : Nat)),v5,v6] /\ Led fs us /\ us.sum <= vs.sum /\ (ag = true -> us.sum < vs.sum) /\ (ag = false -> Stb fs us i j),⟨ws,ag,_,_,rfl,hL,hs1,hs2,hs3⟩,?_,?_⟩
        · clear hL hs1 hs2 hs3
          rintro j x ρ e ⟨us,ag,v5,v6,rfl,hL,hs1,hs2,hs3⟩
          obtain ⟨j',ej,rfl⟩ := nD_get e
          obtain ⟨hj,rfl⟩ := rng_get ej
          clear e ej
          have xi : atI (fs.map sdL) (i : Int) = some (sdL fs[i]) := atI_nat (j := i) (by rw [List.getElem?_map,List.getElem?_eq_getElem hi]; rfl)
          have xj : atI (fs.map sdL) (j : Int) = some (sdL fs[j]) := atI_nat (j := j) (by rw [List.getElem?_map,List.getElem?_eq_getElem hj]; rfl)
          walk_at "go"
          rw [xi]
          walk_at "go"
          have em : (((sdS fs[i]).map fun r => decide (r ∈ sdS fs[j])).any id) = joinB fs[i] fs[j] := by
            rw [List.any_map]
            exact met_iff
          have two : ∀ r ∈ sdS fs[i],∃ a b,r = [a,b] := fun r h => sdS_two h
          generalize sdS fs[i] = S1 at *
          refine comp_map (fun x => .bl (inV fs[j] x)) (fun x Q hx q => ?_) (fun _ _ => rfl) ?_
          · obtain ⟨r,hr,rfl⟩ := List.mem_map.mp hx
            obtain ⟨a,b,rfl⟩ := two r hr
            walk_at "go"
            rw [xj]
            walk_at "go"
            exact inG_rows (r := [a,b]) (L := sdS fs[j]) (by rw [Bool.bne_false]; exact q)
          have eb : blsOf ((S1.map rowD).map fun x => D.bl (inV fs[j] x)) = some (S1.map fun r => decide (r ∈ sdS fs[j])) := by
            have := blsOf_map (S1.map fun r => decide (r ∈ sdS fs[j]))
            rw [List.map_map] at this
            rw [List.map_map,<- this]
            congr 1
            refine List.map_congr_left fun r hr => ?_
            obtain ⟨a,b,rfl⟩ := two r hr
            rfl
          walk_at "go"
          rw [eb]
          walk_at "go"
          have lj : j < us.length := by rw [hL.len]; exact hj
          have li : i < us.length := by rw [hL.len]; exact hi
          have aj := nD_at (ns := us) lj
          have ai := nD_at (ns := us) li
          have ej : us[j]? = some us[j] := List.getElem?_eq_getElem lj
          have ei : us[i]? = some us[i] := List.getElem?_eq_getElem li
          have nxt : (joinB fs[i] fs[j] = true -> us[j] <= us[i]) -> (ag = false -> Stb fs us i (j + 1)) := fun q z a b u v h jn eu ev => by
            by_cases hb : a = i /\ b = j
            · obtain ⟨rfl,rfl⟩ := hb
              rw [ei] at eu
              rw [ej] at ev
              cases eu
              cases ev
              obtain ⟨f1,f2,g1,g2,g3⟩ := jn
              rw [List.getElem?_eq_getElem hi] at g1
              rw [List.getElem?_eq_getElem hj] at g2
              cases g1
              cases g2
              exact q g3
            · exact hs3 z a b u v (by omega) jn eu ev
          have jnN : joinB fs[i] fs[j] = true -> joinN fs i j := fun h => ⟨_,_,List.getElem?_eq_getElem hi,List.getElem?_eq_getElem hj,h⟩
          generalize us[i] = ui at *
          generalize us[j] = uj at *
          by_cases jn : joinB fs[i] fs[j] = true
          · refine IfP.t (em.trans jn) ?_
            walk_at "go"
            rw [aj]
            walk_at "go"
            rw [ai]
            walk_at "go"
            walk_at "sp"
            · rename_i hlt
              have hlt : ui < uj := by omega
              walk_at "go"
              rw [ai]
              walk_at "go"
              rw [ixN_nat (by rw [List.length_map,nD_len]; exact lj)]
              walk_at "go"
              obtain ⟨h1,h2⟩ := hL.set ei ej (jnN jn) hlt
              exact ⟨us.set j ui,true,_,_,by rw [<- nD_set]; rfl,h1,by omega,fun _ => by omega,fun z => absurd z.symm Bool.false_ne_true⟩
            · rename_i hge
              walk_at "go"
              exact ⟨us,ag,_,_,rfl,hL,hs1,hs2,nxt fun _ => by omega⟩
          · refine IfP.f (em.trans (by simpa using jn)) ?_
            walk_at "go"
            exact ⟨us,ag,_,_,rfl,hL,hs1,hs2,nxt fun h => absurd h jn⟩
        · rintro ρ ⟨us,ag,v5,v6,rfl,hL,hs1,hs2,hs3⟩
          rw [List.length_map,nD_len,List.length_range] at hs3
          walk_at "go"
          refine ⟨us,ag,_,_,_,rfl,hL,hs1,hs2,fun z a b u v h hj eu ev => ?_⟩
          have hb := (List.getElem?_eq_some_iff.mp ev).1
          rw [hL.len] at hb
          exact hs3 z a b u v (by omega) hj eu ev
      · rintro ρ ⟨us,ag,v4,v5,v6,rfl,hL2,hs1,hs2,hs3⟩
        rw [List.length_map,nD_len,List.length_range] at hs3
        walk_at "go"
        refine ⟨us.sum + (if ag then 1 else 0),?_,us,ag,_,_,_,rfl,hL2,rfl,hs3⟩
        cases ag with
        | true => have := hs2 rfl; show us.sum + 1 < vs.sum + 1; omega
        | false => show us.sum + 0 < vs.sum + 1; omega
    | false =>
      have hst := hst rfl
      have sy : ∀ m n,joinN fs m n -> joinN fs n m := joinN_symm
      have vl : ∀ j,j < fs.length -> vs.getD j 0 = lab j := fun j hj => by
        have at_ : ∀ k,k < fs.length -> vs[k]? = some (vs.getD k 0) := fun k hk => by
          rw [List.getD_eq_getElem?_getD,List.getElem?_eq_getElem (by rw [hL.len]; exact hk)]; rfl
        exact L.led (v := fun j => vs.getD j 0) (fun m n h => (joinN_lt h).2) (fun k hk => (hL.le k _ (at_ k hk)).1) (fun k hk => (hL.le k _ (at_ k hk)).2) (fun m n hm h => hst m n _ _ (.inl hm) h (at_ m hm) (at_ n (joinN_lt h).2)) hj
      obtain rfl : vs = (List.range fs.length).map lab := List.ext_getElem? fun j => by
        by_cases hj : j < fs.length
        · have h1 := vl j hj
          rw [List.getD_eq_getElem?_getD,List.getElem?_eq_getElem (by rw [hL.len]; exact hj)] at h1
          rw [List.getElem?_eq_getElem (by rw [hL.len]; exact hj),List.getElem?_map,List.getElem?_range hj]
          exact congrArg some h1
        · rw [List.getElem?_eq_none (by rw [hL.len]; omega),List.getElem?_eq_none (by rw [List.length_map,List.length_range]; omega)]
      clear vl hst hL
      have hlab : ∀ z : Int,z ∈ nD ((List.range fs.length).map lab) ↔ z ∈ nD (A11.labs lab fs.length) := fun z => by
        constructor
        · intro h
          obtain ⟨n,hn,rfl⟩ := List.mem_map.mp h
          obtain ⟨j,hj,rfl⟩ := List.mem_map.mp hn
          have hj := List.mem_range.mp hj
          exact nD_mem.mpr (A11.mem_labs.mpr ⟨by have := L.le j; omega,L.lab sy j⟩)
        · intro h
          obtain ⟨n,hn,rfl⟩ := List.mem_map.mp h
          obtain ⟨h1,h2⟩ := A11.mem_labs.mp hn
          exact nD_mem.mpr (List.mem_map.mpr ⟨n,List.mem_range.mpr h1,h2⟩)
      have labN : (A11.labs lab fs.length).length <= fs.length := by
        have := List.length_filter_le (fun i => decide (lab i = i)) (List.range fs.length)
        rw [List.length_range] at this
        exact this
      walk_at "go"
      refine ⟨nD ((List.range fs.length).map lab),fs.length,rfl,by rw [nD_len,List.length_map,List.length_range]; omega,fun z hz => ?_,by omega,fun ks up me => ?_⟩
      · obtain ⟨n,hn,rfl⟩ := List.mem_map.mp ((hlab z).mp hz)
        have := (A11.mem_labs.mp hn).1
        omega
      obtain rfl : ks = nD (A11.labs lab fs.length) := up_eq up (nD_up (A11.labs_up lab fs.length)) fun z => (me z).trans (hlab z)
      clear up me
      walk_at "go"
      refine And.intro (by rw [List.length_map,nD_len]; omega) ?_
      refine comp_map (rwV lab fs.length) (fun x Q hx q => ?_) (fun x hx => ?_) ?_
      · obtain ⟨z,hz,rfl⟩ := List.mem_map.mp hx
        obtain ⟨n,hn,rfl⟩ := List.mem_map.mp hz
        have q : Q (.lst ((nD ((List.range fs.length).filter fun k => decide (lab k = n))).map D.int)) := q
        walk_at "go"
        refine And.intro ⟨by omega,by rw [List.length_map]; omega⟩ ?_
        rw [Int.toNat_natCast,List.length_map]
        rw [show rangeD 0 fs.length = (nD (List.range fs.length)).map D.int from rng_nD _]
        refine And.intro (by rw [List.length_map,nD_len,List.length_range]; omega) ?_
        refine ⟨fun i acc => acc = (nD (((List.range fs.length).take i).filter fun k => decide (lab k = n))).map D.int,rfl,?_,?_⟩
        · rintro i y acc e rfl
          obtain ⟨k,ek,rfl⟩ := nD_get e
          obtain ⟨hk,e0⟩ := rng_get ek
          subst e0
          clear e
          rw [List.take_add_one,ek,Option.toList_some,List.filter_append]
          have av : atI ((nD ((List.range fs.length).map lab)).map D.int) (i : Int) = some (.int (lab i : Nat)) := by
            have := nD_at (ns := (List.range fs.length).map lab) (d := i) (by rw [List.length_map,List.length_range]; exact hk)
            rw [this,List.getElem_map,List.getElem_range]
          walk_at "go"
          rw [av]
          walk_at "go"
          by_cases z : lab i = n
          · refine IfP.t (by rw [decide_eq_true (by omega)]; rfl) ?_
            walk_at "go"
            rw [List.filter_cons]
            simp [z,nD]
          · refine IfP.f (by rw [decide_eq_false (by omega)]; rfl) ?_
            show _ = _
            rw [List.filter_cons]
            simp [z]
        · rintro acc rfl
          rw [List.length_map,nD_len,List.take_length]
          exact q
      · obtain ⟨z,hz,rfl⟩ := List.mem_map.mp hx
        rfl
      rw [show ((nD (A11.labs lab fs.length)).map D.int).map (rwV lab fs.length) = (partR lab fs.length).map rwI by unfold partR nD; rw [List.map_map,List.map_map,List.map_map]; rfl]
      walk_at "go"
      exact hP
structure Few (fs : List F3i) : Prop where
  l24 : fs.length <= 24
  sm : ∀ f ∈ fs,∀ q,f.has q -> q < 1000
def F3i.up (f : F3i)(n : Nat) : F3i := ⟨f.i + n,f.j + n,f.k + n⟩
def upD (n : Nat) : D -> D
  | .tup [.int i,.int j,.int k] => t3 (i + n) (j + n) (k + n)
  | d => d
theorem F3i.up_has {f : F3i}{n m q : Nat}(h : f.ok m)(z : (f.up n).has q) : q < m + n := by
  have := h.i
  have := h.j
  have := h.k
  rcases z with z | z | z <;> (have z : q = _ + n := z) <;> omega
theorem pace_few {α : Type}{xs : List α}(h : xs.length <= 24)(m n : Nat)(hn : 1 <= n)(h3 : n <= 3) : (paceG xs (some (m : Int)) (n : Int)).length <= 24 / n := by
  have h1 := paceG_len_le xs (some (m : Int)) (n : Int)
  have h2 := (paceIx_le (m := m) (l := xs.length) hn).1
  have h3' : (xs.length + n - 1) / n <= 24 / n := by
    have : n = 1 \/ n = 2 \/ n = 3 := by omega
    rcases this with rfl | rfl | rfl <;> omega
  omega
theorem pace_half {α : Type}{xs : List α}(h : xs.length <= 22) : (paceG xs none 2).length <= 11 /\ (paceG xs (some 1) 2).length <= 11 := by
  have h1 := paceG_len_le xs none 2
  have h2 := (paceIx_le (m := 0) (n := 2) (l := xs.length) (by decide)).2
  have h3 := paceG_len_le xs (some 1) 2
  have h4 := (paceIx_le (m := 1) (n := 2) (l := xs.length) (by decide)).1
  have h2 : (paceIx none 2 xs.length).length <= (xs.length + 2 - 1) / 2 := h2
  have h4 : (paceIx (some 1) 2 xs.length).length <= (xs.length + 2 - 1) / 2 := h4
  omega
theorem cut_take (xs : List D)(k : Nat) : L2.cutD xs none (some (k : Int)) = xs.take k := by
  unfold L2.cutD
  have e1 : HT.sIx xs.length 0 none = 0 := rfl
  have e2 : HT.sIx xs.length xs.length (some (k : Int)) = min k xs.length := HT.sIx_nat ..
  rw [e1,e2,List.drop_zero,Nat.sub_zero]
  by_cases h : k <= xs.length
  · rw [Nat.min_eq_left h]
  · rw [Nat.min_eq_right (by omega),List.take_of_length_le (Nat.le_refl _),List.take_of_length_le (by omega)]
def sqD : D -> D
  | .int k => t3 k (k * k) 3
  | d => d
theorem sq_mem {x : D}(h : x ∈ rangeD 0 24) : ∃ i : Nat,i < 24 /\ x = .int i := by
  obtain ⟨n,e⟩ := List.getElem?_of_mem h
  obtain ⟨rfl,hn⟩ := rangeD_get e
  exact ⟨n,hn,by rw [Int.zero_add]⟩
theorem sq_all : (rangeD 0 24).map sqD = ((List.range 24).map fun k : Nat => (⟨k,k * k,3⟩ : R3)).map R3.d := by
  unfold rangeD
  rw [List.map_map,List.map_map]
  refine List.map_congr_left fun k _ => ?_
  show t3 (0 + k) ((0 + k) * (0 + k)) 3 = t3 k (k * k) 3
  rw [Int.zero_add]
abbrev s__law_pieces : Stmt := top 15
theorem sc__law_pieces : FnScope ["_law_bag_here","_law_corners","_law_faces","_law_step","_law_more","_law_far","_law_cut_at","_law_pace","_law_turned_row","_law_mixed_row","_law_begin"] ["_law_bag_here"] (defScope s__law_pieces) := ⟨rfl,rfl,rfl,by decide +kernel,rfl,by decide +kernel,by decide +kernel⟩
def S_pcs : DSp := fun ds P _ => ds = [.bag] /\ ∀ (cs : List R3) (fs : List F3i),Few fs -> P (.tup [.lst (cs.map R3.d),.lst (fs.map F3i.d)])
structure C__law_pieces (P : Program)(w : World)(K : PySem.W.Frag)(mg : Str -> Option Value)(base : Heap) : Prop where
  _law_digit_ : Callee P w K mg base CX0 "_law_digit" 1 ["_law_bag_here","_law_many"] (liftSp K BT S_digit)
  _law_body_ : Callee P w K mg base CX0 "_law_body" 3 ["_law_bag_here","_law_most"] (liftSp K BT S_body)
theorem ok__law_pieces {P : Program}{w : World}{K : PySem.W.Frag}{mg : Str -> Option Value}{base : Heap}{f : Addr}{fd : FuncData}(F : Fun K "_law_pieces" "_law_pieces" s__law_pieces f fd) (Z : Bi mg) (G : C__law_pieces P w K mg base) : FnOk P w K mg base CX0 4 f fd ["_law_bag_here"] (liftSp K BT S_pcs) := by
  refine F.okD sc__law_pieces (fun ds PP Ed h => ?_) (fun cdv A outer s H E M bg ds PP Ed hr hS_ => ?_)
  · obtain ⟨rfl,hP⟩ := h
    rfl
  · obtain ⟨rfl,hP⟩ := hS_
    refine ⟨_,(jdss_cons (jds_set (i := 1) sc__law_pieces.nd rfl (by walk_at "o") (jde_lst jda_nil))
      (jdss_cons (jds_set (i := 2) sc__law_pieces.nd rfl (by walk_at "o") (jde_lst jda_nil))
      (jdss_cons (jds_for (gd_name 3) PassesOwn.never rfl (jdi_range1 rfl Z.range_ (jda_cons (jde_op op_add od_I0 jde_int (jde_own G._law_digit_ (hr.mono (by decide)) rfl (jda_cons (jdv 0) (jda_cons jde_int jda_nil)))) jda_nil)) (pg_name (i := 3) sc__law_pieces.nd rfl (by walk_at "o")) (jdss_cons (jds_set (i := 4) sc__law_pieces.nd rfl (by walk_at "o") (jde_own G._law_body_ (hr.mono (by decide)) rfl (jda_cons (jdv 0) (jda_cons jde_int jda_nil))))
      (jdss_cons (jds_set (i := 5) sc__law_pieces.nd rfl (by walk_at "o") (jde_callB (call_len_seqK K (by rfl)) cd_len rfl Z.len_ bt_len (jda_cons (jdv 1) jda_nil)))
      (jdss_cons (jds_set (i := 1) sc__law_pieces.nd rfl (by walk_at "o") (jde_op op_cat od_cat (jdv 1) (jde_ix (ix_any K (by rfl)) od_ix (jdv 4) jde_int (fun _ _ => rfl))))
      (jdss_one (jds_set (i := 2) sc__law_pieces.nd rfl (by walk_at "o") (jde_op op_cat od_cat (jdv 2) (jde_slice (sl_any K (by rfl)) (jde_comp (X := (cxOf CX0 P w K mg base ["_law_bag_here","_law_corners","_law_faces","_law_step","_law_more","_law_far","_law_cut_at","_law_pace","_law_turned_row","_law_mixed_row","_law_begin"] "_law_pieces" (defScope s__law_pieces) f cdv A outer s H E).nox) (gd_seq [0,1,2]) (blkJ (X := (cxOf CX0 P w K mg base ["_law_bag_here","_law_corners","_law_faces","_law_step","_law_more","_law_far","_law_cut_at","_law_pace","_law_turned_row","_law_mixed_row","_law_begin"] "_law_pieces" (defScope s__law_pieces) f cdv A outer s H E).nox) (N' := ["_law_i","_law_j","_law_k","_law_far"]) (map := [none,none,none,some 5]) (by rfl) (by rfl) (by decide +kernel) (by rfl) ⟨⟨rfl,rfl,rfl,by walk_at "o"⟩,True.intro⟩ (gkeep_seq (js := [0,1,2]) (by decide)) fun cl0 C0 fp0 s0 H0 => ⟨(PG.or (pg_tupK (n := 3) K (by rfl) (by rfl) (pgs_cons (pg_name (i := 0) (nodupS ["_law_i","_law_j","_law_k","_law_far"] (by decide +kernel)) rfl (by walk_at "o")) (pgs_cons (pg_name (i := 1) (nodupS ["_law_i","_law_j","_law_k","_law_far"] (by decide +kernel)) rfl (by walk_at "o")) (pgs_cons (pg_name (i := 2) (nodupS ["_law_i","_law_j","_law_k","_law_far"] (by decide +kernel)) rfl (by walk_at "o")) pgs_nil)))) (pg_lstK (n := 3) K (by rfl) (by rfl) (pgs_cons (pg_name (i := 0) (nodupS ["_law_i","_law_j","_law_k","_law_far"] (by decide +kernel)) rfl (by walk_at "o")) (pgs_cons (pg_name (i := 1) (nodupS ["_law_i","_law_j","_law_k","_law_far"] (by decide +kernel)) rfl (by walk_at "o")) (pgs_cons (pg_name (i := 2) (nodupS ["_law_i","_law_j","_law_k","_law_far"] (by decide +kernel)) rfl (by walk_at "o")) pgs_nil))))),jdif_nil,(jde_tup (X := (cxComp (cxOf CX0 P w K mg base ["_law_bag_here","_law_corners","_law_faces","_law_step","_law_more","_law_far","_law_cut_at","_law_pace","_law_turned_row","_law_mixed_row","_law_begin"] "_law_pieces" (defScope s__law_pieces) f cdv A outer s H E).nox ["_law_i","_law_j","_law_k","_law_far"] _ cl0 C0 fp0 s0 H0)) (jda_cons (jde_op op_add od_I0 (jdv 0) (jdv 3)) (jda_cons (jde_op op_add od_I0 (jdv 1) (jdv 3)) (jda_cons (jde_op op_add od_I0 (jdv 2) (jdv 3)) jda_nil))))⟩) (jdi_seq (by rfl) (jde_ix (ix_any K (by rfl)) od_ix (jdv 4) jde_int (fun _ _ => rfl)))) jdo_none (jdo_some jde_int)))))))))
      (jdss_cons (jds_set (i := 6) sc__law_pieces.nd rfl (by walk_at "o") (jde_own G._law_digit_ (hr.mono (by decide)) rfl (jda_cons (jdv 0) (jda_cons (jde_op op_add od_I0 (jde_callB (call_len_seqK K (by rfl)) cd_len rfl Z.len_ bt_len (jda_cons (jdv 2) jda_nil)) jde_int) jda_nil))))
      (jdss_cons (jds_set (i := 7) sc__law_pieces.nd rfl (by walk_at "o") (jde_op op_add od_I0 jde_int (jde_own G._law_digit_ (hr.mono (by decide)) rfl (jda_cons (jdv 0) (jda_cons jde_int jda_nil)))))
      (jdss_cons (jds_set (i := 8) sc__law_pieces.nd rfl (by walk_at "o") (jde_op op_cat od_cat (jde_slice (sl_any K (by rfl)) (jdv 2) (jdo_some (jdv 6)) jdo_none) (jde_slice (sl_any K (by rfl)) (jdv 2) jdo_none (jdo_some (jdv 6)))))
      (jdss_cons (jds_set (i := 9) sc__law_pieces.nd rfl (by walk_at "o") (jde_lst jda_nil))
      (jdss_cons (jds_for (gd_name 10) PassesOwn.never rfl (jdi_range1 rfl Z.range_ (jda_cons (jdv 7) jda_nil)) (pg_name (i := 10) sc__law_pieces.nd rfl (by walk_at "o")) (jdss_one (jds_set (i := 9) sc__law_pieces.nd rfl (by walk_at "o") (jde_op op_cat od_cat (jdv 9) (jde_pace (jdv 8) (jdo_some (jdv 10)) (jdv 7) (pe_pace K (by rfl) (JE.h (jdv 8)) (JO.h (jdo_some (jdv 10))) (JE.h (jdv 7)) (fun _ _ => by with_unfolding_all rfl)))))))
      (jdss_one (jds_ret (jde_tup (jda_cons (jdv 1) (jda_cons (jdv 9) jda_nil))))))))))))),?_⟩
    walk_at "go"
    refine ⟨_,64,rfl,by decide,Bd.num _ (by decide),by decide,fun q q0 q1 => ?_⟩
    walk_at "go"
    refine And.intro ⟨by omega,by omega⟩ ?_
    refine ⟨fun i ρ => ∃ (cs : List R3) (fs : List F3i) (v3 v4 v5 v6 v7 v8 v9 v10 : Option D),ρ = [some .bag,some (.lst (cs.map R3.d)),some (.lst (fs.map F3i.d)),v3,v4,v5,v6,v7,v8,v9,v10] /\ cs.length <= 24 * i /\ fs.length <= 6 * i /\ ∀ f ∈ fs,∀ q,f.has q -> q < 24 * i,⟨[],[],_,_,_,_,_,_,_,_,rfl,Nat.le_refl _,Nat.le_refl _,by simp⟩,?_,?_⟩
    · rintro i x ρ e ⟨cs,fs,v3,v4,v5,v6,v7,v8,v9,v10,rfl,hc,hf,hs⟩
      obtain ⟨rfl,hi⟩ := rangeD_get e
      have hi : i < 4 := by omega
      clear e
      walk_at "go"
      refine ⟨6,rfl,by decide,fun cs2 fs2 B => ?_⟩
      walk_at "go"
      have b1 := B.l24
      have b2 := B.f24
      refine And.intro (by rw [List.length_map,List.length_map]; omega) ?_
      rw [<- List.map_append]
      walk_at "go"
      refine And.intro (by rw [List.length_map]; omega) ?_
      refine comp_map (upD cs.length) (fun x Q hx hQ => ?_) (fun x hx => ?_) ?_
      · obtain ⟨f,_,rfl⟩ := List.mem_map.mp hx
        walk_at "go"
        rw [List.length_map]
        exact hQ
      · obtain ⟨f,_,rfl⟩ := List.mem_map.mp hx
        rfl
      rw [show (fs2.map F3i.d).map (upD cs.length) = (fs2.map fun f => f.up cs.length).map F3i.d by rw [List.map_map,List.map_map]; rfl]
      walk_at "go"
      have e6 : L2.cutD (List.map F3i.d (List.map (fun f => f.up cs.length) fs2)) none (some 6) = ((fs2.take 6).map fun f => f.up cs.length).map F3i.d := by
        rw [List.map_take,List.map_take]; exact cut_take _ 6
      rw [e6]
      refine And.intro (by rw [List.length_map,List.length_map,List.length_map,List.length_take]; omega) ?_
      rw [<- List.map_append]
      walk_at "go"
      refine ⟨cs ++ cs2,fs ++ (fs2.take 6).map fun f => f.up cs.length,_,_,_,_,_,_,_,_,rfl,by rw [List.length_append]; omega,by rw [List.length_append,List.length_map,List.length_take]; omega,fun f hf q hq => ?_⟩
      rcases List.mem_append.mp hf with h | h
      · have := hs f h q hq; omega
      · obtain ⟨f0,h0,rfl⟩ := List.mem_map.mp h
        have := F3i.up_has (B.ok f0 (List.mem_of_mem_take h0)) hq
        omega
    · rintro ρ ⟨cs,fs,v3,v4,v5,v6,v7,v8,v9,v10,rfl,hc,hf,hs⟩
      rw [rangeD_len] at hc hf hs
      have hc : cs.length <= 96 := by omega
      have hf : fs.length <= 24 := by omega
      have hs : ∀ f ∈ fs,∀ q,f.has q -> q < 1000 := fun f h q z => by have := hs f h q z; omega
      walk_at "go"
      refine ⟨(fs.length : Int) + 1,64,by rw [List.length_map],by omega,Bd.of (by omega) (by omega),by decide,fun r r0 r1 => ?_⟩
      obtain ⟨n,rfl⟩ : ∃ n : Nat,r = n := ⟨r.toNat,by omega⟩
      walk_at "go"
      refine ⟨_,64,rfl,by decide,Bd.num _ (by decide),by decide,fun p p0 p1 => ?_⟩
      walk_at "go"
      have e1 : L2.cutD (fs.map F3i.d) none (some (n : Int)) = (fs.take n).map F3i.d := by rw [cut_to (by rw [List.length_map]; omega),List.map_take]
      have e2 : L2.cutD (fs.map F3i.d) (some (n : Int)) none = (fs.drop n).map F3i.d := by rw [cut_from (by rw [List.length_map]; omega),List.map_drop]
      rw [e1,e2,<- List.map_append]
      refine And.intro (by rw [List.length_map,List.length_map,List.length_drop,List.length_take]; omega) ?_
      have tl : (fs.drop n ++ fs.take n).length <= 24 := by rw [List.length_append,List.length_drop,List.length_take]; omega
      have tm : ∀ f ∈ fs.drop n ++ fs.take n,f ∈ fs := fun f h => (List.mem_append.mp h).elim List.mem_of_mem_drop List.mem_of_mem_take
      generalize fs.drop n ++ fs.take n = ts at *
      clear e1 e2
      obtain ⟨pc,ep,p1',p3'⟩ : ∃ pc : Nat,1 + p = pc /\ 1 <= pc /\ pc <= 3 := ⟨(1 + p).toNat,by omega,by omega,by omega⟩
      rw [ep]
      clear ep
      walk_at "go"
      refine And.intro ⟨by omega,by omega⟩ ?_
      refine ⟨fun j ρ => ∃ (ms : List F3i) (v10 : Option D),ρ = [some .bag,some (.lst (cs.map R3.d)),some (.lst (fs.map F3i.d)),v3,v4,v5,some (.int n),some (.int pc),some (.lst (ts.map F3i.d)),some (.lst (ms.map F3i.d)),v10] /\ ms.length <= j * (24 / pc) /\ ∀ f ∈ ms,f ∈ fs,⟨[],_,rfl,Nat.zero_le _,by simp⟩,?_,?_⟩
      · rintro j x ρ e ⟨ms,v10,rfl,hm,hi⟩
        obtain ⟨rfl,hj⟩ := rangeD_get e
        clear e
        rw [Int.zero_add]
        walk_at "go"
        refine And.intro (by omega) ?_
        rw [paceG_map]
        have pf := pace_few tl j pc p1' p3'
        have h24 : j * (24 / pc) + 24 / pc <= 24 := by
          have : pc = 1 \/ pc = 2 \/ pc = 3 := by omega
          rcases this with rfl | rfl | rfl <;> omega
        refine And.intro (by rw [List.length_map,List.length_map]; omega) ?_
        rw [<- List.map_append]
        walk_at "go"
        refine ⟨ms ++ paceG ts (some (j : Int)) (pc : Int),_,rfl,by rw [List.length_append,Nat.add_mul]; omega,fun f hf => ?_⟩
        rcases List.mem_append.mp hf with h | h
        · exact hi f h
        · exact tm f (paceG_mem h)
      · rintro ρ ⟨ms,v10,rfl,hm,hi⟩
        rw [rangeD_len] at hm
        walk_at "go"
        refine hP cs ms ⟨Nat.le_trans hm ?_,fun f hf => hs f (hi f hf)⟩
        have : pc = 1 \/ pc = 2 \/ pc = 3 := by omega
        rcases this with rfl | rfl | rfl <;> decide
abbrev s__law_strip : Stmt := top 16
theorem sc__law_strip : FnScope ["_law_bag_here","_law_many","_law_faces","_law_k"] ["_law_bag_here"] (defScope s__law_strip) := ⟨rfl,rfl,rfl,by decide +kernel,rfl,by decide +kernel,by decide +kernel⟩
def S_strp : DSp := fun ds P _ => ds = [.bag] /\ ∀ (cs : List R3) (fs : List F3i),Few fs -> P (.tup [.lst (cs.map R3.d),.lst (fs.map F3i.d)])
structure C__law_strip (P : Program)(w : World)(K : PySem.W.Frag)(mg : Str -> Option Value)(base : Heap) : Prop where
  _law_digit_ : Callee P w K mg base CX0 "_law_digit" 1 ["_law_bag_here","_law_many"] (liftSp K BT S_digit)
theorem ok__law_strip {P : Program}{w : World}{K : PySem.W.Frag}{mg : Str -> Option Value}{base : Heap}{f : Addr}{fd : FuncData}(F : Fun K "_law_strip" "_law_strip" s__law_strip f fd) (Z : Bi mg) (G : C__law_strip P w K mg base) : FnOk P w K mg base CX0 2 f fd ["_law_bag_here"] (liftSp K BT S_strp) := by
  refine F.okD sc__law_strip (fun ds PP Ed h => ?_) (fun cdv A outer s H E M bg ds PP Ed hr hS_ => ?_)
  · obtain ⟨rfl,hP⟩ := h
    rfl
  · obtain ⟨rfl,hP⟩ := hS_
    refine ⟨_,(jdss_cons (jds_set (i := 1) sc__law_strip.nd rfl (by walk_at "o") (jde_op op_add od_I0 jde_int (jde_own G._law_digit_ (hr.mono (by decide)) rfl (jda_cons (jdv 0) (jda_cons jde_int jda_nil)))))
      (jdss_cons (jds_ownL (i := 2) sc__law_strip.nd rfl (by walk_at "o") jda_nil)
      (jdss_cons (jds_for (gd_name 3) PassesOwn.never rfl (jdi_range1 rfl Z.range_ (jda_cons (jdv 1) jda_nil)) (pg_name (i := 3) sc__law_strip.nd rfl (by walk_at "o")) (jdss_one (jds_append (i := 2) (by rfl) rfl (by walk_at "v") (jda_cons (jde_ix (ix_any K (by rfl)) od_ix (jde_lst (jda_cons (jde_tup (jda_cons (jdv 3) (jda_cons (jde_op op_add od_I0 (jdv 3) jde_int) (jda_cons (jde_op op_add od_I0 (jdv 3) jde_int) jda_nil)))) (jda_cons (jde_tup (jda_cons (jde_op op_add od_I0 (jdv 3) jde_int) (jda_cons (jdv 3) (jda_cons (jde_op op_add od_I0 (jdv 3) jde_int) jda_nil)))) jda_nil))) (jde_own G._law_digit_ (hr.mono (by decide)) rfl (jda_cons (jdv 0) (jda_cons jde_int jda_nil))) (fun _ _ => rfl)) jda_nil) (pe_bm PySem.F.plainAttrs_list PySem.F.slot_list_append PySem.F.type_list_append mt_append (pv 2) (JA.h (jda_cons (jde_ix (ix_any K (by rfl)) od_ix (jde_lst (jda_cons (jde_tup (jda_cons (jdv 3) (jda_cons (jde_op op_add od_I0 (jdv 3) jde_int) (jda_cons (jde_op op_add od_I0 (jdv 3) jde_int) jda_nil)))) (jda_cons (jde_tup (jda_cons (jde_op op_add od_I0 (jdv 3) jde_int) (jda_cons (jdv 3) (jda_cons (jde_op op_add od_I0 (jdv 3) jde_int) jda_nil)))) jda_nil))) (jde_own G._law_digit_ (hr.mono (by decide)) rfl (jda_cons (jdv 0) (jda_cons jde_int jda_nil))) (fun _ _ => rfl)) jda_nil))))))
      (jdss_one (jds_ret (jde_tup (jda_cons (jde_comp (X := (cxOf CX0 P w K mg base ["_law_bag_here","_law_many","_law_faces","_law_k"] "_law_strip" (defScope s__law_strip) f cdv A outer s H E).nox) (gd_name 0) (blkJ (X := (cxOf CX0 P w K mg base ["_law_bag_here","_law_many","_law_faces","_law_k"] "_law_strip" (defScope s__law_strip) f cdv A outer s H E).nox) (N' := ["_law_k"]) (map := [none]) (by rfl) (by rfl) (by decide +kernel) (by rfl) True.intro (gkeep_name rfl) fun cl0 C0 fp0 s0 H0 => ⟨(pg_name (X := (cxComp (cxOf CX0 P w K mg base ["_law_bag_here","_law_many","_law_faces","_law_k"] "_law_strip" (defScope s__law_strip) f cdv A outer s H E).nox ["_law_k"] _ cl0 C0 fp0 s0 H0)) (i := 0) (nodupS ["_law_k"] (by decide +kernel)) rfl (by walk_at "o")),jdif_nil,(jde_tup (X := (cxComp (cxOf CX0 P w K mg base ["_law_bag_here","_law_many","_law_faces","_law_k"] "_law_strip" (defScope s__law_strip) f cdv A outer s H E).nox ["_law_k"] _ cl0 C0 fp0 s0 H0)) (jda_cons (jdv 0) (jda_cons (jde_op op_mulB od_I (jdv 0) (jdv 0)) (jda_cons jde_int jda_nil))))⟩) (jdi_range1 rfl Z.range_ (jda_cons jde_int jda_nil))) (jda_cons (jde_op op_cat od_cat (jde_pace (jdv 2) jdo_none jde_int (pe_pace K (by rfl) (JE.h (jdv 2)) (JO.h jdo_none) (JE.h jde_int) (fun _ _ => by with_unfolding_all rfl))) (jde_rev (jde_pace (jdv 2) (jdo_some jde_int) jde_int (pe_pace K (by rfl) (JE.h (jdv 2)) (JO.h (jdo_some jde_int)) (JE.h jde_int) (fun _ _ => by with_unfolding_all rfl))) (jde_neg jde_int) (pe_rev K (by rfl) (JE.h (jde_pace (jdv 2) (jdo_some jde_int) jde_int (pe_pace K (by rfl) (JE.h (jdv 2)) (JO.h (jdo_some jde_int)) (JE.h jde_int) (fun _ _ => by with_unfolding_all rfl)))) (JE.h (jde_neg jde_int)) (fun _ _ => by with_unfolding_all rfl)))) jda_nil)))))))),?_⟩
    walk_at "go"
    refine ⟨_,64,rfl,by decide,Bd.num _ (by decide),by decide,fun q q0 q1 => ?_⟩
    walk_at "go"
    refine And.intro ⟨by omega,by omega⟩ ?_
    refine ⟨fun i ρ => ∃ (fs : List F3i) (v3 : Option D),ρ = [some .bag,some (.int (1 + q)),some (.own (fs.map F3i.d)),v3] /\ fs.length = i /\ ∀ f ∈ fs,∀ q,f.has q -> q < 1000,⟨[],_,rfl,rfl,by simp⟩,?_,?_⟩
    · rintro i x ρ e ⟨fs,v3,rfl,hl,hs⟩
      obtain ⟨rfl,hi⟩ := rangeD_get e
      clear e
      rw [Int.zero_add]
      walk_at "go"
      refine ⟨_,64,rfl,by decide,Bd.num _ (by decide),by decide,fun r r0 r1 => ?_⟩
      walk_at "go"
      refine ixm r0 (by exact r1) fun d md => ?_
      obtain ⟨f,rfl,fh⟩ : ∃ f : F3i,d = f.d /\ ∀ q,f.has q -> q < 1000 := by
        simp only [List.mem_cons,List.not_mem_nil,or_false] at md
        rcases md with rfl | rfl
        · exact ⟨⟨i,i + 1,i + 2⟩,rfl,fun q z => by rcases z with z | z | z <;> (have z : q = _ := z) <;> simp only at z <;> omega⟩
        · exact ⟨⟨i + 1,i,i + 2⟩,rfl,fun q z => by rcases z with z | z | z <;> (have z : q = _ := z) <;> simp only at z <;> omega⟩
      clear md
      walk_at "go"
      refine And.intro (by show (true && decide ((fs.map F3i.d).length < 1000)) = true; rw [List.length_map]; simp; omega) ?_
      refine ⟨fs ++ [f],_,by rw [List.map_append]; rfl,by rw [List.length_append,hl]; rfl,fun f' hf => ?_⟩
      rcases List.mem_append.mp hf with h | h
      · exact hs f' h
      · rw [List.mem_singleton.mp h]; exact fh
    · rintro ρ ⟨fs,v3,rfl,hl,hs⟩
      rw [rangeD_len] at hl
      have hl : fs.length <= 22 := by omega
      walk_at "go"
      refine comp_map sqD (fun x Q hx hQ => ?_) (fun x hx => ?_) ?_
      · obtain ⟨i,hi,rfl⟩ := sq_mem (show x ∈ rangeD 0 24 from hx)
        have b64 : Bd 64 (i : Int) := Bd.of (n := 64) (by omega) (by omega)
        walk_at "go"
        exact hQ
      · obtain ⟨i,hi,rfl⟩ := sq_mem (show x ∈ rangeD 0 24 from hx)
        rfl
      rw [show (rangeD 0 (Int.toNat 24)).map sqD = _ from sq_all]
      walk_at "go"
      have ph := pace_half hl
      have pm : ∀ f ∈ paceG fs none 2 ++ (paceG fs (some 1) 2).reverse,f ∈ fs := fun f h => by
        rcases List.mem_append.mp h with h | h
        · exact paceG_mem h
        · exact paceG_mem (List.mem_reverse.mp h)
      rw [paceG_map,paceG_map,<- List.map_reverse]
      refine And.intro (by rw [List.length_map,List.length_map,List.length_reverse]; omega) ?_
      rw [<- List.map_append]
      walk_at "go"
      exact hP _ _ ⟨by rw [List.length_append,List.length_reverse]; omega,fun f hf => hs f (pm f hf)⟩
theorem fine_r3 (cs : List R3) : finesD 2 (cs.map R3.d) = true := fines_all (fun d hd => by obtain ⟨t,_,rfl⟩ := List.mem_map.mp hd; rfl)
theorem fine_f3 (fs : List F3i) : finesD 2 (fs.map F3i.d) = true := fines_all (fun d hd => by obtain ⟨t,_,rfl⟩ := List.mem_map.mp hd; rfl)
theorem fine_body (cs : List R3)(fs : List F3i) : fineD 4 (.tup [.lst (cs.map R3.d),.lst (fs.map F3i.d)]) = true := by
  have e1 : fineD 3 (.lst (cs.map R3.d)) = true := by unfold fineD; exact fine_r3 cs
  have e2 : fineD 3 (.lst (fs.map F3i.d)) = true := by unfold fineD; exact fine_f3 fs
  show (fineD 3 (.lst (cs.map R3.d)) && (fineD 3 (.lst (fs.map F3i.d)) && finesD 3 [])) = true
  rw [e1,e2]
  rfl
def gR (R : List (List Int))(i : Nat) : List (List Int) := R.mapIdx fun k r => if k < i then r ++ [100 + (k : Int)] else r
def rwsD (X : List (List Int)) : List (List D) := X.map fun r => r.map D.int
theorem gR_zero (R : List (List Int)) : gR R 0 = R := by
  refine List.ext_getElem? fun k => ?_
  unfold gR
  rw [List.getElem?_mapIdx]
  cases R[k]? <;> simp
theorem gR_at {R : List (List Int)}{i k : Nat}{r : List Int}(e : R[k]? = some r) : (gR R i)[k]? = some (if k < i then r ++ [100 + (k : Int)] else r) := by
  unfold gR
  rw [List.getElem?_mapIdx,e]
  rfl
theorem gR_len (R : List (List Int))(i : Nat) : (gR R i).length = R.length := List.length_mapIdx
theorem gR_set {R : List (List Int)}{i : Nat}{r : List Int}(e : R[i]? = some r) : (gR R i).set i (r ++ [100 + (i : Int)]) = gR R (i + 1) := by
  refine List.ext_getElem? fun k => ?_
  by_cases z : i = k
  · subst z
    have hi := (List.getElem?_eq_some_iff.mp e).1
    rw [List.getElem?_set_self (by rw [gR_len]; exact hi),gR_at e,if_pos (by omega)]
  · rw [List.getElem?_set_ne z]
    cases h : R[k]? with
    | none =>
      have hk := List.getElem?_eq_none_iff.mp h
      rw [List.getElem?_eq_none (by rw [gR_len]; exact hk),List.getElem?_eq_none (by rw [gR_len]; exact hk)]
    | some r' =>
      rw [gR_at h,gR_at h]
      by_cases q : k < i
      · rw [if_pos q,if_pos (by omega)]
      · rw [if_neg q,if_neg (by omega)]
theorem rws_set (X : List (List Int))(i : Nat)(r : List Int) : (rwsD X).set i (r.map D.int) = rwsD (X.set i r) := by
  unfold rwsD
  rw [List.map_set]
theorem rws_lst (X : List (List Int)) : (rwsD X).map D.lst = X.map rwI := by
  unfold rwsD rwI
  rw [List.map_map]
  rfl
def lastD : D -> D
  | .lst xs => xs.getLastD .non
  | d => d
def plD : D -> D
  | .int k => .int (100 + k)
  | d => d
theorem gR_full {R : List (List Int)}{x : D}(h : x ∈ (gR R R.length).map rwI) : ∃ (r : List Int) (k : Nat),x = rwI (r ++ [100 + (k : Int)]) := by
  obtain ⟨y,hy,rfl⟩ := List.mem_map.mp h
  obtain ⟨k,ek⟩ := List.getElem?_of_mem hy
  have hk := (List.getElem?_eq_some_iff.mp ek).1
  rw [gR_len] at hk
  rw [gR_at (List.getElem?_eq_getElem hk),if_pos hk] at ek
  cases ek
  exact ⟨_,k,rfl⟩
theorem rwI_last (r : List Int)(z : Int) : atI ((r ++ [z]).map D.int) (-1) = some (.int z) := by
  rw [List.map_append]
  exact atI_last _ _
theorem lastD_at (r : List Int)(z : Int) : lastD (rwI (r ++ [z])) = .int z := by
  unfold rwI lastD
  rw [List.map_append]
  simp
theorem fine_pl {n : Nat} : fineD 2 (.lst ((rangeD 0 n).map plD)) = true := by
  unfold fineD
  refine fines_all fun d hd => ?_
  obtain ⟨x,hx,rfl⟩ := List.mem_map.mp hd
  obtain ⟨k,ek⟩ := List.getElem?_of_mem hx
  obtain ⟨rfl,_⟩ := rangeD_get ek
  rfl
theorem lasts {R : List (List Int)} : ((gR R R.length).map rwI).map lastD = (rangeD 0 R.length).map plD := by
  refine List.ext_getElem? fun k => ?_
  rw [List.map_map,List.getElem?_map]
  unfold rangeD
  rw [List.map_map,List.getElem?_map]
  cases h : R[k]? with
  | none =>
    have hk := List.getElem?_eq_none_iff.mp h
    rw [List.getElem?_eq_none (by rw [gR_len]; exact hk),List.getElem?_eq_none (by rw [List.length_range]; exact hk)]
    rfl
  | some r =>
    have hk := (List.getElem?_eq_some_iff.mp h).1
    rw [gR_at h,if_pos hk,List.getElem?_range hk]
    show some (lastD (.lst ((r ++ [100 + (k : Int)]).map D.int))) = some (D.int (100 + (0 + (k : Int))))
    unfold lastD
    rw [List.map_append,Int.zero_add]
    simp
theorem fine_rwI (X : List (List Int)) : fineD 3 (.lst (X.map rwI)) = true := by
  unfold fineD
  refine fines_all fun d hd => ?_
  obtain ⟨r,_,rfl⟩ := List.mem_map.mp hd
  unfold rwI fineD
  refine fines_all fun d hd => ?_
  obtain ⟨z,_,rfl⟩ := List.mem_map.mp hd
  rfl
theorem part_small {lab : Nat -> Nat}{N : Nat} : (partR lab N).length <= N /\ ∀ r ∈ partR lab N,r.length <= N := by
  unfold partR
  constructor
  · rw [List.length_map]
    have := List.length_filter_le (fun i => decide (lab i = i)) (List.range N)
    rw [List.length_range] at this
    exact this
  · intro r hr
    obtain ⟨l,_,rfl⟩ := List.mem_map.mp hr
    rw [nD_len]
    have := List.length_filter_le (fun i => decide (lab i = l)) (List.range N)
    rw [List.length_range] at this
    exact this
theorem noL_rws (X : List (List Int)) : ∀ r ∈ rwsD X,noLs r = true := fun r hr => by
  obtain ⟨x,_,rfl⟩ := List.mem_map.mp hr
  exact noL_ints x
abbrev s__law_right : Stmt := top 18
theorem sc__law_right : FnScope ["_law_body_here","_law_due_here","_law_step","_law_handed","_law_found","_law_place"] ["_law_body_here"] (defScope s__law_right) := ⟨rfl,rfl,rfl,by decide +kernel,rfl,by decide +kernel,by decide +kernel⟩
def S_right : DSp := fun ds P _ => ∃ (cs : List R3) (fs : List F3i),ds = [.tup [.lst (cs.map R3.d),.lst (fs.map F3i.d)]] /\ Few fs /\ P (.bl true)
structure C__law_right (P : Program)(w : World)(K : PySem.W.Frag)(mg : Str -> Option Value)(base : Heap) : Prop where
  _law_due_ : Callee P w K mg base CX0 "_law_due" 2 ["_law_faces"] (liftSp K BT S_due)
  _law_copied_ : Callee P w K mg base CX0 "_law_copied" 1 ["_law_body_here"] (liftSp K BT S_copied)
  parts_ : Callee P w K mg base (CX1 P w base) "parts" 4 ["body"] (liftSpG K BT S_parts)
theorem ok__law_right {P : Program}{w : World}{K : PySem.W.Frag}{mg : Str -> Option Value}{base : Heap}{f : Addr}{fd : FuncData}(F : Fun K "_law_right" "_law_right" s__law_right f fd) (Z : Bi mg) (G : C__law_right P w K mg base) : FnOk P w K mg base CX0 5 f fd ["_law_body_here"] (liftSp K BT S_right) := by
  refine F.okD sc__law_right (fun ds PP Ed h => ?_) (fun cdv A outer s H E M bg ds PP Ed hr hS_ => ?_)
  · obtain ⟨cs,fs,rfl,hF,hP⟩ := h
    rfl
  · obtain ⟨cs,fs,rfl,hF,hP⟩ := hS_
    refine ⟨_,(jdss_cons (jds_set (i := 1) sc__law_right.nd rfl (by walk_at "o") (jde_own G._law_due_ (hr.mono (by decide)) rfl (jda_cons (jde_ix (ix_any K (by rfl)) od_ix (jdv 0) jde_int (fun _ _ => rfl)) jda_nil)))
      (jdss_cons (jds_for (gd_name 2) PassesOwn.never rfl (jdi_range1 rfl Z.range_ (jda_cons jde_int jda_nil)) (pg_name (i := 2) sc__law_right.nd rfl (by walk_at "o")) (jdss_cons (jds_set (i := 3) sc__law_right.nd rfl (by walk_at "o") (jde_own G._law_copied_ (hr.mono (by decide)) rfl (jda_cons (jdv 0) jda_nil)))
      (jdss_cons (jds_setGX elink0 pass10 (i := 4) sc__law_right.nd rfl (by walk_at "o") G.parts_ (hr.mono (by decide)) rfl (jda_cons (jdv 3) jda_nil))
      (jdss_cons (jds_ifT 4 (jdt_or (jdt_not (jdt_truth (by rfl) (jde_callB (call_isinstA K (by rfl)) cd_isinst rfl Z.isinstance_ bt_isinstance (jda_cons (jdv 4) (jda_cons (jde_bltn rfl Z.list_ bt_list) jda_nil))) (fun _ => rfl))) (jdw_or (jdt_cmp (op_neG K (by rfl) hr.units) od_eqG (jdv 4) (jdv 1) (nomark _)) (jdw_or1 (jdt_cmp (op_neG K (by rfl) hr.units) od_eqG (jdv 3) (jdv 0) (nomark _))))) (jdss_one (jds_ret jde_bl)) jdss_nil)
      (jdss_cons (jds_for (gd_name 5) PassesOwn.never rfl (jdi_range1 rfl Z.range_ (jda_cons (jde_lenG (i := 4) (by rfl) (pe_callB call_len_seq rfl Z.len_ bt_len (pa_cons (pv 4) pa_nil))) jda_nil)) (pg_name (i := 5) sc__law_right.nd rfl (by walk_at "o")) (jdss_cons (jds_ifT 4 (jdt_or (jdt_not (jdt_truth (by rfl) (jde_callB (call_isinstA K (by rfl)) cd_isinst rfl Z.isinstance_ bt_isinstance (jda_cons (jde_ix (ix_any K (by rfl)) od_ix (jdv 4) (jdv 5) (fun _ _ => rfl)) (jda_cons (jde_bltn rfl Z.list_ bt_list) jda_nil))) (fun _ => rfl))) (jdw_or1 (jdt_truth (by rfl) (jde_callB (call_anyL K (by rfl) (by rfl)) cd_bls rfl Z.any_ bt_any (jda_cons (jde_comp (X := (cxOf CX0 P w K mg base ["_law_body_here","_law_due_here","_law_step","_law_handed","_law_found","_law_place"] "_law_right" (defScope s__law_right) f cdv A outer s H E).nox) (gd_name 0) (blkJ (X := (cxOf CX0 P w K mg base ["_law_body_here","_law_due_here","_law_step","_law_handed","_law_found","_law_place"] "_law_right" (defScope s__law_right) f cdv A outer s H E).nox) (N' := ["_law_one"]) (map := [none]) (by rfl) (by rfl) (by decide +kernel) (by rfl) True.intro (gkeep_name rfl) fun cl0 C0 fp0 s0 H0 => ⟨(pg_name (X := (cxComp (cxOf CX0 P w K mg base ["_law_body_here","_law_due_here","_law_step","_law_handed","_law_found","_law_place"] "_law_right" (defScope s__law_right) f cdv A outer s H E).nox ["_law_one"] _ cl0 C0 fp0 s0 H0)) (i := 0) (nodupS ["_law_one"] (by decide +kernel)) rfl (by walk_at "o")),jdif_nil,(jde_callB (X := (cxComp (cxOf CX0 P w K mg base ["_law_body_here","_law_due_here","_law_step","_law_handed","_law_found","_law_place"] "_law_right" (defScope s__law_right) f cdv A outer s H E).nox ["_law_one"] _ cl0 C0 fp0 s0 H0)) (call_isinstA K (by rfl)) cd_isinst rfl Z.isinstance_ bt_isinstance (jda_cons (jdv 0) (jda_cons (jde_bltn rfl Z.bool_ bt_bool) jda_nil)))⟩) (jdi_seq (by rfl) (jde_ix (ix_any K (by rfl)) od_ix (jdv 4) (jdv 5) (fun _ _ => rfl)))) jda_nil)) (fun _ => rfl)))) (jdss_one (jds_ret jde_bl)) jdss_nil)
      (jdss_one (jds_appIG (i := 4) (by rfl) (pe_bm PySem.F.plainAttrs_list PySem.F.slot_list_append PySem.F.type_list_append mt_append (pe_ix ix_list (pv 4) (JE.h (jdv 5)) (fun _ _ => rfl)) (JA.h (jda_cons (jde_op op_add od_I0 jde_int (jdv 5)) jda_nil)))))))
      (jdss_cons (jds_ifT 4 (jdt_cmp (op_neG K (by rfl) hr.units) od_eqG (jde_comp (X := (cxOf CX0 P w K mg base ["_law_body_here","_law_due_here","_law_step","_law_handed","_law_found","_law_place"] "_law_right" (defScope s__law_right) f cdv A outer s H E).nox) (gd_name 0) (blkJ (X := (cxOf CX0 P w K mg base ["_law_body_here","_law_due_here","_law_step","_law_handed","_law_found","_law_place"] "_law_right" (defScope s__law_right) f cdv A outer s H E).nox) (N' := ["_law_one"]) (map := [none]) (by rfl) (by rfl) (by decide +kernel) (by rfl) True.intro (gkeep_name rfl) fun cl0 C0 fp0 s0 H0 => ⟨(pg_name (X := (cxComp (cxOf CX0 P w K mg base ["_law_body_here","_law_due_here","_law_step","_law_handed","_law_found","_law_place"] "_law_right" (defScope s__law_right) f cdv A outer s H E).nox ["_law_one"] _ cl0 C0 fp0 s0 H0)) (i := 0) (nodupS ["_law_one"] (by decide +kernel)) rfl (by walk_at "o")),jdif_nil,(jde_ix (X := (cxComp (cxOf CX0 P w K mg base ["_law_body_here","_law_due_here","_law_step","_law_handed","_law_found","_law_place"] "_law_right" (defScope s__law_right) f cdv A outer s H E).nox ["_law_one"] _ cl0 C0 fp0 s0 H0)) (ix_any K (by rfl)) od_ix (jdv 0) (jde_neg jde_int) (fun _ _ => rfl))⟩) (jdi_seq (by rfl) (jdv 4))) (jde_comp (X := (cxOf CX0 P w K mg base ["_law_body_here","_law_due_here","_law_step","_law_handed","_law_found","_law_place"] "_law_right" (defScope s__law_right) f cdv A outer s H E).nox) (gd_name 0) (blkJ (X := (cxOf CX0 P w K mg base ["_law_body_here","_law_due_here","_law_step","_law_handed","_law_found","_law_place"] "_law_right" (defScope s__law_right) f cdv A outer s H E).nox) (N' := ["_law_place"]) (map := [none]) (by rfl) (by rfl) (by decide +kernel) (by rfl) True.intro (gkeep_name rfl) fun cl0 C0 fp0 s0 H0 => ⟨(pg_name (X := (cxComp (cxOf CX0 P w K mg base ["_law_body_here","_law_due_here","_law_step","_law_handed","_law_found","_law_place"] "_law_right" (defScope s__law_right) f cdv A outer s H E).nox ["_law_place"] _ cl0 C0 fp0 s0 H0)) (i := 0) (nodupS ["_law_place"] (by decide +kernel)) rfl (by walk_at "o")),jdif_nil,(jde_op (X := (cxComp (cxOf CX0 P w K mg base ["_law_body_here","_law_due_here","_law_step","_law_handed","_law_found","_law_place"] "_law_right" (defScope s__law_right) f cdv A outer s H E).nox ["_law_place"] _ cl0 C0 fp0 s0 H0)) op_add od_I0 jde_int (jdv 0))⟩) (jdi_range1 rfl Z.range_ (jda_cons (jde_callB (call_len_seqK K (by rfl)) cd_len rfl Z.len_ bt_len (jda_cons (jdv 4) jda_nil)) jda_nil))) (nomark _)) (jdss_one (jds_ret jde_bl)) jdss_nil)
      (jdss_one (jds_appGn (i := 4) (by rfl) (pe_bm PySem.F.plainAttrs_list PySem.F.slot_list_append PySem.F.type_list_append mt_append (pv 4) (JA.h (jda_cons (jde_lst (jda_cons jde_int jda_nil)) jda_nil)))))))))))
      (jdss_one (jds_ret jde_bl)))),?_⟩
    obtain ⟨lab,L⟩ := A11.lab_ex (joinN fs)
    walk_at "go"
    refine ⟨fs,lab,rfl,hF.l24,hF.sm,L,?_⟩
    have ps := part_small (lab := lab) (N := fs.length)
    have f24 := hF.l24
    walk_at "go"
    obtain ⟨R,eR⟩ : ∃ R,partR lab fs.length = R := ⟨_,rfl⟩
    rw [eR] at ps
    rw [eR]
    refine ⟨fun i ρ => ∃ v2 v3 v4 v5,ρ = [some (.tup [.lst (cs.map R3.d),.lst (fs.map F3i.d)]),some (.lst (R.map rwI)),v2,v3,v4,v5],⟨_,_,_,_,rfl⟩,?_,?_⟩
    · rintro i x ρ e ⟨v2,v3,v4,v5,rfl⟩
      obtain ⟨rfl,hi⟩ := rangeD_get e
      clear e
      walk_at "go"
      refine ⟨_,_,rfl,?_⟩
      walk_at "go"
      refine ⟨_,fs,lab,rfl,f24,L,?_⟩
      rw [eR]
      refine ⟨noL_rws R,fun a rs hl => ?_⟩
      have hl : rs.length = R.length := by rw [hl,List.length_map]
      walk_at "go"
      refine ⟨true,by rfl,?_⟩
      walk_at "go"
      refine eqG_same (x := rowsL (rwsD R)) 3 (by show fineD 3 (.lst ((rwsD R).map D.lst)) = true; rw [rws_lst]; exact fine_rwI R) (by show _ = pyOf (.lst ((rwsD R).map D.lst)); rw [rws_lst]) (by decide) ?_
      walk_at "go"
      refine eqG_same 4 (fine_body cs fs) rfl (by decide) ?_
      walk_at "go"
      refine ⟨a,rs,_,rfl,?_⟩
      walk_at "go"
      refine And.intro ⟨by omega,by omega⟩ ?_
      refine ⟨fun j ρ => ∃ v5,ρ = [some (.tup [.lst (cs.map R3.d),.lst (fs.map F3i.d)]),some (.lst (R.map rwI)),some (.int (0 + i)),some (.tup [.lst (cs.map R3.d),.lst (fs.map F3i.d)]),some (grd K a rs (rwsD (gR R j))),v5],⟨_,by rw [gR_zero]; rfl⟩,?_,?_⟩
      · rintro j x ρ e ⟨v5,rfl⟩
        obtain ⟨rfl,hj⟩ := rangeD_get e
        clear e
        have hj : j < R.length := by omega
        obtain ⟨r,er⟩ : ∃ r,R[j]? = some r := ⟨_,List.getElem?_eq_getElem hj⟩
        have r24 := ps.2 r (List.mem_of_getElem? er)
        have eg : (gR R j)[j]? = some r := by rw [gR_at er,if_neg (Nat.lt_irrefl j)]
        have ew : (rwsD (gR R j))[j]? = some (r.map D.int) := by unfold rwsD; rw [List.getElem?_map,eg]; rfl
        have ea : atI ((rwsD (gR R j)).map D.lst) (j : Int) = some (.lst (r.map D.int)) := atI_nat (j := j) (by rw [List.getElem?_map,ew]; rfl)
        rw [Int.zero_add]
        walk_at "go"
        rw [ea]
        walk_at "go"
        refine ⟨true,by rfl,?_⟩
        walk_at "go"
        rw [ea]
        walk_at "go"
        refine And.intro (by rw [List.length_map]; omega) ?_
        refine comp_map (fun _ => .bl false) (fun x Q hx hQ => ?_) (fun _ _ => rfl) ?_
        · obtain ⟨z,_,rfl⟩ := List.mem_map.mp hx
          walk_at "go"
          exact ⟨false,by rfl,hQ⟩
        have eb : blsOf ((r.map D.int).map fun _ => D.bl false) = some (r.map fun _ => false) := by
          have := blsOf_map (r.map fun _ => false)
          rw [List.map_map] at this
          rw [List.map_map]
          exact this
        walk_at "go"
        rw [eb]
        walk_at "go"
        refine IfP.f (by show ((r.map fun _ => false).any id) = false; rw [List.any_map]; simp) ?_
        walk_at "go"
        refine ⟨a,rs,_,rfl,by unfold rwsD; rw [List.length_map,gR_len]; exact hl,?_⟩
        walk_at "go"
        refine ⟨j,_,rfl,ew,?_⟩
        walk_at "go"
        refine And.intro (by show (true && decide ((r.map D.int).length < 1000)) = true; rw [List.length_map]; simp; omega) ?_
        refine ⟨some (.int (j : Int)),?_⟩
        rw [show r.map D.int ++ [D.int (100 + (j : Int))] = (r ++ [100 + (j : Int)]).map D.int by rw [List.map_append]; rfl,rws_set,gR_set er]
        rfl
      · rintro ρ ⟨v5,rfl⟩
        rw [rangeD_len,Int.toNat_natCast,hl]
        walk_at "go"
        rw [rws_lst]
        refine And.intro (by rw [List.length_map,gR_len]; omega) ?_
        refine comp_map lastD (fun x Q hx hQ => ?_) (fun x hx => ?_) ?_
        · obtain ⟨r,k,rfl⟩ := gR_full hx
          walk_at "go"
          rw [rwI_last]
          rw [lastD_at] at hQ
          exact hQ
        · obtain ⟨r,k,rfl⟩ := gR_full hx
          rw [lastD_at]
          rfl
        rw [lasts]
        walk_at "go"
        rw [rws_lst,List.length_map,gR_len]
        refine And.intro ⟨by omega,by omega⟩ ?_
        rw [Int.toNat_natCast]
        refine And.intro (by rw [rangeD_len]; omega) ?_
        refine comp_map plD (fun x Q hx hQ => ?_) (fun x hx => ?_) ?_
        · obtain ⟨k,ek⟩ := List.getElem?_of_mem hx
          obtain ⟨rfl,_⟩ := rangeD_get ek
          walk_at "go"
          exact hQ
        · obtain ⟨k,ek⟩ := List.getElem?_of_mem hx
          obtain ⟨rfl,_⟩ := rangeD_get ek
          rfl
        walk_at "go"
        refine eqG_same (x := .lst ((rangeD 0 R.length).map plD)) 2 fine_pl rfl (by decide) ?_
        walk_at "go"
        refine ⟨a,rs,_,rfl,by omega,?_⟩
        walk_at "go"
        exact ⟨_,rfl,_,_,_,_,rfl⟩
    · rintro ρ ⟨v2,v3,v4,v5,rfl⟩
      walk_at "go"
      exact hP
abbrev s_law : Stmt := top 19
theorem sc_law : FnScope ["_law_script","_law_k","_law_bag_here","_law_body_here"] ["_law_script"] (defScope s_law) := ⟨rfl,rfl,rfl,by decide +kernel,rfl,by decide +kernel,by decide +kernel⟩
def sp_law (K : PySem.W.Frag) : Sp := fun vs H Q _ => ∃ (a : Addr) (ns : List Int),vs = [.ref a] /\ SqL K H a (ns.map V.int) /\ ns.length <= 63 /\ ∀ H',Q (.bl true) H'
structure C_law (P : Program)(w : World)(K : PySem.W.Frag)(mg : Str -> Option Value)(base : Heap) : Prop where
  _law_bag_ : Callee P w K mg base CX0 "_law_bag" 1 ["_law_script","_law_at"] (bagSp K BT pre_bag)
  parts_ : Callee P w K mg base (CX1 P w base) "parts" 4 ["body"] (liftSpG K BT S_parts)
  _law_strip_ : Callee P w K mg base CX0 "_law_strip" 2 ["_law_bag_here"] (liftSp K BT S_strp)
  _law_pieces_ : Callee P w K mg base CX0 "_law_pieces" 4 ["_law_bag_here"] (liftSp K BT S_pcs)
  _law_right_ : Callee P w K mg base CX0 "_law_right" 5 ["_law_body_here"] (liftSp K BT S_right)
  _law_digit_ : Callee P w K mg base CX0 "_law_digit" 1 ["_law_bag_here","_law_many"] (liftSp K BT S_digit)
theorem ok_law {P : Program}{w : World}{K : PySem.W.Frag}{mg : Str -> Option Value}{base : Heap}{f : Addr}{fd : FuncData}(F : Fun K "law" "law" s_law f fd) (Z : Bi mg) (G : C_law P w K mg base) : FnOk P w K mg base CX0 6 f fd ["_law_script"] (sp_law K) := by
  refine F.okL BT sc_law (fun cdv A outer s H E ns hr hlen => ?_)
  · refine ⟨_,(jdss_cons (jds_for (gd_name 1) PassesOwn.never rfl (jdi_range1 rfl Z.range_ (jda_cons (jde_callB (call_max2 (by rfl)) cd_2I rfl Z.max_ bt_max (jda_cons jde_int (jda_cons (jde_callB (call_min2 (by rfl)) cd_2I rfl Z.min_ bt_min (jda_cons (jde_callB (call_len_seqK K (by rfl)) cd_len rfl Z.len_ bt_len (jda_cons (jdv 0) jda_nil)) (jda_cons jde_int jda_nil))) jda_nil))) jda_nil)) (pg_name (i := 1) sc_law.nd rfl (by walk_at "o")) (jdss_cons (jds_bag (i := 2) rfl sc_law.nd rfl (by walk_at "o") G._law_bag_ (hr.mono (by decide)) rfl (jda_cons (jdv 0) (jda_cons (jdv 1) jda_nil)))
      (jdss_cons (jds_set (i := 3) sc_law.nd rfl (by walk_at "o") (jde_if (jdt_cmp op_eq od_eqS (jde_own G._law_digit_ (hr.mono (by decide)) rfl (jda_cons (jdv 2) (jda_cons jde_int jda_nil))) jde_int (nomark _)) (jde_own G._law_strip_ (hr.mono (by decide)) rfl (jda_cons (jdv 2) jda_nil)) (jde_own G._law_pieces_ (hr.mono (by decide)) rfl (jda_cons (jdv 2) jda_nil))))
      (jdss_one (jds_if (jdt_not (jdt_truth (by rfl) (jde_own G._law_right_ (hr.mono (by decide)) rfl (jda_cons (jdv 3) jda_nil)) (fun _ => rfl))) (jdss_one (jds_ret jde_bl)) jdss_nil)))))
      (jdss_one (jds_ret (jde_cmp (op_eqG K (by rfl) hr.units) od_eqG (jde_ownGX elink0 pass10 G.parts_ (hr.mono (by decide)) rfl (jda_cons (jde_tup (jda_cons (jde_lst (jda_cons (jde_tup (jda_cons jde_int (jda_cons jde_int (jda_cons jde_int jda_nil)))) jda_nil)) (jda_cons (jde_lst jda_nil) jda_nil))) jda_nil)) (jde_lst jda_nil) (nomark _))))),?_⟩
    walk_at "go"
    have n3 : ∀ m : Int,((fun i j => if j > i then j else i) 2 ((fun i j => if j < i then j else i) m 5) : Int) <= 5 := by intro m; dsimp only; split <;> split <;> omega
    have n0 : ∀ m : Int,2 <= ((fun i j => if j > i then j else i) 2 ((fun i j => if j < i then j else i) m 5) : Int) := by intro m; dsimp only; split <;> split <;> omega
    replace n3 := n3 ns.length
    replace n0 := n0 ns.length
    refine And.intro ⟨by omega,by omega⟩ ?_
    refine ⟨fun i ρ => ∃ v1 v2 v3,ρ = [some (.scr ns),v1,v2,v3],⟨_,_,_,rfl⟩,?_,?_⟩
    · rintro i x ρ e ⟨v1,v2,v3,rfl⟩
      obtain ⟨rfl,hi⟩ := rangeD_get e
      have hi6 : i < 5 := by omega
      clear e n3 n0
      rw [Int.zero_add]
      walk_at "go"
      refine ⟨⟨ns,i,rfl,by omega⟩,?_⟩
      walk_at "go"
      refine ⟨_,64,rfl,by decide,Bd.num _ (by decide),by decide,fun r r0 r1 => ?_⟩
      walk_at "go"
      walk_at "sp"
      · walk_at "go"
        refine fun cs fs hF => ?_
        walk_at "go"
        refine ⟨cs,fs,rfl,hF,?_⟩
        walk_at "go"
        exact ⟨_,_,_,rfl⟩
      · walk_at "go"
        refine fun cs fs hF => ?_
        walk_at "go"
        refine ⟨cs,fs,rfl,hF,?_⟩
        walk_at "go"
        exact ⟨_,_,_,rfl⟩
    · rintro ρ ⟨v1,v2,v3,rfl⟩
      obtain ⟨lab,L⟩ := A11.lab_ex (joinN [])
      walk_at "go"
      refine ⟨_,[],lab,rfl,Nat.zero_le _,L,?_⟩
      refine ⟨noL_rws _,?_⟩
      walk_at "go"
      refine eqG_same (x := .lst []) 2 rfl rfl (by decide) ?_
      walk_at "go"
      rfl
end K
set_option Elab.async false
set_option linter.all false
set_option maxRecDepth 100000
set_option maxHeartbeats 4000000
namespace K
open PySem L2
structure FnIn (K : PySem.W.Frag)(x : Str)(st : Stmt) : Prop where
  ex : ∃ (f : Addr) (fd : FuncData),PySem.W.nsIn K mainGlobals x = some (some (.ref f)) /\ Fun K x x st f fd
theorem fn_in {K : PySem.W.Frag}{x : Str}{st : Stmt}{f : Addr}{oc : Value}{od an : Option Addr}{osl : Array (Option Value)}{kV doc pm cdv ct : Value}(a : PySem.W.nsIn K mainGlobals x = some (some (.ref f)))(l : K.lookup f = some ⟨oc,od,.func (PySem.W.fnOf x x (defArgs st) (defBody st) (defScope st) .none kV doc pm an cdv ct),osl⟩)(c : PySem.W.codeIn K cdv x = true)(k : PySem.W.keepIn K (.ref f) = true) : FnIn K x st := ⟨⟨_,_,a,fun_mk l c k⟩⟩
local macro_rules | `(tactic| walk_at "b1") => `(tactic| exact fun _ _ _ _ _ _ us hl => match us,hl with | [_],_ => rfl)
local macro_rules | `(tactic| walk_at "b2") => `(tactic| exact fun _ _ _ _ _ _ us hl => match us,hl with | [_,_],_ => rfl)
theorem all_mk {l : PySem.W.OpenLaw}{w : World}{K : PySem.W.Frag}{h : Heap}{mg : Str -> Option Value}{fa : Addr}(X : K.In h)(G : h.Ns mainGlobals mg)(hfa : mg "law" = some (.ref fa))
    (h0 : FnIn K "_law_bag" s__law_bag)
    (h1 : FnIn K "sides_of" s_sides_of)
    (h2 : FnIn K "fellow" s_fellow)
    (h3 : FnIn K "are_joined" s_are_joined)
    (h4 : FnIn K "part_from" s_part_from)
    (h5 : FnIn K "parts" s_parts)
    (h6 : FnIn K "_law_digit" s__law_digit)
    (h7 : FnIn K "_law_strip" s__law_strip)
    (h8 : FnIn K "_law_corner" s__law_corner)
    (h9 : FnIn K "_law_face" s__law_face)
    (h10 : FnIn K "_law_body" s__law_body)
    (h11 : FnIn K "_law_pieces" s__law_pieces)
    (h12 : FnIn K "_law_sides" s__law_sides)
    (h13 : FnIn K "_law_due" s__law_due)
    (h14 : FnIn K "_law_copied" s__law_copied)
    (h15 : FnIn K "_law_right" s__law_right)
    (h16 : FnIn K "law" s_law)
    (z_abs : PySem.W.nsIn K mainGlobals "abs" = some none)
    (z_len : PySem.W.nsIn K mainGlobals "len" = some none)
    (z_max : PySem.W.nsIn K mainGlobals "max" = some none)
    (z_min : PySem.W.nsIn K mainGlobals "min" = some none)
    (z_range : PySem.W.nsIn K mainGlobals "range" = some none)
    (z_isinstance : PySem.W.nsIn K mainGlobals "isinstance" = some none)
    (z_int : PySem.W.nsIn K mainGlobals "int" = some none)
    (z_bool : PySem.W.nsIn K mainGlobals "bool" = some none)
    (z_tuple : PySem.W.nsIn K mainGlobals "tuple" = some none)
    (z_zip : PySem.W.nsIn K mainGlobals "zip" = some none)
    (z_sum : PySem.W.nsIn K mainGlobals "sum" = some none)
    (z_all : PySem.W.nsIn K mainGlobals "all" = some none)
    (z_any : PySem.W.nsIn K mainGlobals "any" = some none)
    (z_list : PySem.W.nsIn K mainGlobals "list" = some none)
    (z_sorted : PySem.W.nsIn K mainGlobals "sorted" = some none)
    (z_enumerate : PySem.W.nsIn K mainGlobals "enumerate" = some none)
    (z_set : PySem.W.nsIn K mainGlobals "set" = some none)
    : ∃ fd : FuncData,(∀ (s : Shared) (v : Value),BindsTo s fd ⟨[v],[]⟩ [("_law_script",v)]) /\ ∀ base : Heap,K.In base -> base.Ns mainGlobals mg -> FnOk l.prog w K mg base CX0 6 fa fd ["_law_script"] (sp_law K) := by
  obtain ⟨f0,d0,a0,F0⟩ := h0.ex
  obtain ⟨f1,d1,a1,F1⟩ := h1.ex
  obtain ⟨f2,d2,a2,F2⟩ := h2.ex
  obtain ⟨f3,d3,a3,F3⟩ := h3.ex
  obtain ⟨f4,d4,a4,F4⟩ := h4.ex
  obtain ⟨f5,d5,a5,F5⟩ := h5.ex
  obtain ⟨f6,d6,a6,F6⟩ := h6.ex
  obtain ⟨f7,d7,a7,F7⟩ := h7.ex
  obtain ⟨f8,d8,a8,F8⟩ := h8.ex
  obtain ⟨f9,d9,a9,F9⟩ := h9.ex
  obtain ⟨f10,d10,a10,F10⟩ := h10.ex
  obtain ⟨f11,d11,a11,F11⟩ := h11.ex
  obtain ⟨f12,d12,a12,F12⟩ := h12.ex
  obtain ⟨f13,d13,a13,F13⟩ := h13.ex
  obtain ⟨f14,d14,a14,F14⟩ := h14.ex
  obtain ⟨f15,d15,a15,F15⟩ := h15.ex
  obtain ⟨f16,d16,a16,F16⟩ := h16.ex
  have e := hfa.symm.trans (PySem.W.mg_of X G a16)
  cases e
  have Z : Bi mg := ⟨PySem.W.mg_none_of X G z_abs,PySem.W.mg_none_of X G z_len,PySem.W.mg_none_of X G z_max,PySem.W.mg_none_of X G z_min,PySem.W.mg_none_of X G z_range,PySem.W.mg_none_of X G z_isinstance,PySem.W.mg_none_of X G z_int,PySem.W.mg_none_of X G z_bool,PySem.W.mg_none_of X G z_tuple,PySem.W.mg_none_of X G z_zip,PySem.W.mg_none_of X G z_sum,PySem.W.mg_none_of X G z_all,PySem.W.mg_none_of X G z_any,PySem.W.mg_none_of X G z_list,PySem.W.mg_none_of X G z_sorted,PySem.W.mg_none_of X G z_enumerate,PySem.W.mg_none_of X G z_set⟩
  have bl := F16.binds (ps := ["_law_script"]) fun _ _ _ _ _ _ us hl => match us,hl with | [_],_ => rfl
  obtain ⟨oc,od,kV,doc,pm,an,cdv,ct,osl,el,lk,hcd⟩ := F16.ex
  refine ⟨d16,fun s v => by rw [el]; exact .of_eq rfl,fun base kb gb => ?_⟩
  have G0 := Callee.mk' F0 (ok__law_bag (P := l.prog) (w := w) (base := base) F0 Z) (PySem.W.mg_of X G a0) (F0.binds (by walk_at "b2"))
  have G1 := Callee.mk' F1 (ok_sides_of (P := l.prog) (w := w) (base := base) F1 Z) (PySem.W.mg_of X G a1) (F1.binds (by walk_at "b1"))
  have G2 := Callee.mk' F2 (ok_fellow (P := l.prog) (w := w) (base := base) F2 Z) (PySem.W.mg_of X G a2) (F2.binds (by walk_at "b1"))
  have G3 := Callee.mk' F3 (ok_are_joined (P := l.prog) (w := w) (base := base) F3 Z ⟨G1,G2⟩) (PySem.W.mg_of X G a3) (F3.binds (by walk_at "b2"))
  have G4 := Callee.mk' F4 (ok_part_from (P := l.prog) (w := w) (base := base) F4 Z ⟨G3⟩) (PySem.W.mg_of X G a4) (F4.binds (by walk_at "b2"))
  have G5 := Callee.mk' F5 (ok_parts (P := l.prog) (w := w) (base := base) F5 Z ⟨G4⟩) (PySem.W.mg_of X G a5) (F5.binds (by walk_at "b1"))
  have G6 := Callee.mk' F6 (ok__law_digit (P := l.prog) (w := w) (base := base) F6 Z) (PySem.W.mg_of X G a6) (F6.binds (by walk_at "b2"))
  have G7 := Callee.mk' F7 (ok__law_strip (P := l.prog) (w := w) (base := base) F7 Z ⟨G6⟩) (PySem.W.mg_of X G a7) (F7.binds (by walk_at "b1"))
  have G8 := Callee.mk' F8 (ok__law_corner (P := l.prog) (w := w) (base := base) F8 Z ⟨G6⟩) (PySem.W.mg_of X G a8) (F8.binds (by walk_at "b1"))
  have G9 := Callee.mk' F9 (ok__law_face (P := l.prog) (w := w) (base := base) F9 Z ⟨G6⟩) (PySem.W.mg_of X G a9) (F9.binds (by walk_at "b2"))
  have G10 := Callee.mk' F10 (ok__law_body (P := l.prog) (w := w) (base := base) F10 Z ⟨G6,G8,G9⟩) (PySem.W.mg_of X G a10) (F10.binds (by walk_at "b2"))
  have G11 := Callee.mk' F11 (ok__law_pieces (P := l.prog) (w := w) (base := base) F11 Z ⟨G6,G10⟩) (PySem.W.mg_of X G a11) (F11.binds (by walk_at "b1"))
  have G12 := Callee.mk' F12 (ok__law_sides (P := l.prog) (w := w) (base := base) F12 Z) (PySem.W.mg_of X G a12) (F12.binds (by walk_at "b1"))
  have G13 := Callee.mk' F13 (ok__law_due (P := l.prog) (w := w) (base := base) F13 Z ⟨G12⟩) (PySem.W.mg_of X G a13) (F13.binds (by walk_at "b1"))
  have G14 := Callee.mk' F14 (ok__law_copied (P := l.prog) (w := w) (base := base) F14 Z) (PySem.W.mg_of X G a14) (F14.binds (by walk_at "b1"))
  have G15 := Callee.mk' F15 (ok__law_right (P := l.prog) (w := w) (base := base) F15 Z ⟨G13,G14,G5⟩) (PySem.W.mg_of X G a15) (F15.binds (by walk_at "b1"))
  exact ok_law (P := l.prog) (w := w) (base := base) F16 Z ⟨G0,G5,G7,G11,G15,G6⟩
theorem walk {l : PySem.W.OpenLaw}{q : Program}{loose : List Str}{XP : (Str -> Option Value) -> Heap -> Prop}{YP : World -> Heap -> Prop}{d : DefRec}{K : Params -> PySem.W.Frag}(hn : l.most = some 63)(hdf : d.params.defaults = [])
    (hY : ∀ (w : World) (h : Heap),YP w h -> (K w.params).In h)
    (F : ∀ (w : World) (mg : Str -> Option Value) (fa : Addr) (h : Heap),(K w.params).In h -> h.Ns mainGlobals mg -> mg d.name = some (.ref fa) ->
      ∃ fd : FuncData,(∀ (s : Shared) (u : Value),BindsTo s fd ⟨[u],[]⟩ [("_law_script",u)]) /\ ∀ base : Heap,(K w.params).In base -> base.Ns mainGlobals mg -> FnOk l.prog w (K w.params) mg base CX0 6 fa fd ["_law_script"] (sp_law (K w.params))) :
    PySem.W.WalkO q loose XP YP l.row.toRowW d [] (fun f vs => PySem.call f vs) :=
  L2.walk_of (n := 63) (k := 6) (x := "_law_script") (CX := fun _ => CX0) (sp := fun w => sp_law (K w.params)) hn (by decide) hdf ⟨rfl,by decide,by decide,rfl⟩ hY F (fun _ _ a ns hl _ hS => ⟨a,ns,rfl,hS,hl,fun _ => rfl⟩) fun _ _ _ _ _ z => z
end K
open PySem PySem.W PyProof.Rows
theorem PySem.W.Fast.tw1285301565284342301 : True := trivial
theorem PySem.W.Fast.tw5257872979649815096 : True := trivial
theorem PySem.W.Fast.tw16984665387711735288 : True := trivial
theorem PySem.W.Fast.tw1825633324872750190 : True := trivial
theorem PySem.W.Fast.tw1815782034964686251 : True := trivial
theorem PySem.W.Fast.tw17086341871028360004 : True := trivial
theorem PySem.W.Fast.tw658324980580839746 : True := trivial
theorem PySem.W.Fast.tw8522321936412657953 : True := trivial
theorem PySem.W.Fast.tw5184811076748761344 : True := trivial
theorem PySem.W.Fast.tw1885117416975208085 : True := trivial
local macro_rules | `(tactic| walk_at "fn") => `(tactic| (refine' _root_.K.fn_in ?a ?l ?c ?k; (case a => k_is); (case l => k_is); (case c => k_is); (case k => k_is)))
set_option maxRecDepth 100000 in
set_option maxHeartbeats 0 in
theorem PySem.Challenge.cw_onceshade_k11_parts_holds : PySem.Challenge.rw_onceshade_k11_parts.Holds := by
  w_on; o_law; k_head; (case hw => w_witness2)
  k_fill
  refine K.walk (l := PySem.Challenge.rw_onceshade_k11_parts) rfl rfl (fun w h Y => PySem.W.kIn_of Y) ?F
  case F =>
    intro w mg fa h KX G hmg
    refine' K.all_mk KX G hmg ?h0 ?h1 ?h2 ?h3 ?h4 ?h5 ?h6 ?h7 ?h8 ?h9 ?h10 ?h11 ?h12 ?h13 ?h14 ?h15 ?h16 ?z_abs ?z_len ?z_max ?z_min ?z_range ?z_isinstance ?z_int ?z_bool ?z_tuple ?z_zip ?z_sum ?z_all ?z_any ?z_list ?z_sorted ?z_enumerate ?z_set
    (case h0 => walk_at "fn")
    (case h1 => walk_at "fn")
    (case h2 => walk_at "fn")
    (case h3 => walk_at "fn")
    (case h4 => walk_at "fn")
    (case h5 => walk_at "fn")
    (case h6 => walk_at "fn")
    (case h7 => walk_at "fn")
    (case h8 => walk_at "fn")
    (case h9 => walk_at "fn")
    (case h10 => walk_at "fn")
    (case h11 => walk_at "fn")
    (case h12 => walk_at "fn")
    (case h13 => walk_at "fn")
    (case h14 => walk_at "fn")
    (case h15 => walk_at "fn")
    (case h16 => walk_at "fn")
    (case z_abs => k_is)
    (case z_len => k_is)
    (case z_max => k_is)
    (case z_min => k_is)
    (case z_range => k_is)
    (case z_isinstance => k_is)
    (case z_int => k_is)
    (case z_bool => k_is)
    (case z_tuple => k_is)
    (case z_zip => k_is)
    (case z_sum => k_is)
    (case z_all => k_is)
    (case z_any => k_is)
    (case z_list => k_is)
    (case z_sorted => k_is)
    (case z_enumerate => k_is)
    (case z_set => k_is)
