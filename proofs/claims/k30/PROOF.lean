import PyProof.Rows.All
import Wide.All
import OpenK.AllK
import Wide.FinOn
import Lean
import PyProof.EqAt
import PyProof.EqKinds
import PyProof.TupleCall
import PySem.Challenge.RW_onceshade_k30_floors_of_faces
set_option Elab.async false
set_option linter.all false
set_option maxRecDepth 100000
namespace L2
open PySem PySem.Spec PyProof.Rows
abbrev Key := Sum Int Str
def keyIs : Key -> Value -> Bool
  | .inl k,v => Value.isInt k v
  | .inr x,v => Value.isStrOf x v
def keyH (w : World) : Key -> Int
  | .inl k => hashInt k
  | .inr x => hashStr w x
theorem keyIs_shape : ∀ {k : Key} {v : Value},keyIs k v = true -> (∃ i t,k = Sum.inl i /\ v = Value.int i t) \/ (∃ x t,k = Sum.inr x /\ v = Value.str x t)
  | .inl i,v,h => by
    obtain ⟨t,e⟩ := Value.isInt_shape (k := i) (v := v) h
    exact .inl ⟨i,t,rfl,e⟩
  | .inr x,v,h => by
    obtain ⟨t,e⟩ := Value.isStrOf_shape (x := x) (v := v) h
    exact .inr ⟨x,t,rfl,e⟩
theorem key_ll (a b : Int) : decide ((Sum.inl a : Key) = Sum.inl b) = (a == b) := by
  by_cases e : a = b
  · subst e; simp
  · have h : ¬ (Sum.inl a : Key) = Sum.inl b := fun q => e (Sum.inl.inj q)
    rw [decide_eq_false h]
    exact (beq_eq_false_iff_ne.mpr e).symm
theorem key_rr (a b : Str) : decide ((Sum.inr a : Key) = Sum.inr b) = decide (a = b) := by
  by_cases e : a = b
  · subst e; simp
  · have h : ¬ (Sum.inr a : Key) = Sum.inr b := fun q => e (Sum.inr.inj q)
    rw [decide_eq_false h,decide_eq_false e]
theorem key_lr (a : Int)(b : Str) : decide ((Sum.inl a : Key) = Sum.inr b) = false := decide_eq_false (fun q => nomatch q)
theorem key_rl (a : Str)(b : Int) : decide ((Sum.inr a : Key) = Sum.inl b) = false := decide_eq_false (fun q => nomatch q)
def mixKind (prog : Program)(w : World) : PySem.KeyKind prog w Key where
  is := keyIs
  hash := keyH w
  inj := fun v a b ha hb => by
    rcases keyIs_shape ha with ⟨i,t,rfl,rfl⟩ | ⟨x,t,rfl,rfl⟩
    · rcases keyIs_shape hb with ⟨j,u,rfl,e⟩ | ⟨y,u,rfl,e⟩
      · injection e with e1 _; rw [e1]
      · exact nomatch e
    · rcases keyIs_shape hb with ⟨j,u,rfl,e⟩ | ⟨y,u,rfl,e⟩
      · exact nomatch e
      · injection e with e1 _; rw [e1]
  byValue := fun k v h => by
    rcases keyIs_shape h with ⟨i,t,rfl,rfl⟩ | ⟨x,t,rfl,rfl⟩ <;> rfl
  pyHash := fun hv h => by
    rcases keyIs_shape hv with ⟨i,t,rfl,rfl⟩ | ⟨x,t,rfl,rfl⟩
    · exact wpAny_pyHash_int h
    · exact wpAny_pyHash_str h
  eqBool := fun hu hv h => by
    rcases keyIs_shape hu with ⟨i,t,rfl,rfl⟩ | ⟨x,t,rfl,rfl⟩
    · rcases keyIs_shape hv with ⟨j,u,rfl,rfl⟩ | ⟨y,u,rfl,rfl⟩
      · rw [key_ll] at h; exact wpAny_eqBool_int h
      · rw [key_lr] at h; exact SeqAt.EqAt.int_str i t y u _ _ _ _ h
    · rcases keyIs_shape hv with ⟨j,u,rfl,rfl⟩ | ⟨y,u,rfl,rfl⟩
      · rw [key_rl] at h; exact SeqAt.EqAt.str_int x t j u _ _ _ _ h
      · rw [key_rr] at h; exact wpAny_eqBool_str h
  «strs» := fun k x t v h => by
    rcases keyIs_shape h with ⟨i,u,rfl,e⟩ | ⟨y,u,rfl,e⟩
    · exact nomatch e
    · injection e with e1 _
      subst e1
      cases v <;> rfl
end L2
namespace L2
open PySem PySem.Spec PyProof.Rows
inductive V where
  | non | bl (b : Bool) | int (i : Int) | str (x : Str) | byt (b : Array UInt8) | flt (b : UInt64) | ref (a : Addr) | ty (n : String)
  deriving DecidableEq
def RelV : V -> Value -> Prop
  | .non,u => u = Value.none
  | .bl b,u => u = Value.bool b
  | .int i,u => ∃ t,u = Value.int i t
  | .str x,u => ∃ t,u = Value.str x t
  | .byt b,u => ∃ t,u = Value.bytes b t
  | .flt b,u => ∃ t,u = Value.float b t
  | .ref a,u => u = Value.ref a
  | .ty n,u => u = Value.type n
abbrev Vals : List V -> List Value -> Prop := Paired RelV
theorem Vals.length {xs : List V}{us : List Value}(r : Vals xs us) : xs.length = us.length := Paired.length r
theorem Vals.get : ∀ {xs : List V} {us : List Value} {i : Nat} {x : V},Vals xs us -> xs[i]? = some x -> ∃ u,us[i]? = some u /\ RelV x u
  | _,_,_,_,.nil,e => by simp at e
  | _,_,0,_,.cons r _,e => by simp at e; subst e; exact ⟨_,rfl,r⟩
  | _,_,i + 1,x,.cons _ t,e => by
    obtain ⟨u,h1,h2⟩ := Vals.get (i := i) (x := x) t (by simpa using e)
    exact ⟨u,by simpa using h1,h2⟩
theorem Vals.set {x : V}{u : Value}(r : RelV x u) : ∀ {xs : List V} {us : List Value} (i : Nat),Vals xs us -> Vals (xs.set i x) (us.set i u)
  | _,_,_,.nil => .nil
  | _,_,0,.cons _ t => .cons r t
  | _,_,i + 1,.cons q t => .cons q (Vals.set r i t)
theorem Vals.append : ∀ {xs ys : List V} {us ws : List Value},Vals xs us -> Vals ys ws -> Vals (xs ++ ys) (us ++ ws)
  | _,_,_,_,.nil,s => s
  | _,_,_,_,.cons r t,s => .cons r (Vals.append t s)
theorem Vals.take : ∀ {xs : List V} {us : List Value} (n : Nat),Vals xs us -> Vals (xs.take n) (us.take n)
  | _,_,0,_ => .nil
  | _,_,_ + 1,.nil => .nil
  | _,_,n + 1,.cons r t => .cons r (Vals.take n t)
theorem Vals.drop : ∀ {xs : List V} {us : List Value} (n : Nat),Vals xs us -> Vals (xs.drop n) (us.drop n)
  | _,_,0,r => r
  | _,_,_ + 1,.nil => .nil
  | _,_,n + 1,.cons _ t => Vals.drop n t
def RelO : Option V -> Option Value -> Prop
  | some v,some u => RelV v u
  | none,none => True
  | _,_ => False
def KV {κ : Type} : List (κ × V) -> List (κ × Value) -> Prop := Paired fun (p : κ × V) (q : κ × Value) => p.1 = q.1 /\ RelV p.2 q.2
def kV : Key -> V
  | .inl i => .int i
  | .inr x => .str x
inductive HO where
  | lst (xs : List V)
  | tup (xs : List V)
  | dK (kvs : List (Key × V)) | dT (kvs : List (List Key × V))
  | set (S : Int -> Bool) (n : Nat)
  | ins (C dx : Addr) (fs : List (Str × V))
  | own (x : Addr)
  | xd (fs : List (Str × V))
  | met (f x : Addr)
  | rng (lo hi : Int)
  | frz (o : Obj) (u : HO)
  | tbl (ps : Array Value)
  | ext (φ : Heap -> Prop)
abbrev Hp := Addr -> Option HO
def upd (H : Hp)(a : Addr)(o : HO) : Hp := fun b => if b = a then some o else H b
theorem upd_same {H : Hp}{a : Addr}{o : HO} : upd H a o a = some o := by unfold upd; rw [if_pos rfl]
theorem upd_ne {H : Hp}{a b : Addr}{o : HO}(h : b ≠ a) : upd H a o b = H b := by unfold upd; rw [if_neg h]
theorem upd_upd {H : Hp}{a : Addr}{o u : HO} : upd (upd H a o) a u = upd H a u := by
  funext b; unfold upd; split <;> rfl
theorem ne_of {H : Hp}{a b : Addr}{o u : HO}(h : H a = some o)(h' : H b = some u)(d : o ≠ u) : a ≠ b := by
  intro e; subst e; rw [h] at h'; exact d (Option.some.inj h')
theorem ne_of_none {H : Hp}{a b : Addr}{o : HO}(h : H a = some o)(h' : H b = none) : a ≠ b := by
  intro e; subst e; rw [h] at h'; cases h'
section
variable (P : Program)(w : World)
def ObjOk (H : Hp)(h : Heap)(a : Addr) : HO -> Prop
  | .lst xs => xs.length <= sizeLine /\ ∃ (its : List Value) (n : Nat),Vals xs its /\ h.get? a = some { cls := .type "list",data := .seq its.toArray n }
  | .tup xs => xs.length <= sizeLine /\ ∃ its : List Value,Vals xs its /\ IsTup h a its.toArray
  | .dK kvs => kvs.length <= sizeLine /\ (a == sysModules) = false /\ ∃ vs,KV kvs vs /\ h.DictOf (mixKind P w) a vs
  | .dT kvs => kvs.length <= sizeLine /\ (a == sysModules) = false /\ ∃ xs : List (List Key × Addr × Value),
      Paired (fun (p : List Key × V) (q : List Key × Addr × Value) => p.1 = q.1 /\ H q.2.1 = some (.tup (p.1.map kV)) /\ RelV p.2 q.2.2) kvs xs /\
      ∃ o es ep,h.get? a = some o /\ o.ExactDict /\ o.data = .dict es ep /\ es.toList = xs.map (entryOfKey (tupleKind (mixKind P w))) /\ (xs.map (·.1)).Nodup
  | .set S n => h.SetOf (intKind P w) a S n
  | .ins C dx fs => H dx = some (.own a) /\ fs.length <= 1000 /\ dx ≠ a /\ h.get? a = some (PySem.W.instObj C dx) /\
      ∃ mA,h.Ns1 dx mA /\ (∀ f,RelO (fs.lookup f) (mA f)) /\ PySem.Within mA (fs.map (·.1))
  | .own _ => ∃ o,h.get? a = some o
  | .xd fs => ∃ mA,h.Ns1 a mA /\ ∀ f,RelO (fs.lookup f) (mA f)
  | .rng lo hi => ∃ t u v,h.get? a = some { cls := .type "range",data := .fields #[.int lo t,.int hi u,.int 1 v] }
  | .frz o u => h.get? a = some o /\ ObjOk H h a u
  | .tbl ps => h.get? a = some { cls := .none,data := .fields ps }
  | .met f x => h.get? a = some (PySem.W.methodObj (.ref f) (.ref x))
  | .ext φ => φ h /\ (∃ o,h.get? a = some o) /\ ∀ h1 h2 : Heap,φ h1 -> (∀ o,h1.get? a = some o -> h2.get? a = some o) -> φ h2
def HOk (H : Hp)(h : Heap) : Prop := ∀ a o,H a = some o -> ObjOk P w H h a o
end
section
variable {P : Program}{w : World}{H H' : Hp}{h h' : Heap}{a : Addr}{o : HO}
theorem ObjOk.lt (x : ObjOk P w H h a o) : a < h.objs.size := by
  cases o with
  | lst xs => obtain ⟨_,_,_,_,e⟩ := x; exact Heap.lt_size e
  | tup xs => obtain ⟨_,_,_,p⟩ := x; exact p.lt
  | dK kvs => obtain ⟨_,_,_,_,o,_,_,e,_⟩ := x; exact Heap.lt_size e
  | dT kvs => obtain ⟨_,_,_,_,o,_,_,e,_⟩ := x; exact Heap.lt_size e
  | set S n => obtain ⟨o,_,_,_,e,_⟩ := x; exact Heap.lt_size e
  | ins C dx fs => obtain ⟨_,_,_,e,_⟩ := x; exact Heap.lt_size e
  | own y => obtain ⟨_,e⟩ := x; exact Heap.lt_size e
  | xd fs => obtain ⟨_,⟨_,_,_,e,_⟩,_⟩ := x; exact Heap.lt_size e
  | rng lo hi => obtain ⟨_,_,_,e⟩ := x; exact Heap.lt_size e
  | frz ob u => obtain ⟨e,_⟩ := x; exact Heap.lt_size e
  | tbl ps => exact Heap.lt_size (show h.get? a = some _ from x)
  | met f y => exact Heap.lt_size (show h.get? a = some _ from x)
  | ext φ => obtain ⟨_,⟨_,e⟩,_⟩ := x; exact Heap.lt_size e
theorem Paired.mapP {α β : Type}{F G : α -> β -> Prop} : ∀ {l₁ : List α} {l₂ : List β},Paired F l₁ l₂ -> (∀ a b,F a b -> G a b) -> Paired G l₁ l₂
  | _,_,.nil,_ => .nil
  | _,_,.cons r t,f => .cons (f _ _ r) (Paired.mapP t f)
theorem ObjOk.stay (x : ObjOk P w H h a o)(k : ∀ b u,(b = a \/ H b = some (.own a)) -> h.get? b = some u -> h'.get? b = some u)
    (ho : ∀ b,H b = some (.own a) -> H' b = some (.own a)) (ht : ∀ b xs,H b = some (.tup xs) -> H' b = some (.tup xs)) : ObjOk P w H' h' a o := by
  induction o with
  | lst xs => obtain ⟨z,its,n,r,e⟩ := x; exact ⟨z,its,n,r,k _ _ (.inl rfl) e⟩
  | tup xs => obtain ⟨z,its,r,ob,e,c⟩ := x; exact ⟨z,its,r,ob,k _ _ (.inl rfl) e,c⟩
  | dK kvs => obtain ⟨z,y,vs,r,ob,es,ep,e,c⟩ := x; exact ⟨z,y,vs,r,ob,es,ep,k _ _ (.inl rfl) e,c⟩
  | dT kvs =>
    obtain ⟨z,y,xs,r,ob,es,ep,e,c⟩ := x
    exact ⟨z,y,xs,Paired.mapP r fun p q z => ⟨z.1,ht _ _ z.2.1,z.2.2⟩,ob,es,ep,k _ _ (.inl rfl) e,c⟩
  | set S n => obtain ⟨ob,es,ep,t,e,c⟩ := x; exact ⟨ob,es,ep,t,k _ _ (.inl rfl) e,c⟩
  | ins C dx fs =>
    obtain ⟨d,z,ne,e,mA,⟨od,es,ep,e2,c⟩,r⟩ := x
    exact ⟨ho _ d,z,ne,k _ _ (.inl rfl) e,mA,⟨od,es,ep,k _ _ (.inr d) e2,c⟩,r⟩
  | own y => obtain ⟨ob,e⟩ := x; exact ⟨ob,k _ _ (.inl rfl) e⟩
  | xd fs => obtain ⟨mA,⟨od,es,ep,e,c⟩,r⟩ := x; exact ⟨mA,⟨od,es,ep,k _ _ (.inl rfl) e,c⟩,r⟩
  | rng lo hi => obtain ⟨t,u,v,e⟩ := x; exact ⟨t,u,v,k _ _ (.inl rfl) e⟩
  | frz ob u ih => obtain ⟨e,q⟩ := x; exact ⟨k _ _ (.inl rfl) e,ih q⟩
  | tbl ps =>
    have e : h.get? a = some { cls := .none,data := .fields ps } := x
    show h'.get? a = some { cls := .none,data := .fields ps }
    exact k a _ (.inl rfl) e
  | met f y =>
    have e : h.get? a = some (PySem.W.methodObj (.ref f) (.ref y)) := x
    show h'.get? a = some (PySem.W.methodObj (.ref f) (.ref y))
    exact k a _ (.inl rfl) e
  | ext φ => obtain ⟨p,⟨o,e⟩,st⟩ := x; exact ⟨st _ _ p fun o q => k _ _ (.inl rfl) q,⟨o,k _ _ (.inl rfl) e⟩,st⟩
theorem HOk.lt (x : HOk P w H h)(e : H a = some o) : a < h.objs.size := (x a o e).lt
theorem HOk.fresh (x : HOk P w H h)(e : h.objs.size <= a) : H a = none := by
  cases q : H a with
  | none => rfl
  | some u => exact absurd (Nat.lt_of_lt_of_le (x.lt q) e) (Nat.lt_irrefl _)
theorem HOk.kept (x : HOk P w H h)(k : ∀ b u,h.get? b = some u -> h'.get? b = some u) : HOk P w H h' := fun a o e =>
  (x a o e).stay (fun b u _ q => k b u q) (fun _ q => q) fun _ _ q => q
theorem HOk.laid (x : HOk P w H h)(k : ∀ b u,h.get? b = some u -> h'.get? b = some u)(hp : h.objs.size <= a)(new : ObjOk P w (upd H a o) h' a o) : HOk P w (upd H a o) h' := fun b u e => by
  have hn := x.fresh hp
  by_cases hb : b = a
  · subst hb; rw [upd_same] at e; cases e; exact new
  · rw [upd_ne hb] at e
    exact (x b u e).stay (fun c v _ q => k c v q) (fun c q => by rw [upd_ne (ne_of_none q hn)]; exact q) fun c xs q => by rw [upd_ne (ne_of_none q hn)]; exact q
end
def Rd (H : Hp)(a : Addr)(u : HO) : Prop := H a = some u \/ ∃ o,H a = some (.frz o u)
theorem Rd.of {H : Hp}{a : Addr}{u : HO}(h : H a = some u) : Rd H a u := .inl h
theorem Rd.ok {P : Program}{w : World}{H : Hp}{h : Heap}{a : Addr}{u : HO}(r : Rd H a u)(x : HOk P w H h) : ObjOk P w H h a u := by
  rcases r with r | ⟨o,r⟩
  · exact x a u r
  · obtain ⟨_,q⟩ := x a _ r
    exact q
def Mut : Option HO -> Prop
  | some (.lst _) => True
  | some (.dK _) => True
  | some (.dT _) => True
  | some (.set _ _) => True
  | some (.ins _ _ _) => True
  | some (.ext _) => True
  | _ => False
section
variable {P : Program}{w : World}{H : Hp}{h h' : Heap}{x e : Addr}{o' : HO}
theorem HOk.write (ok : HOk P w H h)(mu : Mut (H x))(he : e = x \/ H e = some (.own x))(k : ∀ b u,b ≠ e -> h.get? b = some u -> h'.get? b = some u)(heo : ∃ u,h'.get? e = some u)
    (new : ObjOk P w (upd H x o') h' x o') : HOk P w (upd H x o') h' := fun b u q => by
  have nown : ∀ c y,H c = some (.own y) -> c ≠ x := fun c y r z => by subst z; rw [r] at mu; exact mu
  have ntup : ∀ c xs,H c = some (.tup xs) -> c ≠ x := fun c xs r z => by subst z; rw [r] at mu; exact mu
  by_cases hb : b = x
  · subst hb; rw [upd_same] at q; cases q; exact new
  · rw [upd_ne hb] at q
    by_cases hbe : b = e
    · have q' : H b = some (.own x) := by
        rcases he with z | z
        · exact absurd (hbe.trans z) hb
        · rw [hbe]; exact z
      rw [q] at q'; cases q'
      obtain ⟨v,hv⟩ := heo
      exact ⟨v,by rw [hbe]; exact hv⟩
    · refine (ok b u q).stay (fun c v hc r => k c v ?_ r) (fun c r => by rw [upd_ne (nown c b r)]; exact r) fun c xs r => by rw [upd_ne (ntup c xs r)]; exact r
      rcases hc with rfl | hc
      · exact hbe
      · rintro rfl
        rcases he with z | z
        · exact nown c b hc z
        · rw [hc] at z; cases z; exact hb rfl
end
structure Un (fs ex : List Addr)(H H' : Hp)(h h' : Heap) : Prop where
  keep : ∀ b o,h.get? b = some o -> H b = none -> b ∉ fs -> b ∉ ex -> h'.get? b = some o
  slot : ∀ b o,h.get? b = some o -> H b = none -> b ∈ fs -> b ∉ ex -> ∃ sl,h'.get? b = some { o with slots := sl }
  free : ∀ b o,h.get? b = some o -> H b = none -> b ∉ ex -> H' b = none
  there : ∀ b o,h.get? b = some o -> b ∉ ex -> ∃ o',h'.get? b = some o'
  tups : ∀ b xs,H b = some (.tup xs) -> H' b = some (.tup xs)
  frzs : ∀ b o u,H b = some (.frz o u) -> H' b = some (.frz o u)
  tbls : ∀ b ps,H b = some (.tbl ps) -> ∃ more,H' b = some (.tbl (ps ++ more))
section
variable {fs fs' ex ex' : List Addr}{H H1 H2 : Hp}{h h1 h2 h' : Heap}{a x e : Addr}{o : HO}
theorem Un.any (u : Un fs ex H H1 h h1){b : Addr}{ob : Obj}(q : h.get? b = some ob)(n : H b = none)(hx : b ∉ ex) : ∃ sl,h1.get? b = some { ob with slots := sl } := by
  by_cases hb : b ∈ fs
  · exact u.slot b ob q n hb hx
  · exact ⟨ob.slots,u.keep b ob q n hb hx⟩
theorem Un.trans (a : Un fs ex H H1 h h1)(b : Un fs ex H1 H2 h1 h2) : Un fs ex H H2 h h2 where
  keep := fun c ob q n hc hx => b.keep c ob (a.keep c ob q n hc hx) (a.free c ob q n hx) hc hx
  slot := fun c ob q n hc hx => by
    obtain ⟨sl,e1⟩ := a.slot c ob q n hc hx
    obtain ⟨sl',e2⟩ := b.slot c _ e1 (a.free c ob q n hx) hc hx
    exact ⟨sl',e2⟩
  free := fun c ob q n hx => by
    obtain ⟨o',e1⟩ := a.there c ob q hx
    exact b.free c o' e1 (a.free c ob q n hx) hx
  there := fun c ob q hx => by
    obtain ⟨o',e1⟩ := a.there c ob q hx
    exact b.there c o' e1 hx
  tups := fun c xs q => b.tups c xs (a.tups c xs q)
  frzs := fun c ob xs q => b.frzs c ob xs (a.frzs c ob xs q)
  tbls := fun c ps q => by
    obtain ⟨m1,e1⟩ := a.tbls c ps q
    obtain ⟨m2,e2⟩ := b.tbls c _ e1
    exact ⟨m1 ++ m2,by rw [e2,Array.append_assoc]⟩
theorem Un.kept (k : ∀ b u,h.get? b = some u -> h'.get? b = some u) : Un fs ex H H h h' :=
  ⟨fun b ob q _ _ _ => k b ob q,fun b ob q _ _ _ => ⟨ob.slots,k b ob q⟩,fun _ _ _ n _ => n,fun b ob q _ => ⟨ob,k b ob q⟩,fun _ _ q => q,fun _ _ _ q => q,fun _ ps q => ⟨#[],by rw [q]; simp⟩⟩
theorem Un.refl : Un fs ex H H h h := Un.kept fun _ _ q => q
theorem Un.laid (k : ∀ b u,h.get? b = some u -> h'.get? b = some u)(hp : h.objs.size <= a)(hn : H a = none) : Un fs ex H (upd H a o) h h' where
  keep := fun b u q _ _ _ => k b u q
  slot := fun b u q _ _ _ => ⟨u.slots,k b u q⟩
  free := fun b u q n _ => by rw [upd_ne (Nat.ne_of_lt (Nat.lt_of_lt_of_le (Heap.lt_size q) hp))]; exact n
  there := fun b u q _ => ⟨u,k b u q⟩
  tups := fun b xs q => by rw [upd_ne (ne_of_none q hn)]; exact q
  frzs := fun b u xs q => by rw [upd_ne (ne_of_none q hn)]; exact q
  tbls := fun b ps q => ⟨#[],by rw [upd_ne (ne_of_none q hn),q]; simp⟩
theorem Un.write (mu : Mut (H x))(he : e = x \/ H e = some (.own x))(k : ∀ b u,b ≠ e -> h.get? b = some u -> h'.get? b = some u)(heo : ∃ u,h'.get? e = some u) : Un fs ex H (upd H x o) h h' := by
  have hx : ∀ b,H b = none -> b ≠ x := fun b n z => by subst z; rw [n] at mu; exact mu
  have hb : ∀ b,H b = none -> b ≠ e := fun b n z => by
    subst z
    rcases he with r | r
    · exact hx b n r
    · rw [n] at r; cases r
  have hm : ∀ b u,H b = some u -> ¬ Mut (some u) -> b ≠ x := fun b u q nm z => by subst z; rw [q] at mu; exact nm mu
  refine ⟨fun b u q n _ _ => k b u (hb b n) q,fun b u q n _ _ => ⟨u.slots,k b u (hb b n) q⟩,fun b u q n _ => by rw [upd_ne (hx b n)]; exact n,fun b u q _ => ?_,
    fun b xs q => by rw [upd_ne (hm b _ q fun z => z)]; exact q,fun b u xs q => by rw [upd_ne (hm b _ q fun z => z)]; exact q,fun b ps q => ⟨#[],by rw [upd_ne (hm b _ q fun z => z),q]; simp⟩⟩
  by_cases hbe : b = e
  · subst hbe; exact heo
  · exact ⟨u,k b u hbe q⟩
end
def trk (h : Heap)(H : Hp) : List Addr := (List.range h.objs.size).filter fun a => (H a).isSome
def hidT (h : Heap)(H : Hp) : Heap := PySem.W.hideAll h (trk h H)
theorem hidT_size (h : Heap)(H : Hp) : (hidT h H).objs.size = h.objs.size := PySem.W.hideAll_size _ _
theorem hidT_get {h : Heap}{H : Hp}{b : Addr}{o : Obj}(e : h.get? b = some o)(n : H b = none) : (hidT h H).get? b = some o :=
  PySem.W.hideAll_get _ e fun hm => by
    have q : (H b).isSome = true := (List.mem_filter.mp hm).2
    rw [n] at q; simp at q
theorem of_hidT {h : Heap}{H : Hp}{b : Addr}{o : Obj}(e : (hidT h H).get? b = some o) : h.get? b = some o /\ H b = none := by
  have e' : h.get? b = some o := PySem.W.of_hideAll (trk h H) e
  refine ⟨e',?_⟩
  cases q : H b with
  | none => rfl
  | some x =>
    have hm : b ∈ trk h H := List.mem_filter.mpr ⟨List.mem_range.mpr (Heap.lt_size e'),by simp [q]⟩
    have z : (hidT h H).get? b = none := PySem.W.hideAll_none (trk h H) hm
    rw [z] at e; cases e
def allNews (g h : Heap)(L : Addr) : List (Addr × Obj) := (List.range h.objs.size).filterMap fun a => if a = L \/ (g.get? a).isSome = true then none else (h.get? a).map fun o => (a,o)
def rest (g h : Heap)(L d : Addr) : List (Addr × Obj) := (allNews g h L).filter fun p => decide (p.1 ≠ d)
end L2
namespace L2
open PySem PySem.Spec PyProof.Rows
structure Mod (K : PySem.W.Frag)(mg : Str -> Option Value)(base : Heap) : Prop where
  kin : K.In base
  glob : base.Ns mainGlobals mg
  blt : ∃ mb,base.Ns builtinsNs mb /\ ∀ x : Str,x ≠ "__name__" -> mb x = bootBuiltins x
  nolimit : base.NoLimit
structure Cx where
  prog : Program
  w : World
  K : PySem.W.Frag
  mg : Str -> Option Value
  base : Heap
  A : Around
  N : List Str
  s₀ : Shared
  H₀ : Hp
  env : Env
  outer : List Env
  stack : List Env
  ex : List Addr
  fn : Str -> Bool
  calm : Bool
  pn : List (Addr × Obj)
  xe : Value -> Shared -> Prop
def frs (l : List Env) : List Addr := l.filterMap (·.frame)
abbrev Cx.fs (X : Cx) : List Addr := frs X.outer
def Vis (sc : Scope)(x : Str) : Prop := sc.names.lookup x = some .local \/ sc.names.lookup x = some .cell \/ sc.names.lookup x = some .free
def Loc (sc : Scope)(x : Str) : Prop := sc.names.lookup x = some .local \/ sc.names.lookup x = some .cell
def Look (env : Env)(h : Heap)(m : Str -> Option Value)(x : Str)(u : Value) : Prop :=
  (env.kindOf x = some .local /\ m x = some u) \/ ((env.kindOf x = some .cell \/ env.kindOf x = some .free) /\ ∃ c,env.cells.lookup x = some c /\ h.IsCell c (some u))
structure Cx.Ok (X : Cx) : Prop where
  mod : Mod X.K X.mg X.base
  kind : X.env.scope.kind = .function
  glob : X.env.globals = mainGlobals
  blt : X.env.builtins = builtinsNs
  above : X.s₀.heap.objs.size <= X.env.locals
  inj : ∀ x y c,X.env.cells.lookup x = some c -> X.env.cells.lookup y = some c -> x = y
  has : ∀ x,(X.env.kindOf x = some .cell \/ X.env.kindOf x = some .free) -> ∃ c,X.env.cells.lookup x = some c
  cab : ∀ x c,X.fn x = true -> X.env.cells.lookup x = some c -> X.s₀.heap.objs.size <= c
  hd : X.calm = true -> X.A.handled = none
  frames : X.A.frames = some X.stack
  stk : X.stack = X.outer \/ (X.stack = X.env :: X.outer /\ X.env.frame = some X.env.locals)
  exf : ∀ b ∈ X.ex,b ≠ X.env.locals /\ ∀ x c,X.env.cells.lookup x = some c -> c ≠ b
  bs : ∀ b o,X.base.get? b = some o -> X.s₀.heap.get? b = some o /\ X.H₀ b = none
  bsz : X.base.objs.size <= X.s₀.heap.objs.size
  noex : ∀ b o,X.base.get? b = some o -> b ∉ X.ex
  exfs : ∀ b ∈ X.ex,b ∉ X.fs
  funs : X.s₀.heap.FunFrames X.base X.outer
  frf : ∀ b ∈ X.fs,X.H₀ b = none
structure Inv (X : Cx)(pins : List (Addr × Obj))(σ : List (Option V))(H : Hp)(s : Shared) : Prop where
  ok : X.Ok
  os : s.os = X.s₀.os
  bare : AllBare s.gens
  base : Un X.fs X.ex X.H₀ H X.s₀.heap s.heap
  loc : ∃ m,s.heap.Ns X.env.locals m /\ ∀ (i : Nat) (x : Str) (v : V),X.N[i]? = some x -> σ[i]? = some (some v) -> Vis X.env.scope x -> ∃ u,RelV v u /\ Look X.env s.heap m x u
  cell : ∀ x c,X.env.cells.lookup x = some c -> ∃ v,s.heap.IsCell c v
  free : H X.env.locals = none
  freeC : ∀ x c,X.env.cells.lookup x = some c -> H c = none
  pin : ∀ p ∈ X.pn ++ pins,s.heap.get? p.1 = some p.2 /\ H p.1 = none /\ p.1 ≠ X.env.locals /\ p.1 ∉ X.fs /\ ∀ v,p.2.data ≠ .cell v
  hok : HOk X.prog X.w H s.heap
  len : σ.length = X.N.length
section
variable {X : Cx}{pins : List (Addr × Obj)}{σ : List (Option V)}{H H' : Hp}{s : Shared}{h' : Heap}
theorem Cx.Ok.nofr (ok : X.Ok){b : Addr}{o : Obj}(e : X.base.get? b = some o) : b ∉ X.fs := fun hb => by
  have := (ok.funs.mem hb).1
  rw [e] at this; cases this
theorem Inv.bs (I : Inv X pins σ H s) : ∀ b o,X.base.get? b = some o -> s.heap.get? b = some o /\ H b = none := fun b o e =>
  ⟨I.base.keep b o (I.ok.bs b o e).1 (I.ok.bs b o e).2 (I.ok.nofr e) (I.ok.noex b o e),I.base.free b o (I.ok.bs b o e).1 (I.ok.bs b o e).2 (I.ok.noex b o e)⟩
theorem Inv.bk (I : Inv X pins σ H s) : ∀ b o,X.base.get? b = some o -> s.heap.get? b = some o := fun b o e => (I.bs b o e).1
theorem Inv.mod (I : Inv X pins σ H s) : Mod X.K X.mg X.base := I.ok.mod
theorem Inv.kIn (I : Inv X pins σ H s) : X.K.In s.heap := I.ok.mod.kin.keeps I.bk
theorem Inv.lt (I : Inv X pins σ H s) : X.env.locals < s.heap.objs.size := let ⟨_,hn,_⟩ := I.loc; hn.lt
theorem Inv.sz (I : Inv X pins σ H s) : X.s₀.heap.objs.size <= s.heap.objs.size := Nat.le_trans I.ok.above (Nat.le_of_lt I.lt)
theorem Inv.nofs (I : Inv X pins σ H s){a : Addr}(h : s.heap.objs.size <= a) : a ∉ X.fs := fun hb => by
  obtain ⟨_,o,ho,_⟩ := I.ok.funs.mem hb
  exact absurd (Nat.lt_of_lt_of_le (Heap.lt_size ho) (Nat.le_trans I.sz h)) (Nat.lt_irrefl _)
theorem Inv.cne (I : Inv X pins σ H s) : ∀ x c,X.env.cells.lookup x = some c -> c ≠ X.env.locals := fun x c e z => by
  obtain ⟨v,o,ho,hd⟩ := I.cell x c e
  obtain ⟨m,⟨o',es,ep,ho',hd',_⟩,_⟩ := I.loc
  rw [z,ho'] at ho; cases ho; rw [hd'] at hd; cases hd
theorem Inv.funs (I : Inv X pins σ H s) : s.heap.FunFrames X.base X.outer := by
  have all : ∀ (l : List Env),(∀ b ∈ frs l,b ∈ X.fs) -> X.s₀.heap.FunFrames X.base l -> s.heap.FunFrames X.base l := by
    intro l
    induction l with
    | nil => intro _ _; trivial
    | cons env r ih =>
      intro hs hl
      obtain ⟨hk,⟨L,o,hf,hn,ho,hd⟩,hr⟩ := hl
      have hL : L ∈ X.fs := hs L (by unfold frs; rw [List.filterMap_cons,hf]; exact List.mem_cons_self)
      obtain ⟨sl,e⟩ := I.base.slot L o ho (I.ok.frf L hL) hL fun z => I.ok.exfs L z hL
      exact ⟨hk,⟨L,_,hf,hn,e,hd⟩,ih (fun b hb => hs b (by unfold frs; rw [List.filterMap_cons,hf]; exact List.mem_cons_of_mem _ hb)) hr⟩
  exact all X.outer (fun _ hb => hb) I.ok.funs
theorem Inv.stack (I : Inv X pins σ H s) : s.heap.FunFrames X.base X.stack := by
  rcases I.ok.stk with e | ⟨e,hf⟩
  · rw [e]; exact I.funs
  · rw [e]
    obtain ⟨m,hn,_⟩ := I.loc
    refine .cons (by rw [I.ok.kind]; decide) hf hn ?_ I.funs
    exact Heap.get?_none_of_le (Nat.le_trans I.ok.bsz I.ok.above)
theorem Inv.stkSub (I : Inv X pins σ H s) : ∀ b ∈ frs X.stack,b ∈ X.env.locals :: X.fs := fun b hb => by
  rcases I.ok.stk with e | ⟨e,hf⟩
  · rw [e] at hb; exact List.mem_cons_of_mem _ hb
  · rw [e] at hb
    unfold frs at hb
    rw [List.filterMap_cons,hf] at hb
    exact hb
theorem Inv.stkFree (I : Inv X pins σ H s) : ∀ b ∈ frs X.stack,H b = none := fun b hb => by
  rcases List.mem_cons.mp (I.stkSub b hb) with e | hb
  · rw [e]; exact I.free
  · obtain ⟨_,o,ho,_⟩ := I.ok.funs.mem hb
    exact I.base.free b o ho (I.ok.frf b hb) fun z => I.ok.exfs b z hb
theorem Inv.step {g' : Array GenState}{t' : Nat}{d' : Drawn}{ch : List Addr}(I : Inv X pins σ H s)
    (hch : ∀ b ∈ ch,(b ∈ X.ex \/ X.s₀.heap.objs.size <= b) /\ b ≠ X.env.locals /\ (∀ x c,X.env.cells.lookup x = some c -> c ≠ b) /\ ∀ p ∈ X.pn ++ pins,p.1 ≠ b)
    (keep : ∀ b o,b ≠ X.env.locals -> b ∉ X.fs -> b ∉ ch -> s.heap.get? b = some o -> H b = none -> h'.get? b = some o)
    (slot : ∀ b o,b ≠ X.env.locals -> b ∈ X.fs -> b ∉ ch -> s.heap.get? b = some o -> H b = none -> ∃ sl,h'.get? b = some { o with slots := sl }) (free : ∀ b o,b ∉ ch -> s.heap.get? b = some o -> H b = none -> H' b = none)
    (there : ∀ b o,b ∉ ch -> s.heap.get? b = some o -> ∃ o',h'.get? b = some o')
    (tups : ∀ b xs,H b = some (.tup xs) -> H' b = some (.tup xs)) (frzs : ∀ b o u,H b = some (.frz o u) -> H' b = some (.frz o u)) (tbls : ∀ b ps,H b = some (.tbl ps) -> ∃ more,H' b = some (.tbl (ps ++ more)))
    (ns : ∀ m,s.heap.Ns X.env.locals m -> h'.Ns X.env.locals m) (hok : HOk X.prog X.w H' h') (hg : AllBare g') :
    Inv X pins σ H' { s with heap := h',gens := g',drawn := d',toks := t' } := by
  have neL : ∀ b o,X.s₀.heap.get? b = some o -> b ≠ X.env.locals := fun b o e => Nat.ne_of_lt (Nat.lt_of_lt_of_le (Heap.lt_size e) I.ok.above)
  have neC : ∀ b o,X.s₀.heap.get? b = some o -> b ∉ X.ex -> b ∉ ch := fun b o e hx hb => by
    rcases (hch b hb).1 with z | z
    · exact hx z
    · exact absurd (Nat.lt_of_lt_of_le (Heap.lt_size e) z) (Nat.lt_irrefl _)
  have cellK : ∀ x c,X.env.cells.lookup x = some c -> ∀ v,s.heap.IsCell c v -> h'.IsCell c v := fun x c e v ⟨o,ho,hd⟩ => by
    have nch : c ∉ ch := fun z => (hch c z).2.2.1 x c e rfl
    by_cases hc : c ∈ X.fs
    · obtain ⟨sl,q⟩ := slot c o (I.cne x c e) hc nch ho (I.freeC x c e)
      exact ⟨_,q,hd⟩
    · exact ⟨o,keep c o (I.cne x c e) hc nch ho (I.freeC x c e),hd⟩
  refine ⟨I.ok,I.os,hg,⟨fun b o e n hb hx => ?_,fun b o e n hb hx => ?_,fun b o e n hx => ?_,fun b o e hx => ?_,fun b xs e => tups b xs (I.base.tups b xs e),fun b o xs e => frzs b o xs (I.base.frzs b o xs e),fun b ps e => ?_⟩,?_,fun x c e => ?_,?_,fun x c e => ?_,fun p hp => ?_,hok,I.len⟩
  · exact keep b o (neL b o e) hb (neC b o e hx) (I.base.keep b o e n hb hx) (I.base.free b o e n hx)
  · obtain ⟨sl,e1⟩ := I.base.slot b o e n hb hx
    obtain ⟨sl',e2⟩ := slot b _ (neL b o e) hb (neC b o e hx) e1 (I.base.free b o e n hx)
    exact ⟨sl',e2⟩
  · obtain ⟨o',e1⟩ := I.base.there b o e hx
    exact free b o' (neC b o e hx) e1 (I.base.free b o e n hx)
  · obtain ⟨o',e1⟩ := I.base.there b o e hx
    exact there b o' (neC b o e hx) e1
  · obtain ⟨m1,e1⟩ := I.base.tbls b ps e
    obtain ⟨m2,e2⟩ := tbls b _ e1
    exact ⟨m1 ++ m2,by rw [e2,Array.append_assoc]⟩
  · obtain ⟨m,hn,hl⟩ := I.loc
    refine ⟨m,ns m hn,fun i x v e1 e2 e3 => ?_⟩
    obtain ⟨u,r,l⟩ := hl i x v e1 e2 e3
    refine ⟨u,r,?_⟩
    rcases l with l | ⟨k,c,e,z⟩
    · exact .inl l
    · exact .inr ⟨k,c,e,cellK x c e _ z⟩
  · obtain ⟨v,z⟩ := I.cell x c e
    exact ⟨v,cellK x c e v z⟩
  · obtain ⟨m,⟨o,_,_,ho,_⟩,_⟩ := I.loc
    exact free _ o (fun z => (hch _ z).2.1 rfl) ho I.free
  · obtain ⟨v,o,ho,hd⟩ := I.cell x c e
    exact free c o (fun z => (hch c z).2.2.1 x c e rfl) ho (I.freeC x c e)
  · obtain ⟨e,n,ne,nf,d⟩ := I.pin p hp
    have nch : p.1 ∉ ch := fun z => (hch p.1 z).2.2.2 p hp rfl
    exact ⟨keep p.1 p.2 ne nf nch e n,free p.1 p.2 nch e n,ne,nf,d⟩
theorem Inv.un {t' : Nat}(I : Inv X pins σ H s)(u : Un X.fs [] H H' s.heap h')(hok : HOk X.prog X.w H' h') : Inv X pins σ H' { s with heap := h',toks := t' } := by
  obtain ⟨m,⟨o,es,ep,ho,r⟩,_⟩ := id I.loc
  obtain ⟨sl,hL⟩ := u.any ho I.free (by simp)
  exact I.step (g' := s.gens) (d' := s.drawn) (ch := []) (fun _ z => nomatch z) (fun b o _ hb _ e n => u.keep b o e n hb (by simp)) (fun b o _ hb _ e n => u.slot b o e n hb (by simp)) (fun b o _ e n => u.free b o e n (by simp)) (fun b o _ e => u.there b o e (by simp)) u.tups u.frzs u.tbls (fun m' hm => by
    obtain ⟨o',es',ep',ho',r'⟩ := hm
    rw [ho] at ho'; cases ho'
    exact ⟨_,es',ep',hL,r'⟩) hok I.bare
theorem Inv.call {g' : Array GenState}{t' : Nat}{d' : Drawn}{ch : List Addr}(I : Inv X pins σ H s)(u : Un (frs X.stack) ch H H' s.heap h')(hok : HOk X.prog X.w H' h')(hg : AllBare g')
    (hch : ∀ b ∈ ch,(b ∈ X.ex \/ X.s₀.heap.objs.size <= b) /\ b ≠ X.env.locals /\ (∀ x c,X.env.cells.lookup x = some c -> c ≠ b) /\ ∀ p ∈ X.pn ++ pins,p.1 ≠ b) :
    Inv X pins σ H' { s with heap := h',gens := g',drawn := d',toks := t' } := by
  obtain ⟨m,⟨o,es,ep,ho,r⟩,_⟩ := id I.loc
  obtain ⟨sl,hL⟩ := u.any ho I.free fun z => (hch _ z).2.1 rfl
  exact I.step (ch := ch) hch (fun b o hL hb hc e n => u.keep b o e n (fun z => (List.mem_cons.mp (I.stkSub b z)).elim hL hb) hc) (fun b o _ _ hc e n => u.any e n hc) (fun b o hc e n => u.free b o e n hc) (fun b o hc e => u.there b o e hc) u.tups u.frzs u.tbls (fun m' hm => by
    obtain ⟨o',es',ep',ho',r'⟩ := hm
    rw [ho] at ho'; cases ho'
    exact ⟨_,es',ep',hL,r'⟩) hok hg
theorem Inv.turned {t' : Nat}{it : Addr}(I : Inv X pins σ H s)(k : ∀ b o,b ≠ it -> s.heap.get? b = some o -> h'.get? b = some o)(hn : H it = none)(hL : it ≠ X.env.locals)
    (h1 : it ∈ X.ex \/ X.s₀.heap.objs.size <= it) (h2 : ∀ x c,X.env.cells.lookup x = some c -> c ≠ it) (h3 : ∀ p ∈ X.pn ++ pins,p.1 ≠ it) : Inv X pins σ H { s with heap := h',toks := t' } := by
  have nit : ∀ b u,H b = some u -> b ≠ it := fun b u e z => by rw [z,hn] at e; cases e
  refine I.step (g' := s.gens) (d' := s.drawn) (ch := [it]) (fun b hb => ?_) (fun b o _ _ hc e _ => k b o (fun z => hc (by simp [z])) e) (fun b o _ _ hc e _ => ⟨o.slots,k b o (fun z => hc (by simp [z])) e⟩) (fun _ _ _ _ n => n)
    (fun b o hc e => ⟨o,k b o (fun z => hc (by simp [z])) e⟩) (fun _ _ e => e) (fun _ _ _ e => e) (fun b ps e => ⟨#[],by rw [e]; simp⟩) (fun m hm => ?_) (fun b u e => ?_) I.bare
  · have e : b = it := by simpa using hb
    subst e
    exact ⟨h1,hL,h2,h3⟩
  · obtain ⟨o,es,ep,ho,r⟩ := hm
    exact ⟨o,es,ep,k _ o (Ne.symm hL) ho,r⟩
  · refine (I.hok b u e).stay (fun c v hc q => k c v ?_ q) (fun _ q => q) fun _ _ q => q
    rcases hc with z | z
    · rw [z]; exact nit b u e
    · exact nit c _ z
theorem Inv.tok (I : Inv X pins σ H s)(t : Nat) : Inv X pins σ H { s with toks := t } := I.un (h' := s.heap) (t' := t) Un.refl I.hok
theorem Inv.kept {t' : Nat}(I : Inv X pins σ H s)(k : ∀ b u,s.heap.get? b = some u -> h'.get? b = some u) : Inv X pins σ H { s with heap := h',toks := t' } := I.un (Un.kept k) (I.hok.kept k)
theorem Inv.laid {a : Addr}{o : HO}{t' : Nat}(I : Inv X pins σ H s)(k : ∀ b u,s.heap.get? b = some u -> h'.get? b = some u)(hp : s.heap.objs.size <= a)(new : ObjOk X.prog X.w (upd H a o) h' a o) :
    Inv X pins σ (upd H a o) { s with heap := h',toks := t' } := I.un (Un.laid k hp (I.hok.fresh hp)) (I.hok.laid k hp new)
theorem Inv.write {x e : Addr}{o : HO}{t' : Nat}(I : Inv X pins σ H s)(mu : Mut (H x))(he : e = x \/ H e = some (.own x))(k : ∀ b u,b ≠ e -> s.heap.get? b = some u -> h'.get? b = some u)(heo : ∃ u,h'.get? e = some u)
    (new : ObjOk X.prog X.w (upd H x o) h' x o) : Inv X pins σ (upd H x o) { s with heap := h',toks := t' } := I.un (Un.write mu he k heo) (I.hok.write mu he k heo new)
theorem Inv.weak {σ' : List (Option V)}(I : Inv X pins σ H s)(hl : σ'.length = σ.length)(w : ∀ (i : Nat) v,σ'[i]? = some (some v) -> σ[i]? = some (some v)) : Inv X pins σ' H s :=
  ⟨I.ok,I.os,I.bare,I.base,let ⟨m,hn,hl'⟩ := I.loc; ⟨m,hn,fun i x v e1 e2 e3 => hl' i x v e1 (w i v e2) e3⟩,I.cell,I.free,I.freeC,I.pin,I.hok,hl.trans I.len⟩
theorem Inv.pins_of {pins' : List (Addr × Obj)}(I : Inv X pins σ H s)(h : ∀ p ∈ pins',s.heap.get? p.1 = some p.2 /\ H p.1 = none /\ p.1 ≠ X.env.locals /\ p.1 ∉ X.fs /\ ∀ v,p.2.data ≠ .cell v) : Inv X pins' σ H s :=
  ⟨I.ok,I.os,I.bare,I.base,I.loc,I.cell,I.free,I.freeC,fun p hp => (List.mem_append.mp hp).elim (fun z => I.pin p (List.mem_append_left _ z)) (h p),I.hok,I.len⟩
theorem nodup_ix {N : List Str}(hN : N.Nodup){i j : Nat}{x : Str}(a : N[i]? = some x)(b : N[j]? = some x) : i = j := by
  obtain ⟨h1,e1⟩ := List.getElem?_eq_some_iff.mp a
  obtain ⟨h2,e2⟩ := List.getElem?_eq_some_iff.mp b
  exact (List.getElem_inj hN).mp (e1.trans e2.symm)
theorem store_ok2 {M : Model}{A : Around}{E : Value -> Shared -> Prop}{i : Nat}{x : Str}{v : V}{u : Value}{Q : Unit -> Shared -> Prop}(I : Inv X pins σ H s)(hN : X.N.Nodup)(hi : X.N[i]? = some x)(hx : Loc X.env.scope x)(r : RelV v u)
    (h : ∀ s',Inv X pins (σ.set i (some v)) H s' -> (∃ a,Heap.SameBut a s.heap s'.heap /\ (a = X.env.locals \/ X.env.cells.lookup x = some a)) -> Q () s') (hf : X.fn x = true \/ X.env.scope.names.lookup x = some .local := by first | exact .inl rfl | exact .inr rfl | assumption) : wpAny M A (storeName X.env x u) Q E s := by
  obtain ⟨m,hn,hl⟩ := id I.loc
  have hcls : (X.env.scope.kind == .class || (X.env.scope.kind == .module && X.env.locals != X.env.globals)) = false := by rw [I.ok.kind]; rfl
  have hiσ : i < σ.length := by rw [I.len]; exact (List.getElem?_eq_some_iff.mp hi).1
  have cne := I.cne
  have tracked : ∀ {a : Addr} {h' : Heap},(∃ o,s.heap.get? a = some o /\ H a = none) -> Heap.SameBut a s.heap h' -> HOk X.prog X.w H h' := fun {a h'} ha hs b ob e => by
    obtain ⟨_,_,hfree⟩ := ha
    refine (I.hok b ob e).stay (fun c w' hc q => (hs.2 c ?_).trans q) (fun _ q => q) fun _ _ q => q
    rintro rfl
    rcases hc with rfl | hc
    · rw [hfree] at e; cases e
    · rw [hfree] at hc; cases hc
  rcases hx with hk | hk
  · refine wpAny_storeName_local hk hn (fun h' hn' hs => ?_) hcls
    obtain ⟨oL,_,_,hoL,_⟩ := id hn
    refine h _ ⟨I.ok,I.os,I.bare,⟨fun b o e n hb hx => ?_,fun b o e n hb hx => ?_,I.base.free,fun b o e hx => ?_,I.base.tups,I.base.frzs,I.base.tbls⟩,⟨_,hn',fun j y v' e1 e2 e3 => ?_⟩,fun y c e => ?_,I.free,I.freeC,fun p hp => ?_,tracked ⟨oL,hoL,I.free⟩ hs,by simpa using I.len⟩ ⟨_,hs,.inl rfl⟩
    · exact (hs.2 b (Nat.ne_of_lt (Nat.lt_of_lt_of_le (Heap.lt_size e) I.ok.above))).trans (I.base.keep b o e n hb hx)
    · obtain ⟨sl,e1⟩ := I.base.slot b o e n hb hx
      exact ⟨sl,(hs.2 b (Nat.ne_of_lt (Nat.lt_of_lt_of_le (Heap.lt_size e) I.ok.above))).trans e1⟩
    · obtain ⟨o',e1⟩ := I.base.there b o e hx
      exact ⟨o',(hs.2 b (Nat.ne_of_lt (Nat.lt_of_lt_of_le (Heap.lt_size e) I.ok.above))).trans e1⟩
    · by_cases hj : j = i
      · subst hj
        rw [hi] at e1; cases e1
        rw [List.getElem?_set_self hiσ] at e2
        cases e2
        exact ⟨u,r,.inl ⟨hk,by simp⟩⟩
      · rw [List.getElem?_set_ne (Ne.symm hj)] at e2
        obtain ⟨u',r',q⟩ := hl j y v' e1 e2 e3
        refine ⟨u',r',?_⟩
        rcases q with ⟨k,e⟩ | ⟨k,c,e,z⟩
        · refine .inl ⟨k,?_⟩
          have : y ≠ x := fun e => hj (nodup_ix hN e1 (e ▸ hi))
          simp [this,e]
        · exact .inr ⟨k,c,e,z.sameBut hs (cne y c e)⟩
    · obtain ⟨w',z⟩ := I.cell y c e
      exact ⟨w',z.sameBut hs (cne y c e)⟩
    · obtain ⟨e,n,ne,nf,d⟩ := I.pin p hp
      exact ⟨(hs.2 p.1 ne).trans e,n,ne,nf,d⟩
  · have hfn : X.fn x = true := by
      rcases hf with z | z
      · exact z
      · rw [z] at hk; cases hk
    obtain ⟨c,hc⟩ := I.ok.has x (.inl hk)
    obtain ⟨w',z⟩ := I.cell x c hc
    refine wpAny_storeName_cell I.ok.kind hk hc z (fun h' hc' hs => ?_)
    obtain ⟨oc,hoc,hocd⟩ := id z
    refine h { s with heap := h' } ⟨I.ok,I.os,I.bare,⟨fun b o e n hb hx => ?_,fun b o e n hb hx => ?_,I.base.free,fun b o e hx => ?_,I.base.tups,I.base.frzs,I.base.tbls⟩,⟨m,hn.sameBut hs (Ne.symm (cne x c hc)),fun j y v' e1 e2 e3 => ?_⟩,fun y c' e => ?_,I.free,I.freeC,fun p hp => ?_,tracked ⟨oc,hoc,I.freeC x c hc⟩ hs,by simpa using I.len⟩ ⟨c,hs,.inr hc⟩
    · exact (hs.2 b (Nat.ne_of_lt (Nat.lt_of_lt_of_le (Heap.lt_size e) (I.ok.cab x c hfn hc)))).trans (I.base.keep b o e n hb hx)
    · obtain ⟨sl,e1⟩ := I.base.slot b o e n hb hx
      exact ⟨sl,(hs.2 b (Nat.ne_of_lt (Nat.lt_of_lt_of_le (Heap.lt_size e) (I.ok.cab x c hfn hc)))).trans e1⟩
    · obtain ⟨o',e1⟩ := I.base.there b o e hx
      exact ⟨o',(hs.2 b (Nat.ne_of_lt (Nat.lt_of_lt_of_le (Heap.lt_size e) (I.ok.cab x c hfn hc)))).trans e1⟩
    · by_cases hj : j = i
      · subst hj
        rw [hi] at e1; cases e1
        rw [List.getElem?_set_self hiσ] at e2
        cases e2
        exact ⟨u,r,.inr ⟨.inl hk,c,hc,hc'⟩⟩
      · rw [List.getElem?_set_ne (Ne.symm hj)] at e2
        obtain ⟨u',r',q⟩ := hl j y v' e1 e2 e3
        refine ⟨u',r',?_⟩
        rcases q with q | ⟨k,c',e,z'⟩
        · exact .inl q
        · refine .inr ⟨k,c',e,z'.sameBut hs ?_⟩
          rintro rfl
          exact hj (nodup_ix hN e1 (I.ok.inj _ _ _ e hc ▸ hi))
    · by_cases hcc : c' = c
      · subst hcc; exact ⟨_,hc'⟩
      · obtain ⟨w2,z2⟩ := I.cell y c' e
        exact ⟨w2,z2.sameBut hs hcc⟩
    · obtain ⟨e,n,ne,nf,d⟩ := I.pin p hp
      refine ⟨(hs.2 p.1 ?_).trans e,n,ne,nf,d⟩
      intro q
      rw [q,hoc] at e
      have q' : oc = p.2 := Option.some.inj e
      exact d w' (by rw [<- q']; exact hocd)
theorem store_ok {M : Model}{A : Around}{E : Value -> Shared -> Prop}{i : Nat}{x : Str}{v : V}{u : Value}{Q : Unit -> Shared -> Prop}(I : Inv X pins σ H s)(hN : X.N.Nodup)(hi : X.N[i]? = some x)(hx : Loc X.env.scope x)(r : RelV v u)
    (h : ∀ s',Inv X pins (σ.set i (some v)) H s' -> Q () s') (hf : X.fn x = true \/ X.env.scope.names.lookup x = some .local := by first | exact .inl rfl | exact .inr rfl | assumption) : wpAny M A (storeName X.env x u) Q E s :=
  store_ok2 I hN hi hx r (fun s' I' _ => h s' I') hf
theorem Inv.call' {s' : Shared}{ch : List Addr}(I : Inv X pins σ H s)(ho : s'.os = s.os)(u : Un (frs X.stack) ch H H' s.heap s'.heap)(hok : HOk X.prog X.w H' s'.heap)(hg : AllBare s'.gens)
    (hch : ∀ b ∈ ch,(b ∈ X.ex \/ X.s₀.heap.objs.size <= b) /\ b ≠ X.env.locals /\ (∀ x c,X.env.cells.lookup x = some c -> c ≠ b) /\ ∀ p ∈ X.pn ++ pins,p.1 ≠ b) : Inv X pins σ H' s' := by
  obtain ⟨h',g',d',t',o'⟩ := s'
  have e : o' = s.os := ho
  subst e
  exact I.call (g' := g') (t' := t') (d' := d') u hok hg hch
end
abbrev XK := Value -> Option Addr -> Hp -> Prop
abbrev St := List (Option V)
abbrev VK := V -> Hp -> Prop
abbrev TE := St -> Hp -> VK -> Prop
abbrev TT := St -> Hp -> (Bool -> Hp -> Prop) -> Prop
abbrev TA := St -> Hp -> (List V -> Hp -> Prop) -> Prop
structure Ends where
  nx : St -> Hp -> Prop
  rt : VK
  bk : St -> Hp -> Prop := fun _ _ => False
  ct : St -> Hp -> Prop := fun _ _ => False
abbrev TS := Ends -> St -> Hp -> Prop
def EP (X : Cx)(pins : List (Addr × Obj))(σ : St)(Q : VK)(u : Value)(s' : Shared) : Prop := ∃ v H',Inv X pins σ H' s' /\ RelV v u /\ Q v H'
def TP (X : Cx)(pins : List (Addr × Obj))(σ : St)(Q : Bool -> Hp -> Prop)(b : Bool)(s' : Shared) : Prop := ∃ H',Inv X pins σ H' s' /\ Q b H'
def AP (X : Cx)(pins : List (Addr × Obj))(σ : St)(Q : List V -> Hp -> Prop)(us : List Value)(s' : Shared) : Prop := ∃ vs H',Inv X pins σ H' s' /\ Vals vs us /\ Q vs H'
def SP (X : Cx)(pins : List (Addr × Obj))(D : Ends)(f : Flow)(s' : Shared) : Prop :=
  match f with
  | .next => ∃ σ' H',Inv X pins σ' H' s' /\ D.nx σ' H'
  | .brk => ∃ σ' H',Inv X pins σ' H' s' /\ D.bk σ' H'
  | .cont => ∃ σ' H',Inv X pins σ' H' s' /\ D.ct σ' H'
  | .ret u => ∃ v σ' H',Inv X pins σ' H' s' /\ RelV v u /\ D.rt v H'
def PE (X : Cx)(e : Expr)(t : TE) : Prop :=
  ∀ (pins : List (Addr × Obj)) (s : Shared) (σ : St) (H : Hp) (Q : VK),Inv X pins σ H s -> t σ H Q -> wpAny (model X.prog X.w) X.A (eval e X.env) (EP X pins σ Q) X.xe s
def PT (X : Cx)(e : Expr)(t : TT) : Prop :=
  ∀ (pins : List (Addr × Obj)) (s : Shared) (σ : St) (H : Hp) (Q : Bool -> Hp -> Prop),Inv X pins σ H s -> t σ H Q -> wpAny (model X.prog X.w) X.A (isTrue e X.env (eval e X.env)) (TP X pins σ Q) X.xe s
def PW (X : Cx)(e : Expr)(t : TT) : Prop :=
  ∀ (whole : Sem Value) (pins : List (Addr × Obj)) (s : Shared) (σ : St) (H : Hp) (Q : Bool -> Hp -> Prop),Inv X pins σ H s -> t σ H Q -> wpAny (model X.prog X.w) X.A (isTrue e X.env whole) (TP X pins σ Q) X.xe s
theorem PW.pt {X : Cx}{e : Expr}{t : TT}(h : PW X e t) : PT X e t := h _
def PA (X : Cx)(es : List Expr)(t : TA) : Prop :=
  ∀ (pos : Pos) (pins : List (Addr × Obj)) (s : Shared) (σ : St) (H : Hp) (Q : List V -> Hp -> Prop),Inv X pins σ H s -> t σ H Q -> wpAny (model X.prog X.w) X.A (spliced (backTo pos (starEach es X.env))) (AP X pins σ Q) X.xe s
def PS (X : Cx)(st : Stmt)(t : TS) : Prop :=
  ∀ (pins : List (Addr × Obj)) (s : Shared) (σ : St) (H : Hp) (D : Ends),Inv X pins σ H s -> t D σ H -> wpAny (model X.prog X.w) X.A (exec st X.env) (SP X pins D) X.xe s
def PSs (X : Cx)(st : List Stmt)(t : TS) : Prop :=
  ∀ (pins : List (Addr × Obj)) (s : Shared) (σ : St) (H : Hp) (D : Ends),Inv X pins σ H s -> t D σ H -> wpAny (model X.prog X.w) X.A (execs st X.env) (SP X pins D) X.xe s
theorem thn {α : Type}{t : Sem α}{Q Q' : α -> Shared -> Prop}{M : Model}{A : Around}{E : Value -> Shared -> Prop}{s : Shared}(h : wpAny M A t Q E s)(hQ : ∀ a s,Q a s -> Q' a s) : wpAny M A t Q' E s := wpAny_mono h hQ fun _ _ x => x
end L2
namespace L2
open PySem PySem.Spec PyProof.Rows
section
variable {X : Cx}
def tVar (i : Nat) : TE := fun σ H Q => ∃ v,σ[i]? = some (some v) /\ Q v H
def tC (v : V) : TE := fun _ H Q => Q v H
theorem pe_var {i : Nat}{x : Str}{pos : Pos}(hN : X.N[i]? = some x)(hv : Vis X.env.scope x)(hd : (x == ("__debug__" : Str)) = false := by decide) (hcd : (x == ("__classdict__" : Str)) = false := by decide) : PE X (.Name x pos) (tVar i) := by
  intro pins s σ H Q I h
  obtain ⟨v,e,h⟩ := h
  obtain ⟨m,hn,hl⟩ := I.loc
  obtain ⟨u,r,l⟩ := hl i x v hN e hv
  have fin : EP X pins σ Q u s := ⟨v,H,I,r,h⟩
  rcases l with ⟨hk,hm⟩ | ⟨hk,c,hc,hcell⟩
  · exact wpAny_Name (wpAny_loadName_local I.ok.kind hk hn hm fin) hd
  · rcases hk with hk | hk
    · exact wpAny_Name (wpAny_loadName_cell I.ok.kind hk hc hcell fin) hd
    · exact wpAny_Name (wpAny_loadName_free I.ok.kind hk hc hcell fin hcd) hd
theorem pe_int {i j pos} : PE X (.Constant (.int i) j pos) (tC (.int i)) := fun _ _ _ H _ I h => wpAny_Constant_int ⟨.int i,H,I.tok _,⟨_,rfl⟩,h⟩
theorem pe_bl {b j pos} : PE X (.Constant (.bool b) j pos) (tC (.bl b)) := fun _ _ _ H _ I h => Constant_bool ⟨.bl b,H,I,rfl,h⟩
theorem pe_non {j pos} : PE X (.Constant .none j pos) (tC .non) := fun _ _ _ H _ I h => Constant_none ⟨.non,H,I,rfl,h⟩
def Gl (X : Cx)(x : Str) : Prop := X.env.kindOf x = some .globalImplicit
theorem ld_glob {E : Value -> Shared -> Prop}{pins : List (Addr × Obj)}{s : Shared}{σ : St}{H : Hp}{x : Str}{u : Value}{pos : Pos}{Q : Value -> Shared -> Prop}(I : Inv X pins σ H s)(hg : Gl X x)(hm : X.mg x = some u)(h : Q u s)
    (hd : (x == ("__debug__" : Str)) = false := by decide) : wpAny (model X.prog X.w) X.A (eval (.Name x pos) X.env) Q E s :=
  Calls.Name_function_global I.ok.kind hg (Calls.loadGlobal_global (by rw [I.ok.glob]; exact I.mod.glob.keeps I.bk) hm h) hd
theorem ld_blt {E : Value -> Shared -> Prop}{pins : List (Addr × Obj)}{s : Shared}{σ : St}{H : Hp}{x : Str}{u : Value}{pos : Pos}{Q : Value -> Shared -> Prop}(I : Inv X pins σ H s)(hg : Gl X x)(hm : X.mg x = none)(hv : bootBuiltins x = some u)(h : Q u s)
    (hn : x ≠ "__name__" := by decide) (hd : (x == ("__debug__" : Str)) = false := by decide) : wpAny (model X.prog X.w) X.A (eval (.Name x pos) X.env) Q E s := by
  obtain ⟨mb,h1,h2⟩ := I.mod.blt
  exact Calls.Name_function_global I.ok.kind hg (Calls.loadGlobal_builtin (by rw [I.ok.glob]; exact I.mod.glob.keeps I.bk) hm (by rw [I.ok.blt]; exact h1.keeps I.bk) ((h2 x hn).trans hv) h) hd
variable {a b : Expr}{ta tb : TE}{pos : Pos}
variable {tA tB' : TT}{rest : List Expr}
def tOr (t u : TT) : TT := fun σ H Q => t σ H fun c H1 => if c = true then Q true H1 else u σ H1 Q
theorem pw_or1 (ha : PT X a tA) : PW X (.BoolOp .Or [a] pos) tA := by
  intro wh pins s σ H Q I h
  refine isTrue_or (thn (ha pins s σ H Q I h) fun c s1 e => ?_)
  cases c with
  | false => exact isTrue_or_nil e
  | true => exact e
theorem pw_or (ha : PT X a tA)(hb : PW X (.BoolOp .Or (b :: rest) pos) tB') : PW X (.BoolOp .Or (a :: b :: rest) pos) (tOr tA tB') := by
  intro wh pins s σ H Q I h
  refine isTrue_or (thn (ha pins s σ H _ I h) fun c s1 ⟨H1,I1,q1⟩ => ?_)
  cases c with
  | true => exact ⟨H1,I1,q1⟩
  | false => exact hb wh pins s1 σ H1 Q I1 q1
def tAndV (ta tb : TE) : TE := fun σ H Q => ta σ H fun x H1 => ∃ c,x = .bl c /\ if c = true then tb σ H1 Q else Q (.bl false) H1
theorem pe_one {op}{t : TE}(h : PE X a t) : PE X (.BoolOp op [a] pos) t := fun pins s σ H Q I hw => BoolOp_one (h pins s σ H Q I hw)
theorem pe_and (ha : PE X a ta)(hb : PE X (.BoolOp .And (b :: rest) pos) tb) : PE X (.BoolOp .And (a :: b :: rest) pos) (tAndV ta tb) := by
  intro pins s σ H Q I h
  refine BoolOp_and (thn (ha pins s σ H _ I h) fun v s1 ⟨x,H1,I1,r1,q1⟩ => ?_)
  obtain ⟨c,rfl,q1⟩ := q1
  cases r1
  refine wpAny_truthy_bool ?_
  cases c with
  | true => exact hb pins s1 σ H1 Q I1 q1
  | false => exact ⟨.bl false,H1,I1,rfl,q1⟩
end
end L2
namespace L2
open PySem PySem.Spec PyProof.Rows
def SqL (K : PySem.W.Frag)(H : Hp)(a : Addr)(xs : List V) : Prop :=
  Rd H a (.lst xs) \/
    ∃ (o : Obj) (its : Array Value) (n : Nat),K.lookup a = some o /\ o.cls = .type "list" /\ o.dict = none /\ o.data = .seq its n /\ its.size <= sizeLine /\ Vals xs its.toList
def SqT (K : PySem.W.Frag)(H : Hp)(a : Addr)(xs : List V) : Prop :=
  Rd H a (.tup xs) \/
    ∃ (o : Obj) (its : Array Value) (n : Nat),K.lookup a = some o /\ o.cls = .type "tuple" /\ o.data = .seq its n /\ its.size <= sizeLine /\ Vals xs its.toList
def absV : Value -> Option V
  | .none => some .non
  | .bool b => some (.bl b)
  | .int i _ => some (.int i)
  | .str x _ => some (.str x)
  | .bytes b _ => some (.byt b)
  | .float b _ => some (.flt b)
  | .ref a => some (.ref a)
  | .type n => some (.ty n)
  | _ => none
theorem RelV.abs {x : V}{u : Value}(r : RelV x u) : absV u = some x := by
  cases x with
  | non => cases r; rfl
  | bl _ => cases r; rfl
  | int _ => obtain ⟨t,rfl⟩ := r; rfl
  | str _ => obtain ⟨t,rfl⟩ := r; rfl
  | byt _ => obtain ⟨t,rfl⟩ := r; rfl
  | flt _ => obtain ⟨t,rfl⟩ := r; rfl
  | ref _ => cases r; rfl
  | ty _ => cases r; rfl
theorem RelV.inj {x y : V}{u : Value}(r : RelV x u)(q : RelV y u) : x = y := Option.some.inj (r.abs.symm.trans q.abs)
theorem Vals.inj : ∀ {xs ys : List V} {us : List Value},Vals xs us -> Vals ys us -> xs = ys
  | _,_,_,.nil,.nil => rfl
  | _,_,_,.cons r t,.cons r' t' => by rw [r.inj r',Vals.inj t t']
section
variable {X : Cx}{pins : List (Addr × Obj)}{σ : St}{H : Hp}{s : Shared}{a : Addr}{xs ys : List V}
theorem SqL.of {K : PySem.W.Frag}(h : H a = some (.lst xs)) : SqL K H a xs := .inl (.inl h)
theorem SqT.of {K : PySem.W.Frag}(h : H a = some (.tup xs)) : SqT K H a xs := .inl (.inl h)
theorem Inv.list (I : Inv X pins σ H s)(h : SqL X.K H a xs) : ∃ its : List Value,Vals xs its /\ PlainL s.heap a its.toArray /\ xs.length <= sizeLine := by
  rcases h with h | ⟨o,its,n,hk,hc,hd,hs,hz,r⟩
  · obtain ⟨z,its,n,r,e⟩ := h.ok I.hok
    exact ⟨its,r,⟨_,n,e,rfl,rfl,rfl⟩,z⟩
  · refine ⟨its.toList,r,⟨o,n,I.kIn a o hk,hc,hd,by simpa using hs⟩,?_⟩
    have e := r.length
    simp only [Array.length_toList] at e
    omega
theorem Inv.tuple (I : Inv X pins σ H s)(h : SqT X.K H a xs) : ∃ its : List Value,Vals xs its /\ IsTup s.heap a its.toArray /\ xs.length <= sizeLine := by
  rcases h with h | ⟨o,its,n,hk,hc,hs,hz,r⟩
  · obtain ⟨z,its,r,p⟩ := h.ok I.hok
    exact ⟨its,r,p,z⟩
  · refine ⟨its.toList,r,⟨o,I.kIn a o hk,hc,n,by simpa using hs⟩,?_⟩
    have e := r.length
    simp only [Array.length_toList] at e
    omega
theorem Inv.list_inj (I : Inv X pins σ H s)(h : SqL X.K H a xs)(h' : SqL X.K H a ys) : xs = ys := by
  obtain ⟨its,r,⟨o,n,e,_,_,d⟩,_⟩ := I.list h
  obtain ⟨its',r',⟨o',n',e',_,_,d'⟩,_⟩ := I.list h'
  rw [e] at e'; cases e'
  rw [d] at d'
  injection d' with d1 _
  have : its = its' := by simpa using congrArg Array.toList d1
  subst this
  exact r.inj r'
theorem Inv.tuple_inj (I : Inv X pins σ H s)(h : SqT X.K H a xs)(h' : SqT X.K H a ys) : xs = ys := by
  obtain ⟨its,r,⟨o,e,_,n,d⟩,_⟩ := I.tuple h
  obtain ⟨its',r',⟨o',e',_,n',d'⟩,_⟩ := I.tuple h'
  rw [e] at e'; cases e'
  rw [d] at d'
  injection d' with d1 _
  have : its = its' := by simpa using congrArg Array.toList d1
  subst this
  exact r.inj r'
end
abbrev Cx.wish (X : Cx)(E : Value -> Shared -> Prop) : Cx := { X with xe := E }
abbrev Cx.nox (X : Cx) : Cx := X.wish fun _ _ => False
theorem Cx.Ok.wish {X : Cx}(ok : X.Ok)(E : Value -> Shared -> Prop) : (X.wish E).Ok :=
  ⟨ok.mod,ok.kind,ok.glob,ok.blt,ok.above,ok.inj,ok.has,ok.cab,ok.hd,ok.frames,ok.stk,ok.exf,ok.bs,ok.bsz,ok.noex,ok.exfs,ok.funs,ok.frf⟩
theorem Cx.Ok.unwish {X : Cx}{E : Value -> Shared -> Prop}(ok : (X.wish E).Ok) : X.Ok :=
  ⟨ok.mod,ok.kind,ok.glob,ok.blt,ok.above,ok.inj,ok.has,ok.cab,ok.hd,ok.frames,ok.stk,ok.exf,ok.bs,ok.bsz,ok.noex,ok.exfs,ok.funs,ok.frf⟩
section
variable {X : Cx}{pins : List (Addr × Obj)}{σ : St}{H : Hp}{s : Shared}{E : Value -> Shared -> Prop}
theorem Inv.wish (I : Inv X pins σ H s)(E : Value -> Shared -> Prop) : Inv (X.wish E) pins σ H s := ⟨I.ok.wish E,I.os,I.bare,I.base,I.loc,I.cell,I.free,I.freeC,I.pin,I.hok,I.len⟩
theorem Inv.unwish (I : Inv (X.wish E) pins σ H s) : Inv X pins σ H s := ⟨I.ok.unwish,I.os,I.bare,I.base,I.loc,I.cell,I.free,I.freeC,I.pin,I.hok,I.len⟩
theorem SP.unwish {D : Ends}{f : Flow}{s' : Shared}(h : SP (X.wish E) pins D f s') : SP X pins D f s' := by
  cases f with
  | next => obtain ⟨σ',H',I,q⟩ := h; exact ⟨σ',H',I.unwish,q⟩
  | brk => obtain ⟨σ',H',I,q⟩ := h; exact ⟨σ',H',I.unwish,q⟩
  | cont => obtain ⟨σ',H',I,q⟩ := h; exact ⟨σ',H',I.unwish,q⟩
  | ret u => obtain ⟨v,σ',H',I,r,q⟩ := h; exact ⟨v,σ',H',I.unwish,r,q⟩
theorem PSs.nox {st : List Stmt}{t : TS}(h : PSs X.nox st t) : PSs X st t := fun pins s σ H D I hw =>
  wpAny_mono (h pins s σ H D (I.wish _) hw) (fun _ _ q => q.unwish) fun _ _ z => False.elim z
end
section
variable {X : Cx}{st : Stmt}{rest : List Stmt}{t u : TS}{e : Expr}{te : TE}{pos : Pos}
def tNext : TS := fun D σ H => D.nx σ H
def tSeq (t u : TS) : TS := fun D σ H => t { D with nx := u D } σ H
theorem pss_nil : PSs X [] tNext := fun _ _ σ H _ I h => wpAny_execs_nil ⟨σ,H,I,h⟩
theorem pss_cons (h1 : PS X st t)(h2 : PSs X rest u) : PSs X (st :: rest) (tSeq t u) := by
  intro pins s σ H D I h
  refine wpAny_execs_cons (thn (h1 pins s σ H { D with nx := u D } I h) fun f s1 q => ?_)
  cases f with
  | next =>
    obtain ⟨σ',H',I',q⟩ := q
    exact h2 pins s1 σ' H' D I' q
  | ret v => exact q
  | brk => exact q
  | cont => exact q
theorem pss_one (h1 : PS X st t) : PSs X [st] t := by
  intro pins s σ H D I h
  refine wpAny_execs_cons (thn (h1 pins s σ H D I h) fun f s1 q => ?_)
  cases f with
  | next => exact wpAny_execs_nil q
  | ret v => exact q
  | brk => exact q
  | cont => exact q
theorem Inv.quiet {pins : List (Addr × Obj)}{σ : St}{H : Hp}{s : Shared}(I : Inv X pins σ H s) : interactive X.env = false := by simp [interactive,I.ok.kind]
def tDrop (te : TE) : TS := fun D σ H => te σ H fun _ H1 => D.nx σ H1
theorem ps_expr (he : PE X e te)(hs : swapsWith e none pos.line X.env = pure false := by rfl) : PS X (.Expr e pos) (tDrop te) := by
  intro pins s σ H D I h
  exact wpAny_Expr_any (thn (he pins s σ H _ I h) fun v s1 ⟨x,H1,I1,r1,q1⟩ => ⟨σ,H1,I1,q1⟩) I.quiet hs
def tRet (te : TE) : TS := fun D σ H => te σ H D.rt
theorem ps_ret (he : PE X e te) : PS X (.Return (some e) pos) (tRet te) := by
  intro pins s σ H D I h
  exact wpAny_Return_some (thn (he pins s σ H _ I h) fun v s1 ⟨x,H1,I1,r1,q1⟩ => ⟨x,σ,H1,I1,r1,q1⟩)
def tIfS (c : TT)(t u : TS) : TS := fun D σ H => c σ H fun b H1 => if b = true then t D σ H1 else u D σ H1
theorem ps_if {c : Expr}{a b : List Stmt}{tc : TT}(hc : PT X c tc)(ha : PSs X a t)(hb : PSs X b u) : PS X (.If c a b pos) (tIfS tc t u) := by
  intro pins s σ H D I h
  refine wpAny_If (thn (hc pins s σ H _ I h) fun d s1 ⟨H1,I1,q1⟩ => ?_)
  cases d with
  | true => exact ha pins s1 σ H1 D I1 q1
  | false => exact hb pins s1 σ H1 D I1 q1
end
abbrev TG := V -> St -> Hp -> (St -> Hp -> Prop) -> Prop
abbrev TGs := List V -> St -> Hp -> (St -> Hp -> Prop) -> Prop
def PG (X : Cx)(target : Expr)(t : TG) : Prop :=
  ∀ (pins : List (Addr × Obj)) (s : Shared) (σ : St) (H : Hp) (v : V) (u : Value) (Q : St -> Hp -> Prop),Inv X pins σ H s -> RelV v u -> t v σ H Q ->
    wpAny (model X.prog X.w) X.A (assign target X.env u) (fun _ s' => ∃ σ' H',Inv X pins σ' H' s' /\ Q σ' H') X.xe s
def PGs (X : Cx)(ts : List Expr)(t : TGs) : Prop :=
  ∀ (pins : List (Addr × Obj)) (s : Shared) (σ : St) (H : Hp) (vs : List V) (us : List Value) (Q : St -> Hp -> Prop),Inv X pins σ H s -> Vals vs us -> t vs σ H Q ->
    wpAny (model X.prog X.w) X.A (assignInOrder ((assignEach ts X.env).map (·.2)) us) (fun _ s' => ∃ σ' H',Inv X pins σ' H' s' /\ Q σ' H') X.xe s
abbrev TSet := V -> V -> V -> Hp -> (Hp -> Prop) -> Prop
def PSet (X : Cx)(t : TSet) : Prop :=
  ∀ (pins : List (Addr × Obj)) (s : Shared) (σ : St) (H : Hp) (o i v : V) (ov iv u : Value) (Q : Hp -> Prop),Inv X pins σ H s -> RelV o ov -> RelV i iv -> RelV v u -> t o i v H Q ->
    wpAny (model X.prog X.w) X.A (setItem ov iv u) (fun _ s' => ∃ H',Inv X pins σ H' s' /\ Q H') X.xe s
section
variable {X : Cx}{pos : Pos}
def gName (i : Nat) : TG := fun v σ H Q => Q (σ.set i (some v)) H
theorem pg_name {i : Nat} {x : Str} (hN : X.N.Nodup) (hi : X.N[i]? = some x) (hx : Loc X.env.scope x) (hf : X.fn x = true \/ X.env.scope.names.lookup x = some .local := by first | exact .inl rfl | exact .inr rfl | assumption) : PG X (.Name x pos) (gName i) := by
  intro pins s σ H v u Q I r h
  exact wpAny_assign_Name (store_ok I hN hi hx r (fun s' I' => ⟨_,H,I',h⟩) hf)
def gNil : TGs := fun vs σ H Q => vs = [] /\ Q σ H
def gCons (t : TG)(u : TGs) : TGs := fun vs σ H Q => ∃ v r,vs = v :: r /\ t v σ H fun σ' H' => u r σ' H' Q
theorem pgs_nil : PGs X [] gNil := by
  intro pins s σ H vs us Q I r h
  obtain ⟨e,h⟩ := h
  subst e
  cases r
  exact assignInOrder_nil ⟨σ,H,I,h⟩
theorem pgs_cons {e : Expr}{es : List Expr}{t : TG}{u : TGs}(h1 : PG X e t)(h2 : PGs X es u)
    (hs : (assignEach (e :: es) X.env).map (·.2) = assign e X.env :: (assignEach es X.env).map (·.2) := by rfl) : PGs X (e :: es) (gCons t u) := by
  intro pins s σ H vs us Q I r h
  obtain ⟨v,vr,e1,h⟩ := h
  subst e1
  cases r with
  | cons r rr =>
    rw [hs]
    refine assignInOrder_cons (thn (h1 pins s σ H _ _ _ I r h) fun _ s1 ⟨σ1,H1,I1,q1⟩ => ?_)
    exact h2 pins s1 σ1 H1 _ _ Q I1 rr q1
def gTup (K : PySem.W.Frag)(n : Nat)(t : TGs) : TG := fun v σ H Q => ∃ a xs,v = .ref a /\ SqT K H a xs /\ xs.length = n /\ t xs σ H Q
theorem pg_tup {es : List Expr}{k : Nat}{t : TGs}{n : Nat}(hc : X.calm = true)(h : PGs X es t)
    (hn : (assignEach es X.env).length = n := by rfl) (hst : (assignEach es X.env).findIdx? (·.1) = none := by rfl) : PG X (.Tuple es k pos) (gTup X.K n t) := by
  intro pins s σ H v u Q I r hw
  obtain ⟨a,xs,e1,hq,hl,hw⟩ := hw
  subst e1
  cases r
  obtain ⟨its,rv,ht,hz⟩ := I.tuple hq
  refine assign_Tuple_tuple (I.ok.hd hc) ht (by simp [hn,<- hl,rv.length]) hst fun h' hx => ?_
  have I1 : Inv X pins σ H { s with heap := h' } := I.kept (t' := s.toks) fun b o e => hx b o (Nat.ne_of_lt (Heap.lt_size e)) e
  exact h pins _ σ H xs _ Q I1 (by simpa using rv) hw
def gSub (to ti : TE)(t : TSet) : TG := fun v σ H Q => to σ H fun o H1 => ti σ H1 fun i H2 => t o i v H2 fun H3 => Q σ H3
theorem pg_sub {o i : Expr}{to ti : TE}{t : TSet}(ho : PE X o to)(hi : PE X i ti)(hs : PSet X t)
    (ha : ∀ v,assign (.Subscript o i pos) X.env v = (do
      let ov <- holding [v] (eval o X.env)
      let iv <- holding [v,ov] (eval i X.env)
      standAt pos
      holding [v,ov,iv] (setItem ov iv v)
      release [v,ov,iv] []) := by intro _; rfl) : PG X (.Subscript o i pos) (gSub to ti t) := by
  intro pins s σ H v u Q I r h
  rw [ha]
  refine wpAny_bind (wpAny_holding (thn (ho pins s σ H _ I h) fun ov s1 ⟨x,H1,I1,r1,q1⟩ => ?_))
  refine wpAny_bind (wpAny_holding (thn (hi pins s1 σ H1 _ I1 q1) fun iv s2 ⟨y,H2,I2,r2,q2⟩ => ?_))
  refine wpAny_bind (wpAny_standAt (wpAny_bind (wpAny_holding (thn (hs pins s2 σ H2 x y v ov iv u _ I2 r1 r2 r q2) fun _ s3 ⟨H3,I3,q3⟩ => ?_))))
  exact wpAny_release ⟨σ,H3,I3,q3⟩
def tAsg (te : TE)(g : TG) : TS := fun D σ H => te σ H fun x H1 => g x σ H1 D.nx
theorem ps_asg {tg e : Expr}{te : TE}{g : TG}(he : PE X e te)(hg : PG X tg g)(hs : swapsWithSole [tg] e pos.line X.env = pure false := by rfl)(hw : swappedStores [tg] e X.env = pure none := by rfl)
    (h1 : (assignEach [tg] X.env).map (·.2) = [assign tg X.env] := by rfl) : PS X (.Assign [tg] e pos) (tAsg te g) := by
  intro pins s σ H D I h
  refine wpAny_Assign_stores (thn (he pins s σ H _ I h) fun v s1 ⟨x,H1,I1,r1,q1⟩ => ?_) hs hw
  rw [h1]
  exact thn (hg pins s1 σ H1 x v _ I1 r1 q1) fun _ s2 q => q
theorem ps_set {i : Nat} {x : Str} {e : Expr} {te : TE} {pos' : Pos} (hN : X.N.Nodup) (hi : X.N[i]? = some x) (hx : Loc X.env.scope x) (he : PE X e te) (hs : swapsWith e (some (.Name x pos')) pos.line X.env = pure false := by rfl) (hf : X.fn x = true \/ X.env.scope.names.lookup x = some .local := by first | exact .inl rfl | exact .inr rfl | assumption) :
    PS X (.Assign [.Name x pos'] e pos) (tAsg te (gName i)) := by
  intro pins s σ H D I h
  refine wpAny_Assign_Name (thn (he pins s σ H _ I h) fun v s1 ⟨y,H1,I1,r1,q1⟩ => ?_) hs
  exact store_ok I1 hN hi hx r1 (fun s2 I2 => ⟨_,H1,I2,q1⟩) hf
def tPar (i j : Nat)(ta : TA) : TS := fun D σ H => ta σ H fun vs H1 => ∃ v w,vs = [v,w] /\ D.nx ((σ.set i (some v)).set j (some w)) H1
theorem ps_par {i j : Nat}{x y : Str}{a b : Expr}{ta : TA}{px py pt : Pos}{kt k2 pt2}(hc : X.calm = true)(hN : X.N.Nodup)(hi : X.N[i]? = some x)(hj : X.N[j]? = some y)(hij : i ≠ j)
    (hx : X.env.scope.names.lookup x = some .local) (hy : X.env.scope.names.lookup y = some .local) (ha : PA X [a,b] ta)
    (hw : swappedStores [.Tuple [.Name x px,.Name y py] kt pt] (.Tuple [a,b] k2 pt2) X.env = pure (some [x,y]))
    (hs : swapsWithSole [.Tuple [.Name x px,.Name y py] kt pt] (.Tuple [a,b] k2 pt2) pos.line X.env = pure false := by rfl) :
    PS X (.Assign [.Tuple [.Name x px,.Name y py] kt pt] (.Tuple [a,b] k2 pt2) pos) (tPar i j ta) := by
  intro pins s σ H D I h
  rw [exec_Assign_arm]
  refine wpAny_bind (wpAny_standAt ?_)
  rw [hs]
  refine wpAny_bind (wpAny_pure ?_)
  rw [if_neg (by decide)]
  refine wpAny_bind (Tuple_ (thn (ha _ pins s σ H _ I h) fun us s1 ⟨vs,H1,I1,r1,q1⟩ => ?_))
  obtain ⟨v,w,e1,q1⟩ := q1
  subst e1
  obtain ⟨u1,u2,rfl,rv,rw'⟩ : ∃ u1 u2,us = [u1,u2] /\ RelV v u1 /\ RelV w u2 := by
    cases r1 with
    | cons p q =>
      cases q with
      | cons p' q' =>
        cases q'
        exact ⟨_,_,rfl,p,p'⟩
  refine wpAny_newObj_type ?_ (by show 2 <= sizeLine; decide)
  have I2 : Inv X pins σ H1 { s1 with heap := s1.heap.push { cls := .type "tuple",data := .seq [u1,u2].toArray } } := I1.kept (t' := s1.toks) fun b o e => Heap.get?_push_of_some _ e
  rw [hw]
  refine wpAny_bind (wpAny_pure ?_)
  show wpAny (model X.prog X.w) X.A (do rule "assign.swapped-stores"; let items <- unpackItems (.ref s1.heap.objs.size) 2 none; assignInOrder [fun v => bindName X.env y v,fun v => bindName X.env x v] items.reverse; pure Flow.next) _ _ _
  refine wpAny_bind (wpAny_rule (wpAny_bind (unpackItems_tuple (items := #[u1,u2]) (I.ok.hd hc) (IsTup.new s1.heap _) fun h' hx' => ?_)))
  have I3 := I2.kept (h' := h') (t' := s1.toks) fun b o e => hx' b o (Nat.ne_of_lt (Heap.lt_size e)) e
  show wpAny _ _ (assignInOrder [fun v => bindName X.env y v,fun v => bindName X.env x v] [u2,u1] >>= fun _ => pure Flow.next) _ _ _
  refine wpAny_bind (assignInOrder_cons (wpAny_bindName (store_ok I3 hN hj (.inl hy) rw' (fun s2 I4 => ?_) (.inr hy))))
  refine assignInOrder_cons (wpAny_bindName (store_ok I4 hN hi (.inl hx) rv (fun s3 I5 => assignInOrder_nil (wpAny_pure ?_)) (.inr hx)))
  rw [List.set_comm _ _ (Ne.symm hij)] at I5
  exact ⟨_,H1,I5,q1⟩
end
section
variable {X : Cx}{pos : Pos}
def tWhile (c : TT)(tb : TS) : TS := fun D σ H => ∃ W : Nat -> St -> Hp -> Prop,(∃ m,W m σ H) /\ ∀ m σ H,W m σ H ->
  c σ H fun b H1 => if b = true then ∃ N : St -> Hp -> Prop,(∀ σ' H',N σ' H' -> ∃ m',m' < m /\ W m' σ' H') /\ tb { D with nx := N,ct := N,bk := D.nx } σ H1 else D.nx σ H1
theorem ps_while {c : Expr}{body : List Stmt}{tc : TT}{tb : TS}(hp : PassesOwn (model X.prog X.w) X.A X.env X.xe)(hc : PT X c tc)(hb : PSs X body tb) : PS X (.While c body [] pos) (tWhile tc tb) := by
  intro pins s σ H D I h
  obtain ⟨W,⟨m0,w0⟩,turn⟩ := h
  refine wpAny_While (codeAny_whileLoop (fun n s' => ∃ σ' H',Inv X pins σ' H' s' /\ W n σ' H') ?_ m0 ⟨σ,H,I,w0⟩)
  rintro n s1 ⟨σ1,H1,I1,w1⟩
  refine wpAny_passesOwn hp (thn (hc pins s1 σ1 H1 _ I1 (turn n σ1 H1 w1)) fun b s2 ⟨H2,I2,q2⟩ => ?_)
  cases b with
  | true =>
    obtain ⟨N,hN,q2⟩ := q2
    rw [if_pos rfl]
    refine wpAny_passesOwn hp (thn (hb pins s2 σ1 H2 _ I2 q2) fun f s3 q3 => ?_)
    cases f with
    | next =>
      obtain ⟨σ3,H3,I3,n3⟩ := q3
      obtain ⟨m',hm,w3⟩ := hN σ3 H3 n3
      exact ⟨m',hm,σ3,H3,I3,w3⟩
    | cont =>
      obtain ⟨σ3,H3,I3,n3⟩ := q3
      obtain ⟨m',hm,w3⟩ := hN σ3 H3 n3
      exact ⟨m',hm,σ3,H3,I3,w3⟩
    | brk => exact q3
    | ret v => exact q3
  | false =>
    rw [if_neg Bool.false_ne_true]
    exact wpAny_execs_nil ⟨σ1,H2,I2,q2⟩
end
structure It where
  go : Nat -> Hp -> Prop
  yld : Nat -> Hp -> V -> Hp -> Prop
  stop : Nat -> Hp -> Prop
def FpOk (X : Cx)(pins : List (Addr × Obj))(H : Hp)(b : Addr) : Prop :=
  H b = none /\ b ≠ X.env.locals /\ b ∉ X.fs /\ (b ∈ X.ex \/ X.s₀.heap.objs.size <= b) /\ (∀ x c,X.env.cells.lookup x = some c -> c ≠ b) /\ ∀ p ∈ X.pn ++ pins,p.1 ≠ b
theorem Inv.fpOk {X : Cx}{pins : List (Addr × Obj)}{σ : St}{H H' : Hp}{s : Shared}{b : Addr}(I : Inv X pins σ H s)(hb : s.heap.objs.size <= b)(hn : H' b = none) : FpOk X pins H' b := by
  refine ⟨hn,Nat.ne_of_gt (Nat.lt_of_lt_of_le I.lt hb),I.nofs hb,.inr (Nat.le_trans I.sz hb),fun x c e z => ?_,fun p hp z => ?_⟩
  · obtain ⟨v,q⟩ := I.cell x c e
    exact absurd (Nat.lt_of_lt_of_le q.lt (by rw [z]; exact hb)) (Nat.lt_irrefl _)
  · exact absurd (Nat.lt_of_lt_of_le (Heap.lt_size (I.pin p hp).1) (by rw [z]; exact hb)) (Nat.lt_irrefl _)
structure Turn (P : Program)(w : World)(K : PySem.W.Frag)(tg : Expr)(J : It)(fp : List Addr)(it : Addr)(tn : Nat -> Heap -> Prop) : Prop where
  mem : it ∈ fp
  obj : ∀ i h,tn i h -> ∀ b ∈ fp,∃ o,h.get? b = some o /\ ∀ v,o.data ≠ .cell v
  keep : ∀ i h h',tn i h -> (∀ b ∈ fp,∀ o,h.get? b = some o -> h'.get? b = some o) -> tn i h'
  item : ∀ (X : Cx),X.prog = P -> X.w = w -> X.K = K -> X.calm = true -> ∀ (i : Nat) (pins : List (Addr × Obj)) (s : Shared) (σ : St) (H : Hp) (E : Value -> Shared -> Prop),Inv X pins σ H s -> (∀ b ∈ fp,FpOk X pins H b) -> tn i s.heap -> J.go i H ->
    wpAny (model P w) X.A (pyNext (.ref it)) (fun r s1 => ∃ u,r = some u /\
      wpAny (model P w) X.A (letOwnedTupleGo tg (.ref it) u) (fun _ s2 => ∃ x H',Inv X pins σ H' s2 /\ RelV x u /\ J.yld i H x H' /\ tn (i + 1) s2.heap /\ ∀ b ∈ fp,H' b = none) E s1) E s
  done : ∀ (X : Cx),X.prog = P -> X.w = w -> X.K = K -> X.calm = true -> ∀ (i : Nat) (pins : List (Addr × Obj)) (s : Shared) (σ : St) (H : Hp) (E : Value -> Shared -> Prop),Inv X pins σ H s -> (∀ b ∈ fp,FpOk X pins H b) -> tn i s.heap -> J.stop i H ->
    wpAny (model P w) X.A (pyNext (.ref it)) (fun r s1 => r = none /\ Inv X pins σ H s1) E s
  self : ∀ (A : Around) (i : Nat) (s : Shared) (Q : Value -> Shared -> Prop) (E : Value -> Shared -> Prop),tn i s.heap -> Q (.ref it) s -> wpAny (model P w) A (pyIter (.ref it)) Q E s
abbrev TI := St -> Hp -> (It -> Hp -> Prop) -> Prop
def PIE (X : Cx)(pins : List (Addr × Obj))(σ : St)(tg : Expr)(R : It -> Hp -> Prop)(itv : Value)(s2 : Shared) : Prop :=
  ∃ (it : Addr) (fp : List Addr) (tn : Nat -> Heap -> Prop) (J : It) (H' : Hp),itv = .ref it /\ Inv X pins σ H' s2 /\ Turn X.prog X.w X.K tg J fp it tn /\ tn 0 s2.heap /\ (∀ b ∈ fp,FpOk X pins H' b) /\ R J H'
def PI (X : Cx)(tg iter : Expr)(wi : TI) : Prop :=
  ∀ (pins : List (Addr × Obj)) (s : Shared) (σ : St) (H : Hp) (R : It -> Hp -> Prop),Inv X pins σ H s -> wi σ H R ->
    wpAny (model X.prog X.w) X.A (eval iter X.env) (fun v s1 => wpAny (model X.prog X.w) X.A (pyIter v) (PIE X pins σ tg R) X.xe s1) X.xe s
theorem go_of {M : Model}{A : Around}{E : Value -> Shared -> Prop}{s : Shared}{tg : Expr}{it : Addr}{u : Value}{o : Obj}{n : String}{vs : Array Value}{Q : Unit -> Shared -> Prop}(ho : s.heap.get? it = some o)(hc : o.cls = .type n)(hd : o.data = .fields vs)
    (hn : ["enumerate","zip","dict_itemiterator","dict_reverseitemiterator","odict_iterator","itertools.zip_longest","itertools.pairwise"].contains n = false) (hQ : Q () s) : wpAny M A (letOwnedTupleGo tg (.ref it) u) Q E s := by
  unfold letOwnedTupleGo
  cases tg <;> first
    | exact wpAny_pure hQ
    | (cases u <;> first
        | exact wpAny_pure hQ
        | (refine wpAny_bind (wpAny_load ho ?_)
           rw [hc,hd]
           show wpAny M A (if (["enumerate","zip","dict_itemiterator","dict_reverseitemiterator","odict_iterator","itertools.zip_longest","itertools.pairwise"].contains n && vs[0]? == some (rawInt _)) = true then _ else _) Q E s
           rw [if_neg (by intro h; rw [hn,Bool.false_and] at h; cases h)]
           exact wpAny_pure hQ))
def Itl (K : PySem.W.Frag)(a : Addr) : It :=
  ⟨fun i H => ∃ xs x,SqL K H a xs /\ xs[i]? = some x,fun i H x H' => H' = H /\ ∀ xs,SqL K H a xs -> xs[i]? = some x,fun i H => ∃ xs,SqL K H a xs /\ xs.length <= i⟩
def Itt (K : PySem.W.Frag)(a : Addr) : It :=
  ⟨fun i H => ∃ xs x,SqT K H a xs /\ xs[i]? = some x,fun i H x H' => H' = H /\ ∀ xs,SqT K H a xs -> xs[i]? = some x,fun i H => ∃ xs,SqT K H a xs /\ xs.length <= i⟩
def Itr (lo : Int)(n : Nat) : It := ⟨fun i _ => i < n,fun i H x H' => H' = H /\ x = .int (lo + i),fun i _ => n <= i⟩
theorem turn_list {P : Program}{w : World}{K : PySem.W.Frag}{tg : Expr}(a it : Addr) : Turn P w K tg (Itl K a) [it] it (fun i h => h.IsListIter it a i) where
  mem := by simp
  obj := fun i h st b hb => by
    have e : b = it := by simpa using hb
    subst e
    obtain ⟨o,e,c,d⟩ := st
    exact ⟨o,e,fun v z => by rw [d] at z; cases z⟩
  keep := fun i h h' st k => st.at fun o e => k it (by simp) o e
  item := by
    intro X hP hw hK hc i pins s σ H E I hf st hg
    subst hP hw hK
    obtain ⟨xs,x,hq,hx⟩ := hg
    obtain ⟨its,rv,p,hz⟩ := I.list hq
    obtain ⟨u,hu,ru⟩ := rv.get hx
    obtain ⟨f0,f1,f2,f3,f4,f5⟩ := hf it (by simp)
    refine wpAny_pyNext_list_item st p.isList (x := u) (by simpa using hu) fun h' st' sb => ?_
    have I1 : Inv X pins σ H { s with heap := h' } := I.turned (t' := s.toks) (fun b o hb e => (sb.2 b hb).trans e) f0 f1 f3 f4 f5
    obtain ⟨o,e,c,d⟩ := id st'
    exact ⟨u,rfl,go_of (s := { s with heap := h' }) e c d (by decide) ⟨x,H,I1,ru,⟨rfl,fun ys hy => by rw [I.list_inj hy hq]; exact hx⟩,st',fun b hb => (hf b hb).1⟩⟩
  done := by
    intro X hP hw hK hc i pins s σ H E I hf st hg
    subst hP hw hK
    obtain ⟨xs,hq,hx⟩ := hg
    obtain ⟨its,rv,p,hz⟩ := I.list hq
    obtain ⟨f0,f1,f2,f3,f4,f5⟩ := hf it (by simp)
    have hl := rv.length
    exact wpAny_pyNext_list_end (I.ok.hd hc) st p.isList (by simp; omega) fun h' eb => ⟨rfl,I.turned (t' := s.toks) (fun b o hb e => eb b o hb e) f0 f1 f3 f4 f5⟩
  self := fun _ _ _ _ _ st h => wpAny_pyIter_listiter st h
theorem turn_tuple {P : Program}{w : World}{K : PySem.W.Frag}{tg : Expr}(a it : Addr) : Turn P w K tg (Itt K a) [it] it (fun i h => h.IsTupleIter it a i) where
  mem := by simp
  obj := fun i h st b hb => by
    have e : b = it := by simpa using hb
    subst e
    obtain ⟨o,e,c,d⟩ := st
    exact ⟨o,e,fun v z => by rw [d] at z; cases z⟩
  keep := fun i h h' st k => st.at fun o e => k it (by simp) o e
  item := by
    intro X hP hw hK hc i pins s σ H E I hf st hg
    subst hP hw hK
    obtain ⟨xs,x,hq,hx⟩ := hg
    obtain ⟨its,rv,p,hz⟩ := I.tuple hq
    obtain ⟨u,hu,ru⟩ := rv.get hx
    obtain ⟨f0,f1,f2,f3,f4,f5⟩ := hf it (by simp)
    refine wpAny_pyNext_tuple_item st (show s.heap.IsTuple a its.toArray from p) (x := u) (by simpa using hu) fun h' st' sb => ?_
    have I1 : Inv X pins σ H { s with heap := h' } := I.turned (t' := s.toks) (fun b o hb e => (sb.2 b hb).trans e) f0 f1 f3 f4 f5
    obtain ⟨o,e,c,d⟩ := id st'
    exact ⟨u,rfl,go_of (s := { s with heap := h' }) e c d (by decide) ⟨x,H,I1,ru,⟨rfl,fun ys hy => by rw [I.tuple_inj hy hq]; exact hx⟩,st',fun b hb => (hf b hb).1⟩⟩
  done := by
    intro X hP hw hK hc i pins s σ H E I hf st hg
    subst hP hw hK
    obtain ⟨xs,hq,hx⟩ := hg
    obtain ⟨its,rv,p,hz⟩ := I.tuple hq
    obtain ⟨f0,f1,f2,f3,f4,f5⟩ := hf it (by simp)
    have hl := rv.length
    exact wpAny_pyNext_tuple_end (I.ok.hd hc) st (show s.heap.IsTuple a its.toArray from p) (by simp; omega) fun h' eb => ⟨rfl,I.turned (t' := s.toks) (fun b o hb e => eb b o hb e) f0 f1 f3 f4 f5⟩
  self := fun _ _ _ _ _ st h => wpAny_pyIter_tupleiter st h
theorem turn_range {P : Program}{w : World}{K : PySem.W.Frag}{tg : Expr}(it : Addr)(lo : Int)(n : Nat) : Turn P w K tg (Itr lo n) [it] it (fun i h => IsRangeIter h it (lo + (i : Nat) * 1) ((n : Int) - (i : Nat)) 1) where
  mem := by simp
  obj := fun i h st b hb => by
    have e : b = it := by simpa using hb
    subst e
    exact ⟨_,st,fun v z => by
      have z' : Data.fields _ = Data.cell v := z
      cases z'⟩
  keep := fun i h h' st k => k it (by simp) _ st
  item := by
    intro X hP hw hK hc i pins s σ H E I hf st hg
    subst hP hw hK
    obtain ⟨f0,f1,f2,f3,f4,f5⟩ := hf it (by simp)
    have W := Walks.range (prog := X.prog) (w := X.w) (I.ok.hd hc) it lo 1 n
    refine W.item i s _ _ hg st fun v h' tk hv st' kk => ?_
    obtain ⟨t,rfl⟩ := hv
    have I1 : Inv X pins σ H { s with heap := h',toks := tk } := I.turned (fun b o hb e => kk b o (by simpa using hb) e) f0 f1 f3 f4 f5
    refine ⟨_,rfl,go_of (s := { s with heap := h',toks := tk }) (n := "range_iterator") st' rfl rfl (by decide) ⟨.int (lo + i),H,I1,⟨t,?_⟩,⟨rfl,rfl⟩,st',fun b hb => (hf b hb).1⟩⟩
    rw [Int.mul_one]
  done := by
    intro X hP hw hK hc i pins s σ H E I hf st hg
    subst hP hw hK
    obtain ⟨f0,f1,f2,f3,f4,f5⟩ := hf it (by simp)
    exact wpAny_pyNext_range_end (I.ok.hd hc) st (by have : n <= i := hg; omega) fun h' eb => ⟨rfl,I.turned (t' := s.toks) (fun b o hb e => eb b o hb e) f0 f1 f3 f4 f5⟩
  self := fun _ _ _ _ _ st h => wpAny_pyIter_rangeiter st h
end L2
namespace L2
open PySem PySem.Spec PyProof.Rows
section
variable {X : Cx}{tg : Expr}
theorem range_it {pins : List (Addr × Obj)}{σ : St}{H : Hp}{s : Shared}{R : It -> Hp -> Prop}{E : Value -> Shared -> Prop}{lo hi : Int}{t u v : Tok}{tk : Nat}(I : Inv X pins σ H s)(h1 : -(2 ^ 62) <= lo)(h2 : lo < 2 ^ 62)(h3 : -(2 ^ 62) <= hi)(h4 : hi < 2 ^ 62)
    (q : R (Itr lo (hi - lo).toNat) H) : wpAny (model X.prog X.w) X.A (pyIter (.ref s.heap.objs.size)) (PIE X pins σ tg R) E { s with heap := s.heap.push { cls := .type "range",data := .fields #[.int lo t,.int hi u,.int 1 v] },toks := tk } := by
  refine wpAny_pyIter_range (IsRange.new ..) (small_one h1 h2 h3 h4) ?_
  have I1 : Inv X pins σ H { s with heap := s.heap.push { cls := .type "range",data := .fields #[.int lo t,.int hi u,.int 1 v] },toks := tk } := I.kept fun b o e => Heap.get?_push_of_some _ e
  refine ⟨(s.heap.push { cls := .type "range",data := .fields #[.int lo t,.int hi u,.int 1 v] }).objs.size,[(s.heap.push { cls := .type "range",data := .fields #[.int lo t,.int hi u,.int 1 v] }).objs.size],_,_,H,rfl,
    I1.kept (t' := tk) fun b o e => Heap.get?_push_of_some _ e,turn_range _ lo (hi - lo).toNat,?_,fun b hb => ?_,q⟩
  · have e1 : lo + ((0 : Nat) : Int) * 1 = lo := by simp
    have e2 : (((hi - lo).toNat : Nat) : Int) - ((0 : Nat) : Int) = Builtin.Range.rangeSize lo hi 1 := by rw [rangeSize_one]; split <;> omega
    show IsRangeIter _ _ (lo + ((0 : Nat) : Int) * 1) ((((hi - lo).toNat : Nat) : Int) - ((0 : Nat) : Int)) 1
    rw [e1,e2]
    exact Heap.get?_push_size _ rfl
  · have e : b = (s.heap.push { cls := .type "range",data := .fields #[.int lo t,.int hi u,.int 1 v] }).objs.size := by simpa using hb
    subst e
    exact I1.fpOk (Nat.le_refl _) (I1.hok.fresh (Nat.le_refl _))
def iRng1 (ta : TA) : TI := fun σ H R => ta σ H fun vs H1 => ∃ j : Int,vs = [.int j] /\ -(2 ^ 62) <= j /\ j < 2 ^ 62 /\ R (Itr 0 j.toNat) H1
theorem pi_range1 {a : Expr}{ta : TA}{p pos : Pos}(hg : Gl X "range") (hm : X.mg "range" = none) (ha : PA X [a] ta) (hs : starEach [a] X.env = [(false,eval a X.env)] := by rfl) : PI X tg (.Call (.Name "range" p) [a] [] pos) (iRng1 ta) := by
  intro pins s σ H R I h
  refine Call_ (ld_blt I hg hm boot_range (PyProof.Rows.callWith_type1 (thn (ha pos pins s σ H _ I h) fun us s1 ⟨vs,H1,I1,r1,q1⟩ => ?_) hs rfl))
  obtain ⟨j,e,q1,q2,q⟩ := q1
  subst e
  cases r1 with
  | cons r rr =>
    cases rr
    obtain ⟨t,rfl⟩ := r
    exact call_range_1 (range_it I1 (by omega) (by omega) q1 q2 (by simpa using q))
def tFor (wi : TI)(g : TG)(tb : TS) : TS := fun D σ H => wi σ H fun J H1 => ∃ W : Nat -> Nat -> St -> Hp -> Prop,(∃ m,W 0 m σ H1) /\ ∀ i m σ H,W i m σ H ->
  (J.stop i H /\ D.nx σ H) \/ (J.go i H /\ ∃ N : St -> Hp -> Prop,(∀ σ' H',N σ' H' -> ∃ m',m' < m /\ W (i + 1) m' σ' H') /\ ∀ x H',J.yld i H x H' -> g x σ H' fun σ2 H2 => tb { D with nx := N,ct := N,bk := D.nx } σ2 H2)
def pinsAt (fp : List Addr)(h : Heap) : List (Addr × Obj) := fp.filterMap fun b => (h.get? b).map fun o => (b,o)
theorem mem_pinsAt {fp : List Addr}{h : Heap}{b : Addr}{o : Obj}(hb : b ∈ fp)(e : h.get? b = some o) : (b,o) ∈ pinsAt fp h := List.mem_filterMap.mpr ⟨b,hb,by rw [e]; rfl⟩
theorem of_pinsAt {fp : List Addr}{h : Heap}{p : Addr × Obj}(hp : p ∈ pinsAt fp h) : p.1 ∈ fp /\ h.get? p.1 = some p.2 := by
  obtain ⟨b,hb,e⟩ := List.mem_filterMap.mp hp
  cases q : h.get? b with
  | none => rw [q] at e; cases e
  | some o =>
    rw [q] at e
    have e' : (b,o) = p := Option.some.inj e
    subst e'
    exact ⟨hb,q⟩
theorem Inv.pinned {pins : List (Addr × Obj)}{σ : St}{H : Hp}{s : Shared}{fp : List Addr}(I : Inv X pins σ H s)(hf : ∀ b ∈ fp,FpOk X pins H b)(ho : ∀ b ∈ fp,∃ o,s.heap.get? b = some o /\ ∀ v,o.data ≠ .cell v) : Inv X (pins ++ pinsAt fp s.heap) σ H s :=
  I.pins_of fun p hp => (List.mem_append.mp hp).elim (fun z => I.pin p (List.mem_append_right _ z)) fun z => by
    obtain ⟨hb,e⟩ := of_pinsAt z
    obtain ⟨f0,f1,f2,_⟩ := hf p.1 hb
    obtain ⟨o,e',d⟩ := ho p.1 hb
    rw [e] at e'; cases e'
    exact ⟨e,f0,f1,f2,d⟩
theorem Inv.unpinned {pins pl : List (Addr × Obj)}{σ : St}{H : Hp}{s : Shared}(I : Inv X (pins ++ pl) σ H s) : Inv X pins σ H s := I.pins_of fun p hp => I.pin p (List.mem_append_right _ (List.mem_append_left _ hp))
theorem ps_for {iter : Expr}{body : List Stmt}{wi : TI}{g : TG}{tb : TS}{pos : Pos}(hp : PassesOwn (model X.prog X.w) X.A X.env X.xe)(hc : X.calm = true)(hi : PI X tg iter wi)(hg : PG X tg g)(hb : PSs X body tb)
    (hs : ∀ x,foldedSetIterable iter X.env x = pure x := by intro _; rfl) : PS X (.For tg iter body [] pos) (tFor wi g tb) := by
  intro pins s σ H D I h
  refine wpAny_For (thn (hi pins s σ H _ I h) fun v s1 h1 => thn h1 fun itv s2 h2 => ?_) hs
  obtain ⟨it,fp,tn,J,H2,e,I2,T,st2,f2,W,⟨m0,w0⟩,turn⟩ := h2
  subst e
  have stat : ∀ {H' : Hp},(∀ b ∈ fp,H' b = none) -> ∀ b ∈ fp,FpOk X pins H' b := fun hn b hb => ⟨hn b hb,(f2 b hb).2⟩
  refine codeAny_forLoop_any (fun n s' => ∃ i σ' H',Inv X pins σ' H' s' /\ tn i s'.heap /\ (∀ b ∈ fp,H' b = none) /\ W i n σ' H') ?_ m0 ⟨0,σ,H2,I2,st2,fun b hb => (f2 b hb).1,w0⟩
  rintro n s3 ⟨i,σ3,H3,I3,st3,fr3,w3⟩
  rcases turn i n σ3 H3 w3 with ⟨stop,qn⟩ | ⟨go,N,hN,step⟩
  · refine wpAny_passesOwn hp (thn (T.done X rfl rfl rfl hc i pins s3 σ3 H3 X.xe I3 (stat fr3) st3 stop) fun r s4 ⟨hr,I4⟩ => ?_)
    subst hr
    exact wpAny_execs_nil ⟨σ3,H3,I4,qn⟩
  · refine wpAny_passesOwn hp (thn (T.item X rfl rfl rfl hc i pins s3 σ3 H3 X.xe I3 (stat fr3) st3 go) fun r s4 ⟨u,hr,h4⟩ => ?_)
    subst hr
    refine wpAny_passesOwn hp (thn h4 fun _ s5 ⟨x,H5,I5,r5,y5,st5,fr5⟩ => ?_)
    have I5' := I5.pinned (stat fr5) (T.obj _ _ st5)
    refine wpAny_passesOwn hp (thn (hg _ s5 σ3 H5 x u _ I5' r5 (step x H5 y5)) fun _ s6 ⟨σ6,H6,I6,q6⟩ => ?_)
    refine wpAny_passesOwn hp (thn (hb _ s6 σ6 H6 _ I6 q6) fun f s7 q7 => ?_)
    have again : ∀ {σ7 : St} {H7 : Hp},Inv X (pins ++ pinsAt fp s5.heap) σ7 H7 s7 -> N σ7 H7 -> ∃ m,m < n /\ ∃ i σ' H',Inv X pins σ' H' s7 /\ tn i s7.heap /\ (∀ b ∈ fp,H' b = none) /\ W i m σ' H' := fun {σ7 H7} I7 n7 => by
      obtain ⟨m',hm,w7⟩ := hN σ7 H7 n7
      refine ⟨m',hm,i + 1,σ7,H7,I7.unpinned,T.keep _ _ _ st5 fun b hb o e => (I7.pin (b,o) (List.mem_append_right _ (List.mem_append_right _ (mem_pinsAt hb e)))).1,fun b hb => ?_,w7⟩
      obtain ⟨o,e,d⟩ := T.obj _ _ st5 b hb
      exact (I7.pin (b,o) (List.mem_append_right _ (List.mem_append_right _ (mem_pinsAt hb e)))).2.1
    cases f with
    | next => obtain ⟨σ7,H7,I7,n7⟩ := q7; exact again I7 n7
    | cont => obtain ⟨σ7,H7,I7,n7⟩ := q7; exact again I7 n7
    | brk => obtain ⟨σ7,H7,I7,q7⟩ := q7; exact ⟨σ7,H7,I7.unpinned,q7⟩
    | ret v => obtain ⟨x7,σ7,H7,I7,r7,q7⟩ := q7; exact ⟨x7,σ7,H7,I7.unpinned,r7,q7⟩
end
theorem for_range {lo : Int}{n : Nat}{g : TG}{tb : TS}{D : Ends}{σ : St}{H : Hp}(Pv : Nat -> St -> Hp -> Prop)(h0 : Pv 0 σ H)
    (hs : ∀ i σ H,i < n -> Pv i σ H -> g (.int (lo + i)) σ H fun σ2 H2 => tb { D with nx := Pv (i + 1),ct := Pv (i + 1),bk := D.nx } σ2 H2) (hd : ∀ σ H,Pv n σ H -> D.nx σ H) :
    ∃ W : Nat -> Nat -> St -> Hp -> Prop,(∃ m,W 0 m σ H) /\ ∀ i m σ H,W i m σ H ->
      ((Itr lo n).stop i H /\ D.nx σ H) \/ ((Itr lo n).go i H /\ ∃ N : St -> Hp -> Prop,(∀ σ' H',N σ' H' -> ∃ m',m' < m /\ W (i + 1) m' σ' H') /\ ∀ x H',(Itr lo n).yld i H x H' -> g x σ H' fun σ2 H2 => tb { D with nx := N,ct := N,bk := D.nx } σ2 H2) := by
  refine ⟨fun i m σ H => m = n - i /\ i <= n /\ Pv i σ H,⟨n,by simp,Nat.zero_le _,h0⟩,?_⟩
  rintro i m σ H ⟨rfl,hi,p⟩
  by_cases hlt : i < n
  · refine .inr ⟨hlt,Pv (i + 1),fun σ' H' p' => ⟨n - (i + 1),by omega,rfl,hlt,p'⟩,fun x H' y => ?_⟩
    obtain ⟨e,y⟩ := y
    subst e y
    exact hs i σ _ hlt p
  · have e : i = n := by omega
    subst e
    exact .inl ⟨Nat.le_refl _,hd σ H p⟩
theorem while_by {c : TT}{tb : TS}{D : Ends}{σ : St}{H : Hp}(Pv : St -> Hp -> Prop)(μ : St -> Hp -> Nat)(h0 : Pv σ H)
    (hs : ∀ σ H,Pv σ H -> c σ H fun b H1 => if b = true then tb { D with nx := fun σ' H' => Pv σ' H' /\ μ σ' H' < μ σ H,ct := fun σ' H' => Pv σ' H' /\ μ σ' H' < μ σ H,bk := D.nx } σ H1 else D.nx σ H1)
    (mono : ∀ σ H Q Q',(∀ b H1,Q b H1 -> Q' b H1) -> c σ H Q -> c σ H Q') : tWhile c tb D σ H := by
  refine ⟨fun m σ H => m = μ σ H /\ Pv σ H,⟨_,rfl,h0⟩,?_⟩
  rintro m σ H ⟨rfl,p⟩
  refine mono σ H _ _ (fun b H1 q => ?_) (hs σ H p)
  cases b with
  | true => exact ⟨_,fun σ' H' ⟨p',l⟩ => ⟨_,l,rfl,p'⟩,q⟩
  | false => exact q
end L2
namespace L2
open PySem PySem.Spec PyProof.Rows
abbrev R2 := V -> V -> Hp -> VK -> Prop
def OpR (X : Cx)(f : Value -> Value -> Sem Value)(r : R2) : Prop :=
  ∀ (pins : List (Addr × Obj)) (s : Shared) (σ : St) (H : Hp) (x y : V) (v u : Value) (Q : VK),Inv X pins σ H s -> RelV x v -> RelV y u -> r x y H Q ->
    wpAny (model X.prog X.w) X.A (f v u) (EP X pins σ Q) X.xe s
def UnR (X : Cx)(f : Value -> Sem Value)(r : V -> Hp -> VK -> Prop) : Prop :=
  ∀ (pins : List (Addr × Obj)) (s : Shared) (σ : St) (H : Hp) (x : V) (v : Value) (Q : VK),Inv X pins σ H s -> RelV x v -> r x H Q ->
    wpAny (model X.prog X.w) X.A (f v) (EP X pins σ Q) X.xe s
def CallR (X : Cx)(f : Value)(r : List V -> Hp -> VK -> Prop) : Prop :=
  ∀ (pins : List (Addr × Obj)) (s : Shared) (σ : St) (H : Hp) (xs : List V) (us : List Value) (Q : VK),Inv X pins σ H s -> Vals xs us -> r xs H Q ->
    wpAny (model X.prog X.w) X.A (call f us) (EP X pins σ Q) X.xe s
def TruR (X : Cx)(r : V -> Hp -> (Bool -> Hp -> Prop) -> Prop) : Prop :=
  ∀ (pins : List (Addr × Obj)) (s : Shared) (σ : St) (H : Hp) (x : V) (v : Value) (Q : Bool -> Hp -> Prop),Inv X pins σ H s -> RelV x v -> r x H Q ->
    wpAny (model X.prog X.w) X.A (truthy v) (TP X pins σ Q) X.xe s
def tOp (r : R2)(ta tb : TE) : TE := fun σ H Q => ta σ H fun x H1 => tb σ H1 fun y H2 => r x y H2 Q
def tUn (r : V -> Hp -> VK -> Prop)(ta : TE) : TE := fun σ H Q => ta σ H fun x H1 => r x H1 Q
def rI (C : Int -> Int -> Prop)(g : Int -> Int -> V) : R2 := fun x y H Q => ∃ i j,x = .int i /\ y = .int j /\ C i j /\ Q (g i j) H
def rI0 (g : Int -> Int -> V) : R2 := fun x y H Q => ∃ i j,x = .int i /\ y = .int j /\ Q (g i j) H
def rU (g : Int -> V) : V -> Hp -> VK -> Prop := fun x H Q => ∃ i,x = .int i /\ Q (g i) H
section
variable {X : Cx}{a b c : Expr}{ta tb tc : TE}{pos : Pos}
theorem binT (ha : PE X a ta)(hb : PE X b tb){pins : List (Addr × Obj)}{s : Shared}{σ : St}{H : Hp}{R : V -> V -> Hp -> Prop}(I : Inv X pins σ H s)
    (h : ta σ H fun x H1 => tb σ H1 fun y H2 => R x y H2) {Q : Value -> Shared -> Prop} {f : Value -> Value -> Sem Value}
    (hf : ∀ v u s2 x y H2,Inv X pins σ H2 s2 -> RelV x v -> RelV y u -> R x y H2 -> wpAny (model X.prog X.w) X.A (f v u) Q X.xe s2) :
    wpAny (model X.prog X.w) X.A (eval a X.env) (fun v s₁ => wpAny (model X.prog X.w) X.A (eval b X.env) (fun u s₂ => wpAny (model X.prog X.w) X.A (f v u) Q X.xe s₂) X.xe s₁) X.xe s := by
  refine thn (ha pins s σ H _ I h) fun v s1 ⟨x,H1,I1,r1,q1⟩ => ?_
  refine thn (hb pins s1 σ H1 _ I1 q1) fun u s2 ⟨y,H2,I2,r2,q2⟩ => ?_
  exact hf v u s2 x y H2 I2 r1 r2 q2
theorem pe_op {op : Operator}{r : R2}(ho : OpR X (binaryOp op) r)(ha : PE X a ta)(hb : PE X b tb) : PE X (.BinOp a op b pos) (tOp r ta tb) := by
  intro pins s σ H Q I h
  exact wpAny_BinOp (binT ha hb I h fun v u s2 x y H2 I2 rx ry q => ho pins s2 σ H2 x y v u Q I2 rx ry q)
theorem pe_un {op : UnaryOp}{r : V -> Hp -> VK -> Prop}(ho : UnR X (unaryOp op) r)(ha : PE X a ta) : PE X (.UnaryOp op a pos) (tUn r ta) := by
  intro pins s σ H Q I h
  exact UnaryOp_ (thn (ha pins s σ H _ I h) fun v s1 ⟨x,H1,I1,r1,q1⟩ => ho pins s1 σ H1 x v Q I1 r1 q1)
theorem opI {f : Value -> Value -> Sem Value}{C : Int -> Int -> Prop}{g : Int -> Int -> Int}
    (rule : ∀ (i j : Int) (t u : Tok) (s : Shared) (Q : Value -> Shared -> Prop) (E : Value -> Shared -> Prop),C i j -> Q (.int (g i j) s.toks) { s with toks := s.toks + 1 } -> wpAny (model X.prog X.w) X.A (f (.int i t) (.int j u)) Q E s) :
    OpR X f (rI C fun i j => .int (g i j)) := by
  intro pins s σ H x y v u Q I rx ry h
  obtain ⟨i,j,rfl,rfl,hc,q⟩ := h
  obtain ⟨t,rfl⟩ := rx
  obtain ⟨t',rfl⟩ := ry
  exact rule i j t t' s _ _ hc ⟨.int (g i j),H,I.tok _,⟨_,rfl⟩,q⟩
theorem opI0 {f : Value -> Value -> Sem Value}{g : Int -> Int -> Int}
    (rule : ∀ (i j : Int) (t u : Tok) (s : Shared) (Q : Value -> Shared -> Prop) (E : Value -> Shared -> Prop),Q (.int (g i j) s.toks) { s with toks := s.toks + 1 } -> wpAny (model X.prog X.w) X.A (f (.int i t) (.int j u)) Q E s) :
    OpR X f (rI0 fun i j => .int (g i j)) := by
  intro pins s σ H x y v u Q I rx ry h
  obtain ⟨i,j,rfl,rfl,q⟩ := h
  obtain ⟨t,rfl⟩ := rx
  obtain ⟨t',rfl⟩ := ry
  exact rule i j t t' s _ _ ⟨.int (g i j),H,I.tok _,⟨_,rfl⟩,q⟩
theorem opB0 {f : Value -> Value -> Sem Value}{g : Int -> Int -> Bool}
    (rule : ∀ (i j : Int) (t u : Tok) (s : Shared) (Q : Value -> Shared -> Prop) (E : Value -> Shared -> Prop),Q (.bool (g i j)) s -> wpAny (model X.prog X.w) X.A (f (.int i t) (.int j u)) Q E s) :
    OpR X f (rI0 fun i j => .bl (g i j)) := by
  intro pins s σ H x y v u Q I rx ry h
  obtain ⟨i,j,rfl,rfl,q⟩ := h
  obtain ⟨t,rfl⟩ := rx
  obtain ⟨t',rfl⟩ := ry
  exact rule i j t t' s _ _ ⟨.bl (g i j),H,I,rfl,q⟩
def CPow (i j : Int) : Prop := 0 <= j /\ j <= 1000000 /\ i.natAbs < 2 ^ 64
def CMul (i j : Int) : Prop := (-(2 ^ 64) < i /\ i < 2 ^ 64) \/ (-(2 ^ 64) < j /\ j < 2 ^ 64)
theorem CMul.ok {i j : Int}(h : CMul i j) : IntMulOk i j := by
  rcases h with ⟨h1,h2⟩ | ⟨h1,h2⟩
  · exact .of_left (intBits_le_64 h1 h2)
  · exact .of_right (intBits_le_64 h1 h2)
theorem op_add : OpR X (binaryOp .Add) (rI0 fun i j => .int (i + j)) := opI0 fun _ _ _ _ _ _ _ q => add_int q
theorem op_sub : OpR X (binaryOp .Sub) (rI0 fun i j => .int (i - j)) := opI0 fun _ _ _ _ _ _ _ q => sub_int q
theorem op_mod : OpR X (binaryOp .Mod) (rI (fun _ j => 0 < j) fun i j => .int (i % j)) := opI fun i j _ _ _ _ _ hc q => by
  have h1 : (0 : Int) < j := hc
  exact mod_int' (by omega) (by rw [Int.fmod_eq_emod_of_nonneg i (by omega)]; exact q)
theorem op_pow : OpR X (binaryOp .Pow) (rI CPow fun i j => .int (i ^ j.toNat)) := opI fun _ _ _ _ _ _ _ hc q => pow_int_small hc.1 hc.2.1 hc.2.2 q
theorem unI {f : Value -> Sem Value}{g : Int -> Int}
    (rule : ∀ (i : Int) (t : Tok) (s : Shared) (Q : Value -> Shared -> Prop) (E : Value -> Shared -> Prop),Q (.int (g i) s.toks) { s with toks := s.toks + 1 } -> wpAny (model X.prog X.w) X.A (f (.int i t)) Q E s) :
    UnR X f (rU fun i => .int (g i)) := by
  intro pins s σ H x v Q I rx h
  obtain ⟨i,rfl,q⟩ := h
  obtain ⟨t,rfl⟩ := rx
  exact rule i t s _ _ ⟨.int (g i),H,I.tok _,⟨_,rfl⟩,q⟩
theorem un_neg : UnR X (unaryOp .USub) (rU fun i => .int (-i)) := unI fun _ _ _ _ _ q => neg_int q
end
def scal : V -> V -> Bool
  | .non,.non => true | .non,.int _ => true | .int _,.non => true | .non,.bl _ => true | .bl _,.non => true | .non,.str _ => true | .str _,.non => true
  | .int _,.int _ => true | .bl _,.bl _ => true | .str _,.str _ => true | .byt _,.byt _ => true
  | .int _,.str _ => true | .str _,.int _ => true | .bl _,.str _ => true | .str _,.bl _ => true
  | _,_ => false
def rEq : R2 := fun x y H Q => scal x y = true /\ Q (.bl (decide (x = y))) H
def rNe : R2 := fun x y H Q => scal x y = true /\ Q (.bl (!decide (x = y))) H
theorem dec_int {i j : Int} : decide (V.int i = V.int j) = (i == j) := by
  rw [Bool.eq_iff_iff]
  simp
theorem dec_bl {i j : Bool} : decide (V.bl i = V.bl j) = (i == j) := by
  rw [Bool.eq_iff_iff]
  simp
theorem dec_str {i j : Str} : decide (V.str i = V.str j) = (i == j) := by
  rw [Bool.eq_iff_iff]
  simp
theorem dec_byt {i j : Array UInt8} : decide (V.byt i = V.byt j) = (i.toList == j.toList) := by
  rw [Bool.eq_iff_iff]
  cases i
  cases j
  simp
section
variable {X : Cx}{a b c : Expr}{ta tb tc : TE}{pos : Pos}
theorem fin_bl {pins : List (Addr × Obj)}{σ : St}{H : Hp}{s : Shared}{Q : VK}{k k' : Bool}(I : Inv X pins σ H s)(q : Q (.bl k) H)(e : k = k') : EP X pins σ Q (.bool k') s := by
  subst e
  exact ⟨.bl k,H,I,rfl,q⟩
theorem op_eq : OpR X (compareOp .Eq) rEq := by
  intro pins s σ H x y v u Q I rx ry h
  obtain ⟨hs,q⟩ := h
  cases x with
  | non =>
    cases rx
    cases y with
    | non => cases ry; exact PySem.EqNone.eq_none_none (fin_bl I q (by simp))
    | bl j => cases ry; exact PySem.EqNone.eq_none_bool (fin_bl I q (by simp))
    | int j => obtain ⟨t',rfl⟩ := ry; exact PySem.EqNone.eq_none_int (fin_bl I q (by simp))
    | str j => obtain ⟨t',rfl⟩ := ry; exact PySem.EqNone.eq_none_str (fin_bl I q (by simp))
    | _ => exact absurd (show false = true from hs) Bool.false_ne_true
  | bl i =>
    cases rx
    cases y with
    | non => cases ry; exact PySem.EqNone.eq_bool_none (fin_bl I q (by simp))
    | bl j => cases ry; exact eq_bool (fin_bl I q dec_bl)
    | str j => obtain ⟨t',rfl⟩ := ry; exact PySem.EqMixed.eq_bool_str (fin_bl I q (by simp))
    | _ => exact absurd (show false = true from hs) Bool.false_ne_true
  | int i =>
    obtain ⟨t,rfl⟩ := rx
    cases y with
    | non => cases ry; exact PySem.EqNone.eq_int_none (fin_bl I q (by simp))
    | int j => obtain ⟨t',rfl⟩ := ry; exact eq_int (fin_bl I q dec_int)
    | str j => obtain ⟨t',rfl⟩ := ry; exact PySem.EqMixed.eq_int_str (fin_bl I q (by simp))
    | _ => exact absurd (show false = true from hs) Bool.false_ne_true
  | str i =>
    obtain ⟨t,rfl⟩ := rx
    cases y with
    | non => cases ry; exact PySem.EqNone.eq_str_none (fin_bl I q (by simp))
    | bl j => cases ry; exact PySem.EqMixed.eq_str_bool (fin_bl I q (by simp))
    | int j => obtain ⟨t',rfl⟩ := ry; exact PySem.EqMixed.eq_str_int (fin_bl I q (by simp))
    | str j => obtain ⟨t',rfl⟩ := ry; exact eq_str (fin_bl I q dec_str)
    | _ => exact absurd (show false = true from hs) Bool.false_ne_true
  | byt i =>
    obtain ⟨t,rfl⟩ := rx
    cases y with
    | byt j => obtain ⟨t',rfl⟩ := ry; exact PySem.W.eq_bytes (fin_bl I q dec_byt)
    | _ => exact absurd (show false = true from hs) Bool.false_ne_true
  | _ => cases y <;> exact absurd (show false = true from hs) Bool.false_ne_true
theorem op_ne : OpR X (compareOp .NotEq) rNe := by
  intro pins s σ H x y v u Q I rx ry h
  obtain ⟨hs,q⟩ := h
  cases x with
  | non =>
    cases rx
    cases y with
    | non => cases ry; exact PySem.EqNone.ne_none_none (fin_bl I q (by simp))
    | bl j => cases ry; exact PySem.EqNone.ne_none_bool (fin_bl I q (by simp))
    | int j => obtain ⟨t',rfl⟩ := ry; exact PySem.EqNone.ne_none_int (fin_bl I q (by simp))
    | str j => obtain ⟨t',rfl⟩ := ry; exact PySem.EqNone.ne_none_str (fin_bl I q (by simp))
    | _ => exact absurd (show false = true from hs) Bool.false_ne_true
  | bl i =>
    cases rx
    cases y with
    | non => cases ry; exact PySem.EqNone.ne_bool_none (fin_bl I q (by simp))
    | bl j => cases ry; exact ne_bool (fin_bl I q (congrArg not dec_bl))
    | str j => obtain ⟨t',rfl⟩ := ry; exact PySem.EqMixed.ne_bool_str (fin_bl I q (by simp))
    | _ => exact absurd (show false = true from hs) Bool.false_ne_true
  | int i =>
    obtain ⟨t,rfl⟩ := rx
    cases y with
    | non => cases ry; exact PySem.EqNone.ne_int_none (fin_bl I q (by simp))
    | int j => obtain ⟨t',rfl⟩ := ry; exact ne_int (fin_bl I q (congrArg not dec_int))
    | str j => obtain ⟨t',rfl⟩ := ry; exact PySem.EqMixed.ne_int_str (fin_bl I q (by simp))
    | _ => exact absurd (show false = true from hs) Bool.false_ne_true
  | str i =>
    obtain ⟨t,rfl⟩ := rx
    cases y with
    | non => cases ry; exact PySem.EqNone.ne_str_none (fin_bl I q (by simp))
    | bl j => cases ry; exact PySem.EqMixed.ne_str_bool (fin_bl I q (by simp))
    | int j => obtain ⟨t',rfl⟩ := ry; exact PySem.EqMixed.ne_str_int (fin_bl I q (by simp))
    | str j => obtain ⟨t',rfl⟩ := ry; exact ne_str (fin_bl I q (congrArg not dec_str))
    | _ => exact absurd (show false = true from hs) Bool.false_ne_true
  | byt i =>
    obtain ⟨t,rfl⟩ := rx
    cases y with
    | byt j => obtain ⟨t',rfl⟩ := ry; exact PySem.W.ne_bytes (fin_bl I q (congrArg not dec_byt))
    | _ => exact absurd (show false = true from hs) Bool.false_ne_true
  | _ => cases y <;> exact absurd (show false = true from hs) Bool.false_ne_true
theorem op_lt : OpR X (compareOp .Lt) (rI0 fun i j => .bl (decide (i < j))) := opB0 fun _ _ _ _ _ _ _ q => lt_int q
theorem op_gt : OpR X (compareOp .Gt) (rI0 fun i j => .bl (decide (j < i))) := opB0 fun _ _ _ _ _ _ _ q => gt_int q
theorem op_isN : OpR X (compareOp .Is) (fun x y H Q => y = .non /\ Q (.bl (decide (x = .non))) H) := by
  intro pins s σ H x y v u Q I rx ry h
  obtain ⟨rfl,q⟩ := h
  cases ry
  refine is_none_gen (fin_bl I q ?_)
  cases x <;> first
    | (cases rx; rfl)
    | (obtain ⟨t,rfl⟩ := rx; rfl)
theorem op_notN : OpR X (compareOp .IsNot) (fun x y H Q => y = .non /\ Q (.bl (!decide (x = .non))) H) := by
  intro pins s σ H x y v u Q I rx ry h
  obtain ⟨rfl,q⟩ := h
  cases ry
  refine isnot_none_gen (fin_bl I q ?_)
  cases x <;> first
    | (cases rx; rfl)
    | (obtain ⟨t,rfl⟩ := rx; rfl)
theorem nomark (b : Expr){op : CmpOp}(h : op ≠ .In := by decide)(h2 : op ≠ .NotIn := by decide) : behindInMarks op b = false := by
  have e1 : (op == CmpOp.In) = false := by cases op <;> first | rfl | exact absurd rfl h
  have e2 : (op == CmpOp.NotIn) = false := by cases op <;> first | rfl | exact absurd rfl h2
  cases b <;> simp [behindInMarks,e1,e2]
theorem pe_cmpR {op : CmpOp}{r : R2}(ho : OpR X (compareOp op) r)(ha : PE X a ta)(hb : PE X b tb)(hm : behindInMarks op b = false) : PE X (.Compare a [op] [b] pos) (tOp r ta tb) := by
  intro pins s σ H Q I h
  exact wpAny_Compare1 (binT ha hb I h fun v u s2 x y H2 I2 rx ry q => ho pins s2 σ H2 x y v u Q I2 rx ry q) hm
def tTest (t : TE) : TT := fun σ H Q => t σ H fun x H' => ∃ k,x = .bl k /\ Q k H'
theorem pt_cmpR {op : CmpOp}{r : R2}(ho : OpR X (compareOp op) r)(ha : PE X a ta)(hb : PE X b tb)(hm : behindInMarks op b = false) : PT X (.Compare a [op] [b] pos) (tTest (tOp r ta tb)) := by
  intro pins s σ H Q I h
  refine wpAny_isTrue_Compare1 (thn (ha pins s σ H _ I h) fun v s1 ⟨x,H1,I1,r1,q1⟩ => thn (hb pins s1 σ H1 _ I1 q1) fun u s2 ⟨y,H2,I2,r2,q2⟩ =>
    thn (ho pins s2 σ H2 x y v u _ I2 r1 r2 q2) fun c s3 ⟨z,H3,I3,r3,k,e,q3⟩ => ?_) hm
  subst e
  cases r3
  exact wpAny_truthy_bool ⟨H3,I3,q3⟩
def TruV (K : PySem.W.Frag)(x : V)(H : Hp)(k : Bool) : Prop :=
  match x with
  | .non => k = false
  | .bl b => k = b
  | .int i => k = (i != 0)
  | .str y => y.length <= sizeLine /\ k = ((y.length : Int) != 0)
  | .byt y => y.size <= sizeLine /\ k = ((y.size : Int) != 0)
  | .ref p => (∃ xs,SqL K H p xs /\ k = !xs.isEmpty) \/ (∃ xs,SqT K H p xs /\ k = !xs.isEmpty) \/ ∃ kvs,H p = some (.dK kvs) /\ k = !kvs.isEmpty
  | _ => False
theorem isEmpty_kv {κ : Type}{kvs : List (κ × V)}{vs : List (κ × Value)}(r : KV kvs vs) : (!vs.isEmpty) = !kvs.isEmpty := by
  cases r <;> rfl
theorem isEmpty_of {xs : List V}{its : List Value}(r : Vals xs its) : (!its.toArray.isEmpty) = !xs.isEmpty := by
  cases r <;> simp
theorem line63 : (sizeLine : Nat) < 2 ^ 63 := by rw [sizeLine_eq]; decide
theorem tru_ok : TruR X (fun x H Q => ∃ k,TruV X.K x H k /\ Q k H) := by
  intro pins s σ H x v Q I rx h
  obtain ⟨k,e,q⟩ := h
  have hl := line63
  have hs : sizeLine = 16777216 := sizeLine_eq
  cases x with
  | non =>
    cases rx
    have e' : k = false := e
    subst e'
    exact truthy_none ⟨H,I,q⟩
  | bl b =>
    cases rx
    have e' : k = b := e
    subst e'
    exact wpAny_truthy_bool ⟨H,I,q⟩
  | int i =>
    obtain ⟨t,rfl⟩ := rx
    have e' : k = (i != 0) := e
    subst e'
    exact PySem.P.truthy_int ⟨H,I,q⟩
  | str y =>
    obtain ⟨t,rfl⟩ := rx
    obtain ⟨hy,e'⟩ : y.length <= sizeLine /\ k = ((y.length : Int) != 0) := e
    subst e'
    exact PySem.P.truthy_str (by omega) ⟨H,I.tok _,q⟩
  | byt y =>
    obtain ⟨t,rfl⟩ := rx
    obtain ⟨hy,e'⟩ : y.size <= sizeLine /\ k = ((y.size : Int) != 0) := e
    subst e'
    exact PySem.W.truthy_bytes (by omega) ⟨H,I.tok _,q⟩
  | ref p =>
    cases rx
    have e' : (∃ xs,SqL X.K H p xs /\ k = !xs.isEmpty) \/ (∃ xs,SqT X.K H p xs /\ k = !xs.isEmpty) \/ ∃ kvs,H p = some (.dK kvs) /\ k = !kvs.isEmpty := e
    rcases e' with ⟨xs,hx,e'⟩ | ⟨xs,hx,e'⟩ | ⟨kvs,hx,e'⟩
    · subst e'
      obtain ⟨its,r,pl,hz⟩ := I.list hx
      have hlen := r.length
      exact wpAny_truthy_list pl.isList (by simp only [List.size_toArray]; omega) ⟨H,I.tok _,by rw [isEmpty_of r]; exact q⟩
    · subst e'
      obtain ⟨its,r,pl,hz⟩ := I.tuple hx
      have hlen := r.length
      exact truthy_tuple pl (by simp only [List.size_toArray]; omega) ⟨H,I.tok _,by rw [isEmpty_of r]; exact q⟩
    · subst e'
      obtain ⟨hz,hS,vs,r,m⟩ : kvs.length <= sizeLine /\ (p == sysModules) = false /\ ∃ vs,KV kvs vs /\ s.heap.DictOf (mixKind X.prog X.w) p vs := I.hok p _ hx
      have hlen : kvs.length = vs.length := Paired.length r
      exact wpAny_truthy_dict hS m (by omega) ⟨H,I.tok _,by rw [isEmpty_kv r]; exact q⟩
  | _ => exact (show False from e).elim
theorem pt_truth (ha : PE X a ta)(he : ∀ whole,isTrue a X.env whole = (do let v <- whole; standAt a.pos; holding [v] (truthy v))) :
    PT X a (fun σ H Q => ta σ H fun x H' => ∃ k,TruV X.K x H' k /\ Q k H') := by
  intro pins s σ H Q I h
  exact isTrue_plain (thn (ha pins s σ H _ I h) fun v s1 ⟨x,H1,I1,r1,q1⟩ => tru_ok pins s1 σ H1 x v Q I1 r1 q1) (he _)
theorem vals1 {x : V}{us : List Value}(r : Vals [x] us) : ∃ u,us = [u] /\ RelV x u := by
  cases r with
  | cons r1 r2 => cases r2; exact ⟨_,rfl,r1⟩
theorem vals2 {x y : V}{us : List Value}(r : Vals [x,y] us) : ∃ u w',us = [u,w'] /\ RelV x u /\ RelV y w' := by
  cases r with
  | cons r1 r2 =>
    cases r2 with
    | cons r3 r4 => cases r4; exact ⟨_,_,rfl,r1,r3⟩
theorem call_abs : CallR X (.builtin "abs") (fun xs H Q => ∃ i,xs = [.int i] /\ Q (.int (if i < 0 then -i else i)) H) := by
  intro pins s σ H xs us Q I r h
  obtain ⟨i,rfl,q⟩ := h
  obtain ⟨u,rfl,t,rfl⟩ := vals1 r
  exact call_abs_int fun u tk => ⟨.int (if i < 0 then -i else i),H,I.tok _,⟨_,rfl⟩,q⟩
end
end L2
namespace L2
open PySem PySem.Spec PyProof.Rows
section
variable {prog : Program}{w : World}{A : Around}{E : Value -> Shared -> Prop}{s : Shared}{K : PySem.W.Frag}{x dx C f : Addr}{mA : Str -> Option Value}{name : Str}{v : Value}
end
section
variable {P : Program}{w : World}{H H' : Hp}{h h' : Heap}{a C dx : Addr}{fs fs' : List (Str × V)}
end
structure Cls (K : PySem.W.Frag)(C : Addr) : Prop where
  pg : PySem.W.plainGet K C Str.empty = true
  hd : PySem.W.hasDictIn K C = true
  po : PySem.W.plainOver K C = true
  sa : PySem.W.findIn K (.ref C) "__setattr__" = some (some (.builtin "object.__setattr__"))
theorem Cls.get {K : PySem.W.Frag}{C : Addr}(c : Cls K C)(f : Str) : PySem.W.plainGet K C f = true := c.pg
def NoAttr (K : PySem.W.Frag)(C : Addr)(f : Str) : Prop := PySem.W.findIn K (.ref C) f = some none
section
variable {X : Cx}{pins : List (Addr × Obj)}{σ : St}{H : Hp}{s : Shared}{a C dx : Addr}{fs : List (Str × V)}{f : Str}{v : V}{A : Around}{E : Value -> Shared -> Prop}
end
def tFld (K : PySem.W.Frag)(ta : TE)(f : Str) : TE := fun σ H Q => ta σ H fun x H1 => ∃ a C dx fs v,x = .ref a /\ H1 a = some (.ins C dx fs) /\ Cls K C /\ NoAttr K C f /\ fs.lookup f = some v /\ Q v H1
section
variable {X : Cx}{o e value : Expr}{f : Str}{pos pos' tpos : Pos}{ta tv : TE}
end
section
variable {X : Cx}{pins : List (Addr × Obj)}{σ : St}{H : Hp}{s : Shared}{A : Around}{E : Value -> Shared -> Prop}{Q : Value -> Shared -> Prop}{c : Value}{b : Bool}
inductive TyOf (K : PySem.W.Frag)(H : Hp) : V -> Value -> Prop where
  | non : TyOf K H .non (.type "NoneType")
  | bl (x : Bool) : TyOf K H (.bl x) (.type "bool")
  | int (i : Int) : TyOf K H (.int i) (.type "int")
  | str (x : Str) : TyOf K H (.str x) (.type "str")
  | flt (x : UInt64) : TyOf K H (.flt x) (.type "float")
  | lst {a : Addr} {xs : List V} (e : H a = some (.lst xs)) : TyOf K H (.ref a) (.type "list")
  | frz {a : Addr} {o : Obj} {xs : List V} (e : H a = some (.frz o (.lst xs))) : TyOf K H (.ref a) (.type "list")
  | tup {a : Addr} {xs : List V} (e : H a = some (.tup xs)) : TyOf K H (.ref a) (.type "tuple")
  | dK {a : Addr} {kvs : List (Key × V)} (e : H a = some (.dK kvs)) : TyOf K H (.ref a) (.type "dict")
  | dT {a : Addr} {kvs : List (List Key × V)} (e : H a = some (.dT kvs)) : TyOf K H (.ref a) (.type "dict")
  | ins {a C dx : Addr} {fs : List (Str × V)} (e : H a = some (.ins C dx fs)) (cl : Cls K C) (ha : PySem.W.findIn K (.ref C) "__class__" = some (some (.builtin "object.__class__")))
      (hn : PySem.W.specialIn K (.builtin "object.__class__") "__get__" = some (some (.builtin "getset_descriptor.__get__"))) (htk : PySem.W.takesIn K (.builtin "object.__class__") = some true)
      (hm : PySem.W.mroIn K C (.type "object") = some true) : TyOf K H (.ref a) (.ref C)
end
end L2
namespace L2
open PySem PySem.Spec PyProof.Rows
structure Room (k : Nat)(A : Around) : Prop where
  hd : A.handled = none
  dp : A.depth + 3 * k + 5 < recursionLimit
  un : A.units + 16 * k + 200 < cLine
theorem Room.mono {j k : Nat}{A : Around}(r : Room k A)(h : j <= k) : Room j A := ⟨r.hd,by have := r.dp; omega,by have := r.un; omega⟩
theorem Room.deeper {k : Nat}{A : Around}(r : Room (k + 1) A)(env : Env) : Room k (A.deeper env) :=
  ⟨r.hd,by have := r.dp; show A.depth + 1 + 3 * k + 5 < _; omega,by have := r.un; show A.units + 3 + 16 * k + 200 < _; omega⟩
theorem Room.depth {k : Nat}{A : Around}(r : Room k A) : A.depth < recursionLimit := by have := r.dp; omega
theorem Room.units {k : Nat}{A : Around}(r : Room k A) : A.units + 64 < cLine := by have := r.un; omega
def tNil : TA := fun _ H Q => Q [] H
def tCons (ta : TE)(tr : TA) : TA := fun σ H Q => ta σ H fun x H1 => tr σ H1 fun xs H2 => Q (x :: xs) H2
section
variable {X : Cx}{e : Expr}{es : List Expr}{te : TE}{t : TA}{pos : Pos}
theorem pa_nil : PA X [] tNil := fun _ _ _ _ H Q I h => Calls.spliced_nil ⟨[],H,I,.nil,h⟩
theorem pa_cons (ha : PE X e te)(hr : PA X es t)(hs : starEach (e :: es) X.env = (false,eval e X.env) :: starEach es X.env := by rfl) : PA X (e :: es) (tCons te t) := by
  intro pos pins s σ H Q I h
  rw [hs]
  show wpAny _ _ (spliced ((false,eval e X.env) :: backTo pos (starEach es X.env))) _ _ s
  refine Calls.spliced_cons (thn (ha pins s σ H _ I h) fun u s1 ⟨x,H1,I1,r1,q1⟩ => ?_)
  exact thn (hr pos pins s1 σ H1 _ I1 q1) fun us s2 ⟨xs,H2,I2,r2,q2⟩ => ⟨x :: xs,H2,I2,.cons r1 r2,q2⟩
def tTup (t : TA) : TE := fun σ H Q => t σ H fun xs H1 => xs.length <= sizeLine /\ ∀ p,H1 p = none -> Q (.ref p) (upd H1 p (.tup xs))
def tLst (t : TA) : TE := fun σ H Q => t σ H fun xs H1 => xs.length <= sizeLine /\ ∀ p,H1 p = none -> Q (.ref p) (upd H1 p (.lst xs))
theorem pe_tup {x1}(h : PA X es t) : PE X (.Tuple es x1 pos) (tTup t) := by
  intro pins s σ H Q I hq
  refine wpAny_Tuple_spliced (thn (h pos pins s σ H _ I hq) fun us s1 ⟨xs,H1,I1,r,z,q⟩ => ⟨by rw [<- r.length]; exact z,?_⟩)
  have hf : H1 s1.heap.objs.size = none := I1.hok.fresh (Nat.le_refl _)
  refine ⟨.ref s1.heap.objs.size,upd H1 s1.heap.objs.size (.tup xs),I1.laid (t' := s1.toks) (fun b u e => Heap.get?_push_of_some _ e) (Nat.le_refl _) ?_,rfl,q _ hf⟩
  exact ⟨z,us,r,⟨_,Heap.get?_push_size _ rfl,rfl,_,rfl⟩⟩
theorem pe_lst (h : PA X es t) : PE X (.List es pos) (tLst t) := by
  intro pins s σ H Q I hq
  refine wpAny_List_spliced (thn (h pos pins s σ H _ I hq) fun us s1 ⟨xs,H1,I1,r,z,q⟩ => ⟨by rw [<- r.length]; exact z,?_⟩)
  have hf : H1 s1.heap.objs.size = none := I1.hok.fresh (Nat.le_refl _)
  refine ⟨.ref s1.heap.objs.size,upd H1 s1.heap.objs.size (.lst xs),I1.laid (t' := s1.toks) (fun b u e => Heap.get?_push_of_some _ e) (Nat.le_refl _) ?_,rfl,q _ hf⟩
  exact ⟨z,us,0,r,Heap.get?_push_size _ rfl⟩
end
abbrev Sp := List V -> Hp -> VK -> XK -> Prop
abbrev CXT := List Env -> Hp -> Shared -> XK -> Value -> Shared -> Prop
structure Env0 (P : Program)(w : World)(K : PySem.W.Frag)(mg : Str -> Option Value)(base : Heap)(A : Around)(outer : List Env)(s : Shared)(H : Hp) : Prop where
  frames : A.frames = some outer
  mod : Mod K mg base
  bs : ∀ b o,base.get? b = some o -> s.heap.get? b = some o /\ H b = none
  bsz : base.objs.size <= s.heap.objs.size
  funs : s.heap.FunFrames base outer
  frf : ∀ b ∈ frs outer,H b = none
  hok : HOk P w H s.heap
  bare : AllBare s.gens
def CE (outer : List Env)(P : Program)(w : World)(H : Hp)(s : Shared)(Q : VK)(u : Value)(s' : Shared) : Prop :=
  ∃ v H',s'.os = s.os /\ AllBare s'.gens /\ Un (frs outer) [] H H' s.heap s'.heap /\ HOk P w H' s'.heap /\ RelV v u /\ Q v H'
def CR (CX : CXT)(outer : List Env)(P : Program)(w : World)(H : Hp)(s : Shared)(Q : VK)(E : XK)(r : Result)(s' : Shared) : Prop :=
  match r with
  | .ok (.ret u) => CE outer P w H s Q u s'
  | .ok _ => False
  | .error e => CX outer H s E e s'
structure FnOk (P : Program)(w : World)(K : PySem.W.Frag)(mg : Str -> Option Value)(base : Heap)(CX : CXT)(k : Nat)(f : Addr)(fd : FuncData)(ps : List Str)(sp : Sp) : Prop where
  len : ∀ vs H Q E,sp vs H Q E -> vs.length = ps.length
  run : ∀ (A : Around) (outer : List Env) (s : Shared) (H : Hp) (args : Args) (us : List Value) (vs : List V) (Q : VK) (E : XK),Room k A -> Env0 P w K mg base A outer s H -> BindsTo s fd args (ps.zip us) -> Vals vs us -> sp vs H Q E ->
    codeAny (model P w) A (.call (.ref f) args) (CR CX outer P w H s Q E) s
theorem FnOk.imp {P : Program}{w : World}{K : PySem.W.Frag}{mg : Str -> Option Value}{base : Heap}{CX : CXT}{k : Nat}{f : Addr}{fd : FuncData}{ps : List Str}{sp sp' : Sp}(F : FnOk P w K mg base CX k f fd ps sp)
    (h : ∀ vs H Q E,sp' vs H Q E -> sp vs H Q E) : FnOk P w K mg base CX k f fd ps sp' :=
  ⟨fun vs H Q E q => F.len vs H Q E (h _ _ _ _ q),fun A outer s H args us vs Q E hr he hb hv hs => F.run A outer s H args us vs Q E hr he hb hv (h _ _ _ _ hs)⟩
section
variable {X : Cx}{pins : List (Addr × Obj)}{σ : St}{H : Hp}{s s' : Shared}
theorem Inv.env0 (I : Inv X pins σ H s) : Env0 X.prog X.w X.K X.mg X.base X.A X.stack s H :=
  ⟨I.ok.frames,I.ok.mod,I.bs,Nat.le_trans I.ok.bsz I.sz,I.stack,I.stkFree,I.hok,I.bare⟩
theorem Inv.after {Q : VK}{u : Value}(I : Inv X pins σ H s)(h : CE X.stack X.prog X.w H s Q u s') : EP X pins σ Q u s' := by
  obtain ⟨v,H',os,bare,un,hok,r,q⟩ := h
  obtain ⟨hh,g,d,t,os'⟩ := s'
  obtain rfl : os' = s.os := os
  exact ⟨v,H',I.call (h' := hh) (g' := g) (d' := d) (t' := t) (ch := []) un hok bare (fun b z => absurd z (by simp)),r,q⟩
end
def tCall (sp : Sp)(dvs : List V)(E : XK)(t : TA) : TE := fun σ H Q => t σ H fun vs H1 => sp (vs ++ dvs) H1 Q E
def tMeth (C : Addr)(m : Str)(sp : Sp)(dvs : List V)(E : XK)(ta : TE)(t : TA) : TE := fun σ H Q => ta σ H fun x H1 => ∃ a dx fs,x = .ref a /\ H1 a = some (.ins C dx fs) /\ fs.lookup m = none /\
  t σ H1 fun vs H2 => sp (x :: (vs ++ dvs)) H2 Q E
def tMake (C : Addr)(sp : Sp)(dvs : List V)(E : XK)(t : TA) : TE := fun σ H Q => t σ H fun vs H1 => ∀ x dx,H1 x = none -> H1 dx = none -> dx ≠ x ->
  sp (.ref x :: (vs ++ dvs)) (upd (upd H1 dx (.own x)) x (.ins C dx [])) (fun v H2 => v = .non /\ Q (.ref x) H2) E
def Binds (K : PySem.W.Frag)(fd : FuncData)(ps : List Str)(ds : List Value) : Prop :=
  ∀ (s : Shared) (us : List Value),K.In s.heap -> (us ++ ds).length = ps.length -> BindsTo s fd ⟨us,[]⟩ (ps.zip (us ++ ds))
theorem Binds.all {K : PySem.W.Frag}{fd : FuncData}{ps : List Str}(h : ∀ us : List Value,us.length = ps.length -> bindArgs fd ⟨us,[]⟩ = pure (ps.zip us)) : Binds K fd ps [] := fun s us _ hl => by
  rw [List.append_nil] at hl ⊢
  exact .of_eq (h us hl)
def Passes (CX : CXT)(X : Cx)(E : XK) : Prop := ∀ (pins : List (Addr × Obj)) (σ : St) (H : Hp) (s : Shared) (e : Value) (s' : Shared),Inv X pins σ H s -> CX X.stack H s E e s' -> X.xe e s'
section
variable {X : Cx}{CX : CXT}{k : Nat}{f C : Addr}{fd : FuncData}{ps : List Str}{sp : Sp}{dvs : List V}{ds : List Value}{E : XK}{x m : Str}{p pos apos : Pos}{e o : Expr}{es : List Expr}{ta : TE}{t : TA}
theorem run_fn {pins : List (Addr × Obj)}{σ : St}{H : Hp}{s : Shared}{Q : VK}{us : List Value}{vs : List V}(F : FnOk X.prog X.w X.K X.mg X.base CX k f fd ps sp)(hr : Room k X.A)(hb : Binds X.K fd ps ds)(hd : Vals dvs ds)(hx : Passes CX X E)
    (I : Inv X pins σ H s) (r : Vals vs us) (h : sp (vs ++ dvs) H Q E) : wpAny (model X.prog X.w) X.A (call (.ref f) us) (EP X pins σ Q) X.xe s := by
  have r2 : Vals (vs ++ dvs) (us ++ ds) := r.append hd
  have hl : (us ++ ds).length = ps.length := by rw [<- r2.length]; exact F.len _ _ _ _ h
  refine wpAny_call (codeAny_mono (F.run X.A X.stack s H ⟨us,[]⟩ (us ++ ds) (vs ++ dvs) Q E hr I.env0 (hb s us I.kIn hl) r2 h) fun r s' hq => ?_)
  cases r with
  | error e => exact hx pins σ H s e s' I hq
  | ok fl =>
    cases fl with
    | ret u => exact I.after hq
    | next => exact False.elim hq
    | brk => exact False.elim hq
    | cont => exact False.elim hq
theorem pe_call (F : FnOk X.prog X.w X.K X.mg X.base CX k f fd ps sp)(hr : Room k X.A)(hg : Gl X x)(hm : X.mg x = some (.ref f))(hk : PySem.W.keepIn X.K (.ref f) = true)(hb : Binds X.K fd ps ds)(hd : Vals dvs ds)(hx : Passes CX X E)
    (ha : PA X (e :: es) t) (hdb : (x == ("__debug__" : Str)) = false := by decide) (he : starEach (e :: es) X.env = (false,eval e X.env) :: starEach es X.env := by rfl) (hpl : (backTo pos (starEach es X.env)).any (·.1) = false := by rfl) :
    PE X (.Call (.Name x p) (e :: es) [] pos) (tCall sp dvs E t) := by
  intro pins s σ H Q I h
  refine wpAny_Call_Name_kw (ld_glob I hg hm ?_ hdb)
  refine PySem.W.callWith_K (h₀ := X.base) I.ok.mod.kin hk (thn (ha pos pins s σ H _ I h) fun us s1 ⟨vs,H1,I1,r,q⟩ => ⟨I1.kIn,?_⟩) he hpl
  exact run_fn F hr hb hd hx I1 r q
end
section
variable {X : Cx}{CX : CXT}{k : Nat}{f C : Addr}{fd : FuncData}{ps ks : List Str}{sp : Sp}{E : XK}{x m : Str}{p pos apos kpos : Pos}{e o : Expr}{es : List Expr}{kws : List Keyword}{te ta : TE}{t tk : TA}{nm : Option Str}
variable {g : List Value -> List Value -> List Value}{gV : List V -> List V -> List V}
end
structure FnScope (N P : List Str)(sc : Scope) : Prop where
  kind : sc.kind = .function
  co : sc.isCoroutine = false
  gen : sc.isGenerator = false
  nd : N.Nodup
  pre : N.take P.length = P
  par : ∀ x ∈ P,sc.names.lookup x = some .local \/ sc.names.lookup x = some .cell
  nofree : ∀ y ∈ sc.names,y.2 ≠ .free
theorem bindL_out {kindOf : Str -> Option NameKind}{x : Str} : ∀ {binds : List (Str × Value)} {m : Str -> Option Value},(∀ v,(x,v) ∉ binds) -> bindL kindOf binds m x = m x
  | [],_,_ => rfl
  | (n,v) :: r,m,h => by
    unfold bindL
    rw [bindL_out fun w hw => h w (List.mem_cons_of_mem _ hw)]
    split
    · have : x ≠ n := by rintro rfl; exact h v List.mem_cons_self
      simp [this]
    · rfl
theorem bindC_out {kindOf : Str -> Option NameKind}{x : Str} : ∀ {binds : List (Str × Value)} {m : Str -> Option Value},(∀ v,(x,v) ∉ binds) -> bindC kindOf binds m x = m x
  | [],_,_ => rfl
  | (n,v) :: r,m,h => by
    unfold bindC
    rw [bindC_out fun w hw => h w (List.mem_cons_of_mem _ hw)]
    split
    · rfl
    · have : x ≠ n := by rintro rfl; exact h v List.mem_cons_self
      simp [this]
theorem bindL_get {kindOf : Str -> Option NameKind}{x : Str}{v : Value} : ∀ {P : List Str} {vs : List Value} {i : Nat} {m : Str -> Option Value},P.Nodup -> P[i]? = some x -> vs[i]? = some v -> kindOf x = some .local ->
    bindL kindOf (P.zip vs) m x = some v
  | [],_,_,_,_,h,_,_ => by simp at h
  | _ :: _,[],_,_,_,_,h,_ => by simp at h
  | p :: P,w :: vs,0,m,nd,h1,h2,hk => by
    simp at h1 h2; subst h1; subst h2
    show bindL kindOf ((p,w) :: P.zip vs) m p = _
    unfold bindL
    rw [bindL_out fun v hv => (List.nodup_cons.mp nd).1 (List.of_mem_zip hv).1,if_pos hk]
    simp
  | p :: P,w :: vs,i + 1,m,nd,h1,h2,hk => by
    show bindL kindOf ((p,w) :: P.zip vs) m x = _
    unfold bindL
    exact bindL_get (i := i) (List.nodup_cons.mp nd).2 (by simpa using h1) (by simpa using h2) hk
theorem bindC_get {kindOf : Str -> Option NameKind}{x : Str}{v : Value} : ∀ {P : List Str} {vs : List Value} {i : Nat} {m : Str -> Option Value},P.Nodup -> P[i]? = some x -> vs[i]? = some v -> kindOf x ≠ some .local ->
    bindC kindOf (P.zip vs) m x = some v
  | [],_,_,_,_,h,_,_ => by simp at h
  | _ :: _,[],_,_,_,_,h,_ => by simp at h
  | p :: P,w :: vs,0,m,nd,h1,h2,hk => by
    simp at h1 h2; subst h1; subst h2
    show bindC kindOf ((p,w) :: P.zip vs) m p = _
    unfold bindC
    rw [bindC_out fun v hv => (List.nodup_cons.mp nd).1 (List.of_mem_zip hv).1,if_neg hk]
    simp
  | p :: P,w :: vs,i + 1,m,nd,h1,h2,hk => by
    show bindC kindOf ((p,w) :: P.zip vs) m x = _
    unfold bindC
    exact bindC_get (i := i) (List.nodup_cons.mp nd).2 (by simpa using h1) (by simpa using h2) hk
def start (N : List Str)(vs : List V) : St := vs.map some ++ List.replicate (N.length - vs.length) none
def cxOf (CX : CXT)(P : Program)(w : World)(K : PySem.W.Frag)(mg : Str -> Option Value)(base : Heap)(N : List Str)(qual : Str)(scope : Scope)(f : Addr)(cd : Value)(A : Around)(outer : List Env)(s : Shared)(H : Hp)(E : XK) : Cx where
  prog := P
  w := w
  K := K
  mg := mg
  base := base
  A := A.deeper (envOfC qual scope s.heap.objs.size f cd)
  N := N
  s₀ := s
  H₀ := H
  env := envOfC qual scope s.heap.objs.size f cd
  outer := outer
  stack := envOfC qual scope s.heap.objs.size f cd :: outer
  ex := []
  calm := true
  fn := fun _ => true
  pn := []
  xe := fun e s' => wpAny (model P w) (A.deeper (envOfC qual scope s.heap.objs.size f cd)) (leaving (envOfC qual scope s.heap.objs.size f cd) e) (fun _ s'' => CX outer H s E e s'') (fun e' s'' => CX outer H s E e' s'') s'
theorem cell_has {sc : Scope}{n : Nat}{x : Str}(h : sc.names.lookup x = some .cell) : ∃ c,(cellsFrom n sc.names []).lookup x = some c := by
  have q := PySem.W.cellsFrom_some sc.names n [] (.inl h)
  exact Option.isSome_iff_exists.mp q
theorem inv_start {CX : CXT}{P : Program}{w : World}{K : PySem.W.Frag}{mg : Str -> Option Value}{base : Heap}{N ps : List Str}{qual : Str}{scope : Scope}{f : Addr}{cd : Value}{A : Around}{outer : List Env}{s s1 : Shared}{H : Hp}{E : XK}{us : List Value}{vs : List V}
    (S : FnScope N ps scope) (hd : A.handled = none) (e0 : Env0 P w K mg base A outer s H) (hl : vs.length = ps.length) (r : Vals vs us)
    (x : InCallC s s.heap.objs.size (bindL (envOfC qual scope s.heap.objs.size f cd).kindOf (ps.zip us) fun _ => none) (cellsFrom (s.heap.objs.size + 1) scope.names []) (bindC (envOfC qual scope s.heap.objs.size f cd).kindOf (ps.zip us) fun _ => none) s1) :
    Inv (cxOf CX P w K mg base N qual scope f cd A outer s H E) [] (start N vs) H s1 := by
  have hpl : ps.length <= N.length := by have := congrArg List.length S.pre; rw [List.length_take] at this; omega
  obtain ⟨h1,tk,rfl,hk⟩ := x.done
  have noA : ∀ b : Addr,b ∉ (cxOf CX P w K mg base N qual scope f cd A outer s H E).ex := fun b z => absurd (show b ∈ ([] : List Addr) from z) (by simp)
  refine ⟨⟨e0.mod,S.kind,rfl,rfl,Nat.le_refl _,fun y z c h1 h2 => ?_,fun y hy => ?_,fun y c _ h => ?_,fun _ => hd,Around.frames_deeper e0.frames,.inr ⟨rfl,rfl⟩,fun b z => absurd z (noA b),e0.bs,e0.bsz,fun b _ _ => noA b,fun b z => absurd z (noA b),e0.funs,e0.frf⟩,
    rfl,e0.bare,Un.kept hk,⟨_,x.toInCall.ns,fun i y v h1 h2 h3 => ?_⟩,fun y c h => ⟨_,x.cell y c h⟩,e0.hok.fresh (Nat.le_refl _),fun y c h => ?_,fun p hp => absurd (show p ∈ ([] : List (Addr × Obj)) from hp) (by simp),e0.hok.kept hk,?_⟩
  · exact name_of_addr x.apart (PySem.mem_of_lookup h1) (PySem.mem_of_lookup h2)
  · have hy : scope.names.lookup y = some .cell \/ scope.names.lookup y = some .free := hy
    rcases hy with hy | hy
    · exact cell_has hy
    · exact absurd rfl (S.nofree _ (PySem.mem_of_lookup hy))
  · exact Nat.le_of_lt (x.above y c (PySem.mem_of_lookup h))
  · have hi : i < vs.length := by
      unfold start at h2
      by_cases hi : i < vs.length
      · exact hi
      · rw [List.getElem?_append_right (by simpa using hi)] at h2
        rw [List.getElem?_replicate] at h2
        split at h2 <;> cases h2
    have ha : vs[i]? = some v := by
      unfold start at h2
      rw [List.getElem?_append_left (by simpa using hi),List.getElem?_map] at h2
      cases e : vs[i]? with
      | none => rw [e] at h2; cases h2
      | some a => rw [e] at h2; cases h2; rfl
    obtain ⟨u,hu,rv⟩ := r.get ha
    have hp : ps[i]? = some y := by
      rw [<- S.pre,List.getElem?_take_of_lt (by omega)]; exact h1
    have ndP : ps.Nodup := by rw [<- S.pre]; exact S.nd.sublist (List.take_sublist _ _)
    refine ⟨u,rv,?_⟩
    rcases S.par y (List.mem_of_getElem? hp) with k | k
    · exact .inl ⟨k,bindL_get ndP hp hu k⟩
    · obtain ⟨c,e⟩ := cell_has (n := s.heap.objs.size + 1) k
      refine .inr ⟨.inl k,c,e,?_⟩
      have q := x.cell y c e
      rw [bindC_get ndP hp hu (by show scope.names.lookup y ≠ _; rw [k]; decide)] at q
      exact q
  · exact e0.hok.fresh (Nat.le_of_lt (x.above y c (PySem.mem_of_lookup h)))
  · unfold start
    show _ = N.length
    rw [List.length_append,List.length_map,List.length_replicate]
    omega
theorem fn_of {CX : CXT}{P : Program}{w : World}{K : PySem.W.Frag}{mg : Str -> Option Value}{base : Heap}{k : Nat}{f : Addr}{name qual : Str}{params : Arguments}{body : List Stmt}{scope : Scope}{dV kV doc pm cdv ct oc : Value}{an od : Option Addr}
    {osl : Array (Option Value)} {N ps : List Str} {sp : Sp} (lk : K.lookup f = some ⟨oc,od,.func (PySem.W.fnOf name qual params body scope dV kV doc pm an cdv ct),osl⟩) (hcd : PySem.W.codeIn K cdv qual = true) (S : FnScope N ps scope)
    (len : ∀ vs H Q E,sp vs H Q E -> vs.length = ps.length)
    (hbody : ∀ (A : Around) (outer : List Env) (s : Shared) (H : Hp) (vs : List V) (Q : VK) (E : XK),Room k (A.deeper (envOfC qual scope s.heap.objs.size f cdv)) -> sp vs H Q E ->
      ∃ t,PSs (cxOf CX P w K mg base N qual scope f cdv A outer s H E) body t /\ t { nx := fun _ H' => Q .non H',rt := Q } (start N vs) H) :
    FnOk P w K mg base CX (k + 1) f (PySem.W.fnOf name qual params body scope dV kV doc pm an cdv ct) ps sp := by
  refine ⟨len,fun A outer s H args us vs Q E hr e0 hb r hsp => ?_⟩
  have hl := len _ _ _ _ hsp
  have KX : K.In s.heap := e0.mod.kin.keeps fun b o e => (e0.bs b o e).1
  have lim : s.heap.NoLimit := e0.mod.nolimit.keeps fun b o e => (e0.bs b o e).1
  have hkind : ∀ y ∈ ps.zip us,scope.names.lookup y.1 = some .local \/ (scope.names.lookup y.1 = some .cell /\ ((cellsFrom (s.heap.objs.size + 1) scope.names []).lookup y.1).isSome = true) := fun ⟨n,v⟩ hy => by
    rcases S.par n (List.of_mem_zip hy).1 with q | q
    · exact .inl q
    · exact .inr ⟨q,PySem.W.cellsFrom_some _ _ _ (.inl q)⟩
  refine codeAny_call_function hr.depth (KX _ _ lk) rfl S.co S.gen rfl (PySem.W.codeRec_of KX hcd) (hb _ _ _ _ ?_)
  refine wpAny_newFunctionEnv_cells S.kind hkind fun env he s1 x => ?_
  subst he
  refine ⟨lim.keeps x.toInCall.keep,codeAny_func ?_⟩
  obtain ⟨t,ht,hq⟩ := hbody A outer s H vs Q E (hr.deeper _) hsp
  have I : Inv (cxOf CX P w K mg base N qual scope f cdv A outer s H E) [] (start N vs) H s1 := inv_start S hr.hd e0 hl r x
  refine wpAny_mono (ht [] s1 (start N vs) H _ I hq) (fun fl s' hs => ?_) fun e s' hs => hs
  have fin : ∀ {σ' : St} {H' : Hp} {v : V} {u : Value},Inv (cxOf CX P w K mg base N qual scope f cdv A outer s H E) [] σ' H' s' -> RelV v u -> Q v H' -> CE outer P w H s Q u s' :=
    fun {σ' H' v u} J rv q => ⟨v,H',J.os,J.bare,J.base,J.hok,rv,q⟩
  cases fl with
  | ret u =>
    obtain ⟨v,σ',H',J,rv,q⟩ := hs
    exact fin J rv q
  | next =>
    obtain ⟨σ',H',J,q⟩ := hs
    exact fin (v := V.non) (u := Value.none) J rfl q
  | brk =>
    obtain ⟨_,_,_,q⟩ := hs
    exact False.elim q
  | cont =>
    obtain ⟨_,_,_,q⟩ := hs
    exact False.elim q
end L2
namespace L2
open PySem PySem.Spec PyProof.Rows
section
variable {X : Cx}{x : Str}{p pos : Pos}{e : Expr}{es : List Expr}{t : TA}{id T : String}{r : List V -> Hp -> VK -> Prop}
def tCB (r : List V -> Hp -> VK -> Prop)(t : TA) : TE := fun σ H Q => t σ H fun vs H1 => r vs H1 Q
theorem pe_callB (hc : CallR X (.builtin id) r)(hg : Gl X x)(hm : X.mg x = none)(hv : bootBuiltins x = some (.builtin id))(ha : PA X (e :: es) t)(hn : x ≠ "__name__" := by decide) (hdb : (x == ("__debug__" : Str)) = false := by decide)
    (he : starEach (e :: es) X.env = (false,eval e X.env) :: starEach es X.env := by rfl) (hpl : (backTo pos (starEach es X.env)).any (·.1) = false := by rfl) : PE X (.Call (.Name x p) (e :: es) [] pos) (tCB r t) := by
  intro pins s σ H Q I h
  refine wpAny_Call_Name_kw (ld_blt I hg hm hv ?_ hn hdb)
  exact PyProof.Rows.callWith_builtin1 (thn (ha pos pins s σ H _ I h) fun us s1 ⟨vs,H1,I1,r1,q1⟩ => hc pins s1 σ H1 vs us Q I1 r1 q1) he hpl
theorem pe_callTy (hc : CallR X (.type T) r)(hg : Gl X x)(hm : X.mg x = none)(hv : bootBuiltins x = some (.type T))(ha : PA X (e :: es) t)(hn : x ≠ "__name__" := by decide) (hdb : (x == ("__debug__" : Str)) = false := by decide)
    (he : starEach (e :: es) X.env = (false,eval e X.env) :: starEach es X.env := by rfl) (hpl : (backTo pos (starEach es X.env)).any (·.1) = false := by rfl) : PE X (.Call (.Name x p) (e :: es) [] pos) (tCB r t) := by
  intro pins s σ H Q I h
  refine wpAny_Call_Name_kw (ld_blt I hg hm hv ?_ hn hdb)
  exact PyProof.Rows.callWith_type1 (thn (ha pos pins s σ H _ I h) fun us s1 ⟨vs,H1,I1,r1,q1⟩ => hc pins s1 σ H1 vs us Q I1 r1 q1) he hpl
end
end L2
namespace HT
open PySem PyProof.Rows
section
open PySem.SeqAt
open PySem.AutoSeq1 (wpAny_loadPart')
open PySem.MeetsSeq PySem.MeetsSeq2 PySem.MeetsSeq3
end
section
variable {prog : Program}{w : World}{A : Around}{E : Value -> Shared -> Prop}{s : Shared}
def sIx (n d : Nat) : Option Int -> Nat
  | none => d
  | some v => if v < 0 then (v + (n : Int)).toNat else min v.toNat n
theorem sIx_nat (n d k : Nat) : sIx n d (some (k : Int)) = min k n := by
  show (if (k : Int) < 0 then ((k : Int) + (n : Int)).toNat else min (k : Int).toNat n) = min k n
  rw [if_neg (by omega),Int.toNat_natCast]
theorem sIx_le (n d : Nat)(hd : d <= n)(o : Option Int) : sIx n d o <= n := by
  cases o with
  | none => exact hd
  | some v =>
    show (if v < 0 then (v + (n : Int)).toNat else min v.toNat n) <= n
    by_cases hv : v < 0
    · rw [if_pos hv]; omega
    · rw [if_neg hv]; exact Nat.min_le_right _ _
theorem clip_eq (v : Int)(n d : Nat) : (if v < 0 then max (v + (n : Int)) 0 else min v (n : Int)) = ((sIx n d (some v) : Nat) : Int) := by
  show (if v < 0 then max (v + (n : Int)) 0 else min v (n : Int)) = (((if v < 0 then (v + (n : Int)).toNat else min v.toNat n) : Nat) : Int)
  by_cases hv : v < 0
  · simp only [if_pos hv]; omega
  · simp only [if_neg hv]; omega
theorem adjust_gen (lo hi : Option Int)(n : Nat) : Builtin.Slice.sliceAdjust lo hi 1 (n : Int) = (((sIx n 0 lo : Nat) : Int),((sIx n n hi : Nat) : Int)) := by
  have h1 : ¬ ((1 : Int) < 0) := by omega
  unfold Builtin.Slice.sliceAdjust
  simp only [h1,if_false]
  refine Prod.ext ?_ ?_
  · cases lo with
    | none => rfl
    | some v => exact clip_eq v n 0
  · cases hi with
    | none => rfl
    | some v => exact clip_eq v n n
theorem places_gen (i j : Nat) : Builtin.Slice.slicePlaces (i : Int) (j : Int) 1 = j - i := by
  unfold Builtin.Slice.slicePlaces
  have h1 : (1 : Int) > 0 := by omega
  simp only [h1,if_true,Int.ediv_one]
  split <;> omega
theorem slicePart_ {v : Value}{o : Option Int}{Q : Option Int -> Shared -> Prop}(p : IsPart v o)(h : Q o s) : wpAny (model prog w) A (Builtin.Slice.slicePartIndex v) Q E s := by
  cases p with
  | none => exact slicePart_none h
  | int i t => exact slicePart_int h
theorem sliceApplied_gen {sl : Addr}{vl vu : Value}{lo hi : Option Int}{n : Nat}{Q : Int × Int × Nat -> Shared -> Prop}(hs : s.heap.IsSliceOf sl vl vu .none)(pl : IsPart vl lo)(pu : IsPart vu hi)
    (h : Q (((sIx n 0 lo : Nat) : Int),1,sIx n n hi - sIx n 0 lo) s) : wpAny (model prog w) A (Builtin.Slice.sliceApplied (.ref sl) (pure (n : Int))) Q E s := by
  obtain ⟨os,hos,hcs,hds⟩ := id hs
  unfold Builtin.Slice.sliceApplied Builtin.Slice.sliceFields
  refine wpAny_bind (wpAny_bind (wpAny_field hos hds (x := vl) rfl (wpAny_bind (wpAny_field hos hds (x := vu) rfl (wpAny_bind (wpAny_field hos hds (x := .none) rfl (wpAny_pure ?_)))))))
  refine wpAny_bind (slicePart_none ?_)
  show wpAny _ _ (if ((1 : Int) == 0) = true then _ else _) _ _ s
  rw [if_neg (by decide)]
  refine wpAny_bind (slicePart_ pl (wpAny_bind (slicePart_ pu (wpAny_bind (wpAny_pure ?_)))))
  show wpAny _ _ (match Builtin.Slice.sliceAdjust lo hi 1 (n : Int) with | (lo,hi) => pure (lo,(1 : Int),Builtin.Slice.slicePlaces lo hi 1)) _ _ s
  rw [adjust_gen lo hi n]
  show wpAny _ _ (pure (((sIx n 0 lo : Nat) : Int),(1 : Int),Builtin.Slice.slicePlaces ((sIx n 0 lo : Nat) : Int) ((sIx n n hi : Nat) : Int) 1)) _ _ s
  rw [places_gen]
  exact wpAny_pure h
theorem pick_gen (xs : Array Value)(i k : Nat) : ((List.range k).filterMap fun (m : Nat) => xs[((i : Int) + (m : Int) * 1).toNat]?).toArray = ((xs.toList.drop i).take k).toArray := by
  have e : (fun (m : Nat) => xs[((i : Int) + (m : Int) * 1).toNat]?) = fun m => xs[i + m]? := by
    funext m
    have : ((i : Int) + (m : Int) * 1).toNat = i + m := by omega
    rw [this]
  rw [e]
  have := pick_run xs i k
  rw [List.filterMap_map] at this
  have e2 : ((fun x => xs[x]?) ∘ fun x => i + x) = fun m => xs[i + m]? := rfl
  rw [e2] at this
  rw [this]
theorem getItem_tuple_cut {t sl : Addr}{items : Array Value}{vl vu : Value}{lo hi : Option Int}{Q : Value -> Shared -> Prop}(ht : IsTup s.heap t items)(hs : s.heap.IsSliceOf sl vl vu .none)(pl : IsPart vl lo)(pu : IsPart vu hi)
    (hw : ¬ (sIx items.size 0 lo = 0 /\ sIx items.size items.size hi = items.size))
    (h : Q (.ref s.heap.objs.size) { s with heap := s.heap.push { cls := .type "tuple",data := .seq ((items.toList.drop (sIx items.size 0 lo)).take (sIx items.size items.size hi - sIx items.size 0 lo)).toArray } })
    (hsz : items.size <= sizeLine) : wpAny (model prog w) A (getItem (.ref t) (.ref sl)) Q E s := by
  have htake : sizeOk (.seq ((items.toList.drop (sIx items.size 0 lo)).take (sIx items.size items.size hi - sIx items.size 0 lo)).toArray) := by
    show ((items.toList.drop (sIx items.size 0 lo)).take (sIx items.size items.size hi - sIx items.size 0 lo)).toArray.size <= sizeLine
    rw [List.size_toArray,List.length_take,List.length_drop,Array.length_toList]
    omega
  have hj : sIx items.size items.size hi <= items.size := sIx_le _ _ (Nat.le_refl _) hi
  obtain ⟨os,hos,hcs,hds⟩ := id hs
  have hTs : s.TypeIs (.ref sl) "slice" := ⟨os,hos,hcs⟩
  unfold getItem
  try with_reducible refine wpAny_holding ?_
  first | refine wpAny_bind (wpAny_pure ?_) | skip
  refine wpAny_bind (wpAny_sequenceKey ht.typeIs (by decide) ?_)
  refine wpAny_bind (wpAny_callSpecial?_slot (name := Str.ofString "__getitem__") ht.typeIs PyProof.Rows.slot_tuple_getitem
    (wpAny_call_entry PyProof.Rows.slot_tuple_getitem ht.typeIs entry_tuple_getitem ?_ (args_tuple_getitem _ _)))
  show wpAny _ _ (Builtin.Tuple.tupleItemsOf (.ref t) >>= _) _ _ s
  refine wpAny_bind (tupleItemsOf_ ht ?_)
  refine wpAny_bind (wpAny_typeOf hTs ?_)
  rw [if_pos (by decide)]
  refine wpAny_bind (sliceApplied_gen hs pl pu ?_)
  have hno : ¬ ((((sIx items.size 0 lo : Nat) : Int) == 0 && (1 : Int) == 1 && (sIx items.size items.size hi - sIx items.size 0 lo) == items.size) = true) := by
    intro q
    rw [Bool.and_eq_true,Bool.and_eq_true] at q
    have q1 : ((sIx items.size 0 lo : Nat) : Int) = 0 := eq_of_beq q.1.1
    have q2 : sIx items.size items.size hi - sIx items.size 0 lo = items.size := eq_of_beq q.2
    exact hw ⟨by omega,by omega⟩
  show wpAny _ _ (if (((sIx items.size 0 lo : Nat) : Int) == 0 && (1 : Int) == 1 && (sIx items.size items.size hi - sIx items.size 0 lo) == items.size) = true then _ else _) _ _ s
  rw [if_neg hno,pick_gen]
  first
    | exact wpAny_bind (m := Builtin.Tuple.tupleExact _) (wpAny_newObj_type (wpAny_pure ⟨_,rfl,wpAny_pure h⟩) htake)
    | exact wpAny_bind (m := Builtin.Tuple.tupleExact _) (wpAny_newObj_type (wpAny_bind (wpAny_pure (wpAny_pure ⟨_,rfl,wpAny_pure h⟩))) htake)
    | exact wpAny_bind (wpAny_bind (m := Builtin.Tuple.tupleExact _) (wpAny_newObj_type (wpAny_pure (wpAny_pure ⟨_,rfl,wpAny_pure h⟩)) htake))
    | exact wpAny_bind (wpAny_bind (m := Builtin.Tuple.tupleExact _) (wpAny_newObj_type (wpAny_pure ⟨_,rfl,wpAny_pure h⟩) htake))
end
end HT
namespace L2
open PySem PySem.Spec PyProof.Rows
abbrev TO := St -> Hp -> (Option Int -> Hp -> Prop) -> Prop
def PO (X : Cx)(e : Option Expr)(t : TO) : Prop :=
  ∀ (pins : List (Addr × Obj)) (s : Shared) (σ : St) (H : Hp) (Q : Option Int -> Hp -> Prop),Inv X pins σ H s -> t σ H Q ->
    wpAny (model X.prog X.w) X.A (evalPart e X.env) (fun u s' => ∃ o H',Inv X pins σ H' s' /\ IsPart u o /\ Q o H') X.xe s
def tNoPart : TO := fun _ H Q => Q none H
def tPart (t : TE) : TO := fun σ H Q => t σ H fun x H1 => ∃ i,x = .int i /\ Q (some i) H1
section
variable {X : Cx}{e : Expr}{te : TE}{lo hi : Option Expr}{tl th : TO}{pos p2 : Pos}
theorem po_none : PO X none tNoPart := by
  intro pins s σ H Q I h
  rw [evalPart_none]
  exact wpAny_pure ⟨none,H,I,.none,h⟩
theorem po_some (h : PE X e te) : PO X (some e) (tPart te) := by
  intro pins s σ H Q I hw
  rw [evalPart_some]
  refine thn (h pins s σ H _ I hw) fun u s1 ⟨x,H1,I1,r1,q1⟩ => ?_
  obtain ⟨i,rfl,q⟩ := q1
  obtain ⟨t,rfl⟩ := r1
  exact ⟨some i,H1,I1,.int i t,q⟩
def SlR (X : Cx)(r : V -> Option Int -> Option Int -> Hp -> VK -> Prop) : Prop :=
  ∀ (pins : List (Addr × Obj)) (s : Shared) (σ : St) (H : Hp) (x : V) (v vl vu : Value) (lo hi : Option Int) (sl : Addr) (Q : VK),Inv X pins σ H s -> RelV x v -> s.heap.IsSliceOf sl vl vu .none -> IsPart vl lo -> IsPart vu hi -> r x lo hi H Q ->
    ∃ T id,typeLookup (.type T) "__getitem__" = pure (some (.builtin id)) /\ s.TypeIs v T /\ wpAny (model X.prog X.w) X.A (getItem v (.ref sl)) (EP X pins σ Q) X.xe s
theorem SlR.or {r r' : V -> Option Int -> Option Int -> Hp -> VK -> Prop}(h : SlR X r)(h' : SlR X r') : SlR X (fun x lo hi H Q => r x lo hi H Q \/ r' x lo hi H Q) := by
  intro pins s σ H x v vl vu lo hi sl Q I rx hs pl pu q
  rcases q with q | q
  · exact h pins s σ H x v vl vu lo hi sl Q I rx hs pl pu q
  · exact h' pins s σ H x v vl vu lo hi sl Q I rx hs pl pu q
def tSl (r : V -> Option Int -> Option Int -> Hp -> VK -> Prop)(te : TE)(tl th : TO) : TE := fun σ H Q => te σ H fun x H1 => tl σ H1 fun l H2 => th σ H2 fun u H3 => r x l u H3 Q
theorem pe_slice {r : V -> Option Int -> Option Int -> Hp -> VK -> Prop}(hr : SlR X r)(he : PE X e te)(hl : PO X lo tl)(hu : PO X hi th) : PE X (.Subscript e (.Slice lo hi none p2) pos) (tSl r te tl th) := by
  intro pins s σ H Q I h
  refine Subscript_ (thn (he pins s σ H _ I h) fun v s1 ⟨x,H1,I1,r1,q1⟩ => ?_)
  refine wpAny_Slice (thn (hl pins s1 σ H1 _ I1 q1) fun vl s2 ⟨l,H2,I2,pl,q2⟩ => thn (hu pins s2 σ H2 _ I2 q2) fun vu s3 ⟨u,H3,I3,pu,q3⟩ => ?_)
  rw [evalPart_none]
  refine wpAny_pure ?_
  have I4 : Inv X pins σ H3 { s3 with heap := s3.heap.push { cls := .type "slice",data := .fields #[vl,vu,.none] } } := I3.kept (t' := s3.toks) fun b ob q => Heap.get?_push_of_some _ q
  obtain ⟨T,id,hT,ht,hg⟩ := hr pins { s3 with heap := s3.heap.push { cls := .type "slice",data := .fields #[vl,vu,.none] } } σ H3 x v vl vu l u s3.heap.objs.size Q I4 r1 (Heap.IsSliceOf.new ..) pl pu q3
  show wpAny (model X.prog X.w) X.A (subscriptTail e (.Slice lo hi none p2) v (.ref s3.heap.objs.size)) (EP X pins σ Q) X.xe { s3 with heap := s3.heap.push { cls := .type "slice",data := .fields #[vl,vu,.none] } }
  exact tail_any (ops := [.ref s3.heap.objs.size,v]) ht hT hg (by with_unfolding_all rfl)
def cutV (xs : List V)(lo hi : Option Int) : List V := (xs.drop (HT.sIx xs.length 0 lo)).take (HT.sIx xs.length xs.length hi - HT.sIx xs.length 0 lo)
theorem cutV_length (xs : List V)(lo hi : Option Int) : (cutV xs lo hi).length <= xs.length := by
  unfold cutV
  rw [List.length_take,List.length_drop]
  omega
def rSlT (K : PySem.W.Frag) : V -> Option Int -> Option Int -> Hp -> VK -> Prop := fun x lo hi H Q => ∃ a xs,x = .ref a /\ SqT K H a xs /\
  ¬ (HT.sIx xs.length 0 lo = 0 /\ HT.sIx xs.length xs.length hi = xs.length) /\ ∀ p,H p = none -> Q (.ref p) (upd H p (.tup (cutV xs lo hi)))
theorem sl_tup : SlR X (rSlT X.K) := by
  intro pins s σ H x v vl vu lo hi sl Q I rx hs pl pu h
  obtain ⟨a,xs,rfl,hx,hw,q⟩ := h
  cases rx
  obtain ⟨its,r,ht,hz⟩ := I.tuple hx
  have hlen : its.toArray.size = xs.length := by rw [List.size_toArray]; exact r.length.symm
  refine ⟨"tuple",_,PyProof.Rows.slot_tuple_getitem.lookup,ht.typeIs,?_⟩
  refine HT.getItem_tuple_cut ht hs pl pu (by rw [hlen]; exact hw) ?_ (by rw [hlen]; exact hz)
  rw [hlen]
  refine ⟨.ref s.heap.objs.size,_,I.laid (t' := s.toks) (o := .tup (cutV xs lo hi)) (fun b ob q => Heap.get?_push_of_some _ q) (Nat.le_refl _) ?_,rfl,q _ (I.hok.fresh (Nat.le_refl _))⟩
  exact ⟨Nat.le_trans (cutV_length xs lo hi) hz,_,(r.drop (HT.sIx xs.length 0 lo)).take (HT.sIx xs.length xs.length hi - HT.sIx xs.length 0 lo),IsTup.new _ _⟩
end
end L2
namespace L2
open PySem PySem.Spec PyProof.Rows
def ixN (n : Nat)(i : Int) : Option Nat := if 0 <= i then (if i < n then some i.toNat else none) else if -(n : Int) <= i then some (i + n).toNat else none
def atI {α : Type}(xs : List α)(i : Int) : Option α := (ixN xs.length i).bind fun j => xs[j]?
theorem ixN_seq {n : Nat}{i : Int}{j : Nat}(h : ixN n i = some j) : seqIndex? i n = some j /\ j < n /\ -(n : Int) <= i /\ i < n := by
  unfold ixN at h
  by_cases h0 : 0 <= i
  · rw [if_pos h0] at h
    by_cases h1 : i < n
    · rw [if_pos h1] at h
      have e : i.toNat = j := Option.some.inj h
      exact ⟨by rw [seqIndex_of h0 h1,e],by omega,by omega,h1⟩
    · rw [if_neg h1] at h; cases h
  · rw [if_neg h0] at h
    by_cases h1 : -(n : Int) <= i
    · rw [if_pos h1] at h
      have e : (i + n).toNat = j := Option.some.inj h
      exact ⟨by rw [seqIndex_neg (by omega) h1,e],by omega,h1,by omega⟩
    · rw [if_neg h1] at h; cases h
theorem atI_get {α : Type}{xs : List α}{i : Int}{v : α}(h : atI xs i = some v) : ∃ j,seqIndex? i xs.length = some j /\ xs[j]? = some v /\ j < xs.length /\ -(xs.length : Int) <= i /\ i < xs.length := by
  unfold atI at h
  cases e : ixN xs.length i with
  | none => rw [e] at h; cases h
  | some j =>
    rw [e] at h
    obtain ⟨h1,h2,h3,h4⟩ := ixN_seq e
    exact ⟨j,h1,h,h2,h3,h4⟩
theorem atI_nat {α : Type}{xs : List α}{j : Nat}{v : α}(h : xs[j]? = some v) : atI xs (j : Int) = some v := by
  have hj : j < xs.length := (List.getElem?_eq_some_iff.mp h).1
  have e : ixN xs.length (j : Int) = some j := by
    unfold ixN
    rw [if_pos (by omega),if_pos (by omega)]; simp
  unfold atI; rw [e]; exact h
def PlainIx (b : Expr) : Prop := ∀ o i,subscripted b false o i = operate [o,i] (getItem o i)
def IxR (X : Cx)(r : R2) : Prop :=
  ∀ (value slice : Expr) (pins : List (Addr × Obj)) (s : Shared) (σ : St) (H : Hp) (x y : V) (v u : Value) (Q : VK),Inv X pins σ H s -> RelV x v -> RelV y u -> r x y H Q ->
    subscripted slice false v u = operate [v,u] (getItem v u) -> wpAny (model X.prog X.w) X.A (subscriptTail value slice v u) (EP X pins σ Q) X.xe s
def MtR (X : Cx)(id : String)(r : V -> List V -> Hp -> VK -> Prop) : Prop :=
  ∀ (pins : List (Addr × Obj)) (s : Shared) (σ : St) (H : Hp) (x : V) (xs : List V) (v : Value) (us : List Value) (Q : VK),Inv X pins σ H s -> RelV x v -> Vals xs us -> r x xs H Q ->
    wpAny (model X.prog X.w) X.A (call (.builtin id) (v :: us)) (EP X pins σ Q) X.xe s
section
variable {X : Cx}{a b : Expr}{ta tb : TE}{pos : Pos}
theorem IxR.or {r r' : R2}(h : IxR X r)(h' : IxR X r') : IxR X (fun x y H Q => r x y H Q \/ r' x y H Q) := by
  intro value slice pins s σ H x y v u Q I rx ry q hs
  rcases q with q | q
  · exact h value slice pins s σ H x y v u Q I rx ry q hs
  · exact h' value slice pins s σ H x y v u Q I rx ry q hs
theorem pe_ix {r : R2}(hr : IxR X r)(ha : PE X a ta)(hb : PE X b tb)(hs : PlainIx b) : PE X (.Subscript a b pos) (tOp r ta tb) := by
  intro pins s σ H Q I h
  exact Subscript_ (binT ha hb I h fun v u s2 x y H2 I2 rx ry q => hr a b pins s2 σ H2 x y v u Q I2 rx ry q (hs _ _))
def rIxL (K : PySem.W.Frag) : R2 := fun x y H Q => ∃ p xs i v,x = .ref p /\ y = .int i /\ SqL K H p xs /\ atI xs i = some v /\ Q v H
def rIxT (K : PySem.W.Frag) : R2 := fun x y H Q => ∃ p xs i v,x = .ref p /\ y = .int i /\ SqT K H p xs /\ atI xs i = some v /\ Q v H
theorem ix_list : IxR X (rIxL X.K) := by
  intro value slice pins s σ H x y v u Q I rx ry h hs
  obtain ⟨p,xs,i,z,rfl,rfl,hq,he,q⟩ := h
  cases rx
  obtain ⟨t,rfl⟩ := ry
  obtain ⟨its,r,pl,hz⟩ := I.list hq
  obtain ⟨j,h1,h2,h3,h4,h5⟩ := atI_get he
  obtain ⟨w,ew,rw'⟩ := r.get h2
  have hl := r.length
  have hn := line63
  have fin : EP X pins σ Q w s := ⟨z,H,I,rw',q⟩
  by_cases h0 : 0 <= i
  · have hj : i.toNat = j := by
      rw [seqIndex_of h0 h5] at h1
      exact Option.some.inj h1
    exact item_listR pl.isList h0 (by omega) (by rw [hj]; simpa using ew) fin hs
  · have hj : (i + (its.toArray.size : Int)).toNat = j := by
      rw [seqIndex_neg (by omega) h4] at h1
      rw [List.size_toArray,<- hl]
      exact Option.some.inj h1
    exact subscriptTail_builtinR (x := w) pl.isList.typeIs slot_list_getitem.lookup
      (wpAny_getItem_list_neg (Q := fun r s' => r = w /\ EP X pins σ Q r s') pl.isList (by omega) (by rw [List.size_toArray] <;> omega) (by omega) (by rw [hj]; simpa using ew) ⟨rfl,fin⟩) hs
theorem ix_tup : IxR X (rIxT X.K) := by
  intro value slice pins s σ H x y v u Q I rx ry h hs
  obtain ⟨p,xs,i,z,rfl,rfl,hq,he,q⟩ := h
  cases rx
  obtain ⟨t,rfl⟩ := ry
  obtain ⟨its,r,pl,hz⟩ := I.tuple hq
  obtain ⟨j,h1,h2,h3,h4,h5⟩ := atI_get he
  obtain ⟨w,ew,rw'⟩ := r.get h2
  have hl := r.length
  have hn := line63
  have fin : EP X pins σ Q w s := ⟨z,H,I,rw',q⟩
  exact subscriptTail_builtinR (x := w) pl.typeIs slot_tuple_getitem.lookup
    (getItem_tuple (j := j) (Q := fun r s' => r = w /\ EP X pins σ Q r s') pl (by omega) (by omega) (by rw [List.size_toArray,<- hl]; exact h1) (by simpa using ew) ⟨rfl,fin⟩) hs
theorem mapSeq_set (its : List Value)(n j : Nat)(u : Value) : Obj.mapSeq (·.setIfInBounds j u) { cls := .type "list",data := .seq its.toArray n } = { cls := .type "list",data := .seq (its.set j u).toArray n } := by
  simp [Obj.mapSeq]
theorem Inv.lst {pins : List (Addr × Obj)}{σ : St}{H : Hp}{s : Shared}{p : Addr}{xs : List V}(I : Inv X pins σ H s)(h : H p = some (.lst xs)) :
    ∃ (its : List Value) (n : Nat),Vals xs its /\ s.heap.get? p = some { cls := .type "list",data := .seq its.toArray n } /\ xs.length <= sizeLine := by
  obtain ⟨z,its,n,r,e⟩ := I.hok p _ h
  exact ⟨its,n,r,e,z⟩
theorem Inv.lstUpd {pins : List (Addr × Obj)}{σ : St}{H : Hp}{s : Shared}{p : Addr}{xs ys : List V}{its its' : List Value}{n n' : Nat}{f : Obj -> Obj}(I : Inv X pins σ H s)(h : H p = some (.lst xs))
    (ho : s.heap.get? p = some { cls := .type "list",data := .seq its.toArray n }) (hf : f { cls := .type "list",data := .seq its.toArray n } = { cls := .type "list",data := .seq its'.toArray n' }) (r : Vals ys its') (hz : ys.length <= sizeLine) (t : Nat) :
    Inv X pins σ (upd H p (.lst ys)) { s with heap := s.heap.update p f,toks := t } := by
  have e : (s.heap.update p f).get? p = some { cls := .type "list",data := .seq its'.toArray n' } := by
    rw [Heap.get?_update_self f ho (by rw [hf] <;> rfl),hf]
  refine I.write (x := p) (e := p) (by rw [h]; trivial) (.inl rfl) (fun b u hb q => (Heap.get?_update_other _ _ (Ne.symm hb)).trans q) ⟨_,e⟩ ?_
  exact ⟨hz,its',n',r,e⟩
def rSetL : V -> V -> V -> Hp -> (Hp -> Prop) -> Prop := fun o i v H Q => ∃ p xs k j,o = .ref p /\ i = .int k /\ H p = some (.lst xs) /\ ixN xs.length k = some j /\ Q (upd H p (.lst (xs.set j v)))
theorem set_list : PSet X rSetL := by
  intro pins s σ H o i v ov iv u Q I ro ri rv h
  obtain ⟨p,xs,k,j,rfl,rfl,hp,hj,q⟩ := h
  cases ro
  obtain ⟨t,rfl⟩ := ri
  obtain ⟨its,n,r,ho,hz⟩ := I.lst hp
  obtain ⟨h1,h2,h3,h4⟩ := ixN_seq hj
  have hl := r.length
  have hn := line63
  have I' : Inv X pins σ (upd H p (.lst (xs.set j v))) { s with heap := s.heap.update p (Obj.mapSeq (·.setIfInBounds j u)) } :=
    I.lstUpd hp ho (mapSeq_set its n j u) (r.set rv j) (by rw [List.length_set]; exact hz) s.toks
  by_cases h0 : 0 <= k
  · have hk : k.toNat = j := by
      rw [seqIndex_of h0 h4] at h1
      exact Option.some.inj h1
    exact PySem.W.ki_setAt ho h0 (by omega) (by rw [List.size_toArray,<- hl]; exact h4) (by rw [hk]; exact ⟨_,I',q⟩)
  · have hk : (k + (its.toArray.size : Int)).toNat = j := by
      rw [seqIndex_neg (by omega) h3] at h1
      rw [List.size_toArray,<- hl]
      exact Option.some.inj h1
    exact PySem.W.ki_setBack ho (by omega) (by rw [List.size_toArray,<- hl]; exact h3) (by omega) (by rw [hk]; exact ⟨_,I',q⟩)
theorem slice_bounds (lo hi : Option Int)(n : Nat) : (sliceBounds lo hi none n).1 = ((HT.sIx n 0 lo : Nat) : Int) /\ (sliceBounds lo hi none n).2.1 = ((HT.sIx n n hi : Nat) : Int) /\ (sliceBounds lo hi none n).2.2 = 1 := by
  refine ⟨?_,?_,rfl⟩
  · cases lo with
    | none => simp [sliceBounds,HT.sIx]
    | some i =>
      simp only [sliceBounds,HT.sIx,Option.getD_none,show (1 : Int) > 0 by decide,if_true]
      by_cases h : i < 0
      · simp only [h,if_true] <;> omega
      · simp only [h,if_false] <;> omega
  · cases hi with
    | none => simp [sliceBounds,HT.sIx]
    | some i =>
      simp only [sliceBounds,HT.sIx,Option.getD_none,show (1 : Int) > 0 by decide,if_true]
      by_cases h : i < 0
      · simp only [h,if_true] <;> omega
      · simp only [h,if_false] <;> omega
theorem slicePick_cut (its : List Value)(lo hi : Option Int) : slicePick its.toArray lo hi none = ((its.drop (HT.sIx its.length 0 lo)).take (HT.sIx its.length its.length hi - HT.sIx its.length 0 lo)).toArray := by
  obtain ⟨h1,h2,h3⟩ := slice_bounds lo hi its.toArray.size
  unfold slicePick
  rw [h1,h2,h3]
  simp only [sliceRange_one,pick_run,List.size_toArray] <;> rfl
def rSlL (K : PySem.W.Frag) : V -> Option Int -> Option Int -> Hp -> VK -> Prop := fun x lo hi H Q => ∃ a xs,x = .ref a /\ SqL K H a xs /\ ∀ p,H p = none -> Q (.ref p) (upd H p (.lst (cutV xs lo hi)))
theorem sl_list : SlR X (rSlL X.K) := by
  intro pins s σ H x v vl vu lo hi sl Q I rx hs pl pu h
  obtain ⟨a,xs,rfl,hx,q⟩ := h
  cases rx
  obtain ⟨its,r,ht,hz⟩ := I.list hx
  have hlen := r.length
  refine ⟨"list",_,slot_list_getitem.lookup,ht.isList.typeIs,?_⟩
  refine wpAny_getItem_list_slice ht.isList hs pl pu .none (by simp) ?_ (by rw [List.size_toArray] <;> omega)
  rw [slicePick_cut,<- hlen]
  refine ⟨.ref s.heap.objs.size,_,I.laid (t' := s.toks) (o := .lst (cutV xs lo hi)) (fun b ob q => Heap.get?_push_of_some _ q) (Nat.le_refl _) ?_,rfl,q _ (I.hok.fresh (Nat.le_refl _))⟩
  exact ⟨Nat.le_trans (cutV_length xs lo hi) hz,_,0,(r.drop (HT.sIx xs.length 0 lo)).take (HT.sIx xs.length xs.length hi - HT.sIx xs.length 0 lo),Heap.get?_push_size _ rfl⟩
theorem call_len_seq : CallR X (.builtin "len") (fun xs H Q => ∃ p ys,xs = [.ref p] /\ (SqL X.K H p ys \/ SqT X.K H p ys) /\ Q (.int ys.length) H) := by
  intro pins s σ H xs us Q I r h
  obtain ⟨p,ys,rfl,hq,q⟩ := h
  obtain ⟨u,rfl,rx⟩ := vals1 r
  cases rx
  have hn := line63
  rcases hq with hq | hq
  · obtain ⟨its,r',pl,hz⟩ := I.list hq
    have hlen := r'.length
    exact Calls.call_len_list pl.isList (by simp only [List.size_toArray] <;> omega) ⟨.int ys.length,H,I.tok _,⟨s.toks + 1,by rw [List.size_toArray,hlen]⟩,q⟩
  · obtain ⟨its,r',pl,hz⟩ := I.tuple hq
    have hlen := r'.length
    exact len_tuple pl (by simp only [List.size_toArray] <;> omega) ⟨.int ys.length,H,I.tok _,⟨s.toks + 1,by rw [List.size_toArray,hlen]⟩,q⟩
def tyV (K : PySem.W.Frag)(T : String)(x : V)(H : Hp) : Prop := match x with
  | .str _ => T = "str"
  | .int _ => T = "int"
  | .ref p => (T = "list" /\ ∃ xs,SqL K H p xs) \/ (T = "tuple" /\ ∃ o,K.lookup p = some o /\ o.cls = .type "tuple" /\ o.dict = none) \/
      (T = "dict" /\ ((∃ kvs,H p = some (.dK kvs)) \/ ∃ kvs,H p = some (.dT kvs))) \/ (T = "set" /\ ∃ S n,H p = some (.set S n))
  | _ => False
theorem tyV_is {pins : List (Addr × Obj)}{σ : St}{H : Hp}{s : Shared}{T : String}{x : V}{v : Value}(I : Inv X pins σ H s)(r : RelV x v)(ty : tyV X.K T x H) :
    s.TypeIs v T /\ ∀ a,v = .ref a -> ∃ ob,s.heap.get? a = some ob /\ ob.dict = none := by
  cases x with
  | str z =>
    obtain ⟨t,rfl⟩ := r
    cases (show T = "str" from ty)
    exact ⟨typeIs_str s z t,fun _ e => nomatch e⟩
  | int i =>
    obtain ⟨t,rfl⟩ := r
    cases (show T = "int" from ty)
    exact ⟨typeIs_int s i t,fun _ e => nomatch e⟩
  | ref p =>
    cases r
    rcases ty with ⟨rfl,xs,hq⟩ | ⟨rfl,o,hk,hc,hd⟩ | ⟨rfl,hk⟩ | ⟨rfl,S,n,hk⟩
    · obtain ⟨its,_,pl,_⟩ := I.list hq
      refine ⟨pl.isList.typeIs,fun a e => ?_⟩
      cases e
      obtain ⟨o,n,e,c,hd,_⟩ := pl
      exact ⟨o,e,hd⟩
    · refine ⟨⟨o,I.kIn p o hk,hc⟩,fun a e => ?_⟩
      cases e
      exact ⟨o,I.kIn _ o hk,hd⟩
    · have z : ∃ o,s.heap.get? p = some o /\ o.ExactDict := by
        rcases hk with ⟨kvs,hk⟩ | ⟨kvs,hk⟩
        · obtain ⟨_,_,_,_,o,_,_,e,ex,_⟩ := I.hok p _ hk
          exact ⟨o,e,ex⟩
        · obtain ⟨_,_,_,_,o,_,_,e,ex,_⟩ := I.hok p _ hk
          exact ⟨o,e,ex⟩
      obtain ⟨o,e,ex⟩ := z
      refine ⟨⟨o,e,ex.1⟩,fun a e2 => ?_⟩
      cases e2
      exact ⟨o,e,ex.2.1⟩
    · obtain ⟨o,_,_,_,e,ex,_⟩ := I.hok p _ hk
      refine ⟨⟨o,e,ex.1⟩,fun a e2 => ?_⟩
      cases e2
      exact ⟨o,e,ex.2.1⟩
  | _ => exact False.elim ty
def tBM (K : PySem.W.Frag)(T : String)(r : V -> List V -> Hp -> VK -> Prop)(to : TE)(t : TA) : TE := fun σ H Q => to σ H fun x H1 => tyV K T x H1 /\ t σ H1 fun xs H2 => r x xs H2 Q
variable {o e : Expr}{es : List Expr}{to : TE}{t : TA}{name : Str}{apos cpos : Pos}{T id : String}{r : V -> List V -> Hp -> VK -> Prop}
theorem pe_bm (pa : PlainAttrs T)(slot : Slot T name id)(hty : typeOf (.builtin id) = pure (.type "method_descriptor")) (hm : MtR X id r) (ho : PE X o to) (ha : PA X (e :: es) t)
    (hbase : attributeBase o name X.env (eval o X.env) = eval o X.env := by rfl)
    (hfew : ((backTo cpos (starEach (e :: es) X.env)).all (fun x => !x.1) && (backToKw cpos (keywordEach [] X.env)).all (fun x => x.1.isSome)
      && decide ((e :: es).length + ([] : List Keyword).length + (if ([] : List Keyword).isEmpty then 0 else 1) < 30)) = true := by rfl)
    (hline : (apos.endLine == cpos.line) = true := by rfl) (hs : starEach (e :: es) X.env = (false,eval e X.env) :: starEach es X.env := by rfl) (hplain : (backTo cpos (starEach es X.env)).any (·.1) = false := by rfl) :
    PE X (.Call (.Attribute o name apos) (e :: es) [] cpos) (tBM X.K T r to t) := by
  intro pins s σ H Q I h
  refine wpAny_Call_method_late hbase hfew hline rfl (thn (ho pins s σ H _ I h) fun v s1 ⟨x,H1,I1,r1,ty,q1⟩ => ?_)
  obtain ⟨h1,h2⟩ := tyV_is I1 r1 ty
  refine ⟨T,id,pa,slot,hty,h1,h2,?_⟩
  have hA := ha cpos pins s1 σ H1 _ I1 q1
  rw [hs] at hA ⊢
  refine Calls.callWith_builtin (by show (false || (backTo cpos (starEach es X.env)).any (·.1)) = false; rw [hplain] <;> rfl) (Calls.evalArgs_plain ?_)
  exact thn hA fun us s2 ⟨vs,H2,I2,r2,q2⟩ => hm pins s2 σ H2 x vs v us Q I2 r1 r2 q2
end
end L2
namespace L2
open PySem PySem.Spec PyProof.Rows
def MtM (X : Cx)(id : String)(r : V -> List V -> Hp -> VK -> Prop) : Prop :=
  ∀ (pins : List (Addr × Obj)) (s : Shared) (σ : St) (H : Hp) (x : V) (xs : List V) (v : Value) (us : List Value) (Q : VK),Inv X pins σ H s -> RelV x v -> Vals xs us -> r x xs H Q ->
    wpAny (model X.prog X.w) X.A (call (.builtin id) (v :: us)) (EP X pins σ Q) X.xe s
theorem Vals.one : ∀ {x : V} {us : List Value},Vals [x] us -> ∃ u,us = [u] /\ RelV x u
  | _,_,.cons r .nil => ⟨_,rfl,r⟩
theorem Vals.two : ∀ {x y : V} {us : List Value},Vals [x,y] us -> ∃ u v,us = [u,v] /\ RelV x u /\ RelV y v
  | _,_,_,.cons r (.cons q .nil) => ⟨_,_,rfl,r,q⟩
section
variable {X : Cx}{pins : List (Addr × Obj)}{σ : St}{H : Hp}{s : Shared}{l b : Addr}{xs ys zs : List V}
theorem Inv.lset {its its' : List Value}{n : Nat}{f : Array Value -> Array Value}{t' : Nat}(I : Inv X pins σ H s)(hH : H l = some (.lst xs))
    (e : s.heap.get? l = some { cls := .type "list",data := .seq its.toArray n }) (hf : f its.toArray = its'.toArray) (hv : Vals ys its') (hz : ys.length <= sizeLine) :
    Inv X pins σ (upd H l (.lst ys)) { s with heap := s.heap.update l (Obj.mapSeq f),toks := t' } := by
  have q := PySem.IsL.update e f
  rw [hf] at q
  refine I.write (x := l) (e := l) (by rw [hH]; exact trivial) (.inl rfl) (fun b' u hb hu => (Heap.get?_update_other s.heap (Obj.mapSeq f) (Ne.symm hb)).trans hu) ⟨_,q⟩ ?_
  exact ⟨hz,its',_,hv,q⟩
theorem Inv.lnew {its : List Value}{t' : Nat}(I : Inv X pins σ H s)(hv : Vals ys its)(hz : ys.length <= sizeLine) :
    Inv X pins σ (upd H s.heap.objs.size (.lst ys)) { s with heap := s.heap.push { cls := .type "list",data := .seq its.toArray },toks := t' } :=
  I.laid (fun _ _ q => Heap.get?_push_of_some _ q) (Nat.le_refl _) ⟨hz,its,0,hv,Heap.get?_push_size _ rfl⟩
theorem Inv.fresh (I : Inv X pins σ H s) : H s.heap.objs.size = none := I.hok.fresh (Nat.le_refl _)
theorem Inv.lstM (I : Inv X pins σ H s)(hH : H l = some (.lst xs)) : xs.length <= sizeLine /\ ∃ (its : List Value) (n : Nat),Vals xs its /\ xs.length = its.length /\ s.heap.get? l = some { cls := .type "list",data := .seq its.toArray n } := by
  obtain ⟨z,its,n,r,e⟩ := I.hok l _ hH
  exact ⟨z,its,n,r,r.length,e⟩
end
section
variable {X : Cx}
def rAppend : V -> List V -> Hp -> VK -> Prop := fun x vs H Q => ∃ l xs y,x = .ref l /\ vs = [y] /\ H l = some (.lst xs) /\ xs.length < sizeLine /\ Q .non (upd H l (.lst (xs ++ [y])))
theorem mt_append : MtM X "list.append" rAppend := by
  intro pins s σ H x vs v us Q I rx rv h
  obtain ⟨l,xs,y,rfl,rfl,hH,hz,q⟩ := h
  cases rx
  obtain ⟨u,rfl,ru⟩ := rv.one
  obtain ⟨z,its,n,r,hl,e⟩ := I.lstM hH
  refine call_meets F.slot_list_append ⟨_,e,rfl⟩ F.entry_list_append (F.args_list_append_2 _ _) (PySem.list_append l its.toArray n u (by rw [List.size_toArray]; omega)) ⟨e,?_⟩
  refine ⟨.non,_,I.lset (its' := its ++ [u]) hH e (by simp) (r.append (.cons ru .nil)) ?_,rfl,q⟩
  rw [List.length_append,List.length_singleton]
  omega
def rCat : R2 := fun x y H Q => ∃ l b xs zs,x = .ref l /\ y = .ref b /\ H l = some (.lst xs) /\ H b = some (.lst zs) /\ xs.length + zs.length <= sizeLine /\ ∀ p,H p = none -> Q (.ref p) (upd H p (.lst (xs ++ zs)))
theorem op_cat : OpR X (binaryOp .Add) rCat := by
  intro pins s σ H x y v u Q I rx ry h
  obtain ⟨l,b,xs,zs,rfl,rfl,hH,hB,hz,q⟩ := h
  cases rx
  cases ry
  obtain ⟨z,its,n,r,hl,e⟩ := I.lstM hH
  obtain ⟨z2,its2,n2,r2,hl2,e2⟩ := I.lstM hB
  refine PySem.P.add_list e e2 ?_ (by rw [List.size_toArray,List.size_toArray]; omega)
  have ea : its.toArray ++ its2.toArray = (its ++ its2).toArray := by simp
  rw [ea]
  exact ⟨.ref _,_,I.lnew (t' := s.toks) (r.append r2) (by rw [List.length_append]; omega),rfl,q _ I.fresh⟩
end
section
variable {prog : Program}{w : World}{A : Around}{E : Value -> Shared -> Prop}{s : Shared}
end
section
variable {X : Cx}
end
end L2
namespace Att
open PySem PySem.W PySem.Calls PyProof.Rows
theorem ints_of_wellAll {P : Params}{h : Heap} : ∀ (ns : List Int) (vs : List Value),WellAll P h vs (ns.map WData.int) -> IntsAre vs ns := by
  intro ns
  induction ns with
  | nil =>
    intro vs w
    rw [List.map_nil] at w
    cases w
    exact .nil
  | cons n ns ih =>
    intro vs w
    rw [List.map_cons] at w
    cases w with
    | cons a b =>
      cases a
      exact .cons _ _ (ih _ b)
theorem script_of {l : OpenLaw}{n : Nat}(hn : l.most = some n){P : Params}{h : Heap}{args : List WData}{vals : List Value}
    (hpre : l.row.toRowW.claim.pre args = true) (hwl : WellAll P h vals args) :
    ∃ a vs ns,vals = [Value.ref a] /\ args = [WData.list (ns.map WData.int)] /\ h.get? a = some { cls := .type "list",data := .seq vs.toArray } /\ IntsAre vs ns /\ ns.length <= n := by
  have hsh : WShape.hasAll [] args [.list .int] = true := (pre_splitW hpre).1
  have hc : l.pre.holds [] { args := args } = true := (pre_splitW hpre).2
  obtain ⟨d,r,rfl,h1,h2⟩ := hasAllW_cons hsh
  obtain rfl := hasAllW_nil h2
  obtain ⟨xs,rfl,h3⟩ := hasW_list h1
  obtain ⟨ns,rfl⟩ := items_int h3
  have hlen : ns.length <= n := by
    unfold OpenLaw.pre at hc
    have h4 : (WTm.not (.lt (.lit (.int (n : Int))) (.len (.arg 0)))).holds [] { args := [.list (ns.map .int)] } = true := by
      have h4 := (holds_andW hc).1
      rw [hn] at h4
      exact h4
    have h5 := condW_of h4 (w_not (w_lt w_lit (w_len_list (w_arg rfl))))
    rw [List.length_map] at h5
    refine Nat.le_of_not_lt fun q => ?_
    have q' : (n : Int) < ((ns.length : Nat) : Int) := by omega
    first
      | (rw [decide_eq_true q'] at h5; exact absurd h5 (by decide))
      | (simp at h5; omega)
  cases hwl with
  | cons w1 w2 =>
    cases w2
    cases w1 with
    | list ho hall => exact ⟨_,_,ns,rfl,rfl,ho,ints_of_wellAll ns _ hall,hlen⟩
theorem post_true (l : OpenLaw)(args : List WData) : l.row.toRowW.claim.post args (.bool true) args = true :=
  postW_of (r := l.row.toRowW) (X := (true == true))
    (show WShape.has [] (.bool true) .bool = true by first | rfl | decide | simp [WShape.has,WShape.arms,WShape.armsAll])
    (show (WTm.eq .res (.lit (.bool true))).value [] { args := args,res := some (.bool true),after := args } = some (.bool (true == true)) from w_eq_bool (w_res rfl) w_lit) rfl
theorem attach_call {l : OpenLaw}{n : Nat}{q : Program}{loose : List Str}{XP : (Str -> Option Value) -> Heap -> Prop}{YP : World -> Heap -> Prop}{d : DefRec}
    (hn : l.most = some n) (hdf : d.params.defaults = [])
    (call : ∀ (w : World) (s₀ s₁ : Shared) (mg mb : Str -> Option Value) (fa : Addr) (o : Obj) (pm cd doc : Value) (a : Addr) (vs : List Value) (ns : List Int),
      Ground q loose [] XP w s₀ mg mb s₁.heap -> YP w s₁.heap ->
      s₁.heap.get? fa = some o -> o.data = .func (docDef d.name d.params d.body d.scope pm cd doc) -> s₁.heap.CodeRec cd d.name -> mg d.name = some (.ref fa) ->
      s₁.heap.get? a = some { cls := .type "list",data := .seq vs.toArray } -> IntsAre vs ns -> ns.length <= n -> s₁.gens = #[] ->
      codeAny (model l.prog w) callerA (.call (.ref fa) ⟨[.ref a],[]⟩) (fun r s' => r = .ok (.ret (.bool true)) /\ OldK s₁.heap s'.heap /\ s'.os = s₁.os /\ AllBare s'.gens) s₁) :
    WalkO q loose XP YP l.row.toRowW d [] (fun f vs => PySem.call f vs) := by
  intro w s₀ s₁ mg mb G Y fa o pm cd doc dV kV ho hd hcd hD hmg hg args vals as hpre hlay hrd hwl hlo
  obtain rfl : dV = .none := Dflts.none hD hdf
  obtain rfl : kV = .none := Dflts.noKw hD
  obtain ⟨a,vs,ns,rfl,rfl,hobj,hints,hlen⟩ := script_of hn hpre hwl
  refine enter_call (codeAny_mono (call w s₀ s₁ mg mb fa o pm cd doc a vs ns G Y ho (fd_plain hd) hcd hmg hobj hints hlen hg) fun r s' hq => ?_)
  obtain ⟨rfl,h2,h3,h4⟩ := hq
  exact ⟨.inl ⟨.bool true,.bool true,[],rfl,fun _ => rfl,.bool true,post_true l _,fun _ => ⟨List.Pairwise.nil,fun _ hm => (nomatch hm)⟩⟩,h2,h3,h4⟩
section
variable {prog : Program}{w : World}{A : Around}{E : Value -> Shared -> Prop}{s : Shared}{K : Frag}
def ledger (h : Heap)(L d : Addr) : List (Addr × Obj) := (List.range h.objs.size).filterMap fun a => if a = L \/ a = d then none else (h.get? a).map fun o => (a,o)
end
end Att
namespace L2
open PySem PySem.Spec PyProof.Rows
theorem vals_ints : ∀ {vs : List Value} {ns : List Int},IntsAre vs ns -> Vals (ns.map V.int) vs
  | _,_,.nil => .nil
  | _,_,.cons n t h => .cons ⟨t,rfl⟩ (vals_ints h)
def Only (H : Hp) : Prop := ∀ b,H b = none \/ ∃ o xs,H b = some (.frz o (.lst xs))
theorem law_call {P : Program}{w : World}{K : PySem.W.Frag}{mg mb : Str -> Option Value}{CX : CXT}{k : Nat}{fa a : Addr}{fd : FuncData}{x : Str}{sp : Sp}{s₁ : Shared}{vs : List Value}{ns : List Int}
    (KX : K.In s₁.heap) (hns : s₁.heap.Ns mainGlobals mg) (hb : s₁.heap.Ns builtinsNs mb) (hbb : ∀ x : Str,x ≠ "__name__" -> mb x = bootBuiltins x) (hlim : s₁.heap.NoLimit) (hg : s₁.gens = #[])
    (ha : s₁.heap.get? a = some { cls := .type "list",data := .seq vs.toArray }) (hi : IntsAre vs ns) (hl : ns.length <= sizeLine) (hr : Room k callerA)
    (F : ∀ base : Heap,K.In base -> base.Ns mainGlobals mg -> FnOk P w K mg base CX k fa fd [x] sp) (hbind : ∀ (s : Shared) (u : Value),BindsTo s fd ⟨[u],[]⟩ [(x,u)])
    (hsp : ∀ H : Hp,Only H -> SqL K H a (ns.map V.int) -> sp [.ref a] H (fun v _ => v = .bl true) fun _ _ _ => False)
    (hCX : ∀ H e s',CX [] H s₁ (fun _ _ _ => False) e s' -> False) :
    codeAny (model P w) callerA (.call (.ref fa) ⟨[.ref a],[]⟩) (fun r s' => r = .ok (.ret (.bool true)) /\ OldK s₁.heap s'.heap /\ s'.os = s₁.os /\ AllBare s'.gens) s₁ := by
  have rv := vals_ints hi
  have lenV := hi.length
  have core : ∀ H : Hp,Only H -> SqL K H a (ns.map V.int) -> HOk P w H s₁.heap -> (∀ b,H b ≠ none -> b = a) -> (H a ≠ none -> K.lookup a = none) ->
      codeAny (model P w) callerA (.call (.ref fa) ⟨[.ref a],[]⟩) (fun r s' => r = .ok (.ret (.bool true)) /\ OldK s₁.heap s'.heap /\ s'.os = s₁.os /\ AllBare s'.gens) s₁ := by
    intro H hO hS hok hA hK
    have base_of : ∀ {b : Addr} {o : Obj},s₁.heap.get? b = some o -> H b = none -> (hidT s₁.heap H).get? b = some o := fun e n => hidT_get e n
    have noA : ∀ {b : Addr} {o : Obj} {es : Array DictEntry} {ep : Nat},s₁.heap.get? b = some o -> o.data = .dict es ep -> H b = none := fun {b o es ep} e d => by
      cases q : H b with
      | none => rfl
      | some u =>
        have e' : b = a := hA b (by rw [q]; simp)
        subst e'
        rw [ha] at e; cases e
        have d' : Data.seq vs.toArray _ = Data.dict es ep := d
        cases d'
    have nsK : ∀ {b : Addr} {m : Str -> Option Value},s₁.heap.Ns b m -> (hidT s₁.heap H).Ns b m := fun {b m} ⟨o,es,ep,e,d,r⟩ => ⟨o,es,ep,base_of e (noA e d),d,r⟩
    have hKb : K.In (hidT s₁.heap H) := fun b o e => base_of (KX b o e) (by
      cases q : H b with
      | none => rfl
      | some u =>
        have e' : b = a := hA b (by rw [q]; simp)
        subst e'
        rw [hK (by rw [q]; simp)] at e; cases e)
    have hM : Mod K mg (hidT s₁.heap H) := ⟨hKb,nsK hns,⟨mb,nsK hb,hbb⟩,let ⟨mc,h1,h2⟩ := hlim; ⟨mc,nsK h1,h2⟩⟩
    have e0 : Env0 P w K mg (hidT s₁.heap H) callerA [] s₁ H := ⟨rfl,hM,fun b o e => of_hidT e,Nat.le_of_eq (hidT_size _ _),trivial,fun b hb => absurd (show b ∈ ([] : List Addr) from hb) (by simp),hok,.of_eq hg⟩
    refine codeAny_mono ((F _ hKb (nsK hns)).run callerA [] s₁ H ⟨[.ref a],[]⟩ [.ref a] [.ref a] _ _ hr e0 (hbind s₁ (.ref a)) (.cons rfl .nil) (hsp H hO hS)) fun r s' h => ?_
    cases r with
    | error e => exact (hCX H e s' h).elim
    | ok fl =>
      cases fl with
      | next => exact False.elim h
      | brk => exact False.elim h
      | cont => exact False.elim h
      | ret u =>
        obtain ⟨v,H',os,bare,un,hok',r',q⟩ := h
        have q' : v = .bl true := q
        subst q'
        obtain rfl : u = Value.bool true := r'
        refine ⟨rfl,OldK.of_keep fun b o e => ?_,os,bare⟩
        cases q : H b with
        | none => exact un.keep b o e q (by intro z; exact absurd (show b ∈ ([] : List Addr) from z) (by simp)) (by simp)
        | some u =>
          rcases hO b with z | ⟨ob,xs,z⟩
          · rw [q] at z; cases z
          · have z2 := un.frzs b ob _ z
            obtain ⟨e1,_⟩ := hok b _ z
            obtain ⟨e2,_⟩ := hok' b _ z2
            rw [e] at e1; cases e1
            exact e2
  cases hk : K.lookup a with
  | some o =>
    have e := KX a o hk
    rw [ha] at e
    cases e
    refine core (fun _ => none) (fun _ => .inl rfl) (.inr ⟨_,vs.toArray,_,hk,rfl,rfl,rfl,by rw [List.size_toArray,lenV]; exact hl,by simpa using rv⟩) (fun b u z => by have z' : (none : Option HO) = some u := z; cases z') (fun b z => absurd rfl z) fun z => absurd rfl z
  | none =>
    refine core (fun b => if b = a then some (.frz { cls := .type "list",data := .seq vs.toArray } (.lst (ns.map V.int))) else none) (fun b => ?_) (.inl (.inr ⟨{ cls := .type "list",data := .seq vs.toArray },if_pos rfl⟩)) (fun b u z => ?_) (fun b z => ?_) fun _ => hk
    · by_cases hb : b = a
      · exact .inr ⟨_,_,if_pos hb⟩
      · exact .inl (if_neg hb)
    · by_cases hb : b = a
      · have z' := (if_pos hb).symm.trans z
        cases z'
        subst hb
        exact ⟨ha,by rw [List.length_map]; exact hl,vs,_,rv,ha⟩
      · have z' := (if_neg hb).symm.trans z
        cases z'
    · by_cases hb : b = a
      · exact hb
      · exact absurd (if_neg hb) z
end L2
namespace L2
open PySem PySem.Spec PyProof.Rows
theorem walk_of {l : PySem.W.OpenLaw}{n k : Nat}{q : Program}{loose : List Str}{XP : (Str -> Option Value) -> Heap -> Prop}{YP : World -> Heap -> Prop}{d : DefRec}{K : Params -> PySem.W.Frag}{CX : World -> CXT}{sp : World -> Sp}{x : Str}
    (hn : l.most = some n) (hn2 : n <= sizeLine) (hdf : d.params.defaults = []) (hr : Room k callerA)
    (hY : ∀ (w : World) (h : Heap),YP w h -> (K w.params).In h)
    (F : ∀ (w : World) (mg : Str -> Option Value) (fa : Addr) (h : Heap),(K w.params).In h -> h.Ns mainGlobals mg -> mg d.name = some (.ref fa) ->
      ∃ fd : FuncData,(∀ (s : Shared) (u : Value),BindsTo s fd ⟨[u],[]⟩ [(x,u)]) /\
        ∀ base : Heap,(K w.params).In base -> base.Ns mainGlobals mg -> FnOk l.prog w (K w.params) mg base (CX w) k fa fd [x] (sp w))
    (hsp : ∀ (w : World) (H : Hp) (a : Addr) (ns : List Int),ns.length <= n -> Only H -> SqL (K w.params) H a (ns.map V.int) -> sp w [.ref a] H (fun v _ => v = .bl true) fun _ _ _ => False)
    (hCX : ∀ (w : World) (H : Hp) (s : Shared) (e : Value) (s' : Shared),CX w [] H s (fun _ _ _ => False) e s' -> False) :
    PySem.W.WalkO q loose XP YP l.row.toRowW d [] (fun f vs => PySem.call f vs) := by
  refine Att.attach_call hn hdf fun w s₀ s₁ mg mb fa o pm cd doc a vs ns G Y ho hd hcd hmg hobj hints hlen hg => ?_
  have KX := hY w _ Y
  obtain ⟨fd,hb,hF⟩ := F w mg fa _ KX G.T.g hmg
  exact law_call KX G.T.g G.T.b G.T.builtins G.T.nolimit hg hobj hints (Nat.le_trans hlen hn2) hr hF hb (fun H hO hS => hsp w H a ns hlen hO hS) fun H e s' => hCX w H s₁ e s'
end L2
namespace L2
open PySem PySem.Spec PyProof.Rows
def defArgs (s : Stmt) : Arguments := match s with
  | .FunctionDef _ a _ _ _ _ _ _ _ _ => a
  | _ => { posonlyargs := [],args := [],vararg := none,kwonlyargs := [],kw_defaults := [],kwarg := none,defaults := [] }
def defBody (s : Stmt) : List Stmt := match s with
  | .FunctionDef _ _ b _ _ _ _ _ _ _ => b
  | _ => []
def defScope (s : Stmt) : Scope := match s with
  | .FunctionDef _ _ _ _ _ _ sc _ _ _ => sc
  | _ => { kind := .function,names := [],isGenerator := false,isCoroutine := false }
abbrev CX0 : CXT := fun _ _ _ _ _ _ => False
abbrev E0 : XK := fun _ _ _ => False
theorem pass0 {X : Cx} : Passes CX0 X E0 := fun _ _ _ _ _ _ _ h => h.elim
structure Fun (K : PySem.W.Frag)(x qual : Str)(st : Stmt)(f : Addr)(fd : FuncData) : Prop where
  ex : ∃ (oc : Value) (od : Option Addr) (kV doc pm : Value) (an : Option Addr) (cdv ct : Value) (osl : Array (Option Value)),
    fd = PySem.W.fnOf x qual (defArgs st) (defBody st) (defScope st) .none kV doc pm an cdv ct /\ K.lookup f = some ⟨oc,od,.func fd,osl⟩ /\ PySem.W.codeIn K cdv qual = true
  kp : PySem.W.keepIn K (.ref f) = true
section
variable {P : Program}{w : World}{K : PySem.W.Frag}{mg : Str -> Option Value}{base : Heap}
theorem Fun.ok {x qual : Str}{st : Stmt}{f : Addr}{fd : FuncData}{N ps : List Str}{k : Nat}{sp : Sp}(F : Fun K x qual st f fd)(S : FnScope N ps (defScope st))(len : ∀ vs H Q E,sp vs H Q E -> vs.length = ps.length)
    (hbody : ∀ (cdv : Value) (A : Around) (outer : List Env) (s : Shared) (H : Hp) (vs : List V) (Q : VK) (E : XK),Room k (A.deeper (envOfC qual (defScope st) s.heap.objs.size f cdv)) -> sp vs H Q E ->
      ∃ t,PSs (cxOf CX0 P w K mg base N qual (defScope st) f cdv A outer s H E).nox (defBody st) t /\ t { nx := fun _ H' => Q .non H',rt := Q } (start N vs) H) : FnOk P w K mg base CX0 (k + 1) f fd ps sp := by
  obtain ⟨oc,od,kV,doc,pm,an,cdv,ct,osl,rfl,lk,hcd⟩ := F.ex
  refine fn_of lk hcd S len fun A outer s H vs Q E hr hsp => ?_
  obtain ⟨t,h,q⟩ := hbody cdv A outer s H vs Q E hr hsp
  exact ⟨t,h.nox,q⟩
theorem Fun.binds {x qual : Str}{st : Stmt}{f : Addr}{fd : FuncData}{ps : List Str}(F : Fun K x qual st f fd)
    (h : ∀ (kV doc pm : Value) (an : Option Addr) (cdv ct : Value) (us : List Value),us.length = ps.length -> bindArgs (PySem.W.fnOf x qual (defArgs st) (defBody st) (defScope st) .none kV doc pm an cdv ct) ⟨us,[]⟩ = pure (ps.zip us)) : Binds K fd ps [] := by
  obtain ⟨oc,od,kV,doc,pm,an,cdv,ct,osl,rfl,lk,hcd⟩ := F.ex
  exact .all (h kV doc pm an cdv ct)
theorem fun_mk {x qual : Str}{st : Stmt}{f : Addr}{oc : Value}{od an : Option Addr}{osl : Array (Option Value)}{kV doc pm cdv ct : Value}(l : K.lookup f = some ⟨oc,od,.func (PySem.W.fnOf x qual (defArgs st) (defBody st) (defScope st) .none kV doc pm an cdv ct),osl⟩)
    (c : PySem.W.codeIn K cdv qual = true) (k : PySem.W.keepIn K (.ref f) = true) : Fun K x qual st f (PySem.W.fnOf x qual (defArgs st) (defBody st) (defScope st) .none kV doc pm an cdv ct) := ⟨⟨oc,od,kV,doc,pm,an,cdv,ct,osl,rfl,l,c⟩,k⟩
end
section
variable {X : Cx}
theorem pv (i : Nat) {x : Str} {pos : Pos} (hN : X.N[i]? = some x := by rfl) (hv : Vis X.env.scope x := by first | exact Or.inl rfl | exact Or.inr (Or.inl rfl) | exact Or.inr (Or.inr rfl)) (hd : (x == ("__debug__" : Str)) = false := by decide)
    (hcd : (x == ("__classdict__" : Str)) = false := by decide) : PE X (.Name x pos) (tVar i) := pe_var hN hv hd hcd
end
theorem iteF {A B : Prop}(h : B) : if false = true then A else B := by
  rw [if_neg Bool.false_ne_true]
  exact h
theorem iteT {A B : Prop}(h : A) : if true = true then A else B := by
  rw [if_pos rfl]
  exact h
def Same (H H' : Hp) : Prop := ∀ b o,H b = some o -> H' b = some o
theorem Same.refl (H : Hp) : Same H H := fun _ _ h => h
theorem Same.trans {H H1 H2 : Hp}(a : Same H H1)(b : Same H1 H2) : Same H H2 := fun c o h => b c o (a c o h)
theorem Same.free {H H' : Hp}(e : Same H H'){l : Addr}(h : H' l = Option.none) : H l = Option.none := by
  cases q : H l with
  | none => rfl
  | some o =>
    rw [e l o q] at h
    cases h
end L2
set_option Elab.async false
set_option linter.all false
set_option maxRecDepth 100000
set_option maxHeartbeats 4000000
namespace L2
open PySem PySem.Spec PyProof.Rows
theorem cf_keep {x : Str}{lo : Nat} : ∀ (names : List (Str × NameKind)) (n : Nat) (acc : List (Str × Addr)),lo <= n -> (∀ c,acc.lookup x = some c -> lo <= c) -> ∀ c,(cellsFrom n names acc).lookup x = some c -> lo <= c
  | [],_,_,_,h,c,e => h c e
  | (y,k) :: r,n,acc,hn,h,c,e => by
    unfold cellsFrom at e
    split at e
    · refine cf_keep r (n + 1) ((y,n) :: acc) (by omega) (fun c' e' => ?_) c e
      rw [List.lookup_cons] at e'
      cases hb : x == y with
      | true => rw [hb] at e'; cases e'; exact hn
      | false => rw [hb] at e'; exact h c' e'
    · exact cf_keep r n acc hn h c e
theorem cf_own {x : Str}{lo : Nat} : ∀ (names : List (Str × NameKind)) (n : Nat) (acc : List (Str × Addr)),lo <= n -> (x,NameKind.cell) ∈ names -> ∀ c,(cellsFrom n names acc).lookup x = some c -> lo <= c
  | [],_,_,_,hm,_,_ => by cases hm
  | (y,k) :: r,n,acc,hn,hm,c,e => by
    unfold cellsFrom at e
    split at e
    · rcases List.mem_cons.mp hm with z | z
      · cases z
        refine cf_keep r (n + 1) ((x,n) :: acc) (by omega) (fun c' e' => ?_) c e
        rw [List.lookup_cons,beq_self_eq_true] at e'
        cases e'
        exact hn
      · exact cf_own r (n + 1) ((y,n) :: acc) (by omega) z c e
    · rename_i hk
      rcases List.mem_cons.mp hm with z | z
      · cases z
        exact absurd rfl hk
      · exact cf_own r n acc hn z c e
theorem cf_not {x : Str} : ∀ (names : List (Str × NameKind)) (n : Nat) (acc : List (Str × Addr)),¬ (x,NameKind.cell) ∈ names -> (cellsFrom n names acc).lookup x = acc.lookup x
  | [],_,_,_ => rfl
  | (y,k) :: r,n,acc,hm => by
    unfold cellsFrom
    have hr : ¬ (x,NameKind.cell) ∈ r := fun z => hm (List.mem_cons_of_mem _ z)
    split
    · rename_i hk
      rw [cf_not r (n + 1) _ hr,List.lookup_cons]
      have hxy : (x == y) = false := by
        cases hb : x == y with
        | false => rfl
        | true =>
          have e1 : x = y := beq_iff_eq.mp hb
          have e2 : k = NameKind.cell := beq_iff_eq.mp hk
          subst e1 e2
          exact absurd List.mem_cons_self hm
      rw [hxy]
    · exact cf_not r n acc hr
theorem cf_inj : ∀ (names : List (Str × NameKind)) (n : Nat) (acc : List (Str × Addr)),(∀ x c,acc.lookup x = some c -> c < n) -> (∀ x y c,acc.lookup x = some c -> acc.lookup y = some c -> x = y) ->
    ∀ x y c,(cellsFrom n names acc).lookup x = some c -> (cellsFrom n names acc).lookup y = some c -> x = y
  | [],_,_,_,h,x,y,c,e1,e2 => h x y c e1 e2
  | (z,k) :: r,n,acc,hb,h,x,y,c,e1,e2 => by
    unfold cellsFrom at e1 e2
    split at e1
    · rename_i hk
      rw [if_pos hk] at e2
      refine cf_inj r (n + 1) ((z,n) :: acc) (fun x' c' e' => ?_) (fun x' y' c' e1' e2' => ?_) x y c e1 e2
      · rw [List.lookup_cons] at e'
        cases q : x' == z with
        | true => rw [q] at e'; cases e'; exact Nat.lt_succ_self _
        | false => rw [q] at e'; exact Nat.lt_succ_of_lt (hb x' c' e')
      · rw [List.lookup_cons] at e1' e2'
        cases q1 : x' == z with
        | true =>
          rw [q1] at e1'
          cases e1'
          cases q2 : y' == z with
          | true => rw [beq_iff_eq.mp q1,beq_iff_eq.mp q2]
          | false =>
            rw [q2] at e2'
            exact absurd (hb y' _ e2') (Nat.lt_irrefl _)
        | false =>
          rw [q1] at e1'
          cases q2 : y' == z with
          | true =>
            rw [q2] at e2'
            cases e2'
            exact absurd (hb x' _ e1') (Nat.lt_irrefl _)
          | false =>
            rw [q2] at e2'
            exact h x' y' c' e1' e2'
    · rename_i hk
      rw [if_neg hk] at e2
      exact cf_inj r n acc hb h x y c e1 e2
theorem cf_of : ∀ (names : List (Str × NameKind)) (n : Nat) (acc : List (Str × Addr)) (x : Str) (c : Addr),(cellsFrom n names acc).lookup x = some c -> acc.lookup x = some c \/ n <= c
  | [],_,_,_,_,e => .inl e
  | (z,k) :: r,n,acc,x,c,e => by
    unfold cellsFrom at e
    split at e
    · rcases cf_of r (n + 1) ((z,n) :: acc) x c e with q | q
      · rw [List.lookup_cons] at q
        cases hb : x == z with
        | true => rw [hb] at q; cases q; exact .inr (Nat.le_refl _)
        | false => rw [hb] at q; exact .inl q
      · exact .inr (by omega)
    · exact cf_of r n acc x c e
theorem cf_cell : ∀ (names : List (Str × NameKind)) (h : Heap) (acc : List (Str × Addr)),(∀ x c,acc.lookup x = some c -> ∃ v,h.IsCell c v) ->
    ∀ x c,(cellsFrom h.objs.size names acc).lookup x = some c -> ∃ v,(pushCells h names).IsCell c v
  | [],_,_,hh,x,c,e => hh x c e
  | (z,k) :: r,h,acc,hh,x,c,e => by
    unfold cellsFrom at e
    unfold pushCells
    split at e
    · rename_i hk
      rw [if_pos hk]
      have e' : (cellsFrom (h.push { cls := .type "cell",data := .cell none }).objs.size r ((z,h.objs.size) :: acc)).lookup x = some c := by rw [Heap.size_push]; exact e
      refine cf_cell r _ _ (fun x' c' q => ?_) x c e'
      rw [List.lookup_cons] at q
      cases hb : x' == z with
      | true =>
        rw [hb] at q
        cases q
        exact ⟨none,_,Heap.get?_push_size _ rfl,rfl⟩
      | false =>
        rw [hb] at q
        obtain ⟨v,w⟩ := hh x' c' q
        exact ⟨v,w.keeps fun b o e => Heap.get?_push_of_some _ e⟩
    · rename_i hk
      rw [if_neg hk]
      exact cf_cell r h acc hh x c e
theorem clos_ok {env : Env}(f : Str × NameKind -> List (Str × Addr) -> Sem (ForInStep (List (Str × Addr))))
    (hf : ∀ name kind cs,f (name,kind) cs = if kind == .free then (do let a <- cellOf env name; pure (.yield ((name,a) :: cs))) else pure (.yield cs)) :
    ∀ (names : List (Str × NameKind)) (acc : List (Str × Addr)),(∀ x,(x,NameKind.free) ∈ names -> ∃ c,env.cells.lookup x = some c) -> (∀ x c,acc.lookup x = some c -> env.cells.lookup x = some c) ->
      ∃ cl,forIn names acc f = pure cl /\ (∀ x c,cl.lookup x = some c -> env.cells.lookup x = some c) /\ ∀ x,((acc.lookup x).isSome = true \/ (x,NameKind.free) ∈ names) -> (cl.lookup x).isSome = true
  | [],acc,_,ha => ⟨acc,by rw [List.forIn_nil],ha,fun x h => h.elim id fun z => by cases z⟩
  | (name,kind) :: r,acc,hn,ha => by
    have hr : ∀ x,(x,NameKind.free) ∈ r -> ∃ c,env.cells.lookup x = some c := fun x hx => hn x (List.mem_cons_of_mem _ hx)
    by_cases hk : (kind == NameKind.free) = true
    · have ek : kind = NameKind.free := beq_iff_eq.mp hk
      subst ek
      obtain ⟨c,hc⟩ := hn name List.mem_cons_self
      obtain ⟨cl,e1,e2,e3⟩ := clos_ok f hf r ((name,c) :: acc) hr (fun x c' e => by
        rw [List.lookup_cons] at e
        cases hb : x == name with
        | true => rw [hb] at e; cases e; rw [beq_iff_eq.mp hb]; exact hc
        | false => rw [hb] at e; exact ha x c' e)
      refine ⟨cl,?_,e2,fun x hx => e3 x ?_⟩
      · rw [List.forIn_cons,hf,if_pos hk]
        unfold cellOf
        rw [hc]
        simpa using e1
      · rcases hx with hx | hx
        · left
          rw [List.lookup_cons]
          cases hb : x == name with
          | true => rfl
          | false => exact hx
        · rcases List.mem_cons.mp hx with z | z
          · cases z
            left
            rw [List.lookup_cons,beq_self_eq_true]
            rfl
          · exact .inr z
    · obtain ⟨cl,e1,e2,e3⟩ := clos_ok f hf r acc hr ha
      refine ⟨cl,?_,e2,fun x hx => e3 x ?_⟩
      · rw [List.forIn_cons,hf,if_neg hk]
        simpa using e1
      · rcases hx with hx | hx
        · exact .inl hx
        · rcases List.mem_cons.mp hx with z | z
          · cases z
            exact absurd rfl hk
          · exact .inr z
theorem closureFor_ok {scope : Scope}{env : Env}(hn : ∀ x,(x,NameKind.free) ∈ scope.names -> ∃ c,env.cells.lookup x = some c) :
    ∃ cl,closureFor scope env = pure cl /\ (∀ x c,cl.lookup x = some c -> env.cells.lookup x = some c) /\ ∀ x,(x,NameKind.free) ∈ scope.names -> (cl.lookup x).isSome = true := by
  obtain ⟨cl,e1,e2,e3⟩ := clos_ok (env := env) (fun x cs => match x with
    | (name,kind) => if (kind == NameKind.free) = true then (do let a <- cellOf env name; pure (ForInStep.yield ((name,a) :: cs))) else pure (ForInStep.yield cs)) (fun name kind cs => rfl) scope.names [] hn (fun x c e => by cases e)
  refine ⟨cl,?_,e2,fun x hx => e3 x (.inr hx)⟩
  show (forIn scope.names [] _ >>= fun r => pure r) = _
  refine Eq.trans (congrArg (fun m => m >>= fun r => pure r) e1) ?_
  simp
def tries (ifs : List Expr)(env : Env) : Sem Bool := forIn ifs true fun c r => if r = true then do let ok <- isTrue c env (eval c env); pure (ForInStep.yield ok) else pure (ForInStep.yield r)
theorem compLoop_any {prog : Program}{w : World}{A : Around}{R : Result -> Shared -> Prop}{s : Shared}{elt target iter : Expr}{ifs : List Expr}{scope : Scope}{pos : Pos}{it acc : Value}{env : Env}(J : Nat -> Shared -> Prop)
    (turn : ∀ n s,J n s -> wpAny (model prog w) A (pyNext it) (fun r s₁ => match r with
      | none => R (.ok .next) s₁
      | some v => wpAny (model prog w) A (letOwnedTupleGo target it v) (fun _ s₁' => wpAny (model prog w) A (assign target env v) (fun _ s₂ => wpAny (model prog w) A (tries ifs env) (fun ok s₃ =>
            if ok = true then wpAny (model prog w) A (eval elt env) (fun x s₄ => wpAny (model prog w) A (call (.builtin "list.append") [acc,x]) (fun _ s₅ => ∃ m,m < n /\ J m s₅) (notedBy (model prog w) A env fun e s' => R (.error e) s') s₄)
                (notedBy (model prog w) A env fun e s' => R (.error e) s') s₃
            else ∃ m,m < n /\ J m s₃) (notedBy (model prog w) A env fun e s' => R (.error e) s') s₂) (notedBy (model prog w) A env fun e s' => R (.error e) s') s₁') (notedBy (model prog w) A env fun e s' => R (.error e) s') s₁)
        (notedBy (model prog w) A env fun e s' => R (.error e) s') s) (n : Nat) (h : J n s) :
    codeAny (model prog w) A (.compLoop (.ListComp elt [⟨target,iter,ifs,0⟩] scope pos) 0 it acc env) R s := by
  refine codeAny_loop rfl J (fun n s hJ => ?_) n h
  show wpAny _ _ (Sem.onRaise (compTurn (.ListComp elt [⟨target,iter,ifs,0⟩] scope pos) 0 it acc env) fun x => do noteFrame x env; theTreesLotGoes x) _ _ _
  refine wpAny_noted ?_
  rw [compTurn_list]
  refine wpAny_bind (wpAny_standAt (wpAny_bind (thn (turn n s hJ) fun r s₁ h₁ => ?_)))
  cases r with
  | none => exact wpAny_pure h₁
  | some v =>
    refine wpAny_bind (thn h₁ fun _ s₁' h₁' => wpAny_bind (thn h₁' fun _ s₂ h₂ => wpAny_bind (thn h₂ fun ok s₃ h₃ => ?_)))
    cases ok with
    | true => exact wpAny_bind (wpAny_bind (thn h₃ fun x s₄ h₄ => wpAny_bind (thn h₄ fun _ s₅ h₅ => wpAny_pure (wpAny_pure ⟨rfl,h₅⟩))))
    | false => exact wpAny_pure ⟨rfl,h₃⟩
def CErr (X : Cx)(C : Addr)(e : Value)(s' : Shared) : Prop :=
  ∃ m,s'.heap.Ns C m /\ ∀ h',Heap.SameBut C s'.heap h' -> ∀ cenv : Env,cenv.locals = C -> wpAny (model X.prog X.w) X.A (passOn "comprehension.variables-let-go" e cenv : Sem Value) (fun _ _ => False) X.xe { s' with heap := h' }
def cxComp (X : Cx)(N : List Str)(scope : Scope)(cells : List (Str × Addr))(C : Addr)(fp : List Addr)(s : Shared)(H : Hp) : Cx where
  prog := X.prog
  w := X.w
  K := X.K
  mg := X.mg
  base := X.base
  A := X.A
  N := N
  s₀ := s
  H₀ := H
  env := compEnvC scope cells C X.env
  outer := X.stack
  stack := X.stack
  ex := fp
  fn := fun x => decide (scope.names.lookup x = some NameKind.cell)
  calm := X.calm
  pn := []
  xe := notedBy (model X.prog X.w) X.A (compEnvC scope cells C X.env) (CErr X C)
def capt (σ : St)(map : List (Option Nat)) : St := map.map fun o => o.bind fun i => (σ[i]?).join
def CapOk (X : Cx)(scope : Scope) : List (Option Nat) -> List Str -> Prop
  | [],[] => True
  | none :: m,_ :: n => CapOk X scope m n
  | some i :: m,x :: n => (X.N[i]? = some x /\ scope.names.lookup x = some .free /\ (scope.names.all fun p => !(p.1 == x && p.2 == NameKind.cell)) = true /\ (X.env.kindOf x = some .cell \/ X.env.kindOf x = some .free)) /\ CapOk X scope m n
  | _,_ => False
theorem CapOk.length {X : Cx}{scope : Scope} : ∀ {m : List (Option Nat)} {n : List Str},CapOk X scope m n -> m.length = n.length
  | [],[],_ => rfl
  | none :: m,_ :: n,h => by simp [CapOk.length (m := m) (n := n) h]
  | some i :: m,x :: n,h => by simp [CapOk.length (m := m) (n := n) h.2]
  | [],_ :: _,h => h.elim
  | some _ :: _,[],h => h.elim
  | none :: _,[],h => h.elim
theorem CapOk.get {X : Cx}{scope : Scope} : ∀ {m : List (Option Nat)} {n : List Str} {j i : Nat} {x : Str},CapOk X scope m n -> m[j]? = some (some i) -> n[j]? = some x ->
    X.N[i]? = some x /\ scope.names.lookup x = some .free /\ ¬ (x,NameKind.cell) ∈ scope.names /\ (X.env.kindOf x = some .cell \/ X.env.kindOf x = some .free)
  | [],[],_,_,_,_,e,_ => by simp at e
  | none :: m,_ :: n,0,_,_,_,e,_ => by simp at e
  | none :: m,_ :: n,j + 1,i,x,h,e,e' => CapOk.get (m := m) (n := n) (j := j) h (by simpa using e) (by simpa using e')
  | some k :: m,y :: n,0,i,x,h,e,e' => by
    have e1 : k = i := by simpa using e
    have e2 : y = x := by simpa using e'
    subst e1 e2
    obtain ⟨⟨h1,h2,h3,h4⟩,_⟩ := h
    refine ⟨h1,h2,fun hm => ?_,h4⟩
    have q := List.all_eq_true.mp h3 _ hm
    simp at q
  | some k :: m,y :: n,j + 1,i,x,h,e,e' => CapOk.get (m := m) (n := n) (j := j) h.2 (by simpa using e) (by simpa using e')
  | [],_ :: _,_,_,_,h,_,_ => h.elim
  | some _ :: _,[],_,_,_,h,_,_ => h.elim
  | none :: _,[],_,_,_,h,_,_ => h.elim
def GKeep (g : TG)(map : List (Option Nat)) : Prop := ∀ v σ H Q,g v σ H Q -> g v σ H fun σ' H' => (σ'.length = σ.length /\ ∀ j i : Nat,map[j]? = some (some i) -> σ'[j]? = σ[j]?) /\ Q σ' H'
def PIf (X : Cx)(ifs : List Expr)(t : TT) : Prop :=
  ∀ (pins : List (Addr × Obj)) (s : Shared) (σ : St) (H : Hp) (Q : Bool -> Hp -> Prop),Inv X pins σ H s -> t σ H Q -> wpAny (model X.prog X.w) X.A (tries ifs X.env) (TP X pins σ Q) X.xe s
def tTrue : TT := fun _ H Q => Q true H
theorem pif_nil {X : Cx} : PIf X [] tTrue := fun _ _ _ H _ I h => wpAny_pure ⟨H,I,h⟩
theorem pif_one {X : Cx}{c : Expr}{t : TT}(hc : PT X c t) : PIf X [c] t := fun pins s σ H Q I h => by
  unfold tries
  simp only [List.forIn_cons,List.forIn_nil,if_true]
  exact wpAny_bind (wpAny_bind (thn (hc pins s σ H Q I h) fun b s' hb => wpAny_pure (wpAny_pure hb)))
theorem lookup_relabel {env : Env}{x : Str}{k : NameKind} : ∀ {names : List (Str × NameKind)},
    (names.map fun (p : Str × NameKind) => match p with | (n,k) => if (k == NameKind.free && env.scope.kind == .function && env.kindOf n == some .cell) then (n,NameKind.cell) else (n,k)).lookup x = some k ->
    ∃ k',names.lookup x = some k' /\ (k' = k \/ (k' = .free /\ k = .cell))
  | [],h => by simp at h
  | (n,k') :: r,h => by
    rw [List.map_cons] at h
    by_cases hc : (k' == NameKind.free && env.scope.kind == .function && env.kindOf n == some .cell) = true
    · simp only [if_pos hc,List.lookup_cons] at h
      rw [List.lookup_cons]
      cases hx : x == n with
      | true =>
        rw [hx] at h
        cases h
        refine ⟨k',rfl,.inr ⟨?_,rfl⟩⟩
        simp only [Bool.and_eq_true,beq_iff_eq] at hc
        exact hc.1.1
      | false =>
        rw [hx] at h
        exact lookup_relabel h
    · simp only [if_neg hc,List.lookup_cons] at h
      rw [List.lookup_cons]
      cases hx : x == n with
      | true =>
        rw [hx] at h
        cases h
        exact ⟨_,rfl,.inl rfl⟩
      | false =>
        rw [hx] at h
        exact lookup_relabel h
theorem relabel_free {env : Env}{x : Str} : ∀ {names : List (Str × NameKind)},names.lookup x = some .free ->
    (names.map fun (p : Str × NameKind) => match p with | (n,k) => if (k == NameKind.free && env.scope.kind == .function && env.kindOf n == some .cell) then (n,NameKind.cell) else (n,k)).lookup x = some .cell \/
    (names.map fun (p : Str × NameKind) => match p with | (n,k) => if (k == NameKind.free && env.scope.kind == .function && env.kindOf n == some .cell) then (n,NameKind.cell) else (n,k)).lookup x = some .free
  | [],h => by simp at h
  | (n,k') :: r,h => by
    rw [List.map_cons]
    rw [List.lookup_cons] at h
    by_cases hc : (k' == NameKind.free && env.scope.kind == .function && env.kindOf n == some .cell) = true
    · simp only [if_pos hc,List.lookup_cons]
      cases hx : x == n with
      | true => exact .inl rfl
      | false =>
        rw [hx] at h
        exact relabel_free h
    · simp only [if_neg hc,List.lookup_cons]
      cases hx : x == n with
      | true =>
        rw [hx] at h
        cases h
        exact .inr rfl
      | false =>
        rw [hx] at h
        exact relabel_free h
end L2
set_option Elab.async false
set_option linter.all false
set_option maxRecDepth 100000
set_option maxHeartbeats 4000000
namespace L2
open PySem PySem.Spec PyProof.Rows
section
variable {X : Cx}{elt iter tg : Expr}{ifs : List Expr}{scope : Scope}{pos : Pos}{N' : List Str}{map : List (Option Nat)}{wi : TI}{g : TG}{tt : TT}{te : TE}
def Turns (J : It)(g : TG)(tt : TT)(te : TE)(σc : St)(Fin : List V -> Hp -> Prop)(W : Nat -> Nat -> List V -> Hp -> Prop) : Prop :=
  ∀ i m acc H2,W i m acc H2 -> (J.stop i H2 /\ acc.length <= sizeLine /\ Fin acc H2) \/
    (J.go i H2 /\ acc.length < sizeLine /\ ∃ N : List V -> Hp -> Prop,(∀ acc' H',N acc' H' -> ∃ m',m' < m /\ W (i + 1) m' acc' H') /\ ∀ x H3,J.yld i H2 x H3 -> g x σc H3 fun σ4 H4 => tt σ4 H4 fun b H5 => if b = true then te σ4 H5 fun v H6 => N (acc ++ [v]) H6 else N acc H5)
structure TurnG (R : Cx -> Prop)(P : Program)(w : World)(K : PySem.W.Frag)(tg : Expr)(J : It)(fp : List Addr)(it : Addr)(tn : Nat -> Heap -> Prop) : Prop where
  mem : it ∈ fp
  obj : ∀ i h,tn i h -> ∀ b ∈ fp,∃ o,h.get? b = some o /\ ∀ v,o.data ≠ .cell v
  keep : ∀ i h h',tn i h -> (∀ b ∈ fp,∀ o,h.get? b = some o -> h'.get? b = some o) -> tn i h'
  item : ∀ (X : Cx),X.prog = P -> X.w = w -> X.K = K -> R X -> ∀ (i : Nat) (pins : List (Addr × Obj)) (s : Shared) (σ : St) (H : Hp) (E : Value -> Shared -> Prop),Inv X pins σ H s -> (∀ b ∈ fp,FpOk X pins H b) -> tn i s.heap -> J.go i H -> wpAny (model P w) X.A (pyNext (.ref it)) (fun r s1 => ∃ u,r = some u /\
      wpAny (model P w) X.A (letOwnedTupleGo tg (.ref it) u) (fun _ s2 => ∃ x H',Inv X pins σ H' s2 /\ RelV x u /\ J.yld i H x H' /\ tn (i + 1) s2.heap /\ ∀ b ∈ fp,H' b = none) E s1) E s
  done : ∀ (X : Cx),X.prog = P -> X.w = w -> X.K = K -> R X -> ∀ (i : Nat) (pins : List (Addr × Obj)) (s : Shared) (σ : St) (H : Hp) (E : Value -> Shared -> Prop),Inv X pins σ H s -> (∀ b ∈ fp,FpOk X pins H b) -> tn i s.heap -> J.stop i H -> wpAny (model P w) X.A (pyNext (.ref it)) (fun r s1 => r = none /\ Inv X pins σ H s1) E s
  self : ∀ (A : Around) (i : Nat) (s : Shared) (Q : Value -> Shared -> Prop) (E : Value -> Shared -> Prop),tn i s.heap -> Q (.ref it) s -> wpAny (model P w) A (pyIter (.ref it)) Q E s
theorem Turn.gen {P : Program}{w : World}{K : PySem.W.Frag}{tg : Expr}{J : It}{fp : List Addr}{it : Addr}{tn : Nat -> Heap -> Prop}(T : Turn P w K tg J fp it tn) : TurnG (fun X => X.calm = true) P w K tg J fp it tn := ⟨T.mem,T.obj,T.keep,T.item,T.done,T.self⟩
def CompIn (X : Cx)(C : Addr)(fp : List Addr)(s : Shared)(H : Hp) : Prop := ∃ pins σ,Inv X pins σ H s /\ (∀ b ∈ fp,FpOk X pins H b) /\ s.heap.objs.size <= C
structure BlkM (X : Cx)(N' : List Str)(scope : Scope)(map : List (Option Nat))(tg elt : Expr)(ifs : List Expr)(g : TG)(tt : TT)(te : TE) : Prop where
  kind : scope.kind = .function
  loc : ∀ x ∈ scope.names,x.2 = .local -> scope.names.lookup x.1 = some .local
  free : (scope.names.all fun p => !(p.2 == NameKind.free) || (X.env.kindOf p.1 == some .cell || X.env.kindOf p.1 == some .free)) = true
  cap : CapOk X scope map N'
  keep : GKeep g map
  run : ∀ cells C fp s H,CompIn X C fp s H -> PG (cxComp X N' scope cells C fp s H) tg g /\ PIf (cxComp X N' scope cells C fp s H) ifs tt /\ PE (cxComp X N' scope cells C fp s H) elt te
structure Blk (X : Cx)(N' : List Str)(scope : Scope)(map : List (Option Nat))(tg elt : Expr)(ifs : List Expr)(g : TG)(tt : TT)(te : TE) : Prop where
  calm : X.calm = true
  kind : scope.kind = .function
  loc : ∀ x ∈ scope.names,x.2 = .local -> scope.names.lookup x.1 = some .local
  free : (scope.names.all fun p => !(p.2 == NameKind.free) || (X.env.kindOf p.1 == some .cell || X.env.kindOf p.1 == some .free)) = true
  cap : CapOk X scope map N'
  keep : GKeep g map
  run : ∀ cells C fp s H,CompIn X C fp s H -> PG (cxComp X N' scope cells C fp s H) tg g /\ PIf (cxComp X N' scope cells C fp s H) ifs tt /\ PE (cxComp X N' scope cells C fp s H) elt te
theorem Blk.m (B : Blk X N' scope map tg elt ifs g tt te) : BlkM X N' scope map tg elt ifs g tt te := ⟨B.kind,B.loc,B.free,B.cap,B.keep,B.run⟩
theorem blk_inv {pins : List (Addr × Obj)}{σ : St}{H1 : Hp}{s2 : Shared}{cl : List (Str × Addr)}{fp : List Addr}(I : Inv X pins σ H1 s2)(B : BlkM X N' scope map tg elt ifs g tt te)
    (hsub : ∀ x c,cl.lookup x = some c -> X.env.cells.lookup x = some c) (hhas : ∀ x,(x,NameKind.free) ∈ scope.names -> (cl.lookup x).isSome = true)
    (hf : ∀ b ∈ fp,FpOk X pins H1 b) (hfo : ∀ b ∈ fp,∃ o,s2.heap.get? b = some o) (C : Addr) (h3 : Heap) (hC : s2.heap.objs.size <= C) (k3 : ∀ b o,s2.heap.get? b = some o -> h3.get? b = some o) (hCsz : C < h3.objs.size) (hns : h3.Ns C fun _ => none) (tk : Nat) :
    Inv (cxComp X N' scope (cellsFrom h3.objs.size scope.names cl) C fp s2 H1) [] (capt σ map) H1 { s2 with heap := pushCells h3 scope.names,toks := tk } := by
  have kk : ∀ b o,s2.heap.get? b = some o -> (pushCells h3 scope.names).get? b = some o := fun b o e => pushCells_keeps _ _ b o (k3 b o e)
  have fsz : ∀ b ∈ fp,b < s2.heap.objs.size := fun b hb => by obtain ⟨o,e⟩ := hfo b hb; exact Heap.lt_size e
  have clz : ∀ x c,cl.lookup x = some c -> c < s2.heap.objs.size := fun x c e => by
    obtain ⟨v,o,ho,_⟩ := I.cell x c (hsub x c e)
    exact Heap.lt_size ho
  have h3sz : s2.heap.objs.size < h3.objs.size := Nat.lt_of_le_of_lt hC hCsz
  have cof : ∀ x c,(cellsFrom h3.objs.size scope.names cl).lookup x = some c -> X.env.cells.lookup x = some c \/ h3.objs.size <= c := fun x c e => (cf_of _ _ _ x c e).imp (hsub x c) id
  have cnb : ∀ x c,(cellsFrom h3.objs.size scope.names cl).lookup x = some c -> ∀ b ∈ fp,c ≠ b := fun x c e b hb z => by
    rcases cof x c e with q | q
    · exact (hf b hb).2.2.2.2.1 x c q z
    · have h1 := fsz b hb
      rw [<- z] at h1
      exact absurd (Nat.lt_of_lt_of_le (Nat.lt_trans h1 h3sz) q) (Nat.lt_irrefl _)
  have fnf : ∀ b ∈ fp,b ∉ frs X.stack := fun b hb hm => by
    obtain ⟨_,f1,f2,_⟩ := hf b hb
    rcases List.mem_cons.mp (I.stkSub b hm) with z | z
    · exact f1 z
    · exact f2 z
  have cellI : ∀ x c,(cellsFrom h3.objs.size scope.names cl).lookup x = some c -> ∃ v,(pushCells h3 scope.names).IsCell c v := fun x c e =>
    cf_cell scope.names h3 cl (fun x' c' q => by
      obtain ⟨v,w⟩ := I.cell x' c' (hsub x' c' q)
      exact ⟨v,w.keeps k3⟩) x c e
  have hC0 : H1 C = none := I.hok.fresh hC
  have ok : (cxComp X N' scope (cellsFrom h3.objs.size scope.names cl) C fp s2 H1).Ok :=
    { mod := I.ok.mod
      kind := B.kind
      glob := I.ok.glob
      blt := I.ok.blt
      above := hC
      inj := cf_inj scope.names h3.objs.size cl (fun x c e => Nat.lt_trans (clz x c e) h3sz) fun x y c e1 e2 => I.ok.inj x y c (hsub x c e1) (hsub y c e2)
      has := fun x hx => by
        have hx : (relabel scope X.env).names.lookup x = some .cell \/ (relabel scope X.env).names.lookup x = some .free := hx
        have goal : (scope.names.lookup x = some .cell \/ (cl.lookup x).isSome = true) := by
          rcases hx with q | q
          · obtain ⟨k',e1,e2⟩ := lookup_relabel q
            rcases e2 with z | ⟨z,_⟩
            · exact .inl (by rw [e1,z])
            · exact .inr (hhas x (PySem.mem_of_lookup (by rw [e1,z])))
          · obtain ⟨k',e1,e2⟩ := lookup_relabel q
            rcases e2 with z | ⟨z,z'⟩
            · exact .inr (hhas x (PySem.mem_of_lookup (by rw [e1,z])))
            · cases z'
        exact Option.isSome_iff_exists.mp (PySem.W.cellsFrom_some scope.names h3.objs.size cl goal)
      cab := fun x c hx e => Nat.le_of_lt (Nat.lt_of_lt_of_le h3sz (cf_own scope.names h3.objs.size cl (Nat.le_refl _) (PySem.mem_of_lookup (of_decide_eq_true hx)) c e))
      hd := I.ok.hd
      frames := I.ok.frames
      stk := .inl rfl
      exf := fun b hb => ⟨fun z => absurd (fsz b hb) (by rw [z]; exact Nat.not_lt.mpr hC),fun x c e => cnb x c e b hb⟩
      bs := I.bs
      bsz := Nat.le_trans I.ok.bsz I.sz
      noex := fun b o e hb => by
        rcases (hf b hb).2.2.2.1 with z | z
        · exact I.ok.noex b o e z
        · exact absurd (Heap.lt_size (I.ok.bs b o e).1) (Nat.not_lt.mpr z)
      exfs := fnf
      funs := I.stack
      frf := I.stkFree }
  refine ⟨ok,rfl,I.bare,Un.kept kk,⟨fun _ => none,hns.keeps fun b o e => pushCells_keeps _ _ b o e,fun j x v e1 e2 e3 => ?_⟩,cellI,hC0,fun x c e => ?_,fun p hp => absurd (show p ∈ ([] : List (Addr × Obj)) from hp) (by simp),I.hok.kept kk,?_⟩
  · have e2' : (capt σ map)[j]? = some (some v) := e2
    unfold capt at e2'
    rw [List.getElem?_map] at e2'
    cases hm : map[j]? with
    | none => rw [hm] at e2'; cases e2'
    | some o =>
      rw [hm] at e2'
      cases o with
      | none => simp at e2'
      | some i =>
        have e2'' : (σ[i]?).join = some v := by simpa using e2'
        have hσ : σ[i]? = some (some v) := by
          cases q : σ[i]? with
          | none => rw [q] at e2''; cases e2''
          | some o' =>
            rw [q] at e2''
            have : o' = some v := by simpa using e2''
            rw [this]
        obtain ⟨c1,c2,c3,c4⟩ := B.cap.get hm e1
        obtain ⟨m,hn,hl⟩ := I.loc
        have vis : Vis X.env.scope x := by
          rcases c4 with z | z
          · exact .inr (.inl z)
          · exact .inr (.inr z)
        obtain ⟨u,r,l⟩ := hl i x v c1 hσ vis
        refine ⟨u,r,?_⟩
        rcases l with ⟨z,_⟩ | ⟨_,c,ec,hcell⟩
        · rcases c4 with q | q
          · rw [q] at z; cases z
          · rw [q] at z; cases z
        · right
          refine ⟨relabel_free c2,c,?_,hcell.keeps kk⟩
          show (cellsFrom h3.objs.size scope.names cl).lookup x = some c
          rw [cf_not _ _ _ c3]
          obtain ⟨c',hc'⟩ := Option.isSome_iff_exists.mp (hhas x (PySem.mem_of_lookup c2))
          have := hsub x c' hc'
          rw [ec] at this
          cases this
          exact hc'
  · rcases cof x c e with q | q
    · exact I.freeC x c q
    · exact I.hok.fresh (Nat.le_trans (Nat.le_of_lt h3sz) q)
  · show (capt σ map).length = N'.length
    unfold capt
    rw [List.length_map]
    exact B.cap.length
theorem blk_run {pins : List (Addr × Obj)}{σ : St}{H1 : Hp}{s2 : Shared}{cl : List (Str × Addr)}{fp : List Addr}{it : Addr}{tn : Nat -> Heap -> Prop}{J : It}{E : Value -> Shared -> Prop}(I : Inv X pins σ H1 s2)(B : BlkM X N' scope map tg elt ifs g tt te)
    (hsub : ∀ x c,cl.lookup x = some c -> X.env.cells.lookup x = some c) (hhas : ∀ x,(x,NameKind.free) ∈ scope.names -> (cl.lookup x).isSome = true)
    {R : Cx -> Prop} (hR : ∀ cells C fp s H,R (cxComp X N' scope cells C fp s H)) (T : TurnG R X.prog X.w X.K tg J fp it tn) (st : tn 0 s2.heap) (hf : ∀ b ∈ fp,FpOk X pins H1 b) {Fin : List V -> Hp -> Prop} {W : Nat -> Nat -> List V -> Hp -> Prop} {m0 : Nat} (w0 : W 0 m0 [] H1) (ht : Turns J g tt te (capt σ map) Fin W)
    {RR : Value -> Addr -> Result -> Shared -> Prop}
    (hOk : ∀ D C acc H' s' m,Inv X pins σ (upd H' D (.lst acc)) s' -> H' D = none -> s'.heap.Ns C m -> upd H' D (.lst acc) C = none -> C ≠ X.env.locals -> X.s₀.heap.objs.size <= C -> (∀ x c,X.env.cells.lookup x = some c -> c ≠ C) -> (∀ p ∈ X.pn ++ pins,p.1 ≠ C) -> Fin acc H' -> RR (.ref D) C (.ok .next) s')
    (hErr : ∀ D C e s',CErr X C e s' -> RR (.ref D) C (.error e) s') :
    wpAny (model X.prog X.w) X.A (newList []) (fun acc s3 => wpAny (model X.prog X.w) X.A (newFunctionEnv scope X.env.globals cl [] X.env.qual none .none (some X.env)) (fun cenv s4 =>
      codeAny (model X.prog X.w) X.A (.compStart (.ListComp elt [⟨tg,iter,ifs,0⟩] scope pos) 0 (.ref it) acc { cenv with scope := relabel scope X.env }) (RR acc cenv.locals) s4) E s3) E s2 := by
  have fo : ∀ b ∈ fp,∃ o,s2.heap.get? b = some o := fun b hb => by obtain ⟨o,e,_⟩ := T.obj 0 _ st b hb; exact ⟨o,e⟩
  refine wpAny_newObj_type ?_
  generalize hH2 : s2.heap.push { cls := .type "list",dict := none,data := .seq ([] : List Value).toArray } = H2
  have szD : H2.objs.size = s2.heap.objs.size + 1 := by rw [<- hH2,Heap.size_push]
  have kD : ∀ b o,s2.heap.get? b = some o -> H2.get? b = some o := fun b o e => hH2 ▸ Heap.get?_push_of_some _ e
  simp only [newFunctionEnv,Option.isSome_some,if_true]
  refine wpAny_bind (wpAny_alloc ?_)
  refine wpAny_bind (wpAny_layCells _ (fun name kind cells => by cases hkc : kind == NameKind.cell <;> simp [hkc]) _ _ _ _ ?_)
  dsimp only
  generalize hH3 : H2.push { cls := .type "dict",dict := none,data := .dict #[] } = h3
  have sz3 : h3.objs.size = H2.objs.size + 1 := by rw [<- hH3,Heap.size_push]
  have kC : ∀ b o,H2.get? b = some o -> h3.get? b = some o := fun b o e => hH3 ▸ Heap.get?_push_of_some _ e
  have nsC : h3.Ns H2.objs.size fun _ => none := hH3 ▸ Heap.Ns.new H2 (.type "dict")
  refine wpAny_bind (wpAny_pure (wpAny_pure ?_))
  show codeAny _ _ (.compStart (.ListComp elt [⟨tg,iter,ifs,0⟩] scope pos) 0 (.ref it) (.ref s2.heap.objs.size) (compEnvC scope (cellsFrom h3.objs.size scope.names cl) H2.objs.size X.env)) _ _
  generalize hX' : cxComp X N' scope (cellsFrom h3.objs.size scope.names cl) H2.objs.size fp s2 H1 = X'
  have I4 : Inv X' [] (capt σ map) H1 { s2 with heap := pushCells h3 scope.names } := hX' ▸ blk_inv I B hsub hhas hf fo H2.objs.size h3 (by rw [szD]; exact Nat.le_succ _) (fun b o e => kC b o (kD b o e)) (by rw [sz3]; exact Nat.lt_succ_self _) nsC s2.toks
  obtain ⟨pg,pif,pel⟩ := B.run (cellsFrom h3.objs.size scope.names cl) H2.objs.size fp s2 H1 ⟨pins,σ,I,hf,by rw [szD]; exact Nat.le_succ _⟩
  rw [hX'] at pg pif pel
  have eprog : X'.prog = X.prog := by rw [<- hX']; rfl
  have ew : X'.w = X.w := by rw [<- hX']; rfl
  have eK : X'.K = X.K := by rw [<- hX']; rfl
  have eA : X'.A = X.A := by rw [<- hX']; rfl
  have ecalm : R X' := by rw [<- hX']; exact hR _ _ _ _ _
  have eenv : X'.env = compEnvC scope (cellsFrom h3.objs.size scope.names cl) H2.objs.size X.env := by rw [<- hX']; rfl
  have exe : X'.xe = notedBy (model X.prog X.w) X.A (compEnvC scope (cellsFrom h3.objs.size scope.names cl) H2.objs.size X.env) (CErr X H2.objs.size) := by rw [<- hX']; rfl
  have es0 : X'.s₀ = s2 := by rw [<- hX']; rfl
  have eH0 : X'.H₀ = H1 := by rw [<- hX']; rfl
  have eex : X'.ex = fp := by rw [<- hX']; rfl
  have efs : X'.fs = frs X.stack := by rw [<- hX']; rfl
  have epn : X'.pn = [] := by rw [<- hX']; rfl
  have eL : X'.env.locals = H2.objs.size := by rw [eenv]; rfl
  generalize hDd : s2.heap.objs.size = D at *
  have fD : ∀ b ∈ fp,b ≠ D := fun b hb => by obtain ⟨o,e⟩ := fo b hb; exact Nat.ne_of_lt (hDd ▸ Heap.lt_size e)
  have nfsD : D ∉ X'.fs := fun hb => by
    rw [efs] at hb
    have h1 := I.stkSub D hb
    rcases List.mem_cons.mp h1 with z | z
    · have := I.lt; rw [hDd,<- z] at this; exact Nat.lt_irrefl _ this
    · exact I.nofs (by rw [hDd]; exact Nat.le_refl _) z
  have ncD : ∀ x c,X'.env.cells.lookup x = some c -> c ≠ D := fun x c e z => by
    rw [eenv] at e
    rcases cf_of _ _ _ x c e with q | q
    · obtain ⟨v,o,ho,_⟩ := I.cell x c (hsub x c q)
      have := Heap.lt_size ho
      rw [hDd,z] at this
      exact Nat.lt_irrefl _ this
    · rw [z,sz3,szD] at q
      exact absurd (Nat.lt_of_lt_of_le (Nat.lt_succ_of_lt (Nat.lt_succ_self D)) q) (Nat.lt_irrefl _)
  have f4 : ∀ {H' : Hp} {pl : List (Addr × Obj)},(∀ b ∈ fp,H' b = none) -> (∀ p ∈ pl,p.1 = D) -> ∀ b ∈ fp,FpOk X' pl H' b := fun {H' pl} hn hpl b hb => by
    have q := hf b hb
    refine ⟨hn b hb,?_,?_,.inl (by rw [eex]; exact hb),fun x c e => ?_,fun p hp => ?_⟩
    · rw [eL]
      obtain ⟨o,e⟩ := fo b hb
      have := Heap.lt_size e
      rw [hDd] at this
      intro z
      rw [z,szD] at this
      exact absurd (Nat.lt_of_succ_lt this) (Nat.lt_irrefl _)
    · have := I4.ok.exfs b (by rw [eex]; exact hb)
      exact this
    · exact (I4.ok.exf b (by rw [eex]; exact hb)).2 x c e
    · rw [epn] at hp
      have hp : p ∈ pl := by simpa using hp
      rw [hpl p hp]
      exact (fD b hb).symm
  have noCell : ∀ {its : Array Value} {n : Nat} (v : Option Value),({ cls := .type "list",data := .seq its n } : Obj).data ≠ .cell v := fun v z => by cases z
  have hD4 : (pushCells h3 scope.names).get? D = some { cls := .type "list",data := .seq ([] : List Value).toArray 0 } := pushCells_keeps _ _ _ _ (kC _ _ (by rw [<- hH2,<- hDd]; exact Heap.get?_push_size _ rfl))
  have loop : codeAny (model X.prog X.w) X.A (.compLoop (.ListComp elt [⟨tg,iter,ifs,0⟩] scope pos) 0 (.ref it) (.ref D) (compEnvC scope (cellsFrom h3.objs.size scope.names cl) H2.objs.size X.env)) (RR (.ref D) H2.objs.size) { s2 with heap := pushCells h3 scope.names } := by
    refine compLoop_any (fun n s' => ∃ i acc H' its k,Inv X' [] (capt σ map) H' s' /\ tn i s'.heap /\ (∀ b ∈ fp,H' b = none) /\ H' D = none /\ s'.heap.get? D = some { cls := .type "list",data := .seq (List.toArray its) k } /\ Vals acc its /\ W i n acc H') ?_ m0
      ⟨0,[],H1,[],0,I4,T.keep _ _ _ st fun b hb o e => pushCells_keeps _ _ _ _ (kC _ _ (kD _ _ e)),fun b hb => (hf b hb).1,I.hok.fresh (by rw [hDd]; exact Nat.le_refl _),hD4,.nil,w0⟩
    rintro n s5 ⟨i,acc,H5,its,k,I5,st5,fr5,hD5,oD5,rv5,w5⟩
    have pinD : Inv X' [(D,{ cls := .type "list",data := .seq (List.toArray its) k })] (capt σ map) H5 s5 := I5.pins_of fun p hp => by
      have e : p = (D,{ cls := .type "list",data := .seq (List.toArray its) k }) := by simpa using hp
      subst e
      refine ⟨oD5,hD5,?_,nfsD,fun v => noCell v⟩
      rw [eL,szD]
      exact Nat.ne_of_lt (Nat.lt_succ_self _)
    have plD : ∀ p ∈ [(D,({ cls := .type "list",data := .seq (List.toArray its) k } : Obj))],p.1 = D := fun p hp => by
      have e : p = (D,{ cls := .type "list",data := .seq (List.toArray its) k }) := by simpa using hp
      rw [e]
    have err : ∀ e s',X'.xe e s' -> notedBy (model X.prog X.w) X.A (compEnvC scope (cellsFrom h3.objs.size scope.names cl) H2.objs.size X.env) (fun e s' => RR (.ref D) H2.objs.size (.error e) s') e s' := fun e s' he => by
      rw [exe] at he
      exact wpAny_mono he (fun _ s'' q => hErr D _ e s'' q) fun e'' s'' q => hErr D _ e'' s'' q
    rcases ht i n acc H5 w5 with ⟨stop,hsz,fin⟩ | ⟨go,hsz,NN,hNN,step⟩
    · have dn := T.done X' eprog ew eK ecalm i _ s5 (capt σ map) H5 (notedBy (model X.prog X.w) X.A (compEnvC scope (cellsFrom h3.objs.size scope.names cl) H2.objs.size X.env) fun e s' => RR (.ref D) H2.objs.size (.error e) s') pinD (f4 fr5 plD) st5 stop
      rw [eA] at dn
      refine thn dn fun r s6 ⟨hr,I6⟩ => ?_
      subst hr
      obtain ⟨oD6,hD6,_⟩ := I6.pin (D,_) (by rw [epn]; exact List.mem_cons_self)
      obtain ⟨m,nsm,_⟩ := I6.loc
      rw [eL] at nsm
      have un := I6.base
      rw [efs,eex,eH0,es0] at un
      have hok := I6.hok
      rw [eprog,ew] at hok
      have os6 := I6.os
      rw [es0] at os6
      have fC : H5 H2.objs.size = none := by rw [<- eL]; exact I6.free
      have nDC : H2.objs.size ≠ D := by rw [szD]; exact Nat.ne_of_gt (Nat.lt_succ_self _)
      refine hOk D H2.objs.size acc H5 s6 m (I.call' (ch := fp) os6 ?_ ?_ I6.bare fun b hb => ?_) hD5 nsm (by rw [upd_ne nDC]; exact fC) ?_ ?_ ?_ ?_ fin
      · refine ⟨un.keep,un.slot,fun b o e n hx => ?_,un.there,fun b xs e => ?_,fun b o u e => ?_,fun b ps e => ?_⟩
        · rw [upd_ne (Nat.ne_of_lt (hDd ▸ Heap.lt_size e))]
          exact un.free b o e n hx
        · have := un.tups b xs e
          rw [upd_ne (ne_of_none this hD5)]
          exact this
        · have := un.frzs b o u e
          rw [upd_ne (ne_of_none this hD5)]
          exact this
        · obtain ⟨more,this⟩ := un.tbls b ps e
          exact ⟨more,by rw [upd_ne (ne_of_none this hD5)]; exact this⟩
      · intro b o e
        by_cases hb : b = D
        · subst hb
          rw [upd_same] at e
          cases e
          exact ⟨hsz,its,k,rv5,oD6⟩
        · rw [upd_ne hb] at e
          exact (hok b o e).stay (fun _ _ _ q => q) (fun c q => by rw [upd_ne (ne_of_none q hD5)]; exact q) fun c xs q => by rw [upd_ne (ne_of_none q hD5)]; exact q
      · obtain ⟨f0,f1,f2,f3,f4',f5⟩ := hf b hb
        exact ⟨f3,f1,f4',f5⟩
      · have := I.lt
        rw [hDd] at this
        intro z
        rw [<- z,szD] at this
        exact absurd (Nat.lt_of_succ_lt this) (Nat.lt_irrefl _)
      · have := I.sz
        rw [hDd] at this
        omega
      · intro x c e z
        obtain ⟨v,o,ho,_⟩ := I.cell x c e
        have := Heap.lt_size ho
        rw [hDd,z,szD] at this
        exact absurd (Nat.lt_of_succ_lt this) (Nat.lt_irrefl _)
      · intro p hp z
        have := Heap.lt_size (I.pin p hp).1
        rw [hDd,z,szD] at this
        exact absurd (Nat.lt_of_succ_lt this) (Nat.lt_irrefl _)
    · have im := T.item X' eprog ew eK ecalm i _ s5 (capt σ map) H5 (notedBy (model X.prog X.w) X.A (compEnvC scope (cellsFrom h3.objs.size scope.names cl) H2.objs.size X.env) fun e s' => RR (.ref D) H2.objs.size (.error e) s') pinD (f4 fr5 plD) st5 go
      rw [eA] at im
      refine thn im fun r s6 ⟨u,hr,h6⟩ => ?_
      subst hr
      refine thn h6 fun _ s7 ⟨x,H7,I7,r7,y7,st7,fr7⟩ => ?_
      have I7' := I7.pinned (f4 fr7 plD) (T.obj _ _ st7)
      have stp := B.keep _ _ _ _ (step x H7 y7)
      have pgx := pg _ s7 (capt σ map) H7 x u _ I7' r7 stp
      rw [eprog,ew,eA,eenv] at pgx
      refine wpAny_mono pgx (fun _ s8 ⟨σ8,H8,I8,⟨kl,k8⟩,q8⟩ => ?_) err
      have pix := pif _ s8 σ8 H8 _ I8 q8
      rw [eprog,ew,eA,eenv] at pix
      refine wpAny_mono pix (fun b s9 ⟨H9,I9,q9⟩ => ?_) err
      have wk : ∀ {σa : St} {Ha : Hp} {sa : Shared},σa = σ8 -> Inv X' ([(D,({ cls := .type "list",data := .seq (List.toArray its) k } : Obj))] ++ pinsAt fp s7.heap) σa Ha sa ->
          Inv X' [] (capt σ map) Ha sa /\ tn (i + 1) sa.heap /\ (∀ b ∈ fp,Ha b = none) /\ Ha D = none /\ sa.heap.get? D = some { cls := .type "list",data := .seq (List.toArray its) k } := fun {σa Ha sa} ea Ia => by
        subst ea
        refine ⟨(Ia.pins_of (pins' := []) fun p hp => absurd hp (by simp)).weak kl.symm fun j v e => ?_,T.keep _ _ _ st7 fun b hb o e => (Ia.pin (b,o) (List.mem_append_right _ (List.mem_append_right _ (mem_pinsAt hb e)))).1,fun b hb => ?_,?_,?_⟩
        · have e' := e
          unfold capt at e'
          rw [List.getElem?_map] at e'
          cases hm : map[j]? with
          | none => rw [hm] at e'; cases e'
          | some o =>
            rw [hm] at e'
            cases o with
            | none => simp at e'
            | some i' => rw [k8 j i' hm]; exact e
        · obtain ⟨o,e,d⟩ := T.obj _ _ st7 b hb
          exact (Ia.pin (b,o) (List.mem_append_right _ (List.mem_append_right _ (mem_pinsAt hb e)))).2.1
        · exact (Ia.pin (D,_) (List.mem_append_right _ (List.mem_append_left _ List.mem_cons_self))).2.1
        · exact (Ia.pin (D,_) (List.mem_append_right _ (List.mem_append_left _ List.mem_cons_self))).1
      cases b with
      | false =>
        rw [if_neg Bool.false_ne_true] at q9 ⊢
        obtain ⟨m',hm',w9⟩ := hNN _ _ q9
        obtain ⟨a1,a2,a3,a4,a5⟩ := wk rfl I9
        exact ⟨m',hm',i + 1,acc,H9,its,k,a1,a2,a3,a4,a5,rv5,w9⟩
      | true =>
        rw [if_pos rfl] at q9 ⊢
        have pex := pel _ s9 σ8 H9 _ I9 q9
        rw [eprog,ew,eA,eenv] at pex
        refine wpAny_mono pex (fun v s10 ⟨y,H10,I10,r10,q10⟩ => ?_) err
        obtain ⟨m',hm',w10⟩ := hNN _ _ q10
        obtain ⟨a1,a2,a3,a4,a5⟩ := wk rfl I10
        have hl := rv5.length
        refine wpAny_list_append_plain (items := List.toArray its) ⟨k,a5⟩ (fun h11 pl11 sb11 => ?_) (by simp only [List.size_toArray]; omega)
        obtain ⟨k',e11⟩ := pl11
        refine ⟨m',hm',i + 1,acc ++ [y],H10,its ++ [v],k',a1.turned (t' := s10.toks) (it := D) (fun b o hb e => (sb11.2 b hb).trans e) a4 ?_ (.inr (by rw [es0,hDd]; exact Nat.le_refl _)) ncD (fun p hp => absurd hp (by rw [epn]; simp)),T.keep _ _ _ a2 fun b hb o e => (sb11.2 b (fD b hb)).trans e,a3,a4,?_,rv5.append (.cons r10 .nil),w10⟩
        · rw [eL,szD]
          exact Nat.ne_of_lt (Nat.lt_succ_self _)
        · rw [e11,List.push_toArray]
  exact codeAny_compStart_list loop (T.self _ 0 _ _ _ (T.keep _ _ _ st fun b hb o e => pushCells_keeps _ _ _ _ (kC _ _ (kD _ _ e))) loop)
theorem Blk.clos {pins : List (Addr × Obj)}{σ : St}{H : Hp}{s : Shared}(B : Blk X N' scope map tg elt ifs g tt te)(I : Inv X pins σ H s) :
    ∃ cl,closureFor scope X.env = pure cl /\ (∀ x c,cl.lookup x = some c -> X.env.cells.lookup x = some c) /\ ∀ x,(x,NameKind.free) ∈ scope.names -> (cl.lookup x).isSome = true :=
  closureFor_ok fun x hx => I.ok.has x (by
    have q := List.all_eq_true.mp B.free _ hx
    simpa using q)
def tComp (wi : TI)(map : List (Option Nat))(g : TG)(tt : TT)(te : TE) : TE := fun σ H Q => wi σ H fun J H1 => ∃ W : Nat -> Nat -> List V -> Hp -> Prop,(∃ m,W 0 m [] H1) /\
  Turns J g tt te (capt σ map) (fun acc H' => ∀ D,H' D = none -> Q (.ref D) (upd H' D (.lst acc))) W
theorem pe_comp (B : Blk X N' scope map tg elt ifs g tt te)(hi : PI X tg iter wi)(hs : ∀ x,foldedSetIterable iter X.env x = pure x := by intro _; rfl) : PE X (.ListComp elt [⟨tg,iter,ifs,0⟩] scope pos) (tComp wi map g tt te) := by
  intro pins s σ H Q I h
  obtain ⟨cl,hcl,hsub,hhas⟩ := B.clos I
  rw [eval_ListComp]
  refine wpAny_comprehension_free (use := none) rfl hs hcl B.kind B.loc (thn (hi pins s σ H _ I h) fun v s1 h1 => thn h1 fun itv s2 h2 => ?_)
  obtain ⟨it,fp,tn,J,H2,e,I2,T,st2,f2,W,⟨m0,w0⟩,turn⟩ := h2
  subst e
  refine blk_run (RR := fun acc C => compPost (model X.prog X.w) X.A X.xe none (EP X pins σ Q) acc C) I2 B.m hsub hhas (R := fun X => X.calm = true) (fun _ _ _ _ _ => B.calm) T.gen st2 f2 w0 turn (fun D C acc H' s' m I' hD nsm fC c1 c2 c3 c4 fin => ?_) fun D C e s' z => z
  refine ⟨m,nsm,fun h' sb => ⟨.ref D,_,?_,rfl,fin D hD⟩⟩
  exact I'.turned (t' := s'.toks) (fun b o hb e => (sb.2 b hb).trans e) fC c1 (.inr c2) c3 c4
def tSetComp (i : Nat)(wi : TI)(map : List (Option Nat))(g : TG)(tt : TT)(te : TE) : TS := fun D σ H => wi σ H fun J H1 => ∃ W : Nat -> Nat -> List V -> Hp -> Prop,(∃ m,W 0 m [] H1) /\
  Turns J g tt te (capt σ map) (fun acc H' => ∀ d,H' d = none -> D.nx (σ.set i (some (.ref d))) (upd H' d (.lst acc))) W
theorem ps_setComp {i : Nat}{y : Str}{py spos : Pos}(hN : X.N.Nodup)(hiN : X.N[i]? = some y)(hy : Loc X.env.scope y)(B : Blk X N' scope map tg elt ifs g tt te)(hi : PI X tg iter wi)
    (hsw : swapsWith (.ListComp elt [⟨tg,iter,ifs,0⟩] scope pos) (some (.Name y py)) spos.line X.env = pure true := by rfl) (hfn : X.fn y = true \/ X.env.scope.names.lookup y = some .local := by first | exact .inl rfl | exact .inr rfl)
    (hs : ∀ x,foldedSetIterable iter X.env x = pure x := by intro _; rfl) : PS X (.Assign [.Name y py] (.ListComp elt [⟨tg,iter,ifs,0⟩] scope pos) spos) (tSetComp i wi map g tt te) := by
  intro pins s σ H D I h
  obtain ⟨cl,hcl,hsub,hhas⟩ := B.clos I
  rw [exec_Assign_Name_used _ _ _ _ hsw]
  refine wpAny_bind (wpAny_standAt (wpAny_bind ?_))
  show wpAny _ _ (do let _ <- comprehension (.ListComp elt [⟨tg,iter,ifs,0⟩] scope pos) scope X.env _ (newList []) false (eval iter X.env) (some (assign (.Name y py) X.env))) _ _ _
  refine wpAny_bind (thn (wpAny_comprehension_free (use := some (assign (.Name y py) X.env)) (Q := fun _ s' => SP X pins D .next s') rfl hs hcl B.kind B.loc (thn (hi pins s σ H _ I h) fun v s1 h1 => thn h1 fun itv s2 h2 => ?_)) fun _ s' hq => wpAny_pure (wpAny_pure hq))
  obtain ⟨it,fp,tn,J,H2,e,I2,T,st2,f2,W,⟨m0,w0⟩,turn⟩ := h2
  subst e
  refine blk_run (RR := fun acc C => compPost (model X.prog X.w) X.A X.xe (some (assign (.Name y py) X.env)) (fun _ s' => SP X pins D .next s') acc C) I2 B.m hsub hhas (R := fun X => X.calm = true) (fun _ _ _ _ _ => B.calm) T.gen st2 f2 w0 turn (fun d C acc H' s' m I' hD nsm fC c1 c2 c3 c4 fin => ?_) fun D C e s' z => z
  refine wpAny_assign_Name (store_ok2 I' hN hiN hy (v := .ref d) rfl (fun s'' I'' ⟨a,sb,ha⟩ => ?_) hfn)
  have hCa : C ≠ a := by
    rcases ha with z | z
    · rw [z]; exact c1
    · exact (c3 y a z).symm
  refine ⟨m,nsm.sameBut sb hCa,fun h' sb' => ⟨_,_,?_,fin d hD⟩⟩
  exact I''.turned (t' := s''.toks) (fun b o hb e => (sb'.2 b hb).trans e) fC c1 (.inr c2) c3 c4
end
theorem gkeep_name {j : Nat}{map : List (Option Nat)}(h : map[j]? = some none) : GKeep (gName j) map := fun v σ H Q q => by
  refine ⟨⟨by simp,fun j' i hm => ?_⟩,q⟩
  have : j ≠ j' := fun z => by rw [z,hm] at h; cases h
  rw [List.getElem?_set_ne this]
end L2
set_option Elab.async false
set_option linter.all false
set_option maxRecDepth 100000
set_option maxHeartbeats 4000000
namespace L2
open PySem PySem.Spec PyProof.Rows
def Bd (n : Nat)(i : Int) : Prop := i.natAbs < 2 ^ n
theorem Bd.mono {m n : Nat}{i : Int}(h : Bd m i)(k : m <= n) : Bd n i := Nat.lt_of_lt_of_le h (Nat.pow_le_pow_right (by decide) k)
theorem Bd.mul {m n : Nat}{i j : Int}(h : Bd m i)(k : Bd n j) : Bd (m + n) (i * j) := by
  unfold Bd at *
  rw [Int.natAbs_mul,Nat.pow_add]
  exact Nat.mul_lt_mul'' h k
theorem Bd.add {m n : Nat}{i j : Int}(h : Bd m i)(k : Bd n j) : Bd (max m n + 1) (i + j) := by
  have h' : Bd (max m n) i := h.mono (Nat.le_max_left _ _)
  have k' : Bd (max m n) j := k.mono (Nat.le_max_right _ _)
  unfold Bd at *
  rw [Nat.pow_succ]
  have := Int.natAbs_add_le i j
  omega
theorem Bd.neg {m : Nat}{i : Int}(h : Bd m i) : Bd m (-i) := by
  unfold Bd at *
  rw [Int.natAbs_neg]
  exact h
theorem Bd.of {n : Nat}{i : Int}(h1 : -(2 ^ n : Nat) < i)(h2 : i < (2 ^ n : Nat)) : Bd n i := by
  unfold Bd
  omega
theorem Bd.lt {n : Nat}{i : Int}(h : Bd n i) : -((2 ^ n : Nat) : Int) < i /\ i < ((2 ^ n : Nat) : Int) := by
  unfold Bd at h
  omega
theorem Bd.ediv {n : Nat}{i : Int}(h : Bd n i){d : Int}(hd : 0 < d) : Bd n (i / d) := by
  have h1 := h.lt
  have hp : (0 : Int) < ((2 ^ n : Nat) : Int) := by
    have : 0 < 2 ^ n := Nat.pow_pos (by decide)
    omega
  refine Bd.of ?_ ?_
  · by_cases hi : 0 <= i
    · have := Int.ediv_nonneg hi (Int.le_of_lt hd)
      omega
    · have h3 : -((2 ^ n : Nat) : Int) * d <= -((2 ^ n : Nat) : Int) * 1 := by
        rw [Int.neg_mul,Int.neg_mul]
        exact Int.neg_le_neg (Int.mul_le_mul_of_nonneg_left (by omega) (Int.le_of_lt hp))
      have h4 : -((2 ^ n : Nat) : Int) * d <= i - 1 + 1 := by omega
      have h5 : i / d > -((2 ^ n : Nat) : Int) \/ i / d <= -((2 ^ n : Nat) : Int) := by omega
      rcases h5 with q | q
      · exact q
      · have h6 := Int.mul_ediv_add_emod i d
        have h7 := Int.emod_nonneg i (Int.ne_of_gt hd)
        have h8 := Int.emod_lt_of_pos i hd
        have h9 : d * (i / d) <= d * (-((2 ^ n : Nat) : Int)) := Int.mul_le_mul_of_nonneg_left q (Int.le_of_lt hd)
        have h10 : d * (-((2 ^ n : Nat) : Int)) = -((2 ^ n : Nat) : Int) * d := Int.mul_comm _ _
        have h11 : d * ((2 ^ n : Nat) : Int) >= d * 1 + (((2 ^ n : Nat) : Int) - 1) := by
          have : (d - 1) * (((2 ^ n : Nat) : Int) - 1) >= 0 := Int.mul_nonneg (by omega) (by omega)
          rw [Int.sub_mul,Int.mul_sub,Int.mul_sub] at this
          omega
        have h12 : d * (-((2 ^ n : Nat) : Int)) = -(d * ((2 ^ n : Nat) : Int)) := Int.mul_neg _ _
        omega
  · by_cases hi : 0 <= i
    · exact Int.lt_of_le_of_lt (Int.ediv_le_self d hi) h1.2
    · have : i / d < 0 := Int.ediv_neg_of_neg_of_pos (by omega) hd
      omega
theorem bits_of {n : Nat}{i : Int}(h : Bd n i) : Builtin.Int.intBits i <= n := by
  unfold Builtin.Int.intBits
  split
  · exact Nat.zero_le _
  · rename_i hz
    have h0 : i.natAbs ≠ 0 := fun z => hz (by have : i = 0 := Int.natAbs_eq_zero.mp z; simp [this])
    exact (Nat.log2_lt h0).mpr h
def CMulB (i j : Int) : Prop := (∃ m n,Bd m i /\ Bd n j /\ m + n <= 100000000) \/ Bd 64 j
def CDivB (i j : Int) : Prop := 0 < j /\ ∃ n,Bd n j /\ n <= 9000
section
variable {X : Cx}
theorem op_mulB : OpR X (binaryOp .Mult) (rI CMulB fun i j => .int (i * j)) := opI fun i j _ _ _ _ _ hc q => mul_int q (by
  rcases hc with ⟨m,n,h1,h2,h3⟩ | h1
  case inr => exact .of_right (bits_of h1)
  have e1 := bits_of h1
  have e2 := bits_of h2
  unfold IntMulOk
  have e3 : Builtin.Int.intTooBig (Builtin.Int.intBits i + Builtin.Int.intBits j) = false := by
    unfold Builtin.Int.intTooBig
    refine decide_eq_false ?_
    have : bitsLine = 134217728 := by unfold bitsLine; decide
    rw [this]
    omega
  rw [e3]
  simp)
theorem op_fdivB : OpR X (binaryOp .FloorDiv) (rI CDivB fun i j => .int (i / j)) := opI fun i j _ _ _ _ _ hc q => by
  obtain ⟨h1,n,h2,h3⟩ := hc
  refine floordiv_int (by omega) (by rw [Int.fdiv_eq_ediv_of_nonneg i (by omega)]; exact q) (.inl (PyProof.noPylong_of_log2 ?_))
  have h0 : j.natAbs ≠ 0 := by omega
  exact (Nat.log2_lt h0).mpr (h2.mono h3)
end
theorem Same.upd {H : Hp}{p : Addr}{o : HO}(h : H p = none) : Same H (upd H p o) := fun b u e => by rw [upd_ne (ne_of_none e h)]; exact e
def Keep (p : Addr)(H H' : Hp) : Prop := ∀ b o,b ≠ p -> H b = some o -> H' b = some o
theorem Keep.trans {p : Addr}{H H1 H2 : Hp}(a : Keep p H H1)(b : Keep p H1 H2) : Keep p H H2 := fun c o n e => b c o n (a c o n e)
theorem Keep.upd {p : Addr}{H : Hp}{o : HO} : Keep p H (upd H p o) := fun b u n e => by rw [upd_ne n]; exact e
theorem Same.keep {p : Addr}{H H' : Hp}(h : Same H H') : Keep p H H' := fun b o _ e => h b o e
structure Callee (P : Program)(w : World)(K : PySem.W.Frag)(mg : Str -> Option Value)(base : Heap)(CX : CXT)(x : Str)(k : Nat)(ps : List Str)(sp : Sp) : Prop where
  ex : ∃ f fd,FnOk P w K mg base CX k f fd ps sp /\ mg x = some (.ref f) /\ PySem.W.keepIn K (.ref f) = true /\ Binds K fd ps []
section
variable {X : Cx}{CX : CXT}{k : Nat}{ps : List Str}{sp : Sp}{E : XK}{x : Str}{p pos : Pos}{e : Expr}{es : List Expr}{t : TA}
theorem pe_own (G : Callee X.prog X.w X.K X.mg X.base CX0 x k ps sp)(hr : Room k X.A)(hg : Gl X x)(ha : PA X (e :: es) t)(hdb : (x == ("__debug__" : Str)) = false := by decide) (he : starEach (e :: es) X.env = (false,eval e X.env) :: starEach es X.env := by rfl) (hpl : (backTo pos (starEach es X.env)).any (·.1) = false := by rfl) :
    PE X (.Call (.Name x p) (e :: es) [] pos) (tCall sp [] E0 t) := by
  obtain ⟨f,fd,F,hm,hk,hb⟩ := G.ex
  exact pe_call F hr hg hm hk hb .nil pass0 ha hdb he hpl
end
theorem Callee.mk' {P : Program}{w : World}{K : PySem.W.Frag}{mg : Str -> Option Value}{base : Heap}{CX : CXT}{x qual : Str}{st : Stmt}{f : Addr}{fd : FuncData}{k : Nat}{ps : List Str}{sp : Sp}(F : Fun K x qual st f fd)(G : FnOk P w K mg base CX k f fd ps sp)(hm : mg x = some (.ref f))(hb : Binds K fd ps []) :
    Callee P w K mg base CX x k ps sp := ⟨f,fd,G,hm,F.kp,hb⟩
theorem iteB {c : Bool}{A B : Prop}(h1 : c = true -> A)(h2 : c = false -> B) : if c = true then A else B := by
  cases c with
  | true => exact iteT (h1 rfl)
  | false => exact iteF (h2 rfl)
theorem bt_abs : bootBuiltins "abs" = some (.builtin "abs") := by decide +kernel
theorem bt_len : bootBuiltins "len" = some (.builtin "len") := by decide +kernel
theorem bt_sum : bootBuiltins "sum" = some (.builtin "sum") := by decide +kernel
theorem bt_zip : bootBuiltins "zip" = some (.type "zip") := by decide +kernel
theorem Same.get {H H' : Hp}{a : Addr}{o : HO}(S : Same H H')(h : H a = some o) : H' a = some o := S a o h
theorem Keep.get {p : Addr}{H H' : Hp}{a : Addr}{o : HO}(S : Keep p H H')(n : a ≠ p)(h : H a = some o) : H' a = some o := S a o n h
theorem rd_mul {i j : Int}{m n : Nat}{Q : Prop}(h1 : Bd m i)(h2 : Bd n j)(h3 : m + n <= 100000000)(q : Q) : CMulB i j /\ Q := ⟨.inl ⟨m,n,h1,h2,h3⟩,q⟩
theorem Bd.num (i : Int)(h : i.natAbs < 18446744073709551616) : Bd 64 i := h
theorem le1000 : 1000 <= sizeLine := by decide
theorem dec_t {p : Prop}[Decidable p](h : decide p = true) : p := of_decide_eq_true h
theorem dec_f {p : Prop}[Decidable p](h : decide p = false) : ¬ p := of_decide_eq_false h
def Bag (H : Hp)(p : Addr) : Prop := ∃ f m : Int,H p = some (.lst [.int f,.int m]) /\ 0 <= f /\ 0 <= m /\ m < 2147483647
theorem Bag.mk' {H : Hp}{p : Addr}{f m : Int}(h0 : 0 <= f)(h1 : 0 <= m)(h2 : m < 2147483647) : Bag (upd H p (.lst [.int f,.int m])) p := ⟨f,m,upd_same,h0,h1,h2⟩
theorem Bag.ne {H : Hp}{p a : Addr}{xs : List V}(b : Bag H p)(h : H a = some (.tup xs)) : a ≠ p := by
  obtain ⟨f,m,e,_⟩ := b
  exact ne_of h e (by intro z; cases z)
def DigitEnd (p : Addr)(many : Int)(H : Hp)(Q : VK) : Prop := ∀ (r : Int) H',0 <= r -> r < many -> Bag H' p -> Keep p H H' -> Q (.int r) H'
theorem CMulB.right {i j : Int}(h : Bd 64 j) : CMulB i j := .inr h
theorem Keep.tup {p : Addr}{H H' : Hp}{a : Addr}{xs : List V}(S : Keep p H H')(b : Bag H p)(h : H a = some (.tup xs)) : H' a = some (.tup xs) := S a _ (b.ne h) h
theorem gcd_turn {a b : Int}(ha : 0 <= a)(hb : 0 < b) : Int.gcd b (a % b) = Int.gcd a b := by
  rw [Int.gcd_comm a b]
  have e : a % b = a - b * (a / b) := by have := Int.mul_ediv_add_emod a b; omega
  rw [e]
  apply Nat.dvd_antisymm
  · apply Int.dvd_gcd
    · exact Int.gcd_dvd_left ..
    · have h1 : ((Int.gcd b (a - b * (a / b)) : Nat) : Int) ∣ b := Int.gcd_dvd_left ..
      have h2 : ((Int.gcd b (a - b * (a / b)) : Nat) : Int) ∣ a - b * (a / b) := Int.gcd_dvd_right ..
      have h3 := Int.dvd_add h2 (Int.dvd_trans h1 (Int.dvd_mul_right b (a / b)))
      have e3 : a - b * (a / b) + b * (a / b) = a := by omega
      rw [e3] at h3
      exact h3
  · apply Int.dvd_gcd
    · exact Int.gcd_dvd_left ..
    · have h1 : ((Int.gcd b a : Nat) : Int) ∣ b := Int.gcd_dvd_left ..
      have h2 : ((Int.gcd b a : Nat) : Int) ∣ a := Int.gcd_dvd_right ..
      exact Int.dvd_sub h2 (Int.dvd_trans h1 (Int.dvd_mul_right b (a / b)))
end L2
set_option Elab.async false
set_option linter.all false
set_option maxRecDepth 100000
set_option maxHeartbeats 4000000
namespace L2
open PySem PySem.Spec PyProof.Rows
theorem nodupS (l : List Str)(h : l.Nodup) : l.Nodup := h
section
variable {X : Cx}{tg l : Expr}{tl : TE}
theorem ix_tupK (K : PySem.W.Frag)(h : X.K = K) : IxR X (rIxT K) := by subst h; exact ix_tup
theorem ix_listK (K : PySem.W.Frag)(h : X.K = K) : IxR X (rIxL K) := by subst h; exact ix_list
theorem pg_tupK {es : List Expr}{k : Nat}{t : TGs}{n : Nat}{pos : Pos}(K : PySem.W.Frag)(h : X.K = K)(hc : X.calm = true)(hs : PGs X es t)(hn : (assignEach es X.env).length = n := by rfl)(hst : (assignEach es X.env).findIdx? (·.1) = none := by rfl) : PG X (.Tuple es k pos) (gTup K n t) := by subst h; exact pg_tup hc hs hn hst
theorem call_len_seqK (K : PySem.W.Frag)(h : X.K = K) : CallR X (.builtin "len") (fun xs H Q => ∃ p ys,xs = [.ref p] /\ (SqL K H p ys \/ SqT K H p ys) /\ Q (.int ys.length) H) := by subst h; exact call_len_seq
theorem pt_truthK {a : Expr}{ta : TE}(K : PySem.W.Frag)(h : X.K = K)(ha : PE X a ta)(he : ∀ whole,isTrue a X.env whole = (do let v <- whole; standAt a.pos; holding [v] (truthy v))) : PT X a (fun σ H Q => ta σ H fun x H' => ∃ k,TruV K x H' k /\ Q k H') := by subst h; exact pt_truth ha he
end
theorem ints_pairs : ∀ {ns : List Int} {us : List Value},Vals (ns.map V.int) us -> ∃ xs : List (Int × Tok),us = xs.map (fun p => Value.int p.1 p.2) /\ xs.map (·.1) = ns
  | [],us,r => by
    cases r
    exact ⟨[],rfl,rfl⟩
  | n :: ns,us,r => by
    cases r with
    | cons r1 r2 =>
      obtain ⟨t,rfl⟩ := r1
      obtain ⟨xs,e1,e2⟩ := ints_pairs r2
      exact ⟨(n,t) :: xs,by rw [e1]; rfl,by rw [<- e2]; rfl⟩
theorem intItems_toArray (xs : List (Int × Tok)) : intItems xs.toArray = (xs.map fun p => Value.int p.1 p.2).toArray := by simp [intItems]
section
variable {X : Cx}
end
end L2
set_option Elab.async false
set_option linter.all false
set_option maxRecDepth 100000
set_option maxHeartbeats 4000000
namespace L2
open PySem PySem.Spec PyProof.Rows
section
variable {X : Cx}
theorem call_sumL (K : PySem.W.Frag)(hK : X.K = K)(hc : X.calm = true) : CallR X (.builtin "sum") (fun xs H Q => ∃ (p : Addr) (ns : List Int),xs = [.ref p] /\ SqL K H p (ns.map V.int) /\ Q (.int ns.sum) H) := by
  subst hK
  intro pins s σ H xs us Q I r h
  obtain ⟨p,ns,rfl,hq,q⟩ := h
  obtain ⟨u,rfl,rx⟩ := vals1 r
  cases rx
  obtain ⟨its,rv,pl,hz⟩ := I.list hq
  obtain ⟨ps,e1,e2⟩ := ints_pairs rv
  subst e1
  have hl := pl.isList
  rw [<- intItems_toArray] at hl
  refine sum_intListG (xs := ps.toArray) (I.ok.hd hc) hl fun h' tk t' k => ?_
  refine ⟨.int ns.sum,H,I.kept k,⟨t',?_⟩,q⟩
  rw [preSum_eq,List.take_of_length_le (by simp)]
  show Value.int ((ps.map (·.1)).sum) t' = _
  rw [e2]
end
section
variable {X : Cx}
end
end L2
set_option Elab.async false
set_option linter.all false
set_option maxRecDepth 100000
set_option maxHeartbeats 4000000
namespace L2
open PySem PySem.Spec PyProof.Rows
section
variable {prog : Program}{w : World}{A : Around}{E : Value -> Shared -> Prop}{s : Shared}
theorem nextT_item {u t : Addr}{j : Nat}{its}{v : Value}{Q : Value -> Shared -> Prop}(a1 : s.heap.IsTupleIter u t j)(a2 : s.heap.IsTuple t its)(a3 : its[j]? = some v)
    (q : ∀ h',h'.IsTupleIter u t (j + 1) -> Heap.SameBut u s.heap h' -> Q v { s with heap := h' }) : wpAny (model prog w) A (Builtin.SmallTypes.nextOf (.ref u)) Q E s := by
  obtain ⟨oi,b1,b2,b3⟩ := id a1
  obtain ⟨ot,c1,_,nt,c2⟩ := a2
  unfold Builtin.SmallTypes.nextOf
  refine wpAny_bind (wpAny_callSpecial?_slot (name := Str.ofString "__next__") a1.typeIs F.slot_tuple_iterator_next (wpAny_call_entry F.slot_tuple_iterator_next a1.typeIs F.entry_tuple_iterator_next ?_ (F.args_tuple_iterator_next_1 _)))
  show wpAny _ _ (field (.ref u) 0 >>= _) _ _ s
  refine wpAny_bind (wpAny_field b1 b3 (x := .ref t) rfl ?_)
  show wpAny _ _ (if (Value.ref t == Value.none) = true then _ else _) _ _ s; rw [if_neg (show ¬ ((Value.ref t == Value.none) = true) from Bool.false_ne_true)]
  show wpAny _ _ (field (.ref u) 1 >>= _) _ _ s
  refine wpAny_bind (wpAny_field b1 b3 (x := .int j 0) rfl ?_)
  show wpAny _ _ (seqItems? (.ref t) >>= _) _ _ s; refine wpAny_bind (wpAny_seqItems c1 c2 ?_)
  simp only [Int.toNat_natCast,a3]
  refine wpAny_bind (wpAny_setField b1 b3 (by simp) (wpAny_pure ⟨v,rfl,wpAny_pure (q _ ⟨_,Heap.get?_update_self _ b1 (Obj.isFreed_of_fields (Obj.data_mapFields b3 _)),(Obj.cls_mapFields ..).trans b2,by rw [Obj.data_mapFields b3]; simp [rawInt]⟩ (Heap.SameBut.update ..))⟩))
theorem nextT_end {u t : Addr}{j : Nat}{its}{Q : Value -> Shared -> Prop}(a0 : A.handled = none)(a1 : s.heap.IsTupleIter u t j)(a2 : s.heap.IsTuple t its)(a3 : its[j]? = none)
    (q : ∀ h' e,Heap.ExtBut u s.heap h' -> (∃ o,h'.get? e = some o /\ o.cls = .type "StopIteration") -> E (.ref e) { s with heap := h' }) : wpAny (model prog w) A (Builtin.SmallTypes.nextOf (.ref u)) Q E s := by
  obtain ⟨oi,b1,b2,b3⟩ := id a1
  obtain ⟨ot,c1,_,nt,c2⟩ := a2
  unfold Builtin.SmallTypes.nextOf
  refine wpAny_bind (wpAny_callSpecial?_slot (name := Str.ofString "__next__") a1.typeIs F.slot_tuple_iterator_next (wpAny_call_entry F.slot_tuple_iterator_next a1.typeIs F.entry_tuple_iterator_next ?_ (F.args_tuple_iterator_next_1 _)))
  show wpAny _ _ (field (.ref u) 0 >>= _) _ _ s
  refine wpAny_bind (wpAny_field b1 b3 (x := .ref t) rfl ?_)
  show wpAny _ _ (if (Value.ref t == Value.none) = true then _ else _) _ _ s; rw [if_neg (show ¬ ((Value.ref t == Value.none) = true) from Bool.false_ne_true)]
  show wpAny _ _ (field (.ref u) 1 >>= _) _ _ s
  refine wpAny_bind (wpAny_field b1 b3 (x := .int j 0) rfl ?_)
  show wpAny _ _ (seqItems? (.ref t) >>= _) _ _ s; refine wpAny_bind (wpAny_seqItems c1 c2 ?_)
  simp only [Int.toNat_natCast,a3]
  refine wpAny_bind (wpAny_rule (wpAny_bind (wpAny_setField b1 b3 (by simp) ?_)))
  show wpAny _ _ (newExc (.type "StopIteration") [] >>= _) _ _ _; refine wpAny_bind ?_; simp only [newExc,newTuple]
  refine wpAny_bind (wpAny_newObj_type ?_ (by size_fits)); refine wpAny_bind (m := firstArgMember _ _) (wpAny_of_eq (a := Value.none) (by first | rfl | (simp only [firstArgMember]; rfl)) ?_)
  refine wpAny_newObj_type ?_ (by size_fits); simp only [raiseNew]; refine wpAny_bind (wpAny_handled ?_)
  first | rw [show A.in1.handled = none from a0] | rw [a0]
  refine wpAny_bind (wpAny_pure (wpAny_throw (q _ _ (((Heap.SameBut.update ..).extBut.push _).push _) ⟨_,Heap.get?_push_size _ rfl,rfl⟩)))
def ItAt (b : Bool)(h : Heap)(u l : Addr)(j : Nat) : Prop := match b with | false => h.IsListIter u l j | true => h.IsTupleIter u l j
def SeqAt (b : Bool)(h : Heap)(l : Addr)(xs : Array Value) : Prop := match b with | false => h.IsList l xs | true => h.IsTuple l xs
theorem ItAt.at {b : Bool}{h h' : Heap}{u l : Addr}{j : Nat}(x : ItAt b h u l j)(k : ∀ o,h.get? u = some o -> h'.get? u = some o) : ItAt b h' u l j := by
  cases b with
  | false => exact Heap.IsListIter.at x k
  | true => exact Heap.IsTupleIter.at x k
theorem SeqAt.at {b : Bool}{h h' : Heap}{l : Addr}{xs : Array Value}(x : SeqAt b h l xs)(k : ∀ o,h.get? l = some o -> h'.get? l = some o) : SeqAt b h' l xs := by
  cases b with
  | false => obtain ⟨o,e,r⟩ := x; exact ⟨o,k o e,r⟩
  | true => obtain ⟨o,e,r⟩ := x; exact ⟨o,k o e,r⟩
theorem ItAt.obj {b : Bool}{h : Heap}{u l : Addr}{j : Nat}(x : ItAt b h u l j) : ∃ o,h.get? u = some o /\ ∀ v,o.data ≠ .cell v := by
  cases b with
  | false => obtain ⟨o,e,c,d⟩ := x; exact ⟨o,e,fun v z => by rw [d] at z; cases z⟩
  | true => obtain ⟨o,e,c,d⟩ := x; exact ⟨o,e,fun v z => by rw [d] at z; cases z⟩
theorem src_item {b : Bool}{u l : Addr}{j : Nat}{xs : Array Value}{v : Value}{Q : Value -> Shared -> Prop}(a1 : ItAt b s.heap u l j)(a2 : SeqAt b s.heap l xs)(a3 : xs[j]? = some v)
    (q : ∀ h',ItAt b h' u l (j + 1) -> Heap.SameBut u s.heap h' -> Q v { s with heap := h' }) : wpAny (model prog w) A (Builtin.SmallTypes.nextOf (.ref u)) Q E s := by
  cases b with
  | false => exact wpAny_nextOf_list_item a1 a2 a3 q
  | true => exact nextT_item a1 a2 a3 q
theorem src_end {b : Bool}{u l : Addr}{j : Nat}{xs : Array Value}{Q : Value -> Shared -> Prop}(a0 : A.handled = none)(a1 : ItAt b s.heap u l j)(a2 : SeqAt b s.heap l xs)(a3 : xs[j]? = none)
    (q : ∀ h' e,Heap.ExtBut u s.heap h' -> (∃ o,h'.get? e = some o /\ o.cls = .type "StopIteration") -> E (.ref e) { s with heap := h' }) : wpAny (model prog w) A (Builtin.SmallTypes.nextOf (.ref u)) Q E s := by
  cases b with
  | false => exact wpAny_nextOf_list_end a0 a1 a2 a3 q
  | true => exact nextT_end a0 a1 a2 a3 q
abbrev TupAt (h : Heap)(T : Addr)(vs : Array Value) : Prop := h.get? T = some { cls := .type "tuple",data := .seq vs }
theorem upd_tupAt {T : Addr}{vs : Array Value}{v : Value}{k : Nat}{Q : Unit -> Shared -> Prop}(hv : vs.size <= 1000)(hT : TupAt s.heap T vs)
    (q : ∀ h',TupAt h' T (vs.setIfInBounds k v) -> Heap.SameBut T s.heap h' -> Q () { s with heap := h' }) : wpAny (model prog w) A (updateSeq T (·.setIfInBounds k v)) Q E s := by
  have z1 : vs.size <= sizeLine := Nat.le_trans hv le1000
  refine wpAny_updateSeq hT rfl (q _ ?_ (Heap.SameBut.update ..)) (hz := z1) (_hz' := by simp; omega)
  show Heap.get? _ T = _
  rw [Heap.get?_update_self _ hT rfl]; simp [Obj.mapSeq]
end
section
variable {X : Cx}{pins : List (Addr × Obj)}{σ : St}{H : Hp}{s : Shared}{h' : Heap}
theorem Inv.zipped {fp : List Addr}{T : Addr}{o : HO}{t' : Nat}(I : Inv X pins σ H s)(hf : ∀ b ∈ fp,FpOk X pins H b)(k : ∀ b o,b ∉ fp -> s.heap.get? b = some o -> h'.get? b = some o)(hT : s.heap.objs.size <= T)
    (new : ObjOk X.prog X.w (upd H T o) h' T o) : Inv X pins σ (upd H T o) { s with heap := h',toks := t' } := by
  have hn : H T = none := I.hok.fresh hT
  have ne : ∀ b u,s.heap.get? b = some u -> b ≠ T := fun b u e z => absurd (Heap.lt_size e) (by rw [z]; exact Nat.not_lt.mpr hT)
  have nfp : ∀ b u,H b = some u -> b ∉ fp := fun b u e hb => by rw [(hf b hb).1] at e; cases e
  refine I.step (g' := s.gens) (d' := s.drawn) (ch := fp) (fun b hb => ?_) (fun b o _ _ hc e _ => k b o hc e) (fun b o _ _ hc e _ => ⟨o.slots,k b o hc e⟩) (fun b u _ e n => by rw [upd_ne (ne b u e)]; exact n)
    (fun b o hc e => ⟨o,k b o hc e⟩) (fun b xs e => by rw [upd_ne (ne_of_none e hn)]; exact e) (fun b o u e => by rw [upd_ne (ne_of_none e hn)]; exact e) (fun b ps e => ⟨#[],by rw [upd_ne (ne_of_none e hn),e]; simp⟩) (fun m hm => ?_) (fun b u e => ?_) I.bare
  · obtain ⟨_,f1,_,f3,f4,f5⟩ := hf b hb
    exact ⟨f3,f1,f4,f5⟩
  · obtain ⟨o,es,ep,ho,r⟩ := hm
    exact ⟨o,es,ep,k _ o (fun hb => (hf _ hb).2.1 rfl) ho,r⟩
  · by_cases hb : b = T
    · subst hb
      rw [upd_same] at e
      cases e
      exact new
    · rw [upd_ne hb] at e
      refine (I.hok b u e).stay (fun c v hc q => k c v ?_ q) (fun c q => by rw [upd_ne (ne_of_none q hn)]; exact q) fun c xs q => by rw [upd_ne (ne_of_none q hn)]; exact q
      rcases hc with z | z
      · rw [z]; exact nfp b u e
      · exact nfp c _ z
theorem Inv.turnedL {fp : List Addr}{t' : Nat}(I : Inv X pins σ H s)(hf : ∀ b ∈ fp,FpOk X pins H b)(k : ∀ b o,b ∉ fp -> s.heap.get? b = some o -> h'.get? b = some o) : Inv X pins σ H { s with heap := h',toks := t' } := by
  have nfp : ∀ b u,H b = some u -> b ∉ fp := fun b u e hb => by rw [(hf b hb).1] at e; cases e
  refine I.step (g' := s.gens) (d' := s.drawn) (ch := fp) (fun b hb => ?_) (fun b o _ _ hc e _ => k b o hc e) (fun b o _ _ hc e _ => ⟨o.slots,k b o hc e⟩) (fun b u _ e n => n)
    (fun b o hc e => ⟨o,k b o hc e⟩) (fun b xs e => e) (fun b o u e => e) (fun b ps e => ⟨#[],by rw [e]; simp⟩) (fun m hm => ?_) (fun b u e => ?_) I.bare
  · obtain ⟨_,f1,_,f3,f4,f5⟩ := hf b hb
    exact ⟨f3,f1,f4,f5⟩
  · obtain ⟨o,es,ep,ho,r⟩ := hm
    exact ⟨o,es,ep,k _ o (fun hb => (hf _ hb).2.1 rfl) ho,r⟩
  · refine (I.hok b u e).stay (fun c v hc q => k c v ?_ q) (fun c q => q) fun c xs q => q
    rcases hc with z | z
    · rw [z]; exact nfp b u e
    · exact nfp c _ z
def SqX (K : PySem.W.Frag)(b : Bool)(H : Hp)(a : Addr)(xs : List V) : Prop := match b with | false => SqL K H a xs | true => SqT K H a xs
theorem Inv.seqX {b : Bool}{a : Addr}{xs : List V}(I : Inv X pins σ H s)(h : SqX X.K b H a xs) : ∃ its : List Value,Vals xs its /\ SeqAt b s.heap a its.toArray /\ xs.length <= sizeLine := by
  cases b with
  | false => obtain ⟨its,r,p,z⟩ := I.list h; exact ⟨its,r,p.isList,z⟩
  | true => obtain ⟨its,r,p,z⟩ := I.tuple h; exact ⟨its,r,p,z⟩
theorem Inv.seqX_inj {b : Bool}{a : Addr}{xs ys : List V}(I : Inv X pins σ H s)(h : SqX X.K b H a xs)(h' : SqX X.K b H a ys) : xs = ys := by
  cases b with
  | false => exact I.list_inj h h'
  | true => exact I.tuple_inj h h'
theorem Inv.seqX_ne {b : Bool}{a : Addr}{xs : List V}{c : Addr}(I : Inv X pins σ H s)(h : SqX X.K b H a xs)(f : FpOk X pins H c) : a ≠ c := by
  intro e
  subst e
  have base : ∀ {o : Obj},X.base.get? a = some o -> False := fun {o} q => by
    rcases f.2.2.2.1 with z | z
    · exact I.ok.noex a o q z
    · exact absurd (Heap.lt_size (I.ok.bs a o q).1) (Nat.not_lt.mpr z)
  cases b with
  | false =>
    rcases h with (h | ⟨o,h⟩) | ⟨o,_,_,h,_⟩
    · rw [f.1] at h; cases h
    · rw [f.1] at h; cases h
    · exact base (I.ok.mod.kin _ _ h)
  | true =>
    rcases h with (h | ⟨o,h⟩) | ⟨o,_,_,h,_⟩
    · rw [f.1] at h; cases h
    · rw [f.1] at h; cases h
    · exact base (I.ok.mod.kin _ _ h)
end
section
variable {prog : Program}{w : World}{A : Around}{E : Value -> Shared -> Prop}{s : Shared}
structure ZAp2 (z TI TO i1 i2 l1 l2 : Addr) : Prop where
  z_TI : z ≠ TI
  z_TO : z ≠ TO
  z_i1 : z ≠ i1
  z_i2 : z ≠ i2
  TI_z : TI ≠ z
  TI_TO : TI ≠ TO
  TI_i1 : TI ≠ i1
  TI_i2 : TI ≠ i2
  TO_z : TO ≠ z
  TO_TI : TO ≠ TI
  TO_i1 : TO ≠ i1
  TO_i2 : TO ≠ i2
  i1_z : i1 ≠ z
  i1_TI : i1 ≠ TI
  i1_TO : i1 ≠ TO
  i1_i2 : i1 ≠ i2
  i2_z : i2 ≠ z
  i2_TI : i2 ≠ TI
  i2_TO : i2 ≠ TO
  i2_i1 : i2 ≠ i1
  l1_z : l1 ≠ z
  l1_TI : l1 ≠ TI
  l1_TO : l1 ≠ TO
  l1_i1 : l1 ≠ i1
  l1_i2 : l1 ≠ i2
  l2_z : l2 ≠ z
  l2_TI : l2 ≠ TI
  l2_TO : l2 ≠ TO
  l2_i1 : l2 ≠ i1
  l2_i2 : l2 ≠ i2
theorem zip2_item {b1 b2 : Bool}{z TI TO i1 i2 l1 l2 : Addr}{k : Nat}{xs1 xs2 : Array Value}{x1 x2 a1 a2 : Value}{Q : Value -> Shared -> Prop}(D : ZAp2 z TI TO i1 i2 l1 l2)(hz : IsZip s.heap z TI TO .none)(hI : TupAt s.heap TI #[.ref i1,.ref i2])(hO : TupAt s.heap TO #[a1,a2])(d1 : ItAt b1 s.heap i1 l1 k)(g1 : SeqAt b1 s.heap l1 xs1)(d2 : ItAt b2 s.heap i2 l2 k)(g2 : SeqAt b2 s.heap l2 xs2)
    (e1 : xs1[k]? = some x1) (e2 : xs2[k]? = some x2)
    (q : ∀ h',IsZip h' z TI TO (rawInt s.heap.objs.size) -> TupAt h' TO #[x1,x2] -> ItAt b1 h' i1 l1 (k + 1) -> ItAt b2 h' i2 l2 (k + 1) -> TupAt h' s.heap.objs.size #[x1,x2] -> (∀ c o,c ≠ z -> c ≠ TO -> c ≠ i1 -> c ≠ i2 -> s.heap.get? c = some o -> h'.get? c = some o) -> Q (.ref s.heap.objs.size) { s with heap := h' }) :
    wpAny (model prog w) A (Builtin.«zip.__next__» ⟨[.ref z],[]⟩) (fun fin s' => ∃ v,fin = .done (.ret v) /\ Q v s') E s := by
  show wpAny _ _ (field (.ref z) 2 >>= _) _ _ _; refine wpAny_bind (wpAny_field hz rfl (x := .bool false) rfl ?_)
  show wpAny _ _ (field (.ref z) 3 >>= _) _ _ _; refine wpAny_bind (wpAny_field hz rfl (x := .ref TI) rfl ?_)
  refine wpAny_bind (wpAny_seqItems hI rfl ?_)
  show wpAny _ _ (Builtin.SmallTypes.ownedTupleIsFree (.ref z) >>= _) _ _ _; refine wpAny_bind ?_; unfold Builtin.SmallTypes.ownedTupleIsFree
  refine wpAny_bind (wpAny_field hz rfl (x := .none) rfl (wpAny_pure ?_)); simp only [if_true]; refine wpAny_bind (wpAny_rule ?_)
  refine wpAny_bind (wpAny_field hz rfl (x := .ref TO) rfl ?_); refine wpAny_bind (wpAny_setField_rec hz (by simp) fun p0 z0 m0 => ?_)
  replace z0 : IsZip p0 z TI TO .ellipsis := z0
  have y0 : TupAt p0 TO #[a1,a2] := m0.extBut _ _ D.TO_z hO
  have w0 : ∀ c o,c ≠ z -> c ≠ TO -> c ≠ i1 -> c ≠ i2 -> s.heap.get? c = some o -> p0.get? c = some o := fun c o c1 _ _ _ e => m0.extBut _ _ c1 e
  have r0 : p0.objs.size = s.heap.objs.size := m0.1
  have d1_0 : ItAt b1 p0 i1 l1 k := d1.at fun o e => m0.extBut _ _ D.i1_z e
  have g1_0 : SeqAt b1 p0 l1 xs1 := g1.at fun o e => m0.extBut _ _ D.l1_z e
  have d2_0 : ItAt b2 p0 i2 l2 k := d2.at fun o e => m0.extBut _ _ D.i2_z e
  have g2_0 : SeqAt b2 p0 l2 xs2 := g2.at fun o e => m0.extBut _ _ D.l2_z e
  refine wpAny_bind ?_; simp only [List.zipIdx_cons,List.zipIdx_nil,List.forIn_cons,List.forIn_nil]
  refine wpAny_bind (wpAny_bind (wpAny_onRaise ?_)); show wpAny _ _ (Builtin.SmallTypes.nextOf (.ref i1) >>= _) _ _ _
  refine wpAny_bind (src_item d1_0 g1_0 e1 fun u1 t1 n1 => wpAny_pure ?_)
  have v1 : TupAt u1 TO #[a1,a2] := n1.extBut _ _ D.TO_i1 y0
  refine wpAny_bind (wpAny_seqItems v1 rfl ?_); refine wpAny_bind (upd_tupAt (Nat.le_of_ble_eq_true rfl) v1 fun p1 y1 m1 => ?_)
  replace y1 : TupAt p1 TO #[x1,a2] := y1
  have z1 : IsZip p1 z TI TO .ellipsis := m1.extBut _ _ D.z_TO (n1.extBut _ _ D.z_i1 z0)
  have w1 : ∀ c o,c ≠ z -> c ≠ TO -> c ≠ i1 -> c ≠ i2 -> s.heap.get? c = some o -> p1.get? c = some o := fun c o c1 c2 c3 c4 e => m1.extBut _ _ c2 (n1.extBut _ _ c3 (w0 c o c1 c2 c3 c4 e))
  have r1 : p1.objs.size = s.heap.objs.size := by rw [m1.1,n1.1]; exact r0
  have d1_1 : ItAt b1 p1 i1 l1 (k + 1) := t1.at fun o e => m1.extBut _ _ D.i1_TO e
  have d2_1 : ItAt b2 p1 i2 l2 k := (d2_0.at fun o e => n1.extBut _ _ D.i2_i1 e).at fun o e => m1.extBut _ _ D.i2_TO e
  have g2_1 : SeqAt b2 p1 l2 xs2 := (g2_0.at fun o e => n1.extBut _ _ D.l2_i1 e).at fun o e => m1.extBut _ _ D.l2_TO e
  refine wpAny_bind (wpAny_letGo (wpAny_pure ?_))
  refine wpAny_bind (wpAny_bind (wpAny_onRaise ?_)); show wpAny _ _ (Builtin.SmallTypes.nextOf (.ref i2) >>= _) _ _ _
  refine wpAny_bind (src_item d2_1 g2_1 e2 fun u2 t2 n2 => wpAny_pure ?_)
  have v2 : TupAt u2 TO #[x1,a2] := n2.extBut _ _ D.TO_i2 y1
  refine wpAny_bind (wpAny_seqItems v2 rfl ?_); refine wpAny_bind (upd_tupAt (Nat.le_of_ble_eq_true rfl) v2 fun p2 y2 m2 => ?_)
  replace y2 : TupAt p2 TO #[x1,x2] := y2
  have z2 : IsZip p2 z TI TO .ellipsis := m2.extBut _ _ D.z_TO (n2.extBut _ _ D.z_i2 z1)
  have w2 : ∀ c o,c ≠ z -> c ≠ TO -> c ≠ i1 -> c ≠ i2 -> s.heap.get? c = some o -> p2.get? c = some o := fun c o c1 c2 c3 c4 e => m2.extBut _ _ c2 (n2.extBut _ _ c4 (w1 c o c1 c2 c3 c4 e))
  have r2 : p2.objs.size = s.heap.objs.size := by rw [m2.1,n2.1]; exact r1
  have d1_2 : ItAt b1 p2 i1 l1 (k + 1) := (d1_1.at fun o e => n2.extBut _ _ D.i1_i2 e).at fun o e => m2.extBut _ _ D.i1_TO e
  have d2_2 : ItAt b2 p2 i2 l2 (k + 1) := t2.at fun o e => m2.extBut _ _ D.i2_TO e
  refine wpAny_bind (wpAny_letGo (wpAny_pure (wpAny_pure ?_)))
  refine wpAny_bind (wpAny_seqItems y2 rfl ?_); refine wpAny_bind (wpAny_newTuple ?_)
  have zl : z < p2.objs.size := Heap.lt_size z2
  show wpAny _ _ (Builtin.SmallTypes.ownedTupleHandOut (.ref z) (.ref p2.objs.size) >>= _) _ _ _; refine wpAny_bind ?_; unfold Builtin.SmallTypes.ownedTupleHandOut
  have za : IsZip (p2.push { cls := .type "tuple",data := .seq #[x1,x2] }) z TI TO .ellipsis := Heap.get?_push_of_some _ z2
  refine wpAny_bind (wpAny_setField_rec za (by simp) fun pa zb ma => ?_)
  replace zb : IsZip pa z TI TO (rawInt p2.objs.size) := zb
  refine wpAny_setField_rec zb (by simp) fun pb zc mb => ?_
  replace zc : IsZip pb z TI TO (rawInt p2.objs.size) := zc
  have up : ∀ c o,c ≠ z -> p2.get? c = some o -> pb.get? c = some o := fun c o c1 e => mb.extBut _ _ c1 (ma.extBut _ _ c1 (Heap.get?_push_of_some _ e))
  have tt : TupAt pb p2.objs.size #[x1,x2] := mb.extBut _ _ (Nat.ne_of_gt zl) (ma.extBut _ _ (Nat.ne_of_gt zl) (Heap.get?_push_size _ rfl))
  rw [r2] at zc tt
  refine wpAny_pure ⟨_,rfl,?_⟩
  show Q (.ref p2.objs.size) _
  rw [r2]
  exact q pb zc (up _ _ D.TO_z y2) (d1_2.at fun o e => up _ o D.i1_z e) (d2_2.at fun o e => up _ o D.i2_z e) tt fun c o c1 c2 c3 c4 e => up c o c1 (w2 c o c1 c2 c3 c4 e)
theorem zip2_end {b1 b2 : Bool}{z TI TO i1 i2 l1 l2 : Addr}{k : Nat}{xs1 xs2 : Array Value}{a1 a2 : Value}{Q : Fin -> Shared -> Prop}(hh : A.handled = none)(D : ZAp2 z TI TO i1 i2 l1 l2)(hz : IsZip s.heap z TI TO .none)(hI : TupAt s.heap TI #[.ref i1,.ref i2])(hO : TupAt s.heap TO #[a1,a2])(d1 : ItAt b1 s.heap i1 l1 k)(g1 : SeqAt b1 s.heap l1 xs1)(d2 : ItAt b2 s.heap i2 l2 k)(g2 : SeqAt b2 s.heap l2 xs2)
    (e1 : xs1[k]? = none) (q : ∀ h' e,(∀ c o,c ≠ z -> c ≠ TO -> c ≠ i1 -> c ≠ i2 -> s.heap.get? c = some o -> h'.get? c = some o) -> (∃ o,h'.get? e = some o /\ o.cls = .type "StopIteration") -> E (.ref e) { s with heap := h' }) :
    wpAny (model prog w) A (Builtin.«zip.__next__» ⟨[.ref z],[]⟩) Q E s := by
  show wpAny _ _ (field (.ref z) 2 >>= _) _ _ _; refine wpAny_bind (wpAny_field hz rfl (x := .bool false) rfl ?_)
  show wpAny _ _ (field (.ref z) 3 >>= _) _ _ _; refine wpAny_bind (wpAny_field hz rfl (x := .ref TI) rfl ?_)
  refine wpAny_bind (wpAny_seqItems hI rfl ?_)
  show wpAny _ _ (Builtin.SmallTypes.ownedTupleIsFree (.ref z) >>= _) _ _ _; refine wpAny_bind ?_; unfold Builtin.SmallTypes.ownedTupleIsFree
  refine wpAny_bind (wpAny_field hz rfl (x := .none) rfl (wpAny_pure ?_)); simp only [if_true]; refine wpAny_bind (wpAny_rule ?_)
  refine wpAny_bind (wpAny_field hz rfl (x := .ref TO) rfl ?_); refine wpAny_bind (wpAny_setField_rec hz (by simp) fun p0 z0 m0 => ?_)
  replace z0 : IsZip p0 z TI TO .ellipsis := z0
  have y0 : TupAt p0 TO #[a1,a2] := m0.extBut _ _ D.TO_z hO
  have w0 : ∀ c o,c ≠ z -> c ≠ TO -> c ≠ i1 -> c ≠ i2 -> s.heap.get? c = some o -> p0.get? c = some o := fun c o c1 _ _ _ e => m0.extBut _ _ c1 e
  have r0 : p0.objs.size = s.heap.objs.size := m0.1
  have d1_0 : ItAt b1 p0 i1 l1 k := d1.at fun o e => m0.extBut _ _ D.i1_z e
  have g1_0 : SeqAt b1 p0 l1 xs1 := g1.at fun o e => m0.extBut _ _ D.l1_z e
  have d2_0 : ItAt b2 p0 i2 l2 k := d2.at fun o e => m0.extBut _ _ D.i2_z e
  have g2_0 : SeqAt b2 p0 l2 xs2 := g2.at fun o e => m0.extBut _ _ D.l2_z e
  refine wpAny_bind ?_; simp only [List.zipIdx_cons,List.zipIdx_nil,List.forIn_cons,List.forIn_nil]
  refine wpAny_bind (wpAny_bind (wpAny_onRaise ?_)); show wpAny _ _ (Builtin.SmallTypes.nextOf (.ref i1) >>= _) _ _ _
  refine wpAny_bind (src_end hh d1_0 g1_0 e1 fun u1 e n1 he => ?_)
  obtain ⟨oe,f1,f2⟩ := he
  have z1 : IsZip u1 z TI TO .ellipsis := n1 _ _ D.z_i1 z0
  have ez : e ≠ z := fun x => by subst x; rw [z1] at f1; cases f1; simp at f2
  refine wpAny_setField_rec z1 (by simp) fun p1 _ m1 => q p1 e (fun c o c1 c2 c3 c4 x => m1.extBut _ _ c1 (n1 _ _ c3 (w0 c o c1 c2 c3 c4 x))) ⟨oe,m1.extBut _ _ ez f1,f2⟩
end
section
variable {prog : Program}{w : World}{A : Around}{E : Value -> Shared -> Prop}{s : Shared}
end
end L2
set_option Elab.async false
set_option linter.all false
set_option maxRecDepth 100000
set_option maxHeartbeats 4000000
namespace L2
open PySem PySem.Spec PyProof.Rows
section
variable {prog : Program}{w : World}{A : Around}{E : Value -> Shared -> Prop}{s : Shared}
def itObj (b : Bool)(l : Addr) : Obj := match b with
  | false => { cls := .type "list_iterator",data := .fields #[.ref l,.int 0 0] }
  | true => { cls := .type "tuple_iterator",data := .fields #[.ref l,.int 0 0] }
theorem itObj_at {b : Bool}{h : Heap}{u l : Addr}(e : h.get? u = some (itObj b l)) : ItAt b h u l 0 := by
  cases b with
  | false => exact ⟨_,e,rfl,rfl⟩
  | true => exact ⟨_,e,rfl,rfl⟩
theorem itObj_live (b : Bool)(l : Addr) : (itObj b l).isFreed = false := by cases b <;> rfl
theorem src_iter {b : Bool}{l : Addr}{xs : Array Value}{Q : Value -> Shared -> Prop}(a : SeqAt b s.heap l xs)(q : Q (.ref s.heap.objs.size) { s with heap := s.heap.push (itObj b l) }) : wpAny (model prog w) A (pyIter (.ref l)) Q E s := by
  cases b with
  | false => exact wpAny_pyIter_list a q
  | true => exact wpAny_pyIter_tuple a q
end
section
variable {prog : Program}{w : World}{A : Around}{E : Value -> Shared -> Prop}{s : Shared}
abbrev zH2 (b1 b2 : Bool)(l1 l2 : Addr)(s : Shared) : Heap := (((((s.heap.push (itObj b1 l1)).push (itObj b2 l2)).push { cls := .type "tuple",data := .seq #[.ref s.heap.objs.size,.ref (s.heap.objs.size + 1)] }).push { cls := .type "tuple",data := .seq #[.none,.none] }).push { cls := .type "zip",data := .fields #[.none,.bool false,.bool false,.ref (s.heap.objs.size + 2),.ref (s.heap.objs.size + 3)] })
theorem meets_zip2 (b1 b2 : Bool)(l1 l2 : Addr)(xs1 xs2 : Array Value) :
    Meets (Builtin.«zip.__new__» ⟨[.type "zip",.ref l1,.ref l2],[]⟩) (fun _ R s => SeqAt b1 s.heap l1 xs1 /\ SeqAt b2 s.heap l2 xs2 /\ R (.ok (.ret (.ref (s.heap.objs.size + 4)))) { s with heap := zH2 b1 b2 l1 l2 s }) :=
  .of_wp fun prog w A R s h => by
    obtain ⟨hp,g,d,tk,os⟩ := s; obtain ⟨k1,k2,h⟩ := h
    have hs := sub_zip
    have K1 : SeqAt b1 (Shared.heap ⟨hp,g,d,tk,os⟩) l1 xs1 := k1.at fun o e => e
    have K2 : SeqAt b2 (Shared.heap ⟨(hp.push (itObj b1 l1)),g,d,tk,os⟩) l2 xs2 := k2.at fun o e => Heap.get?_push_of_some _ (e)
    wp_walk using src_iter K1,src_iter K2
    simp only [Heap.size_push] at *
    exact ⟨_,rfl,h⟩
theorem call_zip2 {b1 b2 : Bool}{l1 l2 : Addr}{xs1 xs2 : Array Value}{Q : Value -> Shared -> Prop}(k1 : SeqAt b1 s.heap l1 xs1)(k2 : SeqAt b2 s.heap l2 xs2)
    (q : ∀ h',IsZip h' (s.heap.objs.size + 4) (s.heap.objs.size + 2) (s.heap.objs.size + 3) .none -> TupAt h' (s.heap.objs.size + 2) #[.ref s.heap.objs.size,.ref (s.heap.objs.size + 1)] -> TupAt h' (s.heap.objs.size + 3) #[.none,.none] -> ItAt b1 h' (s.heap.objs.size) l1 0 -> ItAt b2 h' (s.heap.objs.size + 1) l2 0 -> (∀ c o,s.heap.get? c = some o -> h'.get? c = some o) -> Q (.ref (s.heap.objs.size + 4)) { s with heap := h' }) :
    wpAny (model prog w) A (call (.type "zip") [.ref l1,.ref l2]) Q E s := by
  refine callType_new F.called_zip (by decide) (F.typeCall_zip_2 _ _) (F.newCall_zip_2 _ _) (fun obj => F.args_object_init_3 obj _ _) F.entry_zip_new (meets_zip2 b1 b2 l1 l2 xs1 xs2) ⟨k1,k2,?_⟩
  have z1 : (s.heap.push (itObj b1 l1)).objs.size = s.heap.objs.size + 1 := by exact Heap.size_push ..
  have z2 : ((s.heap.push (itObj b1 l1)).push (itObj b2 l2)).objs.size = s.heap.objs.size + 2 := by rw [Heap.size_push,z1]
  have z3 : (((s.heap.push (itObj b1 l1)).push (itObj b2 l2)).push { cls := .type "tuple",data := .seq #[.ref s.heap.objs.size,.ref (s.heap.objs.size + 1)] }).objs.size = s.heap.objs.size + 3 := by rw [Heap.size_push,z2]
  have z4 : ((((s.heap.push (itObj b1 l1)).push (itObj b2 l2)).push { cls := .type "tuple",data := .seq #[.ref s.heap.objs.size,.ref (s.heap.objs.size + 1)] }).push { cls := .type "tuple",data := .seq #[.none,.none] }).objs.size = s.heap.objs.size + 4 := by rw [Heap.size_push,z3]
  have g0 : (zH2 b1 b2 l1 l2 s).get? s.heap.objs.size = some _ := Heap.get?_push_of_some _ (Heap.get?_push_of_some _ (Heap.get?_push_of_some _ (Heap.get?_push_of_some _ (Heap.get?_push_size _ (itObj_live _ _)))))
  have g1 : (zH2 b1 b2 l1 l2 s).get? (s.heap.push (itObj b1 l1)).objs.size = some _ := Heap.get?_push_of_some _ (Heap.get?_push_of_some _ (Heap.get?_push_of_some _ (Heap.get?_push_size _ (itObj_live _ _))))
  rw [z1] at g1
  have g2 : (zH2 b1 b2 l1 l2 s).get? ((s.heap.push (itObj b1 l1)).push (itObj b2 l2)).objs.size = some _ := Heap.get?_push_of_some _ (Heap.get?_push_of_some _ (Heap.get?_push_size _ rfl))
  rw [z2] at g2
  have g3 : (zH2 b1 b2 l1 l2 s).get? (((s.heap.push (itObj b1 l1)).push (itObj b2 l2)).push { cls := .type "tuple",data := .seq #[.ref s.heap.objs.size,.ref (s.heap.objs.size + 1)] }).objs.size = some _ := Heap.get?_push_of_some _ (Heap.get?_push_size _ rfl)
  rw [z3] at g3
  have g4 : (zH2 b1 b2 l1 l2 s).get? ((((s.heap.push (itObj b1 l1)).push (itObj b2 l2)).push { cls := .type "tuple",data := .seq #[.ref s.heap.objs.size,.ref (s.heap.objs.size + 1)] }).push { cls := .type "tuple",data := .seq #[.none,.none] }).objs.size = some _ := Heap.get?_push_size _ rfl
  rw [z4] at g4
  exact ⟨⟨_,g4,rfl⟩,q _ g4 g2 g3 (itObj_at g0) (itObj_at g1) fun c o x => Heap.get?_push_of_some _ (Heap.get?_push_of_some _ (Heap.get?_push_of_some _ (Heap.get?_push_of_some _ (Heap.get?_push_of_some _ x))))⟩
end
def Itz2 (K : PySem.W.Frag)(b1 b2 : Bool)(l1 l2 : Addr) : It :=
  ⟨fun i H => ∃ ys1 ys2 y1 y2,SqX K b1 H l1 ys1 /\ ys1[i]? = some y1 /\ SqX K b2 H l2 ys2 /\ ys2[i]? = some y2,
   fun i H v H' => ∃ t y1 y2,v = .ref t /\ H t = none /\ H' = upd H t (.tup [y1,y2]) /\ (∀ ys,SqX K b1 H l1 ys -> ys[i]? = some y1) /\ (∀ ys,SqX K b2 H l2 ys -> ys[i]? = some y2),
   fun i H => (∃ ys,SqX K b1 H l1 ys /\ ys.length <= i) /\ (∃ ys,SqX K b2 H l2 ys)⟩
structure ZFp2 (z TI TO i1 i2 : Addr) : Prop where
  z_TI : z ≠ TI
  z_TO : z ≠ TO
  z_i1 : z ≠ i1
  z_i2 : z ≠ i2
  TI_z : TI ≠ z
  TI_TO : TI ≠ TO
  TI_i1 : TI ≠ i1
  TI_i2 : TI ≠ i2
  TO_z : TO ≠ z
  TO_TI : TO ≠ TI
  TO_i1 : TO ≠ i1
  TO_i2 : TO ≠ i2
  i1_z : i1 ≠ z
  i1_TI : i1 ≠ TI
  i1_TO : i1 ≠ TO
  i1_i2 : i1 ≠ i2
  i2_z : i2 ≠ z
  i2_TI : i2 ≠ TI
  i2_TO : i2 ≠ TO
  i2_i1 : i2 ≠ i1
def ZTn2 (b1 b2 : Bool)(z TI TO i1 i2 l1 l2 : Addr)(i : Nat)(h : Heap) : Prop := IsZip h z TI TO .none /\ TupAt h TI #[.ref i1,.ref i2] /\ (∃ a1 a2,TupAt h TO #[a1,a2]) /\ ItAt b1 h i1 l1 i /\ ItAt b2 h i2 l2 i
theorem turn_zip2 {P : Program}{w : World}{K : PySem.W.Frag}{elts : List Expr}{c1}{tpos : Pos}{b1 b2 : Bool}{z TI TO i1 i2 l1 l2 : Addr}(Z : ZFp2 z TI TO i1 i2) : Turn P w K (.Tuple elts c1 tpos) (Itz2 K b1 b2 l1 l2) [z,TI,TO,i1,i2] z (ZTn2 b1 b2 z TI TO i1 i2 l1 l2) where
  mem := by simp
  obj := fun i h st b hb => by
    obtain ⟨s1,s2,⟨a1,a2,s3⟩,d1,d2⟩ := st
    simp only [List.mem_cons,List.not_mem_nil,or_false] at hb
    rcases hb with rfl | rfl | rfl | rfl | rfl
    · exact ⟨_,s1,fun v q => by cases q⟩
    · exact ⟨_,s2,fun v q => by cases q⟩
    · exact ⟨_,s3,fun v q => by cases q⟩
    · exact d1.obj
    · exact d2.obj
  keep := fun i h h' st k => by
    obtain ⟨s1,s2,⟨a1,a2,s3⟩,d1,d2⟩ := st
    exact ⟨k z (by simp) _ s1,k TI (by simp) _ s2,⟨a1,a2,k TO (by simp) _ s3⟩,d1.at fun o e => k i1 (by simp) o e,d2.at fun o e => k i2 (by simp) o e⟩
  item := by
    intro X hP hw hK hc i pins s σ H E I hf st hg
    subst hP hw hK
    obtain ⟨ys1,ys2,y1,y2,h1,q1,h2,q2⟩ := hg
    obtain ⟨s1,s2,⟨a1,a2,s3⟩,d1,d2⟩ := st
    obtain ⟨v1,r1,p1,_⟩ := I.seqX h1
    obtain ⟨u1,m1,t1⟩ := r1.get q1
    obtain ⟨v2,r2,p2,_⟩ := I.seqX h2
    obtain ⟨u2,m2,t2⟩ := r2.get q2
    have D : ZAp2 z TI TO i1 i2 l1 l2 := { z_TI := Z.z_TI,z_TO := Z.z_TO,z_i1 := Z.z_i1,z_i2 := Z.z_i2,TI_z := Z.TI_z,TI_TO := Z.TI_TO,TI_i1 := Z.TI_i1,TI_i2 := Z.TI_i2,TO_z := Z.TO_z,TO_TI := Z.TO_TI,TO_i1 := Z.TO_i1,TO_i2 := Z.TO_i2,i1_z := Z.i1_z,i1_TI := Z.i1_TI,i1_TO := Z.i1_TO,i1_i2 := Z.i1_i2,i2_z := Z.i2_z,i2_TI := Z.i2_TI,i2_TO := Z.i2_TO,i2_i1 := Z.i2_i1,l1_z := I.seqX_ne h1 (hf z (by simp)),l1_TI := I.seqX_ne h1 (hf TI (by simp)),l1_TO := I.seqX_ne h1 (hf TO (by simp)),l1_i1 := I.seqX_ne h1 (hf i1 (by simp)),l1_i2 := I.seqX_ne h1 (hf i2 (by simp)),l2_z := I.seqX_ne h2 (hf z (by simp)),l2_TI := I.seqX_ne h2 (hf TI (by simp)),l2_TO := I.seqX_ne h2 (hf TO (by simp)),l2_i1 := I.seqX_ne h2 (hf i1 (by simp)),l2_i2 := I.seqX_ne h2 (hf i2 (by simp)) }
    have hT : s.TypeIs (.ref z) "zip" := ⟨_,s1,rfl⟩
    have szn : ∀ b ∈ [z,TI,TO,i1,i2],b ≠ s.heap.objs.size := fun b hb e => by
      simp only [List.mem_cons,List.not_mem_nil,or_false] at hb
      rcases hb with rfl | rfl | rfl | rfl | rfl
      · exact Nat.lt_irrefl _ (e ▸ Heap.lt_size s1)
      · exact Nat.lt_irrefl _ (e ▸ Heap.lt_size s2)
      · exact Nat.lt_irrefl _ (e ▸ Heap.lt_size s3)
      · obtain ⟨_,w1,_⟩ := d1.obj; exact Nat.lt_irrefl _ (e ▸ Heap.lt_size w1)
      · obtain ⟨_,w1,_⟩ := d2.obj; exact Nat.lt_irrefl _ (e ▸ Heap.lt_size w1)
    unfold pyNext
    refine wpAny_bind (wpAny_attempt (wpAny_callSpecial?_slot (name := Str.ofString "__next__") hT F.slot_zip_next (wpAny_call_entry F.slot_zip_next hT F.entry_zip_next (zip2_item D s1 s2 s3 d1 p1 d2 p2 (x1 := u1) (by simpa using m1) (x2 := u2) (by simpa using m2) fun h' e1 e2 f1 f2 e3 kp => wpAny_pure ?_) (F.args_zip_next_1 _))))
    refine ⟨_,rfl,wpAny_letOwnedTupleGo_zip (s := { s with heap := h' }) e1 fun hq e4 sb => ?_⟩
    have up : ∀ b o,b ≠ z -> h'.get? b = some o -> hq.get? b = some o := fun b o hb e => sb.extBut _ _ hb e
    have I2 : Inv X pins σ (upd H s.heap.objs.size (.tup [y1,y2])) { s with heap := hq } := I.zipped (t' := s.toks) (fp := [z,TI,TO,i1,i2]) hf (fun b o hb e => up b o (fun x => hb (by simp [x])) (kp b o (fun x => hb (by simp [x])) (fun x => hb (by simp [x])) (fun x => hb (by simp [x])) (fun x => hb (by simp [x])) e)) (Nat.le_refl _)
      ⟨Nat.le_trans (Nat.le_of_ble_eq_true rfl) le1000,[u1,u2],.cons t1 (.cons t2 (.nil)),⟨_,up _ _ (Ne.symm (szn z (by simp))) e3,rfl,_,rfl⟩⟩
    refine ⟨.ref s.heap.objs.size,_,I2,rfl,⟨_,y1,y2,rfl,I.hok.fresh (Nat.le_refl _),rfl,fun ys hy => by rw [I.seqX_inj hy h1]; exact q1,fun ys hy => by rw [I.seqX_inj hy h2]; exact q2⟩,⟨e4,up _ _ D.TI_z (kp _ _ D.TI_z D.TI_TO D.TI_i1 D.TI_i2 s2),⟨_,_,up _ _ D.TO_z e2⟩,f1.at fun o e => up _ o D.i1_z e,f2.at fun o e => up _ o D.i2_z e⟩,fun b hb => ?_⟩
    rw [upd_ne (szn b hb)]
    exact (hf b hb).1
  done := by
    intro X hP hw hK hc i pins s σ H E I hf st hg
    subst hP hw hK
    obtain ⟨⟨ys1,h1,q1⟩,⟨ys2,h2⟩⟩ := hg
    obtain ⟨s1,s2,⟨a1,a2,s3⟩,d1,d2⟩ := st
    obtain ⟨v1,r1,p1,_⟩ := I.seqX h1
    obtain ⟨v2,r2,p2,_⟩ := I.seqX h2
    have D : ZAp2 z TI TO i1 i2 l1 l2 := { z_TI := Z.z_TI,z_TO := Z.z_TO,z_i1 := Z.z_i1,z_i2 := Z.z_i2,TI_z := Z.TI_z,TI_TO := Z.TI_TO,TI_i1 := Z.TI_i1,TI_i2 := Z.TI_i2,TO_z := Z.TO_z,TO_TI := Z.TO_TI,TO_i1 := Z.TO_i1,TO_i2 := Z.TO_i2,i1_z := Z.i1_z,i1_TI := Z.i1_TI,i1_TO := Z.i1_TO,i1_i2 := Z.i1_i2,i2_z := Z.i2_z,i2_TI := Z.i2_TI,i2_TO := Z.i2_TO,i2_i1 := Z.i2_i1,l1_z := I.seqX_ne h1 (hf z (by simp)),l1_TI := I.seqX_ne h1 (hf TI (by simp)),l1_TO := I.seqX_ne h1 (hf TO (by simp)),l1_i1 := I.seqX_ne h1 (hf i1 (by simp)),l1_i2 := I.seqX_ne h1 (hf i2 (by simp)),l2_z := I.seqX_ne h2 (hf z (by simp)),l2_TI := I.seqX_ne h2 (hf TI (by simp)),l2_TO := I.seqX_ne h2 (hf TO (by simp)),l2_i1 := I.seqX_ne h2 (hf i1 (by simp)),l2_i2 := I.seqX_ne h2 (hf i2 (by simp)) }
    have hT : s.TypeIs (.ref z) "zip" := ⟨_,s1,rfl⟩
    have hl := r1.length
    unfold pyNext
    refine wpAny_bind (wpAny_attempt (wpAny_callSpecial?_slot (name := Str.ofString "__next__") hT F.slot_zip_next (wpAny_call_entry F.slot_zip_next hT F.entry_zip_next (zip2_end (I.ok.hd hc) D s1 s2 s3 d1 p1 d2 p2 (by simp; omega) fun h' e kp he => ?_) (F.args_zip_next_1 _))))
    obtain ⟨oe,f1,f2⟩ := he
    refine wpAny_bind (wpAny_isInstance (T := "StopIteration") (b := true) ⟨oe,f1,f2⟩ isSubtype_stop (wpAny_pure ⟨rfl,?_⟩))
    exact I.turnedL (t' := s.toks) (fp := [z,TI,TO,i1,i2]) hf fun b o hb e => kp b o (fun x => hb (by simp [x])) (fun x => hb (by simp [x])) (fun x => hb (by simp [x])) (fun x => hb (by simp [x])) e
  self := fun _ _ _ _ _ st h => wpAny_pyIter_zip st.1 h
section
variable {prog : Program}{w : World}{A : Around}{E : Value -> Shared -> Prop}{s : Shared}
end
end L2
set_option Elab.async false
set_option linter.all false
set_option maxRecDepth 100000
set_option maxHeartbeats 4000000
namespace L2
open PySem PySem.Spec PyProof.Rows
def iZip2 (K : PySem.W.Frag)(b1 b2 : Bool)(ta : TA) : TI := fun σ H R => ta σ H fun vs H1 => ∃ l1 l2,vs = [.ref l1,.ref l2] /\ (∃ ys,SqX K b1 H1 l1 ys) /\ (∃ ys,SqX K b2 H1 l2 ys) /\ R (Itz2 K b1 b2 l1 l2) H1
theorem pi_zip2 {X : Cx}{elts : List Expr}{c1}{tpos : Pos}(K : PySem.W.Frag)(hK : X.K = K)(b1 b2 : Bool){e1 e2 : Expr}{ta : TA}{p pos : Pos}(hg : Gl X "zip") (hm : X.mg "zip" = none) (ha : PA X [e1,e2] ta)
    (hs : starEach [e1,e2] X.env = [(false,eval e1 X.env),(false,eval e2 X.env)] := by rfl) (hs2 : starEach [e2] X.env = [(false,eval e2 X.env)] := by rfl) :
    PI X (.Tuple elts c1 tpos) (.Call (.Name "zip" p) [e1,e2] [] pos) (iZip2 K b1 b2 ta) := by
  subst hK
  intro pins s σ H R I h
  refine Call_ (ld_blt I hg hm bt_zip (PyProof.Rows.callWith_type1 (thn (ha pos pins s σ H _ I h) fun us s1 ⟨vs,H1,I1,r1,q1⟩ => ?_) (by rw [hs,hs2]) (by rw [hs2]; rfl)))
  obtain ⟨l1,l2,e,⟨ys1,h1⟩,⟨ys2,h2⟩,q⟩ := q1
  subst e
  obtain ⟨u1,u2,rfl,t1,t2⟩ := vals2 r1
  cases t1
  cases t2
  obtain ⟨v1,r1,p1,_⟩ := I1.seqX h1
  obtain ⟨v2,r2,p2,_⟩ := I1.seqX h2
  refine call_zip2 p1 p2 fun h' f1 f2 f3 g1 g2 kp => ?_
  refine wpAny_pyIter_zip (s := { s1 with heap := h' }) f1 ?_
  refine ⟨s1.heap.objs.size + 4,[s1.heap.objs.size + 4,s1.heap.objs.size + 2,s1.heap.objs.size + 3,s1.heap.objs.size,s1.heap.objs.size + 1],_,_,H1,rfl,I1.kept (t' := s1.toks) kp,turn_zip2 (b1 := b1) (TI := s1.heap.objs.size + 2) (TO := s1.heap.objs.size + 3) (i1 := s1.heap.objs.size) (i2 := s1.heap.objs.size + 1) (l1 := l1) (l2 := l2) ⟨by show (_ : Nat) ≠ _; omega,by show (_ : Nat) ≠ _; omega,by show (_ : Nat) ≠ _; omega,by show (_ : Nat) ≠ _; omega,by show (_ : Nat) ≠ _; omega,by show (_ : Nat) ≠ _; omega,by show (_ : Nat) ≠ _; omega,by show (_ : Nat) ≠ _; omega,by show (_ : Nat) ≠ _; omega,by show (_ : Nat) ≠ _; omega,by show (_ : Nat) ≠ _; omega,by show (_ : Nat) ≠ _; omega,by show (_ : Nat) ≠ _; omega,by show (_ : Nat) ≠ _; omega,by show (_ : Nat) ≠ _; omega,by show (_ : Nat) ≠ _; omega,by show (_ : Nat) ≠ _; omega,by show (_ : Nat) ≠ _; omega,by show (_ : Nat) ≠ _; omega,by show (_ : Nat) ≠ _; omega⟩,⟨f1,f2,⟨_,_,f3⟩,g1,g2⟩,fun b hb => ?_,q⟩
  have hge : s1.heap.objs.size <= b := by
    simp only [List.mem_cons,List.not_mem_nil,or_false] at hb
    rcases hb with rfl | rfl | rfl | rfl | rfl <;> first | exact Nat.le_refl _ | exact Nat.le_add_right _ _
  exact I1.fpOk hge (I1.hok.fresh hge)
end L2
set_option Elab.async false
set_option linter.all false
set_option maxRecDepth 100000
set_option maxHeartbeats 4000000
namespace L2
open PySem PySem.Spec PyProof.Rows
section
variable {X : Cx}
end
end L2
set_option Elab.async false
set_option linter.all false
set_option maxRecDepth 100000
set_option maxHeartbeats 4000000
namespace L2
open PySem PySem.Spec PyProof.Rows
section
variable {X : Cx}{pins : List (Addr × Obj)}{σ : St}{H : Hp}{s : Shared}
end
end L2
set_option Elab.async false
set_option linter.all false
set_option maxRecDepth 100000
set_option maxHeartbeats 4000000
namespace L2
open PySem PySem.Spec PyProof.Rows
section
variable {X : Cx}{pins : List (Addr × Obj)}{σ : St}{H : Hp}{s : Shared}
end
theorem sl_listK' {X : Cx}(K : PySem.W.Frag)(h : X.K = K) : SlR X (rSlL K) := by subst h; exact sl_list
end L2
set_option Elab.async false
set_option linter.all false
set_option maxRecDepth 100000
set_option maxHeartbeats 4000000
namespace L2
open PySem PySem.Spec PyProof.Rows
section
variable {X : Cx}{x : Str}{C : Addr}{bm bmN : List Value}{newId Bn inN B nid initId : String}{e0 : Expr}{rest : List Expr}{t : TA}{np cpos pos : Pos}
end
end L2
set_option Elab.async false
set_option linter.all false
set_option maxRecDepth 100000
set_option maxHeartbeats 4000000
namespace L2
open PySem PySem.Spec PyProof.Rows
section
variable {M : Model}{A : Around}{E : Value -> Shared -> Prop}{s : Shared}
end
end L2
set_option Elab.async false
set_option linter.all false
set_option maxRecDepth 100000
set_option maxHeartbeats 4000000
namespace L2
open PySem PySem.Spec PyProof.Rows
theorem ObjOk.ex {P : Program}{w : World}{H : Hp}{h : Heap}{a : Addr}{o : HO}(x : ObjOk P w H h a o) : ∃ ob,h.get? a = some ob := by
  cases o with
  | lst xs => obtain ⟨_,_,_,_,e⟩ := x; exact ⟨_,e⟩
  | tup xs => obtain ⟨_,_,_,ob,e,_⟩ := x; exact ⟨_,e⟩
  | dK kvs => obtain ⟨_,_,_,_,o,_,_,e,_⟩ := x; exact ⟨_,e⟩
  | dT kvs => obtain ⟨_,_,_,_,o,_,_,e,_⟩ := x; exact ⟨_,e⟩
  | set S n => obtain ⟨o,_,_,_,e,_⟩ := x; exact ⟨_,e⟩
  | ins C dx fs => obtain ⟨_,_,_,e,_⟩ := x; exact ⟨_,e⟩
  | own y => exact x
  | xd fs => obtain ⟨_,⟨_,_,_,e,_⟩,_⟩ := x; exact ⟨_,e⟩
  | rng lo hi => obtain ⟨_,_,_,e⟩ := x; exact ⟨_,e⟩
  | frz ob u => obtain ⟨e,_⟩ := x; exact ⟨_,e⟩
  | tbl ps => exact ⟨_,(show h.get? a = some _ from x)⟩
  | met f y => exact ⟨_,(show h.get? a = some _ from x)⟩
  | ext φ => obtain ⟨_,e,_⟩ := x; exact e
end L2
set_option Elab.async false
set_option linter.all false
set_option maxRecDepth 100000
set_option maxHeartbeats 4000000
namespace L2
open PySem PySem.Spec PyProof.Rows
end L2
set_option Elab.async false
set_option linter.all false
set_option maxRecDepth 100000
set_option maxHeartbeats 4000000
namespace L2
open PySem PySem.Spec PyProof.Rows
section
variable {prog : Program}{w : World}{A : Around}{E : Value -> Shared -> Prop}{s : Shared}
end
end L2
set_option Elab.async false
set_option linter.all false
set_option maxRecDepth 100000
set_option maxHeartbeats 4000000
namespace L2
open PySem PySem.Spec PyProof.Rows
def ExcO (x C : Addr) : HO := .ext fun h => ∃ (ox : Obj) (vs : Array Value),h.get? x = some ox /\ ox.cls = .ref C /\ ox.dict = none /\ ox.data = .fields vs /\ vs[2]? = some .none
theorem ExcO.ok {P : Program}{w : World}{H : Hp}{h : Heap}{x C : Addr}{ox : Obj}{vs : Array Value}(e : h.get? x = some ox)(c : ox.cls = .ref C)(d : ox.dict = none)(f : ox.data = .fields vs)(v : vs[2]? = some .none) : ObjOk P w H h x (ExcO x C) :=
  ⟨⟨ox,vs,e,c,d,f,v⟩,⟨ox,e⟩,fun h1 h2 ⟨ox',vs',e',c',d',f',v'⟩ k => ⟨ox',vs',k _ e',c',d',f',v'⟩⟩
section
variable {X : Cx}{tg : Expr}
end
section
variable {X : Cx}{elt iter tg : Expr}{ifs : List Expr}{scope : Scope}{pos : Pos}{N' : List Str}{map : List (Option Nat)}{wi : TI}{g : TG}{tt : TT}{te : TE}
end
end L2
set_option Elab.async false
set_option linter.all false
set_option maxRecDepth 100000
set_option maxHeartbeats 4000000
namespace L2
open PySem PySem.Spec PyProof.Rows
structure RoomM (k : Nat)(A : Around) : Prop where
  dp : A.depth + 3 * k + 5 < recursionLimit
  un : A.units + 16 * k + 200 < cLine
theorem RoomM.units {k : Nat}{A : Around}(r : RoomM k A) : A.units + 64 < cLine := by have := r.un; omega
end L2
set_option Elab.async false
set_option linter.all false
set_option maxRecDepth 100000
set_option maxHeartbeats 4000000
namespace L2
open PySem PySem.Spec PyProof.Rows
section
variable {prog : Program}{w : World}{A : Around}{E : Value -> Shared -> Prop}{s : Shared}{K : PySem.W.Frag}{x C D : Addr}{ox : Obj}{T : String}{Q : Value -> Shared -> Prop}
end
section
variable {X : Cx}
end
end L2
set_option Elab.async false
set_option linter.all false
set_option maxRecDepth 100000
set_option maxHeartbeats 4000000
namespace L2
open PySem PySem.Spec PyProof.Rows
section
variable {X : Cx}{pins pl : List (Addr × Obj)}{σ : St}{H : Hp}{s : Shared}{E : Value -> Shared -> Prop}{x : Addr}
end
end L2
set_option Elab.async false
set_option linter.all false
set_option maxRecDepth 100000
set_option maxHeartbeats 4000000
namespace L2
open PySem PySem.Spec PyProof.Rows
section
variable {X : Cx}
end
end L2
set_option Elab.async false
set_option linter.all false
set_option maxRecDepth 100000
set_option maxHeartbeats 4000000
namespace L2
open PySem PySem.Spec PyProof.Rows
section
variable {M : Model}{A : Around}{E : Value -> Shared -> Prop}{s : Shared}
end
section
variable {P : Program}{w : World}{K : PySem.W.Frag}{mg : Str -> Option Value}{base : Heap}{N : List Str}{qual : Str}{scope : Scope}{f : Addr}{cd : Value}{A : Around}{outer : List Env}{s : Shared}{H : Hp}{E : XK}
end
end L2
set_option Elab.async false
set_option linter.all false
set_option maxRecDepth 100000
set_option maxHeartbeats 4000000
namespace L2
open PySem PySem.Spec PyProof.Rows
abbrev nSet (led : Bool) : Obj := { cls := .type "set",dict := none,data := .set #[] 0 (.fresh 0 0 led) }
abbrev met (ns : List Int)(k : Nat) : List Int := firstMet (fun i => ns.getD i 0) k
section
variable {prog : Program}{w : World}{A : Around}{E : Value -> Shared -> Prop}{s : Shared}
end
end L2
set_option Elab.async false
set_option linter.all false
set_option maxRecDepth 100000
set_option maxHeartbeats 4000000
namespace L2
open PySem PySem.Spec PyProof.Rows
def Asc (xs : Array Nat) : Prop := xs.toList.Pairwise (· < ·)
theorem Asc.lt {xs : Array Nat}(h : Asc xs){i j : Nat}(hij : i < j)(hj : j < xs.size) : xs[i]'(by omega) < xs[j] := by
  have := List.pairwise_iff_getElem.mp h i j (by simp; omega) (by simpa using hj) hij
  simpa using this
theorem below_spec {xs : Array Nat}(h : Asc xs)(j : Nat) : SetTable.below xs j <= xs.size /\ (∀ i (hi : i < xs.size),i < SetTable.below xs j -> xs[i] < j) /\ ∀ i (hi : i < xs.size),SetTable.below xs j <= i -> j <= xs[i] := by
  have go : ∀ fuel lo hi,lo <= hi -> hi <= xs.size -> hi - lo <= fuel -> (∀ i (q : i < xs.size),i < lo -> xs[i] < j) -> (∀ i (q : i < xs.size),hi <= i -> j <= xs[i]) ->
      SetTable.below.go xs j fuel lo hi <= xs.size /\ (∀ i (q : i < xs.size),i < SetTable.below.go xs j fuel lo hi -> xs[i] < j) /\ ∀ i (q : i < xs.size),SetTable.below.go xs j fuel lo hi <= i -> j <= xs[i] := by
    intro fuel
    induction fuel with
    | zero =>
      intro lo hi h1 h2 h3 h4 h5
      have : lo = hi := by omega
      subst this
      exact ⟨h2,h4,h5⟩
    | succ fuel ih =>
      intro lo hi h1 h2 h3 h4 h5
      unfold SetTable.below.go
      by_cases hl : lo < hi
      · rw [if_pos hl]
        have hm : (lo + hi) / 2 < xs.size := by omega
        have hg : xs.getD ((lo + hi) / 2) j = xs[(lo + hi) / 2] := by simp [Array.getD,hm]
        dsimp only
        rw [hg]
        by_cases hx : xs[(lo + hi) / 2] < j
        · rw [if_pos hx]
          refine ih _ _ (by omega) h2 (by omega) (fun i q hi' => ?_) h5
          by_cases e : i = (lo + hi) / 2
          · subst e; exact hx
          · exact Nat.lt_trans (h.lt (show i < (lo + hi) / 2 by omega) hm) hx
        · rw [if_neg hx]
          refine ih _ _ (by omega) (by omega) (by omega) h4 fun i q hi' => ?_
          by_cases e : i = (lo + hi) / 2
          · subst e; omega
          · have := h.lt (show (lo + hi) / 2 < i by omega) q
            omega
      · rw [if_neg hl]
        have : lo = hi := by omega
        subst this
        exact ⟨h2,h4,h5⟩
  unfold SetTable.below
  exact go xs.size 0 xs.size (Nat.zero_le _) (Nat.le_refl _) (by omega) (fun i _ z => absurd z (Nat.not_lt_zero i)) fun i q z => absurd q (by omega)
theorem asc_put {t : SetTable}{j : Nat}(h : Asc t.place)(hn : t.place[SetTable.below t.place j]? ≠ some j) : Asc (t.put j).1.place := by
  obtain ⟨b1,b2,b3⟩ := below_spec h j
  show Asc (SetTable.insertAt t.place (SetTable.below t.place j) j)
  generalize t.place = xs at *
  generalize SetTable.below xs j = k at *
  unfold Asc
  rw [SetTable.toList_insertAt]
  have e1 : ∀ x ∈ xs.toList.take k,x < j := fun x hx => by
    obtain ⟨i,hi,rfl⟩ := List.mem_iff_getElem.mp hx
    rw [List.length_take] at hi
    have hs : i < xs.size := by have : xs.toList.length = xs.size := Array.length_toList; omega
    have := b2 i hs (by omega)
    simpa using this
  have e2 : ∀ x ∈ xs.toList.drop k,j < x := fun x hx => by
    obtain ⟨i,hi,rfl⟩ := List.mem_iff_getElem.mp hx
    rw [List.length_drop] at hi
    have hs : k + i < xs.size := by have : xs.toList.length = xs.size := Array.length_toList; omega
    have a := b3 (k + i) hs (by omega)
    have b : xs[k + i] ≠ j := by
      intro z
      by_cases i0 : i = 0
      · subst i0
        refine hn ?_
        have hk : k < xs.size := by omega
        rw [Array.getElem?_eq_getElem hk]
        simpa using z
      · have hk : k < xs.size := by omega
        have c := h.lt (show k < k + i by omega) hs
        have d := b3 k hk (Nat.le_refl _)
        omega
    simp only [List.getElem_drop,Array.getElem_toList]
    omega
  have hp : xs.toList.Pairwise (· < ·) := h
  rw [<- List.take_append_drop k xs.toList] at hp
  obtain ⟨p1,p2,p3⟩ := List.pairwise_append.mp hp
  refine List.pairwise_append.mpr ⟨p1,List.pairwise_cons.mpr ⟨e2,p2⟩,fun a ha b hb => ?_⟩
  rcases List.mem_cons.mp hb with z | z
  · rw [z]; exact e1 a ha
  · exact Nat.lt_trans (e1 a ha) (e2 b z)
theorem live_filter (g : Nat -> Option Nat) : ∀ l : List Nat,((l.filterMap fun j => (g j).map (j,·)).map (·.1)) = l.filter fun j => (g j).isSome
  | [] => rfl
  | a :: l => by
    have := live_filter g l
    rw [List.filterMap_cons,List.filter_cons]
    cases g a with
    | none => simpa using this
    | some b => simpa using this
structure Tb (w : World)(t : SetTable) : Prop where
  dum : t.dummies = #[]
  led : w.params.followText "set-order" = false -> t.led = true
  asc : t.plain = true -> Asc t.place
end L2
set_option Elab.async false
set_option linter.all false
set_option maxRecDepth 100000
set_option maxHeartbeats 4000000
namespace L2
open PySem PySem.Spec PyProof.Rows
def masks (m : Nat) : Prop := m = 7 \/ m = 31 \/ m = 127
def advM (m : Nat)(p : SetTable.Probe) : SetTable.Probe := if p.more > 0 then { p with j := p.j + 1,more := p.more - 1 } else { p with j := (SetTable.leap m p.i p.perturb).1,more := SetTable.runEnd m (SetTable.leap m p.i p.perturb).1 - (SetTable.leap m p.i p.perturb).1,i := (SetTable.leap m p.i p.perturb).1,perturb := (SetTable.leap m p.i p.perturb).2 }
def stM (m i q : Nat) : SetTable.Probe := { j := i,more := SetTable.runEnd m i - i,i,perturb := q,dummy := none }
def sqM (m : Nat)(h : Int) : Nat -> SetTable.Probe
  | 0 => stM m (SetTable.bits h % (m + 1)) (SetTable.bits h)
  | n + 1 => advM m (sqM m h n)
def posM (m : Nat)(h : Int)(n : Nat) : Nat := (sqM m h n).j
theorem adv_is (t : SetTable)(p : SetTable.Probe) : t.advance p = advM t.mask p := by
  unfold SetTable.advance advM
  split <;> rfl
theorem sq_none (m : Nat)(h : Int) : ∀ n,(sqM m h n).dummy = none
  | 0 => rfl
  | n + 1 => by
    have := sq_none m h n
    show (advM m (sqM m h n)).dummy = none
    unfold advM
    split <;> exact this
def gI (m : Nat) : Nat -> Nat -> Nat
  | 0,i => i
  | r + 1,i => gI m r ((5 * i + 1) % (m + 1))
theorem gI_add (m : Nat) : ∀ a b i,gI m (a + b) i = gI m b (gI m a i)
  | 0,b,i => by rw [Nat.zero_add]; rfl
  | a + 1,b,i => by rw [Nat.add_right_comm]; exact gI_add m a b _
theorem orbit_all {m : Nat}(h : masks m) : (∀ j,j <= m -> ∃ r,r <= m /\ gI m r 0 = j) /\ gI m (m + 1) 0 = 0 := by
  have f : ∀ m : Nat,((List.range (m + 1)).all fun j => (List.range (m + 1)).any fun r => gI m r 0 == j) = true -> ∀ j,j <= m -> ∃ r,r <= m /\ gI m r 0 = j := fun m e j hj => by
    have := List.all_eq_true.mp e j (List.mem_range.mpr (by omega))
    obtain ⟨r,hr,q⟩ := List.any_eq_true.mp this
    exact ⟨r,by have := List.mem_range.mp hr; omega,by simpa using q⟩
  rcases h with rfl | rfl | rfl
  · exact ⟨f _ (by decide +kernel),by decide +kernel⟩
  · exact ⟨f _ (by decide +kernel),by decide +kernel⟩
  · exact ⟨f _ (by decide +kernel),by decide +kernel⟩
theorem orbit_any {m : Nat}(h : masks m){i j : Nat}(hi : i <= m)(hj : j <= m) : ∃ r,r <= m /\ gI m r i = j := by
  obtain ⟨o,z⟩ := orbit_all h
  obtain ⟨a,ha,rfl⟩ := o i hi
  obtain ⟨b,hb,rfl⟩ := o j hj
  by_cases l : a <= b
  · exact ⟨b - a,by omega,by rw [<- gI_add,show a + (b - a) = b by omega]⟩
  · refine ⟨b + (m + 1) - a,by omega,?_⟩
    rw [<- gI_add,show a + (b + (m + 1) - a) = (m + 1) + b by omega,gI_add,z]
theorem run_le (m i : Nat)(h : i <= m) : i <= SetTable.runEnd m i /\ SetTable.runEnd m i <= m /\ SetTable.runEnd m i - i <= 9 := by
  unfold SetTable.runEnd
  split <;> omega
theorem run_steps {m i q : Nat}{h : Int}{n : Nat}(e : sqM m h n = stM m i q) : ∀ c,c <= SetTable.runEnd m i - i -> sqM m h (n + c) = { stM m i q with j := i + c,more := SetTable.runEnd m i - i - c }
  | 0,_ => by rw [Nat.add_zero,e]; rfl
  | c + 1,hc => by
    have := run_steps e c (by omega)
    show advM m (sqM m h (n + c)) = _
    rw [this]
    unfold advM
    rw [if_pos (by show SetTable.runEnd m i - i - c > 0; omega)]
    show ({ j := i + c + 1,more := _,i := _,perturb := _,dummy := _ } : SetTable.Probe) = _
    congr 1
theorem run_next {m i q : Nat}{h : Int}{n : Nat}(e : sqM m h n = stM m i q) : sqM m h (n + (SetTable.runEnd m i - i) + 1) = stM m (SetTable.leap m i q).1 (SetTable.leap m i q).2 := by
  have := run_steps e (SetTable.runEnd m i - i) (Nat.le_refl _)
  show advM m (sqM m h (n + (SetTable.runEnd m i - i))) = _
  rw [this]
  unfold advM
  rw [if_neg (by show ¬ SetTable.runEnd m i - i - (SetTable.runEnd m i - i) > 0; omega)]
  rfl
def bsM (m : Nat)(h : Int) : Nat -> Nat × Nat
  | 0 => (SetTable.bits h % (m + 1),SetTable.bits h)
  | k + 1 => SetTable.leap m (bsM m h k).1 (bsM m h k).2
theorem bs_le (m : Nat)(h : Int) : ∀ k,(bsM m h k).1 <= m
  | 0 => Nat.le_of_lt_succ (Nat.mod_lt _ (Nat.succ_pos m))
  | k + 1 => Nat.le_of_lt_succ (Nat.mod_lt _ (Nat.succ_pos m))
theorem bs_at (m : Nat)(h : Int) : ∀ k,∃ n,n <= 10 * k /\ sqM m h n = stM m (bsM m h k).1 (bsM m h k).2
  | 0 => ⟨0,Nat.le_refl _,rfl⟩
  | k + 1 => by
    obtain ⟨n,hn,e⟩ := bs_at m h k
    have := run_le m _ (bs_le m h k)
    exact ⟨_,by omega,run_next e⟩
theorem bs_pert (m : Nat)(h : Int) : ∀ k,(bsM m h k).2 = SetTable.bits h / 32 ^ k
  | 0 => by rw [Nat.pow_zero,Nat.div_one]; rfl
  | k + 1 => by
    show (bsM m h k).2 / 32 = _
    rw [bs_pert m h k,Nat.div_div_eq_div_mul,Nat.pow_succ]
theorem bits_lt (h : Int) : SetTable.bits h < 2 ^ 64 := by
  unfold SetTable.bits
  have := Int.emod_nonneg h (show (2 ^ 64 : Int) ≠ 0 by decide)
  have := Int.emod_lt_of_pos h (show (0 : Int) < 2 ^ 64 by decide)
  omega
theorem bs_late (m : Nat)(h : Int) : ∀ r,(bsM m h (13 + r)).1 = gI m r (bsM m h 13).1
  | 0 => rfl
  | r + 1 => by
    have e := bs_late m h r
    show (((bsM m h (13 + r)).1 * 5 + 1 + (bsM m h (13 + r)).2 / 32) % (m + 1)) = _
    have z : (bsM m h (13 + r)).2 / 32 = 0 := by
      rw [bs_pert,Nat.div_div_eq_div_mul]
      refine Nat.div_eq_of_lt (Nat.lt_of_lt_of_le (bits_lt h) ?_)
      have : 32 ^ 13 <= 32 ^ (13 + r) := Nat.pow_le_pow_right (by decide) (by omega)
      have : (2 : Nat) ^ 64 <= 32 ^ 13 := by decide +kernel
      omega
    rw [z,e,Nat.add_zero,gI_add m r 1]
    show _ = (5 * _ + 1) % (m + 1)
    rw [Nat.mul_comm]
theorem pos_all {m : Nat}(h : masks m)(x : Int){j : Nat}(hj : j <= m) : ∃ n,n < 10 * (m + 15) /\ posM m x n = j := by
  obtain ⟨r,hr,e⟩ := orbit_any h (bs_le m x 13) hj
  obtain ⟨n,hn,q⟩ := bs_at m x (13 + r)
  refine ⟨n,by omega,?_⟩
  unfold posM
  rw [q,bs_late,e]
  rfl
theorem sub_len {α : Type}[BEq α][LawfulBEq α] : ∀ (ks L : List α),ks.Nodup -> (∀ r ∈ ks,r ∈ L) -> ks.length <= L.length
  | [],_,_,_ => Nat.zero_le _
  | k :: ks,L,nd,h => by
    have hk := h k (List.mem_cons_self ..)
    have := sub_len ks (L.erase k) (List.nodup_cons.mp nd).2 fun r hr => (List.mem_erase_of_ne (fun (z : r = k) => (List.nodup_cons.mp nd).1 (by rw [<- z]; exact hr))).mpr (h r (List.mem_cons_of_mem _ hr))
    rw [List.length_erase_of_mem hk] at this
    have := List.length_pos_of_mem hk
    rw [List.length_cons]
    omega
theorem slot_place {t : SetTable}(asc : Asc t.place){i j : Nat}(e : t.place[i]? = some j) : t.slot j = .live i := by
  obtain ⟨b1,b2,b3⟩ := below_spec asc j
  obtain ⟨hi,ei⟩ := Array.getElem?_eq_some_iff.mp e
  have eb : SetTable.below t.place j = i := by
    rcases Nat.lt_trichotomy (SetTable.below t.place j) i with z | z | z
    · have hb : SetTable.below t.place j < t.place.size := by omega
      have a := b3 _ hb (Nat.le_refl _)
      have b := asc.lt z hi
      omega
    · exact z
    · have := b2 i hi z
      omega
  unfold SetTable.slot
  dsimp only
  rw [eb,e]
  simp
theorem slot_not {t : SetTable}(d : t.dummies = #[]){j : Nat}(h : t.slot j ≠ .empty) : ∃ i,t.slot j = .live i /\ t.place[i]? = some j := by
  unfold SetTable.slot at h ⊢
  dsimp only at h ⊢
  split
  · rename_i z
    exact ⟨_,rfl,by simpa using z⟩
  · rename_i z
    rw [if_neg z,d] at h
    simp [SetTable.has] at h
theorem has_room {t : SetTable}(d : t.dummies = #[])(f : t.place.size <= t.mask) : ∃ j,j <= t.mask /\ t.slot j = .empty := by
  apply Decidable.byContradiction
  intro n
  have all : ∀ j ∈ List.range (t.mask + 1),j ∈ t.place.toList := fun j hj => by
    have hj := List.mem_range.mp hj
    have : t.slot j ≠ .empty := fun z => n ⟨j,by omega,z⟩
    obtain ⟨i,_,e⟩ := slot_not d this
    rw [<- Array.getElem?_toList] at e
    exact List.mem_of_getElem? e
  have := sub_len _ _ List.nodup_range all
  rw [List.length_range,Array.length_toList] at this
  omega
theorem least {P : Nat -> Prop} : ∀ n,P n -> ∃ N,N <= n /\ P N /\ ∀ m,m < N -> ¬ P m := by
  intro n
  induction n using Nat.strongRecOn with
  | _ n ih =>
    intro h
    by_cases z : ∃ m,m < n /\ P m
    · obtain ⟨m,hm,q⟩ := z
      obtain ⟨N,a,b,c⟩ := ih m hm q
      exact ⟨N,by omega,b,c⟩
    · exact ⟨n,Nat.le_refl _,h,fun m hm q => z ⟨m,hm,q⟩⟩
theorem search_end {t : SetTable}(hm : masks t.mask)(d : t.dummies = #[])(f : t.place.size <= t.mask)(h : Int) : ∃ N,N < 10 * (t.mask + 15) /\ t.slot (posM t.mask h N) = .empty /\ ∀ m,m < N -> t.slot (posM t.mask h m) ≠ .empty := by
  obtain ⟨j,hj,e⟩ := has_room d f
  obtain ⟨n,hn,rfl⟩ := pos_all hm h hj
  obtain ⟨N,a,b,c⟩ := least (P := fun n => t.slot (posM t.mask h n) = .empty) n e
  exact ⟨N,by omega,b,c⟩
theorem probe_from {t : SetTable}{ha : Nat -> Int}{h : Int}{N : Nat}(d : t.dummies = #[])(e : t.slot (posM t.mask h N) = .empty)(o : ∀ m,m < N -> t.slot (posM t.mask h m) ≠ .empty) : ∀ (fuel n : Nat),n <= N -> N - n < fuel ->
    (SetTable.probe.go t ha h fuel (sqM t.mask h n) = some (.empty (posM t.mask h N) none) /\ ∀ m i,n <= m -> m < N -> t.slot (posM t.mask h m) = .live i -> ha i ≠ h) \/
    ∃ m i,n <= m /\ m < N /\ t.slot (posM t.mask h m) = .live i /\ ha i = h /\ SetTable.probe.go t ha h fuel (sqM t.mask h n) = some (.candidate (posM t.mask h m) i (sqM t.mask h (m + 1))) /\ ∀ m' i',n <= m' -> m' < m -> t.slot (posM t.mask h m') = .live i' -> ha i' ≠ h
  | 0,n,h1,h2 => by omega
  | fuel + 1,n,h1,h2 => by
    unfold SetTable.probe.go
    by_cases z : n = N
    · subst z
      left
      have e' : t.slot (sqM t.mask h n).j = .empty := e
      rw [e']
      dsimp only
      rw [sq_none]
      exact ⟨rfl,fun m i a b => by omega⟩
    · obtain ⟨i,e',_⟩ := slot_not d (o n (by omega))
      have e2 : t.slot (sqM t.mask h n).j = .live i := e'
      rw [e2]
      dsimp only
      by_cases q : ha i = h
      · right
        rw [if_pos (by simpa using q)]
        exact ⟨n,i,Nat.le_refl _,by omega,e',q,by rw [adv_is]; rfl,fun m' i' a b => by omega⟩
      · rw [if_neg (by simpa using q),adv_is]
        have ih := probe_from (ha := ha) d e o fuel (n + 1) (by omega) (by omega)
        rcases ih with ⟨g,k⟩ | ⟨m,i',a,b,c,d',g,k⟩
        · left
          refine ⟨g,fun m i'' a b c => ?_⟩
          by_cases y : m = n
          · subst y
            rw [e'] at c
            cases c
            exact q
          · exact k m i'' (by omega) b c
        · right
          refine ⟨m,i',by omega,b,c,d',g,fun m' i'' a' b' c' => ?_⟩
          by_cases y : m' = n
          · subst y
            rw [e'] at c'
            cases c'
            exact q
          · exact k m' i'' (by omega) b' c'
end L2
set_option Elab.async false
set_option linter.all false
set_option maxRecDepth 100000
set_option maxHeartbeats 4000000
namespace L2
open PySem PySem.Spec PyProof.Rows
def Rch (m : Nat)(occ : Nat -> Prop)(h : Int)(j : Nat) : Prop := ∃ n,posM m h n = j /\ ∀ k,k < n -> occ (posM m h k)
theorem Rch.mono {m : Nat}{o o' : Nat -> Prop}{h : Int}{j : Nat}(r : Rch m o h j)(k : ∀ x,o x -> o' x) : Rch m o' h j := by
  obtain ⟨n,e,a⟩ := r
  exact ⟨n,e,fun c hc => k _ (a c hc)⟩
theorem pos_le (m : Nat)(h : Int) : ∀ n,(sqM m h n).i <= m /\ (sqM m h n).j + (sqM m h n).more = SetTable.runEnd m (sqM m h n).i
  | 0 => by
    have a : SetTable.bits h % (m + 1) <= m := Nat.le_of_lt_succ (Nat.mod_lt _ (Nat.succ_pos m))
    have := run_le m _ a
    refine ⟨a,?_⟩
    show SetTable.bits h % (m + 1) + (SetTable.runEnd m (SetTable.bits h % (m + 1)) - SetTable.bits h % (m + 1)) = SetTable.runEnd m (SetTable.bits h % (m + 1))
    omega
  | n + 1 => by
    obtain ⟨a,b⟩ := pos_le m h n
    show (advM m (sqM m h n)).i <= m /\ (advM m (sqM m h n)).j + (advM m (sqM m h n)).more = SetTable.runEnd m (advM m (sqM m h n)).i
    unfold advM
    split
    · refine ⟨a,?_⟩
      show (sqM m h n).j + 1 + ((sqM m h n).more - 1) = SetTable.runEnd m (sqM m h n).i
      omega
    · have a : (SetTable.leap m (sqM m h n).i (sqM m h n).perturb).1 <= m := Nat.le_of_lt_succ (Nat.mod_lt _ (Nat.succ_pos m))
      have := run_le m _ a
      refine ⟨a,?_⟩
      show (SetTable.leap m (sqM m h n).i (sqM m h n).perturb).1 + (SetTable.runEnd m (SetTable.leap m (sqM m h n).i (sqM m h n).perturb).1 - (SetTable.leap m (sqM m h n).i (sqM m h n).perturb).1) = SetTable.runEnd m (SetTable.leap m (sqM m h n).i (sqM m h n).perturb).1
      omega
theorem Rch.mono' {m : Nat}{o o' : Nat -> Prop}{h : Int}{j : Nat}(r : Rch m o h j)(k : ∀ x,x <= m -> o x -> o' x) : Rch m o' h j := by
  obtain ⟨n,e,a⟩ := r
  refine ⟨n,e,fun c hc => k _ ?_ (a c hc)⟩
  obtain ⟨b,d⟩ := pos_le m h c
  have := run_le m _ b
  unfold posM
  omega
structure RT (t : SetTable)(es : Array (Int × Value)) : Prop where
  msk : masks t.mask
  dum : t.dummies = #[]
  asc : Asc t.place
  siz : t.place.size = es.size
  le : es.size <= t.mask
  rch : ∀ q ∈ t.place.toList.zip es.toList,Rch t.mask (· ∈ t.place.toList) q.2.1 q.1
theorem slot_occ {t : SetTable}(d : t.dummies = #[])(a : Asc t.place)(j : Nat) : t.slot j ≠ .empty ↔ j ∈ t.place.toList := by
  constructor
  · intro h
    obtain ⟨i,_,e⟩ := slot_not d h
    rw [<- Array.getElem?_toList] at e
    exact List.mem_of_getElem? e
  · intro h
    obtain ⟨i,e⟩ := List.getElem?_of_mem h
    rw [Array.getElem?_toList] at e
    rw [slot_place a e]
    exact fun z => by cases z
theorem RT.plain {t : SetTable}{es : Array (Int × Value)}(r : RT t es)(b : Bool) : RT { t with plain := b } es := ⟨r.msk,r.dum,r.asc,r.siz,r.le,r.rch⟩
theorem RT.fresh (f m : Nat)(l : Bool) : RT (.fresh f m l) #[] := ⟨.inl rfl,rfl,by simp [SetTable.fresh,Asc],rfl,Nat.zero_le _,fun q h => by simp [SetTable.fresh] at h⟩
theorem RT.end {t : SetTable}{es : Array (Int × Value)}(r : RT t es)(h : Int) : ∃ N,N < 10 * (t.mask + 15) /\ t.slot (posM t.mask h N) = .empty /\ ∀ m,m < N -> t.slot (posM t.mask h m) ≠ .empty := search_end r.msk r.dum (by rw [r.siz]; exact r.le) h
theorem RT.met {t : SetTable}{es : Array (Int × Value)}(r : RT t es){i N : Nat}{e : Int × Value}(he : es[i]? = some e)(eN : t.slot (posM t.mask e.1 N) = .empty) : ∃ n,n < N /\ t.slot (posM t.mask e.1 n) = .live i := by
  have hi : i < es.size := (Array.getElem?_eq_some_iff.mp he).1
  have hp : t.place[i]? = some (t.place[i]'(by rw [r.siz]; exact hi)) := Array.getElem?_eq_getElem _
  have hz : (t.place[i]'(by rw [r.siz]; exact hi),e) ∈ t.place.toList.zip es.toList := by
    refine List.mem_of_getElem? (i := i) ?_
    rw [List.getElem?_zip_eq_some]
    exact ⟨by rw [Array.getElem?_toList]; exact hp,by rw [Array.getElem?_toList]; exact he⟩
  obtain ⟨n,en,o⟩ := r.rch _ hz
  have sl := slot_place r.asc hp
  have en : posM t.mask e.1 n = t.place[i]'(by rw [r.siz]; exact hi) := en
  rw [<- en] at sl
  refine ⟨n,?_,sl⟩
  apply Decidable.byContradiction
  intro z
  by_cases y : N = n
  · rw [y,sl] at eN
    cases eN
  · exact absurd eN ((slot_occ r.dum r.asc _).mpr (o N (by omega)))
theorem zip_put {α β : Type}(a : List α)(b : List β)(x : α)(y : β)(p : Nat)(h : a.length = b.length) : (a.take p ++ x :: a.drop p).zip (b.take p ++ y :: b.drop p) = (a.zip b).take p ++ (x,y) :: (a.zip b).drop p := by
  rw [List.zip_append (by rw [List.length_take,List.length_take,h]),List.zip_cons_cons]
  unfold List.zip
  rw [List.take_zipWith,List.drop_zipWith]
theorem RT.put {t : SetTable}{es : Array (Int × Value)}(r : RT t es){h : Int}{x : Value}{N : Nat}(eN : t.slot (posM t.mask h N) = .empty)(o : ∀ m,m < N -> t.slot (posM t.mask h m) ≠ .empty)(le : es.size + 1 <= t.mask) :
    RT (t.put (posM t.mask h N)).1 (SetTable.insertAt es (t.put (posM t.mask h N)).2 (h,x)) := by
  have hs : t.place[SetTable.below t.place (posM t.mask h N)]? ≠ some (posM t.mask h N) := fun z => by
    rw [slot_place r.asc z] at eN
    cases eN
  have a2 := asc_put r.asc hs
  have dm : (t.put (posM t.mask h N)).1.dummies = #[] := by
    show (if SetTable.has t.dummies _ then _ else t.dummies) = _
    rw [r.dum]
    simp [SetTable.has]
  have pl : (t.put (posM t.mask h N)).1.place.toList = t.place.toList.take (SetTable.below t.place (posM t.mask h N)) ++ posM t.mask h N :: t.place.toList.drop (SetTable.below t.place (posM t.mask h N)) := SetTable.toList_insertAt ..
  have el : (SetTable.insertAt es (t.put (posM t.mask h N)).2 (h,x)).toList = es.toList.take (SetTable.below t.place (posM t.mask h N)) ++ (h,x) :: es.toList.drop (SetTable.below t.place (posM t.mask h N)) := SetTable.toList_insertAt ..
  have mm : (t.put (posM t.mask h N)).1.mask = t.mask := rfl
  generalize SetTable.below t.place (posM t.mask h N) = k at *
  have mem : ∀ j,j ∈ (t.put (posM t.mask h N)).1.place.toList ↔ j = posM t.mask h N \/ j ∈ t.place.toList := fun j => by
    rw [pl,List.mem_append,List.mem_cons]
    conv => rhs; rw [<- List.take_append_drop k t.place.toList,List.mem_append]
    constructor
    · rintro (z | z | z)
      · exact .inr (.inl z)
      · exact .inl z
      · exact .inr (.inr z)
    · rintro (z | z | z)
      · exact .inr (.inl z)
      · exact .inl z
      · exact .inr (.inr z)
  have ln : t.place.toList.length = es.toList.length := by rw [Array.length_toList,Array.length_toList]; exact r.siz
  have z1 : (SetTable.insertAt es (t.put (posM t.mask h N)).2 (h,x)).size = es.size + 1 := by
    rw [<- Array.length_toList,el]
    simp only [List.length_append,List.length_cons,List.length_take,List.length_drop,Array.length_toList]
    omega
  have z2 : (t.put (posM t.mask h N)).1.place.size = t.place.size + 1 := by
    rw [<- Array.length_toList,pl]
    simp only [List.length_append,List.length_cons,List.length_take,List.length_drop,Array.length_toList]
    omega
  refine ⟨by rw [mm]; exact r.msk,dm,a2,by rw [z1,z2,r.siz],by rw [z1,mm]; exact le,fun q hq => ?_⟩
  rw [mm]
  rw [pl,el,zip_put _ _ _ _ _ ln,List.mem_append,List.mem_cons] at hq
  have old : q ∈ t.place.toList.zip es.toList -> Rch t.mask (· ∈ (t.put (posM t.mask h N)).1.place.toList) q.2.1 q.1 := fun hq => (r.rch q hq).mono fun j hj => (mem j).mpr (.inr hj)
  rcases hq with hq | rfl | hq
  · exact old (List.mem_of_mem_take hq)
  · exact ⟨N,rfl,fun c hc => (mem _).mpr (.inr ((slot_occ r.dum r.asc _).mp (o c hc)))⟩
  · exact old (List.mem_of_mem_drop hq)
def occO (o : Array (Option Nat))(j : Nat) : Prop := (o.getD j (some 0)).isNone = false
structure LI (m : Nat)(o : Array (Option Nat))(P : List Int) : Prop where
  sz : o.size = m + 1
  lt : ∀ j k : Nat,o[j]? = some (some k) -> k < P.length
  ex : ∀ (k : Nat) (h : Int),P[k]? = some h -> ∃ j : Nat,o[j]? = some (some k) /\ Rch m (occO o) h j
  un : ∀ i j k : Nat,o[i]? = some (some k) -> o[j]? = some (some k) -> i = j
theorem LI.room {m : Nat}{o : Array (Option Nat)}{P : List Int}(I : LI m o P)(h : P.length <= m) : ∃ j,j <= m /\ o[j]? = some none := by
  apply Decidable.byContradiction
  intro n
  have all : ∀ j,j <= m -> ∃ k,o[j]? = some (some k) := fun j hj => by
    have hl : j < o.size := by rw [I.sz]; omega
    have e : o[j]? = some o[j] := Array.getElem?_eq_getElem hl
    cases q : o[j] with
    | none => exact absurd ⟨j,hj,by rw [e,q]⟩ n
    | some k => exact ⟨k,by rw [e,q]⟩
  have nd : ((List.range (m + 1)).map fun j => ((o[j]?).getD none).getD 0).Nodup := by
    refine List.pairwise_map.mpr ?_
    refine List.Pairwise.imp_of_mem ?_ List.nodup_range
    intro a b ha hb hab e
    obtain ⟨k,ek⟩ := all a (by have := List.mem_range.mp ha; omega)
    obtain ⟨k',ek'⟩ := all b (by have := List.mem_range.mp hb; omega)
    rw [ek,ek'] at e
    have e : k = k' := e
    subst e
    exact hab (I.un a b k ek ek')
  have := sub_len _ (List.range P.length) nd fun k hk => by
    obtain ⟨j,hj,rfl⟩ := List.mem_map.mp hk
    obtain ⟨k,ek⟩ := all j (by have := List.mem_range.mp hj; omega)
    rw [ek]
    exact List.mem_range.mpr (I.lt j k ek)
  rw [List.length_map,List.length_range,List.length_range] at this
  omega
theorem find_range {p : Nat -> Bool} : ∀ {n k : Nat},(List.range n).find? p = some k -> k < n /\ p k = true /\ ∀ c,c < k -> p c = false
  | 0,k,h => by cases h
  | n + 1,k,h => by
    rw [List.range_succ,List.find?_append] at h
    cases e : (List.range n).find? p with
    | some k' =>
      rw [e] at h
      cases (Option.some.inj h)
      obtain ⟨a,b,c⟩ := find_range e
      exact ⟨by omega,b,c⟩
    | none =>
      rw [e] at h
      have h : List.find? p [n] = some k := h
      rw [List.find?_singleton] at h
      split at h
      · rename_i q
        cases h
        refine ⟨by omega,q,fun c hc => ?_⟩
        have := List.find?_eq_none.mp e c (List.mem_range.mpr hc)
        simpa using this
      · cases h
theorem free_spec {m : Nat}{o : Array (Option Nat)}{h : Int}{K : Nat}(fK : (o.getD (bsM m h K).1 (some 0)).isNone = true) : ∀ (fuel k n : Nat),k <= K -> K - k < fuel -> sqM m h n = stM m (bsM m h k).1 (bsM m h k).2 -> (∀ c,c < n -> occO o (posM m h c)) ->
    ∃ N,SetTable.layClean.free m o fuel (bsM m h k).1 (bsM m h k).2 = some (posM m h N) /\ (o.getD (posM m h N) (some 0)).isNone = true /\ ∀ c,c < N -> occO o (posM m h c)
  | 0,k,n,h1,h2,_,_ => by omega
  | fuel + 1,k,n,h1,h2,e,oc => by
    unfold SetTable.layClean.free
    have rl := run_le m _ (bs_le m h k)
    have pos : ∀ c,c <= SetTable.runEnd m (bsM m h k).1 - (bsM m h k).1 -> posM m h (n + c) = (bsM m h k).1 + c := fun c hc => by
      unfold posM
      rw [run_steps e c hc]
    cases q : (List.range (SetTable.runEnd m (bsM m h k).1 + 1 - (bsM m h k).1)).find? fun c => (o.getD ((bsM m h k).1 + c) (some 0)).isNone with
    | some c =>
      obtain ⟨a,b,d⟩ := find_range q
      dsimp only
      refine ⟨n + c,by rw [pos c (by omega)],by rw [pos c (by omega)]; exact b,fun c' hc' => ?_⟩
      by_cases y : c' < n
      · exact oc c' y
      · have := d (c' - n) (by omega)
        unfold occO
        rw [show c' = n + (c' - n) by omega,pos (c' - n) (by omega)]
        exact this
    | none =>
      dsimp only
      have nn := List.find?_eq_none.mp q
      have kK : k < K := by
        apply Decidable.byContradiction
        intro z
        have : k = K := by omega
        subst this
        have := nn 0 (List.mem_range.mpr (by omega))
        rw [Nat.add_zero] at this
        exact this fK
      refine free_spec fK fuel (k + 1) (n + (SetTable.runEnd m (bsM m h k).1 - (bsM m h k).1) + 1) (by omega) (by omega) (run_next e) fun c' hc' => ?_
      by_cases y : c' < n
      · exact oc c' y
      · have := nn (c' - n) (List.mem_range.mpr (by omega))
        unfold occO
        rw [show c' = n + (c' - n) by omega,pos (c' - n) (by omega)]
        exact Bool.eq_false_iff.mpr this
def layStep (m : Nat)(acc : Option (Array (Option Nat) × Nat))(h : Int) : Option (Array (Option Nat) × Nat) := do
  let (owner,k) <- acc
  let j <- SetTable.layClean.free m owner (SetTable.turns m) (SetTable.bits h % (m + 1)) (SetTable.bits h)
  pure (owner.setIfInBounds j (some k),k + 1)
theorem lay_one {m : Nat}(hm : masks m){o : Array (Option Nat)}{P : List Int}(I : LI m o P)(hl : P.length <= m)(h : Int) : ∃ o',layStep m (some (o,P.length)) h = some (o',(P ++ [h]).length) /\ LI m o' (P ++ [h]) := by
  obtain ⟨j,hj,ej⟩ := I.room hl
  obtain ⟨r,hr,er⟩ := orbit_any hm (bs_le m h 13) hj
  have fK : (o.getD (bsM m h (13 + r)).1 (some 0)).isNone = true := by
    rw [bs_late,er,Array.getD_eq_getD_getElem?,ej]
    rfl
  obtain ⟨N,e1,e2,e3⟩ := free_spec fK (SetTable.turns m) 0 0 (Nat.zero_le _) (by unfold SetTable.turns; omega) rfl fun c hc => by omega
  have e1 : SetTable.layClean.free m o (SetTable.turns m) (SetTable.bits h % (m + 1)) (SetTable.bits h) = some (posM m h N) := e1
  have pN : o[posM m h N]? = some none := by
    rw [Array.getD_eq_getD_getElem?] at e2
    cases q : o[posM m h N]? with
    | none => rw [q] at e2; cases e2
    | some v =>
      rw [q] at e2
      cases v with
      | none => rfl
      | some k => cases e2
  have pl : posM m h N < o.size := (Array.getElem?_eq_some_iff.mp pN).1
  refine ⟨o.setIfInBounds (posM m h N) (some P.length),?_,?_⟩
  · unfold layStep
    rw [List.length_append]
    show (SetTable.layClean.free m o (SetTable.turns m) (SetTable.bits h % (m + 1)) (SetTable.bits h)).bind _ = _
    rw [e1]
    rfl
  · have g : ∀ i,(o.setIfInBounds (posM m h N) (some P.length))[i]? = if posM m h N = i then some (some P.length) else o[i]? := fun i => by
      rw [Array.getElem?_setIfInBounds]
      by_cases z : posM m h N = i
      · rw [if_pos z,if_pos z,if_pos pl]
      · rw [if_neg z,if_neg z]
    have oc : ∀ i,occO o i -> occO (o.setIfInBounds (posM m h N) (some P.length)) i := fun i hi => by
      unfold occO at *
      rw [Array.getD_eq_getD_getElem?] at hi ⊢
      rw [g i]
      split
      · rfl
      · exact hi
    refine ⟨by rw [Array.size_setIfInBounds]; exact I.sz,fun i k e => ?_,fun k x e => ?_,fun i i' k e e' => ?_⟩
    · rw [g i] at e
      rw [List.length_append]
      split at e
      · cases e; show _ < _ + 1; omega
      · have := I.lt i k e
        omega
    · by_cases z : k < P.length
      · rw [List.getElem?_append_left z] at e
        obtain ⟨i,ei,ri⟩ := I.ex k x e
        refine ⟨i,?_,ri.mono oc⟩
        rw [g i,if_neg fun y => by rw [y] at pN; rw [pN] at ei; cases ei]
        exact ei
      · have hk : k = P.length := by
          have := (List.getElem?_eq_some_iff.mp e).1
          rw [List.length_append] at this
          have : k < P.length + 1 := this
          omega
        subst hk
        rw [List.getElem?_append_right (Nat.le_refl _),Nat.sub_self] at e
        cases e
        exact ⟨_,by rw [g,if_pos rfl],N,rfl,fun c hc => oc _ (e3 c hc)⟩
    · rw [g i] at e
      rw [g i'] at e'
      split at e <;> split at e'
      · rename_i a b; exact a.symm.trans b
      · cases e
        exact absurd (I.lt _ _ e') (Nat.lt_irrefl _)
      · cases e'
        exact absurd (I.lt _ _ e) (Nat.lt_irrefl _)
      · exact I.un i i' k e e'
theorem lay_all {m : Nat}(hm : masks m) : ∀ (l : List Int) (o : Array (Option Nat)) (P : List Int),LI m o P -> P.length + l.length <= m + 1 -> ∃ o',l.foldl (layStep m) (some (o,P.length)) = some (o',(P ++ l).length) /\ LI m o' (P ++ l)
  | [],o,P,I,_ => ⟨o,by rw [List.append_nil]; rfl,by rw [List.append_nil]; exact I⟩
  | h :: l,o,P,I,hl => by
    rw [List.length_cons] at hl
    obtain ⟨o1,e1,I1⟩ := lay_one hm I (by omega) h
    obtain ⟨o2,e2,I2⟩ := lay_all hm l o1 (P ++ [h]) I1 (by rw [List.length_append]; show _ + 1 + _ <= _; omega)
    refine ⟨o2,?_,?_⟩
    · rw [List.foldl_cons,e1,e2]
      simp
    · rw [List.append_assoc] at I2
      exact I2
theorem lay_clean {m : Nat}(hm : masks m)(hs : Array Int)(hl : hs.size <= m + 1) : ∃ o,SetTable.layClean m hs = some o /\ LI m o hs.toList := by
  obtain ⟨o,e,I⟩ := lay_all hm hs.toList (Array.replicate (m + 1) none) [] ⟨by simp,fun j k e => (by rw [Array.getElem?_replicate] at e; split at e <;> (cases e)),fun k h e => (by cases e),fun i j k e => (by rw [Array.getElem?_replicate] at e; split at e <;> (cases e))⟩ (by rw [Array.length_toList]; simpa using hl)
  refine ⟨o,?_,I⟩
  unfold SetTable.layClean
  rw [<- Array.foldl_toList]
  have e : hs.toList.foldl (layStep m) (some (Array.replicate (m + 1) none,0)) = _ := e
  show Option.map _ (hs.toList.foldl (layStep m) _) = _
  rw [e]
  rfl
theorem live_fst (g : Nat -> Option Nat) : ∀ l : List Nat,∀ p : Nat × Nat,p ∈ (l.filterMap fun j => (g j).map (j,·)) ↔ p.1 ∈ l /\ g p.1 = some p.2
  | [],p => by simp
  | a :: l,p => by
    have ih := live_fst g l p
    rw [List.filterMap_cons]
    cases q : g a with
    | none =>
      show p ∈ l.filterMap _ ↔ _
      rw [ih,List.mem_cons]
      constructor
      · rintro ⟨x,y⟩; exact ⟨.inr x,y⟩
      · rintro ⟨x | x,y⟩
        · rw [x,q] at y; cases y
        · exact ⟨x,y⟩
    | some b =>
      show p ∈ (a,b) :: l.filterMap _ ↔ _
      rw [List.mem_cons,ih,List.mem_cons]
      constructor
      · rintro (rfl | ⟨x,y⟩)
        · exact ⟨.inl rfl,q⟩
        · exact ⟨.inr x,y⟩
      · rintro ⟨x | x,y⟩
        · left
          rw [x,q] at y
          cases y
          rw [<- x]
        · exact .inr ⟨x,y⟩
theorem zip_map2 {α β γ : Type}(f : α -> β)(g : α -> γ) : ∀ l : List α,(l.map f).zip (l.map g) = l.map fun a => (f a,g a)
  | [] => rfl
  | a :: l => by rw [List.map_cons,List.map_cons,List.zip_cons_cons,zip_map2 f g l]; rfl
theorem relay_ok {t : SetTable}{es : Array (Int × Value)}{wanted m : Nat}(hw : SetTable.sizeAbove wanted - 1 = m)(hm : masks m)(hl : es.size <= m) :
    ∃ t' ord,t.relaid (es.map (·.1)) wanted = some (t',ord) /\ (ord.filterMap (es[·]?)).size = es.size /\ (ord.filterMap (es[·]?)).toList.Perm es.toList /\ RT t' (ord.filterMap (es[·]?)) /\ t'.fits es.size = true /\ t'.led = t.led := by
  obtain ⟨o,eo,I⟩ := lay_clean hm (es.map (·.1)) (by rw [Array.size_map]; omega)
  have Pl : (es.map (·.1)).toList = es.toList.map (·.1) := Array.toList_map
  have Pn : (es.map (·.1)).toList.length = es.size := by rw [Array.length_toList,Array.size_map]
  obtain ⟨live,hlive⟩ : ∃ live : List (Nat × Nat),live = (List.range (m + 1)).filterMap fun j => (o.getD j none).map (j,·) := ⟨_,rfl⟩
  have od : ∀ j k : Nat,o.getD j none = some k ↔ o[j]? = some (some k) := fun j k => by
    rw [Array.getD_eq_getD_getElem?]
    cases q : o[j]? with
    | none => simp
    | some v => simp
  have mem : ∀ p,p ∈ live ↔ p.1 <= m /\ o[p.1]? = some (some p.2) := fun p => by
    rw [hlive,live_fst,List.mem_range,od]
    constructor <;> rintro ⟨a,b⟩ <;> exact ⟨by omega,b⟩
  have asc : (live.map (·.1)).Pairwise (· < ·) := by
    rw [hlive,live_filter]
    exact List.Pairwise.filter _ List.pairwise_lt_range
  have nd2 : (live.map (·.2)).Nodup := by
    have nd1 : (live.map (·.1)).Nodup := asc.imp fun h => Nat.ne_of_lt h
    refine List.pairwise_map.mpr ?_
    refine List.Pairwise.imp_of_mem ?_ (List.pairwise_map.mp nd1)
    intro a b ha hb hab e
    have a2 := ((mem a).mp ha).2
    have b2 := ((mem b).mp hb).2
    rw [e] at a2
    exact hab (I.un _ _ _ a2 b2)
  have perm : (live.map (·.2)).Perm (List.range es.size) := (List.perm_ext_iff_of_nodup nd2 List.nodup_range).mpr fun k => by
    rw [List.mem_range,List.mem_map]
    constructor
    · rintro ⟨p,hp,rfl⟩
      have := I.lt _ _ ((mem p).mp hp).2
      omega
    · intro hk
      obtain ⟨j,ej,_⟩ := I.ex k ((es.map (·.1)).toList[k]'(by omega)) (List.getElem?_eq_getElem _)
      exact ⟨(j,k),(mem _).mpr ⟨by have := (Array.getElem?_eq_some_iff.mp ej).1; rw [I.sz] at this; exact Nat.le_of_lt_succ this,ej⟩,rfl⟩
  have fm : (((live.map (·.2)).toArray).filterMap (es[·]?)).toList = live.filterMap fun p => es[p.2]? := by
    rw [Array.toList_filterMap,List.filterMap_map]
    rfl
  have pe : (((live.map (·.2)).toArray).filterMap (es[·]?)).toList.Perm es.toList := by
    rw [fm]
    have := perm.filterMap fun x => es[x]?
    rw [filterMap_getElem?_range,List.filterMap_map] at this
    exact this
  have ll : live.length = es.size := by
    have := perm.length_eq
    rwa [List.length_map,List.length_range] at this
  have all : ∀ p ∈ live,∃ e,es[p.2]? = some e := fun p hp => by
    have : p.2 ∈ live.map (·.2) := List.mem_map.mpr ⟨p,hp,rfl⟩
    have := List.mem_range.mp (perm.mem_iff.mp this)
    exact ⟨es[p.2],Array.getElem?_eq_getElem this⟩
  have em : (live.filterMap fun p => es[p.2]?) = live.map fun p => (es[p.2]?).getD (0,.none) := by
    clear pe fm nd2 perm asc mem hlive ll
    induction live with
    | nil => rfl
    | cons p live ih =>
      obtain ⟨e,q⟩ := all p (List.mem_cons_self ..)
      rw [List.filterMap_cons,q,List.map_cons,q,ih fun x hx => all x (List.mem_cons_of_mem _ hx)]
      rfl
  have sz : (((live.map (·.2)).toArray).filterMap (es[·]?)).size = es.size := by
    rw [<- Array.length_toList,pe.length_eq,Array.length_toList]
  refine ⟨{ mask := m,place := (live.map (·.1)).toArray,dummies := #[],finger := t.finger,led := t.led,moves := t.movedTo m,plain := t.plain },(live.map (·.2)).toArray,?_,sz,pe,⟨hm,rfl,by unfold Asc; simpa using asc,?_,by rw [sz]; exact hl,fun q hq => ?_⟩,?_,rfl⟩
  · unfold SetTable.relaid SetTable.laid
    rw [hw,eo]
    subst hlive
    rfl
  · show ((live.map (·.1)).toArray).size = _
    rw [sz]
    simpa using ll
  · have hq : q ∈ ((live.map (·.1)).toArray).toList.zip (((live.map (·.2)).toArray).filterMap (es[·]?)).toList := hq
    rw [fm,em,List.toList_toArray,zip_map2] at hq
    obtain ⟨p,hp,rfl⟩ := List.mem_map.mp hq
    obtain ⟨e,q⟩ := all p hp
    obtain ⟨hj,ho⟩ := (mem p).mp hp
    have eh : (es.map (·.1)).toList[p.2]? = some e.1 := by rw [Pl,List.getElem?_map,Array.getElem?_toList,q]; rfl
    obtain ⟨j,ej,r⟩ := I.ex p.2 e.1 eh
    have e1 : j = p.1 := I.un _ _ _ ej ho
    subst e1
    show Rch m _ ((es[p.2]?).getD (0,.none)).1 p.1
    rw [q]
    refine r.mono' fun x xm hx => ?_
    show x ∈ ((live.map (·.1)).toArray).toList
    rw [List.toList_toArray]
    obtain ⟨k,hk⟩ : ∃ k,o[x]? = some (some k) := by
      have hl : x < o.size := by rw [I.sz]; omega
      have hx : (o.getD x (some 0)).isNone = false := hx
      rw [Array.getD_eq_getD_getElem?,Array.getElem?_eq_getElem hl] at hx
      rw [Array.getElem?_eq_getElem hl]
      cases y : o[x] with
      | none => rw [y] at hx; cases hx
      | some k => exact ⟨k,rfl⟩
    exact List.mem_map.mpr ⟨(x,k),(mem _).mpr ⟨xm,hk⟩,rfl⟩
  · show (((live.map (·.1)).toArray).size == es.size && decide (_ <= m)) = true
    have e : ((live.map (·.1)).toArray).size = es.size := by simpa using ll
    rw [e]
    simp [SetTable.fill,e]
    omega
end L2
set_option Elab.async false
set_option linter.all false
set_option maxRecDepth 100000
set_option maxHeartbeats 4000000
namespace L2
open PySem PySem.Spec PyProof.Rows
section
variable {prog : Program}{w : World}{A : Around}{E : Value -> Shared -> Prop}{s : Shared}
theorem draw_lst {it l : Addr}{items : Array Value}(hne : l ≠ it) : ∀ (n i : Nat) (s : Shared) (Q : List Value -> Shared -> Prop),s.heap.IsListIter it l i -> s.heap.IsList l items -> i + n <= items.size ->
    (∀ h',h'.IsListIter it l (i + n) -> Heap.SameBut it s.heap h' -> Q ((items.toList.drop i).take n) { s with heap := h' }) -> wpAny (model prog w) A (draw (.ref it) n) Q E s
  | 0,i,s,Q,hit,_,_,hQ => by
    show wpAny _ _ (pure []) Q E s; exact wpAny_pure (by simpa using hQ s.heap hit (Heap.SameBut.refl ..))
  | n + 1,i,s,Q,hit,ht,hle,hQ => by
    have hlt : i < items.size := by omega
    show wpAny _ _ (pyNext (.ref it) >>= _) Q E s; refine wpAny_bind (wpAny_pyNext_list_item hit ht (x := items[i]) (by simp [hlt]) fun h₁ hit₁ hs₁ => ?_)
    have ht1 : h₁.IsList l items := by
      obtain ⟨o,e,r⟩ := ht
      exact ⟨o,(hs₁.2 l hne).trans e,r⟩
    refine wpAny_bind (wpAny_holding (draw_lst hne n (i + 1) _ _ hit₁ ht1 (by omega) fun h₂ hit₂ hs₂ => wpAny_pure ?_))
    have hd : items.toList.drop i = items[i] :: items.toList.drop (i + 1) := by simp [List.drop_eq_getElem_cons,hlt]
    have := hQ h₂ (by rw [show i + (n + 1) = i + 1 + n by omega]; exact hit₂) (hs₁.trans hs₂)
    rw [hd,List.take_succ_cons] at this
    exact this
theorem unpackItems_lst {l : Addr}{items : Array Value}{Q : List Value -> Shared -> Prop}(hh : A.handled = none)(ht : s.heap.IsList l items)
    (hQ : ∀ h',Heap.ExtBut s.heap.objs.size s.heap h' -> Q items.toList { s with heap := h' }) : wpAny (model prog w) A (unpackItems (.ref l) items.size none) Q E s := by
  have hlt : l ≠ s.heap.objs.size := by obtain ⟨o,ho,_⟩ := ht; exact Nat.ne_of_lt (Heap.lt_size ho)
  have ty : s.TypeIs (.ref l) "list" := by obtain ⟨o,ho,hc,_⟩ := ht; exact ⟨o,ho,hc⟩
  unfold unpackItems; refine wpAny_bind ?_
  unfold notIterableAtAll; refine wpAny_bind (wpAny_specialOf ty slot_list_iter.lookup ?_)
  refine wpAny_pure ?_; simp only [Bool.false_eq_true,if_false]
  refine wpAny_bind (wpAny_holding (wpAny_pyIter_list ht ?_))
  have hp : ∀ ob : Obj,(s.heap.push ob).IsList l items := fun ob => by
    obtain ⟨o,e,r⟩ := ht
    exact ⟨o,Heap.get?_push_of_some _ e,r⟩
  refine wpAny_bind (wpAny_holding (draw_lst hlt items.size 0 _ _ ⟨_,Heap.get?_push_size _ rfl,rfl,rfl⟩ (hp _) (by omega) fun h₁ hit₁ hs₁ => ?_))
  have hall : List.take items.size (List.drop 0 items.toList) = items.toList := by rw [List.drop_zero]; exact List.take_of_length_le (by simp)
  rw [hall,if_neg (by simp)]
  have ht₁ : h₁.IsList l items := by
    obtain ⟨o,e,r⟩ := ht
    exact ⟨o,(hs₁.2 l hlt).trans (Heap.get?_push_of_some _ e),r⟩
  refine wpAny_bind (wpAny_holding (wpAny_pyNext_list_end hh hit₁ ht₁ (by simp) fun h₂ he₂ => ?_))
  simp only [Option.isSome_none,Bool.false_eq_true,if_false]
  refine wpAny_pure (hQ h₂ fun b o hb e => he₂ b o hb (hs₁.extBut b o hb (Heap.get?_push_of_some _ e)))
end
section
variable {X : Cx}
def gLst (K : PySem.W.Frag)(n : Nat)(t : TGs) : TG := fun v σ H Q => ∃ a xs,v = .ref a /\ SqL K H a xs /\ xs.length = n /\ t xs σ H Q
theorem pg_lstK {es : List Expr}{k : Nat}{t : TGs}{n : Nat}{pos : Pos}(K : PySem.W.Frag)(hK : X.K = K)(hc : X.calm = true)(h : PGs X es t)(hn : (assignEach es X.env).length = n := by rfl)(hst : (assignEach es X.env).findIdx? (·.1) = none := by rfl) : PG X (.Tuple es k pos) (gLst K n t) := by
  subst hK
  intro pins s σ H v u Q I r hw
  obtain ⟨a,xs,e1,hq,hl,hw⟩ := hw
  subst e1
  cases r
  obtain ⟨its,rv,p,hz⟩ := I.list hq
  have hl' : its.toArray.size = n := by simp [<- hl,rv.length]
  rw [assign_Tuple]; refine wpAny_bind (wpAny_standAt ?_)
  unfold unpack; rw [hn,hst,<- hl']
  refine wpAny_bind (wpAny_holding (unpackItems_lst (I.ok.hd hc) p.isList fun h' hx => ?_))
  have I1 : Inv X pins σ H { s with heap := h' } := I.kept (t' := s.toks) fun b o e => hx b o (Nat.ne_of_lt (Heap.lt_size e)) e
  exact h pins _ σ H xs _ Q I1 (by simpa using rv) hw
end
end L2
set_option Elab.async false
set_option linter.all false
set_option maxRecDepth 100000
set_option maxHeartbeats 4000000
namespace L2
open PySem PySem.Spec PyProof.Rows
section
variable {X : Cx}{e : Expr}{es : List Expr}{te : TE}{t : TA}{pos : Pos}
end
end L2
set_option Elab.async false
set_option linter.all false
set_option maxRecDepth 100000
set_option maxHeartbeats 4000000
namespace L2
open PySem PySem.Spec PyProof.Rows
structure Frg where
  ads : List Addr
  R : (Addr -> Prop) -> Hp -> V -> Prop
  keep : ∀ M H H' v,(∀ c o,(¬ M c \/ c ∈ ads) -> H c = some o -> H' c = some o) -> R M H v -> R M H' v
  avoid : ∀ M M' H v,(∀ c,M' c -> M c \/ H c = none) -> R M H v -> R M' H v
  ref : ∀ M H v,R M H v -> ∃ a,v = .ref a
  nt : ∀ M H v,R M H v -> ∀ c ∈ ads,∃ o,H c = some o /\ ∀ vs,o ≠ .tup vs
abbrev Tg := List (List Int × Addr × Value) × Nat
inductive D where
  | non | bl (b : Bool) | int (i : Int) | str (x : Str) | ty (n : String) | adr (a : Addr)
  | tup (xs : List D) | lst (xs : List D) | own (xs : List D) | bag | scr (ns : List Int) | dct (t : Tg) (ks : List (List Int)) (xs : List D) | frg (f : Frg) (d : D)
structure BagT where
  ok : Addr -> Hp -> Prop
  st : ∀ p H H',ok p H -> (∀ o,H p = some o -> H' p = some o) -> ok p H'
  dm : ∀ p H,ok p H -> ∃ o,H p = some o
def KTp (K : PySem.W.Frag)(a : Addr)(xs : List V) : Prop := ∃ (o : Obj) (its : Array Value) (n : Nat),K.lookup a = some o /\ o.cls = .type "tuple" /\ o.data = .seq its n /\ its.size <= sizeLine /\ Vals xs its.toList
def TpA (K : PySem.W.Frag)(M : Addr -> Prop)(H : Hp)(a : Addr)(vs : List V) : Prop := (¬ M a /\ H a = some (.tup vs)) \/ KTp K a vs
theorem TpA.sq {K : PySem.W.Frag}{M : Addr -> Prop}{H : Hp}{a : Addr}{vs : List V}(h : TpA K M H a vs) : SqT K H a vs := h.elim (fun z => .inl (.inl z.2)) .inr
theorem TpA.keep {K : PySem.W.Frag}{M : Addr -> Prop}{H H' : Hp}{a : Addr}{vs : List V}(k : ∀ b o,¬ M b -> H b = some o -> H' b = some o)(h : TpA K M H a vs) : TpA K M H' a vs := h.imp (fun z => ⟨z.1,k _ _ z.1 z.2⟩) id
theorem TpA.avoid {K : PySem.W.Frag}{M M' : Addr -> Prop}{H : Hp}{a : Addr}{vs : List V}(k : ∀ b,M' b -> M b \/ H b = none)(h : TpA K M H a vs) : TpA K M' H a vs := by
  refine h.imp (fun z => ⟨fun m => ?_,z.2⟩) id
  rcases k a m with n | n
  · exact z.1 n
  · rw [n] at z; cases z.2
def KL (K : PySem.W.Frag)(a : Addr)(xs : List V) : Prop := ∃ (o : Obj) (its : Array Value) (n : Nat),K.lookup a = some o /\ o.cls = .type "list" /\ o.dict = none /\ o.data = .seq its n /\ its.size <= sizeLine /\ Vals xs its.toList
def tkH (ns : List Int) : Int := reduceHash (Builtin.Tuple.tupleHashOf (ns.map hashInt))
def dEnt (x : List Int × Addr × Value) : DictEntry := ⟨tkH x.1,.ref x.2.1,x.2.2⟩
def DOb (a : Addr)(es : List (List Int × Addr × Value))(ep : Nat) : HO := .ext fun h => ((a == sysModules) = false /\ es.length <= sizeLine /\ (es.map (·.1)).Nodup) /\ ∃ (o : Obj) (ds : Array DictEntry),h.get? a = some o /\ o.ExactDict /\ o.data = .dict ds ep /\ ds.toList = es.map dEnt
def DctE (K : PySem.W.Frag)(M : Addr -> Prop)(H : Hp)(es : List (List Int × Addr × Value))(ks : List (List Int))(vs : List V) : Prop := es.map (·.1) = ks /\ (∀ e ∈ es,TpA K M H e.2.1 (e.1.map V.int)) /\ Vals vs (es.map (·.2.2))
theorem DctE.keep {K : PySem.W.Frag}{M : Addr -> Prop}{H H' : Hp}{es : List (List Int × Addr × Value)}{ks : List (List Int)}{vs : List V}(k : ∀ b o,¬ M b -> H b = some o -> H' b = some o)(h : DctE K M H es ks vs) : DctE K M H' es ks vs := ⟨h.1,fun e m => (h.2.1 e m).keep k,h.2.2⟩
theorem DctE.avoid {K : PySem.W.Frag}{M M' : Addr -> Prop}{H : Hp}{es : List (List Int × Addr × Value)}{ks : List (List Int)}{vs : List V}(k : ∀ b,M' b -> M b \/ H b = none)(h : DctE K M H es ks vs) : DctE K M' H es ks vs := ⟨h.1,fun e m => (h.2.1 e m).avoid k,h.2.2⟩
mutual
def Rep (K : PySem.W.Frag)(M : Addr -> Prop)(H : Hp) : D -> V -> Prop
  | .non,v => v = .non
  | .bl b,v => v = .bl b
  | .int i,v => v = .int i
  | .str x,v => v = .str x
  | .ty n,v => v = .ty n
  | .adr a,v => v = .ref a
  | .tup xs,v => ∃ a vs,v = .ref a /\ TpA K M H a vs /\ Reps K M H xs vs
  | .lst xs,v => ∃ a vs,v = .ref a /\ (¬ M a /\ H a = some (.lst vs)) /\ Reps K M H xs vs
  | .own _,_ => False
  | .bag,_ => False
  | .frg _ _,_ => False
  | .scr ns,v => ∃ a,v = .ref a /\ ((¬ M a /\ Rd H a (.lst (ns.map V.int))) \/ KL K a (ns.map V.int))
  | .dct t ks xs,v => ∃ (a : Addr) (vs : List V),v = .ref a /\ (¬ M a /\ H a = some (DOb a t.1 t.2) /\ DctE K M H t.1 ks vs) /\ Reps K M H xs vs
def Reps (K : PySem.W.Frag)(M : Addr -> Prop)(H : Hp) : List D -> List V -> Prop
  | [],vs => vs = []
  | d :: ds,vs => ∃ v r,vs = v :: r /\ Rep K M H d v /\ Reps K M H ds r
end
theorem Rd.keep {H H' : Hp}{a : Addr}{u : HO}(k : ∀ o,H a = some o -> H' a = some o)(h : Rd H a u) : Rd H' a u := by
  rcases h with h | ⟨o,h⟩
  · exact .inl (k _ h)
  · exact .inr ⟨o,k _ h⟩
theorem Rd.some {H : Hp}{a : Addr}{u : HO}(h : Rd H a u) : H a ≠ none := by
  rcases h with h | ⟨o,h⟩ <;> rw [h] <;> simp
section
variable {K : PySem.W.Frag}{M M' : Addr -> Prop}{H H' : Hp}
mutual
theorem Rep.keep (k : ∀ b o,¬ M b -> H b = some o -> H' b = some o) : ∀ (d : D) (v : V),Rep K M H d v -> Rep K M H' d v
  | .non,_,h => h
  | .bl _,_,h => h
  | .int _,_,h => h
  | .str _,_,h => h
  | .ty _,_,h => h
  | .adr _,_,h => h
  | .tup xs,v,h => by
    obtain ⟨a,vs,e,z,r⟩ := h
    exact ⟨a,vs,e,z.keep k,Reps.keep k xs vs r⟩
  | .lst xs,v,h => by
    obtain ⟨a,vs,e,z,r⟩ := h
    exact ⟨a,vs,e,⟨z.1,k _ _ z.1 z.2⟩,Reps.keep k xs vs r⟩
  | .own _,_,h => h
  | .bag,_,h => h
  | .frg _ _,_,h => h
  | .scr ns,v,h => by
    obtain ⟨a,e,z⟩ := h
    exact ⟨a,e,z.imp (fun q => ⟨q.1,q.2.keep fun o => k a o q.1⟩) id⟩
  | .dct t ks xs,v,h => by
    obtain ⟨a,vs,e,z,r⟩ := h
    exact ⟨a,vs,e,⟨z.1,k _ _ z.1 z.2.1,z.2.2.keep k⟩,Reps.keep k xs _ r⟩
theorem Reps.keep (k : ∀ b o,¬ M b -> H b = some o -> H' b = some o) : ∀ (ds : List D) (vs : List V),Reps K M H ds vs -> Reps K M H' ds vs
  | [],_,h => h
  | d :: ds,vs,h => by
    obtain ⟨v,r,e,h1,h2⟩ := h
    exact ⟨v,r,e,Rep.keep k d v h1,Reps.keep k ds r h2⟩
end
mutual
theorem Rep.avoid (k : ∀ b,M' b -> M b \/ H b = none) : ∀ (d : D) (v : V),Rep K M H d v -> Rep K M' H d v
  | .non,_,h => h
  | .bl _,_,h => h
  | .int _,_,h => h
  | .str _,_,h => h
  | .ty _,_,h => h
  | .adr _,_,h => h
  | .tup xs,v,h => by
    obtain ⟨a,vs,e,z,r⟩ := h
    exact ⟨a,vs,e,z.avoid k,Reps.avoid k xs vs r⟩
  | .lst xs,v,h => by
    obtain ⟨a,vs,e,z,r⟩ := h
    refine ⟨a,vs,e,⟨fun m => ?_,z.2⟩,Reps.avoid k xs vs r⟩
    rcases k a m with n | n
    · exact z.1 n
    · rw [n] at z; cases z.2
  | .own _,_,h => h
  | .bag,_,h => h
  | .frg _ _,_,h => h
  | .scr ns,v,h => by
    obtain ⟨a,e,z⟩ := h
    refine ⟨a,e,z.imp (fun q => ⟨fun m => ?_,q.2⟩) id⟩
    rcases k a m with n | n
    · exact q.1 n
    · exact q.2.some n
  | .dct t ks xs,v,h => by
    obtain ⟨a,vs,e,z,r⟩ := h
    refine ⟨a,vs,e,⟨fun m => ?_,z.2.1,z.2.2.avoid k⟩,Reps.avoid k xs _ r⟩
    rcases k a m with n | n
    · exact z.1 n
    · rw [n] at z; cases z.2.1
theorem Reps.avoid (k : ∀ b,M' b -> M b \/ H b = none) : ∀ (ds : List D) (vs : List V),Reps K M H ds vs -> Reps K M' H ds vs
  | [],_,h => h
  | d :: ds,vs,h => by
    obtain ⟨v,r,e,h1,h2⟩ := h
    exact ⟨v,r,e,Rep.avoid k d v h1,Reps.avoid k ds r h2⟩
end
end
end L2
set_option Elab.async false
set_option linter.all false
set_option maxRecDepth 100000
set_option maxHeartbeats 4000000
namespace L2
open PySem PySem.Spec PyProof.Rows
abbrev Ev := List (Option D)
structure Wd where
  K : PySem.W.Frag
  B : BagT
  H0 : Hp
  M0 : Addr -> Prop
  b0 : Option Addr
def okB (B : BagT)(b : Option Addr)(H : Hp) : Prop := ∀ p,b = some p -> B.ok p H
def Kp (b : Option Addr)(H H' : Hp) : Prop := ∀ c o,b ≠ some c -> H c = some o -> H' c = some o
theorem Kp.refl (b : Option Addr)(H : Hp) : Kp b H H := fun _ _ _ h => h
theorem Kp.trans {b : Option Addr}{H H1 H2 : Hp}(x : Kp b H H1)(y : Kp b H1 H2) : Kp b H H2 := fun c o n h => y c o n (x c o n h)
theorem Kp.upd {b : Option Addr}{H : Hp}{p : Addr}{o : HO}(h : H p = none) : Kp b H (upd H p o) := fun c u _ e => Same.upd h c u e
theorem Kp.same {b : Option Addr}{H H' : Hp}(h : Same H H') : Kp b H H' := fun c o _ e => h c o e
def RepX (W : Wd)(M : Addr -> Prop)(b : Option Addr)(H : Hp) : D -> V -> Prop
  | .own xs,v => ∃ a vs,v = .ref a /\ M a /\ b ≠ some a /\ W.H0 a = none /\ ¬ W.M0 a /\ H a = some (.lst vs) /\ Reps W.K M H xs vs
  | .bag,v => ∃ p,b = some p /\ v = .ref p
  | .frg f d,v => (∀ c ∈ f.ads,M c /\ b ≠ some c /\ W.H0 c = none /\ ¬ W.M0 c) /\ f.R M H v /\ Rep W.K (fun c => M c /\ c ∉ f.ads) H d v
  | d,v => Rep W.K M H d v
def plain : D -> Bool
  | .own _ => false
  | .bag => false
  | .frg _ _ => false
  | _ => true
def notOwn : D -> Bool
  | .own _ => false
  | .frg _ _ => false
  | _ => true
theorem RepX.rep {W : Wd}{M : Addr -> Prop}{b : Option Addr}{H : Hp}{d : D}{v : V}(h : RepX W M b H d v)(p : plain d = true) : Rep W.K M H d v := by
  cases d <;> first | exact h | cases p
theorem Rep.x {W : Wd}{M : Addr -> Prop}{b : Option Addr}{H : Hp}{d : D}{v : V}(h : Rep W.K M H d v) : RepX W M b H d v := by
  cases d <;> first | exact h | exact h.elim
def RepXs (W : Wd)(M : Addr -> Prop)(b : Option Addr)(H : Hp) : List D -> List V -> Prop
  | [],vs => vs = []
  | d :: ds,vs => ∃ v r,vs = v :: r /\ RepX W M b H d v /\ RepXs W M b H ds r
structure Hs (W : Wd)(M : Addr -> Prop)(b : Option Addr)(H : Hp) : Prop where
  ok : okB W.B b H
  bagM : ∀ p,b = some p -> M p
  dom : ∀ c,M c -> ∃ o,H c = some o
  m0 : ∀ c,W.M0 c -> M c
theorem RepX.move {W : Wd}{M M' : Addr -> Prop}{b b' : Option Addr}{H H' : Hp}{f : Frg}{d : D}{v : V}(h : RepX W M b H (.frg f d) v)(ow : ∀ c ∈ f.ads,M c -> b ≠ some c -> M' c /\ b' ≠ some c)(k : ∀ c o,(¬ M' c \/ c ∈ f.ads) -> H c = some o -> H' c = some o)(a : ∀ c,M' c -> M c \/ H c = none) : RepX W M' b' H' (.frg f d) v := by
  refine ⟨fun c m => ?_,f.keep M' H H' v k (f.avoid M M' H v a h.2.1),Rep.keep (fun c o n e => k c o ?_ e) _ _ (Rep.avoid (fun c m => (a c m.1).imp (fun z => ⟨z,m.2⟩) id) _ _ h.2.2)⟩
  · obtain ⟨q1,q2,q3,q4⟩ := h.1 c m
    obtain ⟨z1,z2⟩ := ow c m q1 q2
    exact ⟨z1,z2,q3,q4⟩
  · by_cases z : c ∈ f.ads
    · exact .inr z
    · exact .inl fun m => n ⟨m,z⟩
theorem RepX.step {W : Wd}{M : Addr -> Prop}{b : Option Addr}{H H' : Hp}{d : D}{v : V}(hb : ∀ p,b = some p -> M p)(k : Kp b H H')(h : RepX W M b H d v) : RepX W M b H' d v := by
  have k' : ∀ c o,¬ M c -> H c = some o -> H' c = some o := fun c o n e => k c o (fun z => n (hb c z)) e
  cases d
  case own xs =>
    obtain ⟨a,vs,e,m,n,n0,m0,h1,h2⟩ := h
    exact ⟨a,vs,e,m,n,n0,m0,k _ _ n h1,Reps.keep k' _ _ h2⟩
  case bag => exact h
  case frg f d => exact RepX.move h (fun c m m1 n => ⟨m1,n⟩) (fun c o q e => q.elim (fun n => k' c o n e) fun m => k c o (h.1 c m).2.1 e) fun c m => .inl m
  all_goals exact Rep.keep k' _ _ h
theorem RepXs.reps {W : Wd}{M : Addr -> Prop}{b : Option Addr}{H : Hp} : ∀ (ds : List D) (vs : List V),RepXs W M b H ds vs -> ds.all plain = true -> Reps W.K M H ds vs
  | [],_,h,_ => h
  | d :: ds,vs,h,p => by
    obtain ⟨v,r,e,h1,h2⟩ := h
    simp only [List.all_cons,Bool.and_eq_true] at p
    exact ⟨v,r,e,h1.rep p.1,RepXs.reps ds r h2 p.2⟩
theorem Reps.length {K : PySem.W.Frag}{M : Addr -> Prop}{H : Hp} : ∀ (ds : List D) (vs : List V),Reps K M H ds vs -> vs.length = ds.length
  | [],_,h => by cases (show _ = _ from h); rfl
  | d :: ds,vs,h => by
    obtain ⟨v,r,rfl,h1,h2⟩ := h
    simp [Reps.length ds r h2]
theorem Reps.get {K : PySem.W.Frag}{M : Addr -> Prop}{H : Hp} : ∀ {ds : List D} {vs : List V} {i : Nat} {d : D},Reps K M H ds vs -> ds[i]? = some d -> ∃ v,vs[i]? = some v /\ Rep K M H d v
  | [],_,_,_,h,e => by simp at e
  | d :: ds,vs,0,_,h,e => by
    obtain ⟨v,r,rfl,h1,h2⟩ := h
    simp at e; subst e
    exact ⟨v,rfl,h1⟩
  | d :: ds,vs,i + 1,d',h,e => by
    obtain ⟨v,r,rfl,h1,h2⟩ := h
    obtain ⟨u,e1,e2⟩ := Reps.get (i := i) h2 (by simpa using e)
    exact ⟨u,by simpa using e1,e2⟩
theorem Reps.at {K : PySem.W.Frag}{M : Addr -> Prop}{H : Hp}{ds : List D}{vs : List V}{i : Int}{d : D}(h : Reps K M H ds vs)(e : atI ds i = some d) : ∃ v,atI vs i = some v /\ Rep K M H d v := by
  unfold atI at *
  rw [h.length]
  cases q : ixN ds.length i with
  | none => rw [q] at e; cases e
  | some j =>
    rw [q] at e
    exact Reps.get h e
theorem Reps.append {K : PySem.W.Frag}{M : Addr -> Prop}{H : Hp} : ∀ {ds es : List D} {vs us : List V},Reps K M H ds vs -> Reps K M H es us -> Reps K M H (ds ++ es) (vs ++ us)
  | [],_,_,_,h,h' => by cases (show _ = _ from h); exact h'
  | d :: ds,_,_,_,h,h' => by
    obtain ⟨v,r,rfl,h1,h2⟩ := h
    exact ⟨v,_,rfl,h1,Reps.append h2 h'⟩
theorem Reps.set {K : PySem.W.Frag}{M : Addr -> Prop}{H : Hp}{d : D}{v : V}(h0 : Rep K M H d v) : ∀ {ds : List D} {vs : List V} (j : Nat),Reps K M H ds vs -> Reps K M H (ds.set j d) (vs.set j v)
  | [],_,_,h => by cases (show _ = _ from h); exact rfl
  | e :: ds,_,0,h => by
    obtain ⟨v',r,rfl,h1,h2⟩ := h
    exact ⟨v,r,rfl,h0,h2⟩
  | e :: ds,_,j + 1,h => by
    obtain ⟨v',r,rfl,h1,h2⟩ := h
    exact ⟨v',_,rfl,h1,Reps.set h0 j h2⟩
theorem Reps.drop {K : PySem.W.Frag}{M : Addr -> Prop}{H : Hp} : ∀ {ds : List D} {vs : List V} (j : Nat),Reps K M H ds vs -> Reps K M H (ds.drop j) (vs.drop j)
  | _,_,0,h => h
  | [],_,_ + 1,h => by cases (show _ = _ from h); exact rfl
  | e :: ds,_,j + 1,h => by
    obtain ⟨v',r,rfl,h1,h2⟩ := h
    exact Reps.drop j h2
theorem Reps.take {K : PySem.W.Frag}{M : Addr -> Prop}{H : Hp} : ∀ {ds : List D} {vs : List V} (j : Nat),Reps K M H ds vs -> Reps K M H (ds.take j) (vs.take j)
  | _,_,0,h => rfl
  | [],_,_ + 1,h => by cases (show _ = _ from h); exact rfl
  | e :: ds,_,j + 1,h => by
    obtain ⟨v',r,rfl,h1,h2⟩ := h
    exact ⟨v',_,rfl,h1,Reps.take j h2⟩
def PinR (W : Wd)(M : Addr -> Prop)(b : Option Addr)(H : Hp) : D -> V -> Prop
  | .own xs,v => RepX W M b H (.own xs) v
  | d,v => Rep W.K M H d v
theorem PinR.x {W : Wd}{M : Addr -> Prop}{b : Option Addr}{H : Hp}{d : D}{v : V}(h : PinR W M b H d v) : RepX W M b H d v := by
  cases d <;> first | exact h | exact h.elim
theorem RepX.pin {W : Wd}{M : Addr -> Prop}{b : Option Addr}{H : Hp}{d : D}{v : V}(h : RepX W M b H d v)(p : plain d = true) : PinR W M b H d v := by
  cases d <;> first | exact h | cases p
theorem PinR.to {W : Wd}{M M' : Addr -> Prop}{b b' : Option Addr}{H H' : Hp}{d : D}{v : V}(h : PinR W M b H d v)(rep : ∀ d v,Rep W.K M H d v -> Rep W.K M' H' d v)(reps : ∀ ds vs,Reps W.K M H ds vs -> Reps W.K M' H' ds vs)(own : ∀ xs a vs,d = .own xs -> v = .ref a -> M a -> b ≠ some a -> H a = some (.lst vs) -> M' a /\ b' ≠ some a /\ H' a = some (.lst vs)) : PinR W M' b' H' d v := by
  cases d
  case own xs =>
    obtain ⟨a,vs,rfl,m1,m2,m3,m4,hh,r⟩ := h
    obtain ⟨q1,q2,q3⟩ := own xs a vs rfl rfl m1 m2 hh
    exact ⟨a,vs,rfl,q1,q2,m3,m4,q3,reps _ _ r⟩
  case bag => exact h.elim
  all_goals exact rep _ _ h
def mineA : D -> V -> Addr -> Prop
  | .own _,v,c => v = .ref c
  | .frg f _,_,c => c ∈ f.ads
  | _,_,_ => False
def mine : D -> Bool
  | .own _ => true
  | .frg _ _ => true
  | _ => false
theorem mineA.m {d : D}{v : V}{c : Addr}(h : mineA d v c) : mine d = true := by cases d <;> first | rfl | exact h.elim
theorem RepX.mine {W : Wd}{M : Addr -> Prop}{b : Option Addr}{H : Hp}{d : D}{v : V}{c : Addr}(h : RepX W M b H d v)(m : mineA d v c) : M c /\ b ≠ some c /\ W.H0 c = none /\ ¬ W.M0 c := by
  cases d
  case own xs =>
    obtain ⟨a,vs,e,m1,n,n0,m0,h1,h2⟩ := h
    cases (e.symm.trans (show v = .ref c from m))
    exact ⟨m1,n,n0,m0⟩
  case frg f d => exact h.1 c m
  all_goals exact m.elim
structure Sta (W : Wd)(pn : List (D × V))(M : Addr -> Prop)(b : Option Addr)(H : Hp)(σ : St)(ρ : Ev) : Prop extends Hs W M b H where
  kp : Kp W.b0 W.H0 H
  new : b = W.b0 \/ (W.b0 = none /\ ∀ p,b = some p -> W.H0 p = none)
  env : ∀ (i : Nat) d,ρ[i]? = some (some d) -> ∃ v,σ[i]? = some (some v) /\ RepX W M b H d v
  len : ρ.length = σ.length
  pin : ∀ q ∈ pn,PinR W M b H q.1 q.2
theorem Sta.step {W : Wd}{pn : List (D × V)}{M : Addr -> Prop}{b : Option Addr}{H H' : Hp}{σ : St}{ρ : Ev}(s : Sta W pn M b H σ ρ)(k : Kp b H H')(o : okB W.B b H') : Sta W pn M b H' σ ρ where
  ok := o
  bagM := s.bagM
  dom := fun c m => by
    by_cases z : b = some c
    · exact W.B.dm c H' (o c z)
    · obtain ⟨u,e⟩ := s.dom c m
      exact ⟨u,k c u z e⟩
  m0 := s.m0
  kp := fun c u n e => by
    refine k c u (fun z => ?_) (s.kp c u n e)
    rcases s.new with q | ⟨_,q⟩
    · exact n (q ▸ z)
    · rw [q c z] at e; cases e
  new := s.new
  env := fun i d e => by
    obtain ⟨v,e1,r⟩ := s.env i d e
    exact ⟨v,e1,r.step s.bagM k⟩
  len := s.len
  pin := fun q hq => (s.pin q hq).to (fun _ _ r => Rep.keep (fun c o n e => k c o (fun z => n (s.bagM c z)) e) _ _ r) (fun _ _ r => Reps.keep (fun c o n e => k c o (fun z => n (s.bagM c z)) e) _ _ r) fun xs a vs _ _ m n hh => ⟨m,n,k _ _ n hh⟩
theorem Hs.new {W : Wd}{M : Addr -> Prop}{b : Option Addr}{H : Hp}(s : Hs W M b H){p : Addr}(h : H p = none) : ¬ M p := fun m => by
  obtain ⟨o,e⟩ := s.dom p m
  rw [h] at e; cases e
theorem Hs.okU {W : Wd}{M : Addr -> Prop}{b : Option Addr}{H : Hp}(s : Hs W M b H){p : Addr}{o : HO}(h : H p = none) : okB W.B b (upd H p o) := fun q e => W.B.st q H _ (s.ok q e) fun u e' => Same.upd h q u e'
abbrev DE := Ev -> (D -> Prop) -> Prop
abbrev DT := Ev -> (Bool -> Prop) -> Prop
abbrev DA := Ev -> (List D -> Prop) -> Prop
def dn (W : Wd)(d : DE) : TE := fun σ H Q => ∃ pn M b ρ P,Sta W pn M b H σ ρ /\ d ρ P /\ ∀ x v H',P x -> RepX W M b H' x v -> Kp b H H' -> okB W.B b H' -> Q v H'
def dnT (W : Wd)(d : DT) : TT := fun σ H Q => ∃ pn M b ρ P,Sta W pn M b H σ ρ /\ d ρ P /\ ∀ x H',P x -> Kp b H H' -> okB W.B b H' -> Q x H'
def dnA (W : Wd)(d : DA) : TA := fun σ H Q => ∃ pn M b ρ P,Sta W pn M b H σ ρ /\ d ρ P /\ ∀ xs vs H',P xs -> RepXs W M b H' xs vs -> Kp b H H' -> okB W.B b H' -> Q vs H'
theorem dn.elim {W : Wd}{d : DE}{σ : St}{H : Hp}{Q : VK}{R : Prop}(h : dn W d σ H Q)(f : ∀ pn M b ρ P,Sta W pn M b H σ ρ -> d ρ P -> (∀ x v H',P x -> RepX W M b H' x v -> Kp b H H' -> okB W.B b H' -> Q v H') -> R) : R := by
  obtain ⟨pn,M,b,ρ,P,st,h,k⟩ := h
  exact f pn M b ρ P st h k
theorem dnT.elim {W : Wd}{d : DT}{σ : St}{H : Hp}{Q : Bool -> Hp -> Prop}{R : Prop}(h : dnT W d σ H Q)(f : ∀ pn M b ρ P,Sta W pn M b H σ ρ -> d ρ P -> (∀ x H',P x -> Kp b H H' -> okB W.B b H' -> Q x H') -> R) : R := by
  obtain ⟨pn,M,b,ρ,P,st,h,k⟩ := h
  exact f pn M b ρ P st h k
theorem dnA.elim {W : Wd}{d : DA}{σ : St}{H : Hp}{Q : List V -> Hp -> Prop}{R : Prop}(h : dnA W d σ H Q)(f : ∀ pn M b ρ P,Sta W pn M b H σ ρ -> d ρ P -> (∀ xs vs H',P xs -> RepXs W M b H' xs vs -> Kp b H H' -> okB W.B b H' -> Q vs H') -> R) : R := by
  obtain ⟨pn,M,b,ρ,P,st,h,k⟩ := h
  exact f pn M b ρ P st h k
section
variable {X : Cx}{W : Wd}{e a b c : Expr}{es : List Expr}{pos : Pos}{d da db dc : DE}{dA : DA}{t : TE}
theorem PE.mono {t' : TE}(h : PE X e t)(m : ∀ σ H Q,t' σ H Q -> t σ H Q) : PE X e t' := fun pins s σ H Q I q => h pins s σ H Q I (m σ H Q q)
theorem PT.mono {t t' : TT}(h : PT X e t)(m : ∀ σ H Q,t' σ H Q -> t σ H Q) : PT X e t' := fun pins s σ H Q I q => h pins s σ H Q I (m σ H Q q)
theorem PA.mono {t t' : TA}(h : PA X es t)(m : ∀ σ H Q,t' σ H Q -> t σ H Q) : PA X es t' := fun pos pins s σ H Q I q => h pos pins s σ H Q I (m σ H Q q)
def dVar (i : Nat) : DE := fun ρ P => match ρ[i]? with | some (some d) => P d | _ => False
theorem dv (i : Nat) {x : Str} {pos : Pos} (hN : X.N[i]? = some x := by rfl) (hv : Vis X.env.scope x := by first | exact Or.inl rfl | exact Or.inr (Or.inl rfl) | exact Or.inr (Or.inr rfl)) (hd : (x == ("__debug__" : Str)) = false := by decide)
    (hcd : (x == ("__classdict__" : Str)) = false := by decide) : PE X (.Name x pos) (dn W (dVar i)) := (pe_var hN hv hd hcd).mono fun σ H Q hh => hh.elim fun pn M b ρ P st h k => by
  unfold dVar at h
  split at h
  case h_1 d e =>
    obtain ⟨v,e1,r⟩ := st.env i d e
    exact ⟨v,e1,k d v H h r (Kp.refl _ _) st.ok⟩
  case h_2 => exact h.elim
def dC (d : D) : DE := fun _ P => P d
theorem de_c {d : D}{v : V}(h : PE X e (tC v))(hr : ∀ M H,Rep W.K M H d v) : PE X e (dn W (dC d)) := h.mono fun σ H Q hh => hh.elim fun pn M b ρ P st h k => k d v H h (Rep.x (hr M H)) (Kp.refl _ _) st.ok
theorem de_int {i j pos} : PE X (.Constant (.int i) j pos) (dn W (dC (.int i))) := de_c pe_int fun _ _ => rfl
theorem de_bl {i j pos} : PE X (.Constant (.bool i) j pos) (dn W (dC (.bl i))) := de_c pe_bl fun _ _ => rfl
theorem de_non {j pos} : PE X (.Constant .none j pos) (dn W (dC .non)) := de_c pe_non fun _ _ => rfl
def OpD (W : Wd)(r : R2)(o : D -> D -> (D -> Prop) -> Prop) : Prop := ∀ M b H x y v u P Q,Hs W M b H -> RepX W M b H x v -> RepX W M b H y u -> o x y P -> (∀ z w H',P z -> RepX W M b H' z w -> Kp b H H' -> okB W.B b H' -> Q w H') -> r v u H Q
def dOp (o : D -> D -> (D -> Prop) -> Prop)(da db : DE) : DE := fun ρ P => da ρ fun x => db ρ fun y => o x y P
theorem up_op {r : R2}{o : D -> D -> (D -> Prop) -> Prop}(hd : OpD W r o) : ∀ σ H Q,dn W (dOp o da db) σ H Q -> tOp r (dn W da) (dn W db) σ H Q := by
  intro σ H Q hh
  refine hh.elim fun pn M b ρ P st h k => ?_
  refine ⟨pn,M,b,ρ,_,st,h,fun x v H1 hx rx k1 o1 => ?_⟩
  refine ⟨pn,M,b,ρ,_,st.step k1 o1,hx,fun y u H2 hy ry k2 o2 => ?_⟩
  exact hd M b H2 x y v u P Q ((st.step k1 o1).step k2 o2).toHs (rx.step st.bagM k2) ry hy fun z w H' hz rz k3 o3 => k z w H' hz rz ((k1.trans k2).trans k3) o3
theorem de_op {op : Operator}{r : R2}{o : D -> D -> (D -> Prop) -> Prop}(ho : OpR X (binaryOp op) r)(hd : OpD W r o)(ha : PE X a (dn W da))(hb : PE X b (dn W db)) : PE X (.BinOp a op b pos) (dn W (dOp o da db)) := (pe_op ho ha hb).mono (up_op hd)
theorem de_cmp {op : CmpOp}{r : R2}{o : D -> D -> (D -> Prop) -> Prop}(ho : OpR X (compareOp op) r)(hd : OpD W r o)(ha : PE X a (dn W da))(hb : PE X b (dn W db))(hm : behindInMarks op b = false) : PE X (.Compare a [op] [b] pos) (dn W (dOp o da db)) := (pe_cmpR ho ha hb hm).mono (up_op hd)
theorem de_ix {r : R2}{o : D -> D -> (D -> Prop) -> Prop}(hr : IxR X r)(hd : OpD W r o)(ha : PE X a (dn W da))(hb : PE X b (dn W db))(hs : PlainIx b) : PE X (.Subscript a b pos) (dn W (dOp o da db)) := (pe_ix hr ha hb hs).mono (up_op hd)
def oI (C : Int -> Int -> Prop)(g : Int -> Int -> Int) : D -> D -> (D -> Prop) -> Prop
  | .int i,.int j,P => C i j /\ P (.int (g i j))
  | _,_,_ => False
def oI0 (g : Int -> Int -> Int) : D -> D -> (D -> Prop) -> Prop
  | .int i,.int j,P => P (.int (g i j))
  | _,_,_ => False
def oB0 (g : Int -> Int -> Bool) : D -> D -> (D -> Prop) -> Prop
  | .int i,.int j,P => P (.bl (g i j))
  | _,_,_ => False
theorem od_I {C : Int -> Int -> Prop}{g : Int -> Int -> Int} : OpD W (rI C fun i j => .int (g i j)) (oI C g) := by
  intro M b H x y v u P Q hs rx ry ho k
  cases x <;> first | exact ho.elim | skip
  cases y <;> first | exact ho.elim | skip
  cases (show _ = _ from rx)
  cases (show _ = _ from ry)
  exact ⟨_,_,rfl,rfl,ho.1,k _ _ H ho.2 (show _ = _ from rfl) (Kp.refl _ _) hs.ok⟩
theorem od_I0 {g : Int -> Int -> Int} : OpD W (rI0 fun i j => .int (g i j)) (oI0 g) := by
  intro M b H x y v u P Q hs rx ry ho k
  cases x <;> first | exact ho.elim | skip
  cases y <;> first | exact ho.elim | skip
  cases (show _ = _ from rx)
  cases (show _ = _ from ry)
  exact ⟨_,_,rfl,rfl,k _ _ H ho (show _ = _ from rfl) (Kp.refl _ _) hs.ok⟩
theorem od_B0 {g : Int -> Int -> Bool} : OpD W (rI0 fun i j => .bl (g i j)) (oB0 g) := by
  intro M b H x y v u P Q hs rx ry ho k
  cases x <;> first | exact ho.elim | skip
  cases y <;> first | exact ho.elim | skip
  cases (show _ = _ from rx)
  cases (show _ = _ from ry)
  exact ⟨_,_,rfl,rfl,k _ _ H ho (show _ = _ from rfl) (Kp.refl _ _) hs.ok⟩
def oEqS (neg : Bool) : D -> D -> (D -> Prop) -> Prop
  | .int i,.int j,P => P (.bl (decide (i = j) != neg))
  | .bl i,.bl j,P => P (.bl (decide (i = j) != neg))
  | .str i,.str j,P => P (.bl (decide (i = j) != neg))
  | .non,.non,P => P (.bl (true != neg))
  | .non,.int _,P => P (.bl (false != neg))
  | .int _,.non,P => P (.bl (false != neg))
  | .str _,.int _,P => P (.bl (false != neg))
  | .int _,.str _,P => P (.bl (false != neg))
  | _,_,_ => False
theorem od_eqS : OpD W rEq (oEqS false) := by
  intro M b H x y v u P Q hs rx ry ho k
  cases x <;> cases y <;> first | exact ho.elim | skip
  all_goals (cases (show _ = _ from rx); cases (show _ = _ from ry); refine ⟨rfl,?_⟩; refine k _ _ H ho ?_ (Kp.refl _ _) hs.ok)
  all_goals (show V.bl _ = V.bl _; simp)
theorem od_neS : OpD W rNe (oEqS true) := by
  intro M b H x y v u P Q hs rx ry ho k
  cases x <;> cases y <;> first | exact ho.elim | skip
  all_goals (cases (show _ = _ from rx); cases (show _ = _ from ry); refine ⟨rfl,?_⟩; refine k _ _ H ho ?_ (Kp.refl _ _) hs.ok)
  all_goals (show V.bl _ = V.bl _; simp)
def isNon : D -> Bool
  | .non => true
  | _ => false
def oIsN (neg : Bool) : D -> D -> (D -> Prop) -> Prop
  | x,.non,P => P (.bl (isNon x != neg))
  | _,_,_ => False
theorem isN_rep {M : Addr -> Prop}{b : Option Addr}{H : Hp}{x : D}{v : V}(rx : RepX W M b H x v) : decide (v = .non) = isNon x := by
  cases x
  case non => cases (show _ = _ from rx); rfl
  case own => obtain ⟨a,vs,rfl,_⟩ := rx; rfl
  case frg f d => obtain ⟨a,rfl⟩ := f.ref _ _ _ rx.2.1; rfl
  case bag => obtain ⟨a,_,rfl⟩ := rx; rfl
  case tup => obtain ⟨a,vs,rfl,_⟩ := rx; rfl
  case lst => obtain ⟨a,vs,rfl,_⟩ := rx; rfl
  case scr => obtain ⟨a,rfl,_⟩ := rx; rfl
  case dct => obtain ⟨a,vs,rfl,_⟩ := rx; rfl
  all_goals (cases (show _ = _ from rx); rfl)
theorem od_isN : OpD W (fun x y H Q => y = .non /\ Q (.bl (decide (x = .non))) H) (oIsN false) := by
  intro M b H x y v u P Q hs rx ry ho k
  cases y <;> first | exact ho.elim | skip
  cases (show _ = _ from ry)
  refine ⟨rfl,k _ _ H ho ?_ (Kp.refl _ _) hs.ok⟩
  show V.bl _ = V.bl _
  rw [isN_rep rx]; simp
theorem od_notN : OpD W (fun x y H Q => y = .non /\ Q (.bl (!decide (x = .non))) H) (oIsN true) := by
  intro M b H x y v u P Q hs rx ry ho k
  cases y <;> first | exact ho.elim | skip
  cases (show _ = _ from ry)
  refine ⟨rfl,k _ _ H ho ?_ (Kp.refl _ _) hs.ok⟩
  show V.bl _ = V.bl _
  rw [isN_rep rx]; simp
def oIx : D -> D -> (D -> Prop) -> Prop
  | .tup xs,.int i,P => (atI xs i).elim False P
  | .lst xs,.int i,P => (atI xs i).elim False P
  | .own xs,.int i,P => (atI xs i).elim False P
  | _,_,_ => False
theorem ix_any (K : PySem.W.Frag)(h : X.K = K) : IxR X (fun x y H Q => rIxT K x y H Q \/ rIxL K x y H Q) := (ix_tupK K h).or (ix_listK K h)
theorem od_ix : OpD W (fun x y H Q => rIxT W.K x y H Q \/ rIxL W.K x y H Q) oIx := by
  intro M b H x y v u P Q hs rx ry ho k
  cases x <;> first | exact ho.elim | skip
  all_goals (cases y <;> first | exact ho.elim | skip)
  all_goals cases (show _ = _ from ry)
  case tup.int xs i =>
    obtain ⟨a,vs,rfl,hh,r⟩ := rx
    simp only [oIx] at ho
    cases e : atI xs i with
    | none => rw [e] at ho; exact ho.elim
    | some d =>
      rw [e] at ho
      obtain ⟨w,e1,r1⟩ := r.at e
      exact .inl ⟨a,vs,i,w,rfl,rfl,hh.sq,e1,k d w H ho r1.x (Kp.refl _ _) hs.ok⟩
  case lst.int xs i =>
    obtain ⟨a,vs,rfl,hh,r⟩ := rx
    simp only [oIx] at ho
    cases e : atI xs i with
    | none => rw [e] at ho; exact ho.elim
    | some d =>
      rw [e] at ho
      obtain ⟨w,e1,r1⟩ := r.at e
      exact .inr ⟨a,vs,i,w,rfl,rfl,SqL.of hh.2,e1,k d w H ho r1.x (Kp.refl _ _) hs.ok⟩
  case own.int xs i =>
    obtain ⟨a,vs,rfl,_,_,_,_,hh,r⟩ := rx
    simp only [oIx] at ho
    cases e : atI xs i with
    | none => rw [e] at ho; exact ho.elim
    | some d =>
      rw [e] at ho
      obtain ⟨w,e1,r1⟩ := r.at e
      exact .inr ⟨a,vs,i,w,rfl,rfl,SqL.of hh,e1,k d w H ho r1.x (Kp.refl _ _) hs.ok⟩
def dUn (o : D -> (D -> Prop) -> Prop)(da : DE) : DE := fun ρ P => da ρ fun x => o x P
def oNeg : D -> (D -> Prop) -> Prop
  | .int i,P => P (.int (-i))
  | _,_ => False
theorem de_neg (ha : PE X a (dn W da)) : PE X (.UnaryOp .USub a pos) (dn W (dUn oNeg da)) := (pe_un un_neg ha).mono fun σ H Q hh => hh.elim fun pn M b ρ P st h k => by
  refine ⟨pn,M,b,ρ,_,st,h,fun x v H1 hx rx k1 o1 => ?_⟩
  cases x <;> first | exact hx.elim | skip
  cases (show _ = _ from rx)
  exact ⟨_,rfl,k _ _ H1 hx (show _ = _ from rfl) k1 o1⟩
inductive IfP (c : Bool)(A B : Prop) : Prop
  | t (e : c = true) (h : A) : IfP c A B
  | f (e : c = false) (h : B) : IfP c A B
theorem IfP.of {c : Bool}{A B : Prop}(h1 : c = true -> A)(h2 : c = false -> B) : IfP c A B := by
  cases c
  · exact .f rfl (h2 rfl)
  · exact .t rfl (h1 rfl)
def dAnd (da db : DE) : DE := fun ρ P => da ρ fun x => match x with | .bl k => IfP k (db ρ P) (P (.bl false)) | _ => False
variable {rest : List Expr}
theorem de_one {op}(h : PE X a (dn W da)) : PE X (.BoolOp op [a] pos) (dn W da) := pe_one h
theorem de_and (ha : PE X a (dn W da))(hb : PE X (.BoolOp .And (b :: rest) pos) (dn W db)) : PE X (.BoolOp .And (a :: b :: rest) pos) (dn W (dAnd da db)) := (pe_and ha hb).mono fun σ H Q hh => hh.elim fun pn M b ρ P st h k => by
  refine ⟨pn,M,b,ρ,_,st,h,fun x v H1 hx rx k1 o1 => ?_⟩
  cases x <;> first | exact hx.elim | skip
  case bl c =>
    cases (show _ = _ from rx)
    refine ⟨c,rfl,?_⟩
    cases hx with
    | f e hx => subst e; rw [if_neg Bool.false_ne_true]; exact k _ _ H1 hx (show _ = _ from rfl) k1 o1
    | t e hx => subst e; rw [if_pos rfl]; exact ⟨pn,M,b,ρ,P,st.step k1 o1,hx,fun x v H' hp r k2 o2 => k x v H' hp r (k1.trans k2) o2⟩
def dTest (da : DE) : DT := fun ρ P => da ρ fun x => match x with | .bl k => P k | _ => False
theorem dt_cmp {op : CmpOp}{r : R2}{o : D -> D -> (D -> Prop) -> Prop}(ho : OpR X (compareOp op) r)(hd : OpD W r o)(ha : PE X a (dn W da))(hb : PE X b (dn W db))(hm : behindInMarks op b = false) : PT X (.Compare a [op] [b] pos) (dnT W (dTest (dOp o da db))) := (pt_cmpR ho ha hb hm).mono fun σ H Q hh => hh.elim fun pn M b ρ P st h k => by
  refine up_op hd σ H _ ⟨pn,M,b,ρ,_,st,h,fun x v H1 hx rx k1 o1 => ?_⟩
  cases x <;> first | exact hx.elim | skip
  case bl c =>
    cases (show _ = _ from rx)
    exact ⟨c,rfl,k _ H1 hx k1 o1⟩
def dTru (da : DE) : DT := fun ρ P => da ρ fun x => match x with
  | .bl k => P k
  | .int i => P (i != 0)
  | .non => P false
  | .tup xs => P (!xs.isEmpty)
  | .lst xs => P (!xs.isEmpty)
  | .own xs => P (!xs.isEmpty)
  | _ => False
theorem Reps.empty {K : PySem.W.Frag}{M : Addr -> Prop}{H : Hp}{ds : List D}{vs : List V}(h : Reps K M H ds vs) : (!ds.isEmpty) = !vs.isEmpty := by
  cases ds with
  | nil => cases (show _ = _ from h); rfl
  | cons d ds => obtain ⟨v,r,rfl,_⟩ := h; rfl
theorem dt_truth (hK : X.K = W.K)(ha : PE X a (dn W da))(he : ∀ whole,isTrue a X.env whole = (do let v <- whole; standAt a.pos; holding [v] (truthy v))) : PT X a (dnT W (dTru da)) := (pt_truthK W.K hK ha he).mono fun σ H Q hh => hh.elim fun pn M b ρ P st h k => by
  refine ⟨pn,M,b,ρ,_,st,h,fun x v H1 hx rx k1 o1 => ?_⟩
  cases x <;> first | exact hx.elim | skip
  case bl c => cases (show _ = _ from rx); exact ⟨_,rfl,k _ H1 hx k1 o1⟩
  case int c => cases (show _ = _ from rx); exact ⟨_,rfl,k _ H1 hx k1 o1⟩
  case non => cases (show _ = _ from rx); exact ⟨_,rfl,k _ H1 hx k1 o1⟩
  case tup xs => obtain ⟨a,vs,rfl,hh,r⟩ := rx; exact ⟨_,.inr (.inl ⟨vs,hh.sq,r.empty⟩),k _ H1 hx k1 o1⟩
  case lst xs => obtain ⟨a,vs,rfl,hh,r⟩ := rx; exact ⟨_,.inl ⟨vs,SqL.of hh.2,r.empty⟩,k _ H1 hx k1 o1⟩
  case own xs => obtain ⟨a,vs,rfl,_,_,_,_,hh,r⟩ := rx; exact ⟨_,.inl ⟨vs,SqL.of hh,r.empty⟩,k _ H1 hx k1 o1⟩
def dTOr (t u : DT) : DT := fun ρ P => t ρ fun c => IfP c (P true) (u ρ P)
variable {ta tb : DT}
theorem up_or : ∀ σ H Q,dnT W (dTOr ta tb) σ H Q -> tOr (dnT W ta) (dnT W tb) σ H Q := by
  intro σ H Q hh
  refine hh.elim fun pn M b ρ P st h k => ?_
  refine ⟨pn,M,b,ρ,_,st,h,fun x H1 hx k1 o1 => ?_⟩
  cases hx with
  | t e hx => rw [if_pos e]; exact k _ H1 hx k1 o1
  | f e hx => rw [if_neg (by rw [e]; exact Bool.false_ne_true)]; exact ⟨pn,M,b,ρ,P,st.step k1 o1,hx,fun x H' hp k2 o2 => k x H' hp (k1.trans k2) o2⟩
theorem PW.mono {t t' : TT}(h : PW X e t)(m : ∀ σ H Q,t' σ H Q -> t σ H Q) : PW X e t' := fun wh pins s σ H Q I q => h wh pins s σ H Q I (m σ H Q q)
theorem dw_or1 (ha : PT X a (dnT W ta)) : PW X (.BoolOp .Or [a] pos) (dnT W ta) := pw_or1 ha
theorem dw_or (ha : PT X a (dnT W ta))(hb : PW X (.BoolOp .Or (b :: rest) pos) (dnT W tb)) : PW X (.BoolOp .Or (a :: b :: rest) pos) (dnT W (dTOr ta tb)) := (pw_or ha hb).mono up_or
def aNil : DA := fun _ P => P []
def aCons (da : DE)(dr : DA) : DA := fun ρ P => da ρ fun x => dr ρ fun xs => P (x :: xs)
theorem da_nil : PA X [] (dnA W aNil) := pa_nil.mono fun σ H Q hh => hh.elim fun pn M b ρ P st h k => k [] [] H h rfl (Kp.refl _ _) st.ok
theorem da_cons {dr : DA}(ha : PE X e (dn W da))(hr : PA X es (dnA W dr))(hs : starEach (e :: es) X.env = (false,eval e X.env) :: starEach es X.env := by rfl) : PA X (e :: es) (dnA W (aCons da dr)) := (pa_cons ha hr hs).mono fun σ H Q hh => hh.elim fun pn M b ρ P st h k => by
  refine ⟨pn,M,b,ρ,_,st,h,fun x v H1 hx rx k1 o1 => ?_⟩
  refine ⟨pn,M,b,ρ,_,st.step k1 o1,hx,fun xs vs H2 hy ry k2 o2 => ?_⟩
  exact k _ _ H2 hy ⟨v,vs,rfl,rx.step st.bagM k2,ry⟩ (k1.trans k2) o2
def okIt (xs : List D) : Bool := xs.all plain && decide (xs.length <= 1000)
def dTup (dA : DA) : DE := fun ρ P => dA ρ fun xs => okIt xs = true /\ P (.tup xs)
def dLst (dA : DA) : DE := fun ρ P => dA ρ fun xs => okIt xs = true /\ P (.lst xs)
theorem okIt.len {xs : List D}(h : okIt xs = true) : xs.length <= sizeLine := by
  unfold okIt at h
  simp only [Bool.and_eq_true,decide_eq_true_eq] at h
  exact Nat.le_trans h.2 le1000
theorem okIt.pl {xs : List D}(h : okIt xs = true) : xs.all plain = true := by
  unfold okIt at h
  simp only [Bool.and_eq_true,decide_eq_true_eq] at h
  exact h.1
theorem new_tup {M : Addr -> Prop}{bg : Option Addr}{H : Hp}{xs : List D}{vs : List V}{p : Addr}(hs : Hs W M bg H)(r : Reps W.K M H xs vs)(h : H p = none) : RepX W M bg (upd H p (.tup vs)) (.tup xs) (.ref p) :=
  ⟨p,vs,rfl,.inl ⟨hs.new h,upd_same⟩,Reps.keep (fun c o _ e => Same.upd h c o e) _ _ r⟩
theorem new_lst {M : Addr -> Prop}{bg : Option Addr}{H : Hp}{xs : List D}{vs : List V}{p : Addr}(hs : Hs W M bg H)(r : Reps W.K M H xs vs)(h : H p = none) : RepX W M bg (upd H p (.lst vs)) (.lst xs) (.ref p) :=
  ⟨p,vs,rfl,⟨hs.new h,upd_same⟩,Reps.keep (fun c o _ e => Same.upd h c o e) _ _ r⟩
theorem de_tup {x1}(h : PA X es (dnA W dA)) : PE X (.Tuple es x1 pos) (dn W (dTup dA)) := (pe_tup h).mono fun σ H Q hh => hh.elim fun pn M b ρ P st h k => by
  refine ⟨pn,M,b,ρ,_,st,h,fun xs vs H1 hx rx k1 o1 => ?_⟩
  have rr := rx.reps _ _ (okIt.pl hx.1)
  refine ⟨by rw [rr.length]; exact okIt.len hx.1,fun p hp => k _ _ _ hx.2 (new_tup (st.step k1 o1).toHs rr hp) (k1.trans (Kp.upd hp)) ((st.step k1 o1).okU hp)⟩
theorem de_lst (h : PA X es (dnA W dA)) : PE X (.List es pos) (dn W (dLst dA)) := (pe_lst h).mono fun σ H Q hh => hh.elim fun pn M b ρ P st h k => by
  refine ⟨pn,M,b,ρ,_,st,h,fun xs vs H1 hx rx k1 o1 => ?_⟩
  have rr := rx.reps _ _ (okIt.pl hx.1)
  refine ⟨by rw [rr.length]; exact okIt.len hx.1,fun p hp => k _ _ _ hx.2 (new_lst (st.step k1 o1).toHs rr hp) (k1.trans (Kp.upd hp)) ((st.step k1 o1).okU hp)⟩
end
end L2
set_option Elab.async false
set_option linter.all false
set_option maxRecDepth 100000
set_option maxHeartbeats 4000000
namespace L2
open PySem PySem.Spec PyProof.Rows
abbrev DSp := List D -> (D -> Prop) -> (Addr -> Prop) -> Prop
def RepA (K : PySem.W.Frag)(M : Addr -> Prop)(b : Option Addr)(H : Hp) : D -> V -> Prop
  | .own _,_ => False
  | .bag,v => ∃ p,b = some p /\ v = .ref p
  | d,v => Rep K M H d v
def RepAs (K : PySem.W.Frag)(M : Addr -> Prop)(b : Option Addr)(H : Hp) : List D -> List V -> Prop
  | [],vs => vs = []
  | d :: ds,vs => ∃ v r,vs = v :: r /\ RepA K M b H d v /\ RepAs K M b H ds r
def liftSp (K : PySem.W.Frag)(B : BagT)(S : DSp) : Sp := fun vs H Q E => ∃ (M : Addr -> Prop) (b : Option Addr) (ds : List D) (P : D -> Prop) (Ed : Addr -> Prop),S ds P Ed /\ RepAs K M b H ds vs /\ okB B b H /\ (∀ p,b = some p -> M p) /\ (∀ c,M c -> ∃ o,H c = some o) /\
  (∀ d v H',P d -> Rep K M H' d v -> Kp b H H' -> okB B b H' -> Q v H') /\ ∀ C H',Ed C -> Kp b H H' -> okB B b H' -> E (.ref C) none H'
theorem RepXs.args {W : Wd}{M : Addr -> Prop}{b : Option Addr}{H : Hp} : ∀ (ds : List D) (vs : List V),RepXs W M b H ds vs -> ds.all notOwn = true -> RepAs W.K M b H ds vs
  | [],_,h,_ => h
  | d :: ds,vs,h,p => by
    obtain ⟨v,r,e,h1,h2⟩ := h
    simp only [List.all_cons,Bool.and_eq_true] at p
    refine ⟨v,r,e,?_,RepXs.args ds r h2 p.2⟩
    cases d <;> first | exact h1 | cases p.1
theorem RepAs.length {K : PySem.W.Frag}{M : Addr -> Prop}{b : Option Addr}{H : Hp} : ∀ {ds : List D} {vs : List V},RepAs K M b H ds vs -> vs.length = ds.length
  | [],_,h => by cases (show _ = _ from h); rfl
  | d :: ds,vs,h => by
    obtain ⟨v,r,rfl,h1,h2⟩ := h
    simp [RepAs.length h2]
def ELink (W : Wd)(E : XK)(Ed : Addr -> Prop) : Prop := ∀ C H',Ed C -> Kp W.b0 W.H0 H' -> okB W.B W.b0 H' -> E (.ref C) none H'
theorem Sta.ok0 {W : Wd}{pn : List (D × V)}{M : Addr -> Prop}{b : Option Addr}{H : Hp}{σ : St}{ρ : Ev}(s : Sta W pn M b H σ ρ) : okB W.B W.b0 H := by
  rcases s.new with q | ⟨q,_⟩
  · rw [<- q]; exact s.ok
  · intro p e; rw [q] at e; cases e
section
variable {X : Cx}{W : Wd}{e a b c : Expr}{es : List Expr}{pos p : Pos}{d da db dc : DE}{dA : DA}{x : Str}{k : Nat}{ps : List Str}{S : DSp}
def dCall (S : DSp)(Ed : Addr -> Prop)(dA : DA) : DE := fun ρ P => dA ρ fun ds => ds.all notOwn = true /\ S ds P Ed
theorem up_call {E : XK}{Ed : Addr -> Prop}(hE : ELink W E Ed) : ∀ σ H Q,dn W (dCall S Ed dA) σ H Q -> tCall (liftSp W.K W.B S) [] E (dnA W dA) σ H Q := by
  intro σ H Q hh
  refine hh.elim fun pn M b ρ P st h k => ?_
  refine ⟨pn,M,b,ρ,_,st,h,fun xs vs H1 hx rx k1 o1 => ?_⟩
  have st1 := st.step k1 o1
  refine ⟨M,b,xs,P,Ed,hx.2,?_,o1,st.bagM,st1.dom,fun d v H' hd rd k2 o2 => k d v H' hd rd.x (k1.trans k2) o2,fun C H' hC k2 o2 => ?_⟩
  · rw [List.append_nil]; exact rx.args _ _ hx.1
  · have st2 := st1.step k2 o2
    exact hE C H' hC st2.kp st2.ok0
theorem elink0 : ELink W E0 (fun _ => False) := fun _ _ h => h.elim
theorem de_own (G : Callee X.prog X.w X.K X.mg X.base CX0 x k ps (liftSp W.K W.B S))(hr : Room k X.A)(hg : Gl X x)(ha : PA X (e :: es) (dnA W dA))(hdb : (x == ("__debug__" : Str)) = false := by decide) (he : starEach (e :: es) X.env = (false,eval e X.env) :: starEach es X.env := by rfl) (hpl : (backTo pos (starEach es X.env)).any (·.1) = false := by rfl) :
    PE X (.Call (.Name x p) (e :: es) [] pos) (dn W (dCall S (fun _ => False) dA)) := (pe_own G hr hg ha hdb he hpl).mono (up_call elink0)
def CallD (W : Wd)(r : List V -> Hp -> VK -> Prop)(o : List D -> (D -> Prop) -> Prop) : Prop := ∀ M b H xs vs P Q,Hs W M b H -> RepXs W M b H xs vs -> o xs P -> (∀ z w H',P z -> RepX W M b H' z w -> Kp b H H' -> okB W.B b H' -> Q w H') -> r vs H Q
def dCB (o : List D -> (D -> Prop) -> Prop)(dA : DA) : DE := fun ρ P => dA ρ fun xs => o xs P
variable {r : List V -> Hp -> VK -> Prop}{o : List D -> (D -> Prop) -> Prop}{id T : String}
theorem up_cb (hd : CallD W r o) : ∀ σ H Q,dn W (dCB o dA) σ H Q -> tCB r (dnA W dA) σ H Q := by
  intro σ H Q hh
  refine hh.elim fun pn M b ρ P st h k => ?_
  refine ⟨pn,M,b,ρ,_,st,h,fun xs vs H1 hx rx k1 o1 => ?_⟩
  exact hd M b H1 xs vs P Q (st.step k1 o1).toHs rx hx fun z w H' hz rz k2 o2 => k z w H' hz rz (k1.trans k2) o2
theorem de_callB (hc : CallR X (.builtin id) r)(hd : CallD W r o)(hg : Gl X x)(hm : X.mg x = none)(hv : bootBuiltins x = some (.builtin id))(ha : PA X (e :: es) (dnA W dA))(hn : x ≠ "__name__" := by decide) (hdb : (x == ("__debug__" : Str)) = false := by decide)
    (he : starEach (e :: es) X.env = (false,eval e X.env) :: starEach es X.env := by rfl) (hpl : (backTo pos (starEach es X.env)).any (·.1) = false := by rfl) : PE X (.Call (.Name x p) (e :: es) [] pos) (dn W (dCB o dA)) := (pe_callB hc hg hm hv ha hn hdb he hpl).mono (up_cb hd)
theorem rx1 {M : Addr -> Prop}{b : Option Addr}{H : Hp}{x : D}{vs : List V}(h : RepXs W M b H [x] vs) : ∃ v,vs = [v] /\ RepX W M b H x v := by
  obtain ⟨v,r,rfl,h1,h2⟩ := h
  cases (show _ = _ from h2)
  exact ⟨v,rfl,h1⟩
theorem rx2 {M : Addr -> Prop}{b : Option Addr}{H : Hp}{x y : D}{vs : List V}(h : RepXs W M b H [x,y] vs) : ∃ v u,vs = [v,u] /\ RepX W M b H x v /\ RepX W M b H y u := by
  obtain ⟨v,r,rfl,h1,h2⟩ := h
  obtain ⟨u,rfl,h3⟩ := rx1 h2
  exact ⟨v,u,rfl,h1,h3⟩
def intsOf : List D -> Option (List Int)
  | [] => some []
  | .int i :: r => (intsOf r).map (i :: ·)
  | _ => none
theorem intsOf.eq : ∀ {ds : List D} {ns : List Int},intsOf ds = some ns -> ds = ns.map D.int
  | [],ns,h => by cases h; rfl
  | d :: r,ns,h => by
    cases d <;> first | cases h | skip
    case int i =>
      simp only [intsOf,Option.map_eq_some_iff] at h
      obtain ⟨m,e,rfl⟩ := h
      rw [intsOf.eq e]; rfl
theorem Reps.ints {K : PySem.W.Frag}{M : Addr -> Prop}{H : Hp} : ∀ {ns : List Int} {vs : List V},Reps K M H (ns.map D.int) vs -> vs = ns.map V.int
  | [],_,h => by cases (show _ = _ from h); rfl
  | n :: ns,_,h => by
    obtain ⟨v,r,rfl,h1,h2⟩ := h
    cases (show _ = _ from h1)
    rw [Reps.ints h2]; rfl
def asL : D -> Option (List D)
  | .lst xs => some xs
  | .own xs => some xs
  | _ => none
theorem asL.rep {M : Addr -> Prop}{b : Option Addr}{H : Hp}{x : D}{v : V}{xs : List D}(h : RepX W M b H x v)(e : asL x = some xs) : ∃ a vs,v = .ref a /\ H a = some (.lst vs) /\ Reps W.K M H xs vs := by
  cases x <;> first | cases e | skip
  case lst => obtain ⟨a,vs,rfl,hh,r⟩ := h; exact ⟨a,vs,rfl,hh.2,r⟩
  case own => obtain ⟨a,vs,rfl,_,_,_,_,hh,r⟩ := h; exact ⟨a,vs,rfl,hh,r⟩
def oLen : List D -> (D -> Prop) -> Prop
  | [.lst xs],P => P (.int xs.length)
  | [.own xs],P => P (.int xs.length)
  | [.tup xs],P => P (.int xs.length)
  | [.scr ns],P => P (.int ns.length)
  | _,_ => False
theorem cd_len : CallD W (fun xs H Q => ∃ p ys,xs = [.ref p] /\ (SqL W.K H p ys \/ SqT W.K H p ys) /\ Q (.int ys.length) H) oLen := by
  intro M b H xs vs P Q hs rx ho k
  match xs,ho with
  | [.lst xs],ho =>
    obtain ⟨v,rfl,r⟩ := rx1 rx
    obtain ⟨a,us,rfl,hh,r'⟩ := r
    exact ⟨a,us,rfl,.inl (SqL.of hh.2),k _ _ H ho (by show _ = _; rw [r'.length]) (Kp.refl _ _) hs.ok⟩
  | [.own xs],ho =>
    obtain ⟨v,rfl,r⟩ := rx1 rx
    obtain ⟨a,us,rfl,_,_,_,_,hh,r'⟩ := r
    exact ⟨a,us,rfl,.inl (SqL.of hh),k _ _ H ho (by show _ = _; rw [r'.length]) (Kp.refl _ _) hs.ok⟩
  | [.tup xs],ho =>
    obtain ⟨v,rfl,r⟩ := rx1 rx
    obtain ⟨a,us,rfl,hh,r'⟩ := r
    exact ⟨a,us,rfl,.inr (hh.sq),k _ _ H ho (by show _ = _; rw [r'.length]) (Kp.refl _ _) hs.ok⟩
  | [.scr ns],ho =>
    obtain ⟨v,rfl,r⟩ := rx1 rx
    obtain ⟨a,rfl,hh⟩ := r
    refine ⟨a,ns.map V.int,rfl,.inl (hh.imp (·.2) id),k _ _ H ho (by show _ = _; rw [List.length_map]) (Kp.refl _ _) hs.ok⟩
def oSum : List D -> (D -> Prop) -> Prop
  | [x],P => (asL x).elim False fun xs => (intsOf xs).elim False fun ns => P (.int ns.sum)
  | _,_ => False
theorem cd_sum : CallD W (fun xs H Q => ∃ (p : Addr) (ns : List Int),xs = [.ref p] /\ SqL W.K H p (ns.map V.int) /\ Q (.int ns.sum) H) oSum := by
  intro M b H xs vs P Q hs rx ho k
  match xs,ho with
  | [x],ho =>
    obtain ⟨v,rfl,r⟩ := rx1 rx
    simp only [oSum] at ho
    cases ex : asL x with
    | none => rw [ex] at ho; exact ho.elim
    | some xs =>
      rw [ex] at ho
      simp only [Option.elim] at ho
      cases en : intsOf xs with
      | none => rw [en] at ho; exact ho.elim
      | some ns =>
        rw [en] at ho
        cases intsOf.eq en
        obtain ⟨a,us,rfl,hh,r'⟩ := asL.rep r ex
        cases r'.ints
        exact ⟨a,ns,rfl,SqL.of hh,k _ _ H ho (show _ = _ from rfl) (Kp.refl _ _) hs.ok⟩
end
end L2
set_option Elab.async false
set_option linter.all false
set_option maxRecDepth 100000
set_option maxHeartbeats 4000000
namespace L2
open PySem PySem.Spec PyProof.Rows
theorem Reps.plain {K : PySem.W.Frag}{M : Addr -> Prop}{H : Hp} : ∀ {ds : List D} {vs : List V},Reps K M H ds vs -> ds.all plain = true
  | [],_,_ => rfl
  | d :: ds,_,h => by
    obtain ⟨v,r,rfl,h1,h2⟩ := h
    rw [List.all_cons,Reps.plain h2,Bool.and_true]
    cases d <;> first | rfl | exact h1.elim
theorem Reps.xs {W : Wd}{M : Addr -> Prop}{b : Option Addr}{H : Hp} : ∀ {ds : List D} {vs : List V},Reps W.K M H ds vs -> RepXs W M b H ds vs
  | [],_,h => h
  | d :: ds,_,h => by
    obtain ⟨v,r,rfl,h1,h2⟩ := h
    exact ⟨v,r,rfl,h1.x,Reps.xs h2⟩
def ItOk (W : Wd)(J : It)(need : List (D × V))(items : List D) : Prop := ∀ M b H,Hs W M b H -> (∀ q ∈ need,RepX W M b H q.1 q.2) ->
  (∀ (i : Nat) d,items[i]? = some d -> J.go i H /\ ∀ x H3,J.yld i H x H3 -> Same H H3 /\ RepX W M b H3 d x) /\ ∀ i,items.length <= i -> J.stop i H
def dnI (W : Wd)(fz : Bool)(di : DA) : TI := fun σ H R => ∃ pn M b ρ P,Sta W pn M b H σ ρ /\ di ρ P /\ ∀ items J need H',P items -> items.all plain = true -> ItOk W J need items -> (∀ q ∈ need,RepX W M b H' q.1 q.2 /\ (fz = true -> plain q.1 = true)) -> Kp b H H' -> okB W.B b H' -> R J H'
theorem dnI.elim {W : Wd}{fz : Bool}{d : DA}{σ : St}{H : Hp}{R : It -> Hp -> Prop}{Z : Prop}(h : dnI W fz d σ H R)(f : ∀ pn M b ρ P,Sta W pn M b H σ ρ -> d ρ P -> (∀ items J need H',P items -> items.all plain = true -> ItOk W J need items -> (∀ q ∈ need,RepX W M b H' q.1 q.2 /\ (fz = true -> plain q.1 = true)) -> Kp b H H' -> okB W.B b H' -> R J H') -> Z) : Z := by
  obtain ⟨pn,M,b,ρ,P,st,h,k⟩ := h
  exact f pn M b ρ P st h k
section
variable {X : Cx}{W : Wd}{tg l e a b c : Expr}{es : List Expr}{pos p : Pos}{d da db dc dl : DE}{dA di : DA}{fz : Bool}
theorem PI.mono {t t' : TI}(h : PI X tg l t)(m : ∀ σ H R,t' σ H R -> t σ H R) : PI X tg l t' := fun pins s σ H R I q => h pins s σ H R I (m σ H R q)
theorem pi_any {tl : TE}(K : PySem.W.Frag)(h : X.K = K)(hl : PE X l tl) : PI X tg l (fun σ H R => tl σ H fun x H1 => (∃ a,x = .ref a /\ (∃ xs,SqL K H1 a xs) /\ R (Itl K a) H1) \/ (∃ a,x = .ref a /\ (∃ xs,SqT K H1 a xs) /\ R (Itt K a) H1)) := by
  subst h
  intro pins s σ H R I h
  refine thn (hl pins s σ H _ I h) fun v s1 ⟨x,H1,I1,r1,q1⟩ => ?_
  rcases q1 with ⟨a,e,⟨xs,hq⟩,q⟩ | ⟨a,e,⟨xs,hq⟩,q⟩
  · subst e
    cases r1
    obtain ⟨its,rv,p,hz⟩ := I1.list hq
    refine wpAny_pyIter_list p.isList ?_
    refine ⟨s1.heap.objs.size,[s1.heap.objs.size],_,_,H1,rfl,I1.kept (t' := s1.toks) fun b o e => Heap.get?_push_of_some _ e,turn_list a _,⟨_,Heap.get?_push_size _ rfl,rfl,rfl⟩,fun b hb => ?_,q⟩
    have e : b = s1.heap.objs.size := by simpa using hb
    subst e
    exact I1.fpOk (Nat.le_refl _) (I1.hok.fresh (Nat.le_refl _))
  · subst e
    cases r1
    obtain ⟨its,rv,p,hz⟩ := I1.tuple hq
    refine wpAny_pyIter_tuple (show s1.heap.IsTuple a its.toArray from p) ?_
    refine ⟨s1.heap.objs.size,[s1.heap.objs.size],_,_,H1,rfl,I1.kept (t' := s1.toks) fun b o e => Heap.get?_push_of_some _ e,turn_tuple a _,⟨_,Heap.get?_push_size _ rfl,rfl,rfl⟩,fun b hb => ?_,q⟩
    have e : b = s1.heap.objs.size := by simpa using hb
    subst e
    exact I1.fpOk (Nat.le_refl _) (I1.hok.fresh (Nat.le_refl _))
def iSeq (fz : Bool)(dl : DE) : DA := fun ρ P => dl ρ fun x => match x with
  | .lst xs => P xs
  | .tup xs => P xs
  | .own xs => fz = false /\ P xs
  | _ => False
theorem it_lst {x : D}{xs : List D}{a : Addr}(hx : asL x = some xs) : ItOk W (Itl W.K a) [(x,.ref a)] xs := by
  intro M b H hs hn
  obtain ⟨a',vs,e,hh,r⟩ := asL.rep (hn _ (List.mem_singleton.mpr rfl)) hx
  cases e
  refine ⟨fun i d e => ?_,fun i hi => ⟨vs,SqL.of hh,by rw [r.length]; exact hi⟩⟩
  obtain ⟨v,e1,r1⟩ := r.get e
  refine ⟨⟨vs,v,SqL.of hh,e1⟩,fun y H3 ⟨eH,hy⟩ => ?_⟩
  subst eH
  have := hy vs (SqL.of hh)
  rw [e1] at this; cases this
  exact ⟨Same.refl _,r1.x⟩
theorem it_tup {xs : List D}{a : Addr} : ItOk W (Itt W.K a) [(.tup xs,.ref a)] xs := by
  intro M b H hs hn
  obtain ⟨a',vs,e,hh,r⟩ := hn _ (List.mem_singleton.mpr rfl)
  cases e
  refine ⟨fun i d e => ?_,fun i hi => ⟨vs,hh.sq,by rw [r.length]; exact hi⟩⟩
  obtain ⟨v,e1,r1⟩ := r.get e
  refine ⟨⟨vs,v,hh.sq,e1⟩,fun y H3 ⟨eH,hy⟩ => ?_⟩
  subst eH
  have := hy vs (hh.sq)
  rw [e1] at this; cases this
  exact ⟨Same.refl _,r1.x⟩
theorem need1 {M : Addr -> Prop}{b : Option Addr}{H : Hp}{x : D}{v : V}(r : RepX W M b H x v)(h : fz = true -> plain x = true) : ∀ q ∈ [(x,v)],RepX W M b H q.1 q.2 /\ (fz = true -> plain q.1 = true) := fun q hq => by
  have e := List.mem_singleton.mp hq
  subst e
  exact ⟨r,h⟩
theorem di_seq (hK : X.K = W.K)(hl : PE X l (dn W dl)) : PI X tg l (dnI W fz (iSeq fz dl)) := (pi_any W.K hK hl).mono fun σ H R hh => hh.elim fun pn M b ρ P st h k => by
  refine ⟨pn,M,b,ρ,_,st,h,fun x v H1 hx rx k1 o1 => ?_⟩
  cases x <;> first | exact hx.elim | skip
  case lst xs =>
    obtain ⟨a,vs,rfl,hh,r⟩ := (show RepX W M b H1 (.lst xs) v from rx)
    exact .inl ⟨a,rfl,⟨vs,SqL.of hh.2⟩,k xs _ _ H1 hx r.plain (it_lst (x := .lst xs) rfl) (need1 rx fun _ => rfl) k1 o1⟩
  case tup xs =>
    obtain ⟨a,vs,rfl,hh,r⟩ := (show RepX W M b H1 (.tup xs) v from rx)
    exact .inr ⟨a,rfl,⟨vs,hh.sq⟩,k xs _ _ H1 hx r.plain it_tup (need1 rx fun _ => rfl) k1 o1⟩
  case own xs =>
    obtain ⟨a,vs,rfl,m1,m2,m3,m4,hh,r⟩ := (show RepX W M b H1 (.own xs) v from rx)
    exact .inl ⟨a,rfl,⟨vs,SqL.of hh⟩,k xs _ _ H1 hx.2 r.plain (it_lst (x := .own xs) rfl) (need1 rx fun z => by rw [hx.1] at z; cases z) k1 o1⟩
def rangeD (lo : Int)(n : Nat) : List D := (List.range n).map fun (i : Nat) => .int (lo + i)
theorem rangeD_plain (lo : Int)(n : Nat) : (rangeD lo n).all plain = true := by
  simp [rangeD,plain]
theorem it_range {lo : Int}{n : Nat} : ItOk W (Itr lo n) [] (rangeD lo n) := by
  intro M b H hs _
  refine ⟨fun i d e => ?_,fun i hi => by show n <= i; simpa [rangeD] using hi⟩
  have hi : i < n := by
    have := (List.getElem?_eq_some_iff.mp e).1
    simpa [rangeD] using this
  refine ⟨hi,fun x H3 ⟨eH,ex⟩ => ?_⟩
  subst eH ex
  refine ⟨Same.refl _,?_⟩
  simp [rangeD,hi] at e
  subst e
  exact (show _ = _ from rfl)
def iRange1 (dA : DA) : DA := fun ρ P => dA ρ fun xs => match xs with
  | [.int j] => (-(2 ^ 62) <= j /\ j < 2 ^ 62) /\ P (rangeD 0 j.toNat)
  | _ => False
theorem di_range1 (hg : Gl X "range") (hm : X.mg "range" = none) (ha : PA X [a] (dnA W dA)) (hs : starEach [a] X.env = [(false,eval a X.env)] := by rfl) : PI X tg (.Call (.Name "range" p) [a] [] pos) (dnI W fz (iRange1 dA)) := (pi_range1 hg hm ha hs).mono fun σ H R hh => hh.elim fun pn M b ρ P st h k => by
  refine ⟨pn,M,b,ρ,_,st,h,fun xs vs H1 hx rx k1 o1 => ?_⟩
  match xs,hx with
  | [.int j],hx =>
    obtain ⟨v,rfl,r⟩ := rx1 rx
    cases (show _ = _ from r)
    exact ⟨j,rfl,hx.1.1,hx.1.2,k _ _ _ H1 hx.2 (rangeD_plain _ _) it_range (fun q hq => by cases hq) k1 o1⟩
def asK (fz t : Bool) : D -> Option (List D)
  | .tup xs => if t then some xs else none
  | .lst xs => if t then none else some xs
  | .own xs => if t || fz then none else some xs
  | _ => none
theorem asK.rep {M : Addr -> Prop}{b : Option Addr}{H : Hp}{t : Bool}{x : D}{v : V}{xs : List D}(h : RepX W M b H x v)(e : asK fz t x = some xs) : (∃ a vs,v = .ref a /\ SqX W.K t H a vs /\ Reps W.K M H xs vs) /\ (fz = true -> plain x = true) := by
  cases x <;> first | cases e | skip
  case lst =>
    obtain ⟨a,vs,rfl,hh,r⟩ := h
    cases t <;> cases e
    exact ⟨⟨a,vs,rfl,SqL.of hh.2,r⟩,fun _ => rfl⟩
  case own =>
    obtain ⟨a,vs,rfl,_,_,_,_,hh,r⟩ := h
    cases t <;> cases fz <;> cases e
    exact ⟨⟨a,vs,rfl,SqL.of hh,r⟩,fun z => by cases z⟩
  case tup =>
    obtain ⟨a,vs,rfl,hh,r⟩ := h
    cases t <;> cases e
    exact ⟨⟨a,vs,rfl,hh.sq,r⟩,fun _ => rfl⟩
def zipD (xs ys : List D) : List D := List.zipWith (fun x y => .tup [x,y]) xs ys
def iZipD (fz t1 t2 : Bool)(dA : DA) : DA := fun ρ P => dA ρ fun zs => match zs with
  | [x,y] => (match asK fz t1 x,asK fz t2 y with | some xs,some ys => xs.length <= ys.length /\ P (zipD xs ys) | _,_ => False)
  | _ => False
theorem zipD_plain : ∀ (xs ys : List D),(zipD xs ys).all plain = true
  | [],_ => rfl
  | _ :: _,[] => rfl
  | x :: xs,y :: ys => by
    show (plain (.tup [x,y]) && (zipD xs ys).all plain) = true
    rw [zipD_plain xs ys]; rfl
theorem it_zip {t1 t2 : Bool}{x y : D}{xs ys : List D}{l1 l2 : Addr}(h1 : asK fz t1 x = some xs)(h2 : asK fz t2 y = some ys)(hl : xs.length <= ys.length) : ItOk W (Itz2 W.K t1 t2 l1 l2) [(x,.ref l1),(y,.ref l2)] (zipD xs ys) := by
  intro M b H hs hn
  obtain ⟨⟨a1,us,e1,q1,r1⟩,_⟩ := asK.rep (hn _ (.head _)) h1
  obtain ⟨⟨a2,ws,e2,q2,r2⟩,_⟩ := asK.rep (hn _ (.tail _ (.head _))) h2
  cases e1
  cases e2
  have hlen : (zipD xs ys).length = xs.length := by simp [zipD]; omega
  refine ⟨fun i d e => ?_,fun i hi => ⟨⟨us,q1,by rw [r1.length,<- hlen]; exact hi⟩,⟨ws,q2⟩⟩⟩
  have hi : i < xs.length := by rw [<- hlen]; exact (List.getElem?_eq_some_iff.mp e).1
  obtain ⟨u,eu,ru⟩ := r1.get (List.getElem?_eq_getElem hi)
  obtain ⟨w,ew,rw'⟩ := r2.get (List.getElem?_eq_getElem (Nat.lt_of_lt_of_le hi hl))
  refine ⟨⟨us,ws,u,w,q1,eu,q2,ew⟩,fun v H3 ⟨t,y1,y2,ev,ht,eH,k1,k2⟩ => ?_⟩
  subst ev eH
  have z1 := k1 us q1
  have z2 := k2 ws q2
  rw [eu] at z1; cases z1
  rw [ew] at z2; cases z2
  refine ⟨Same.upd ht,?_⟩
  have ed : d = .tup [xs[i],ys[i]'(Nat.lt_of_lt_of_le hi hl)] := by
    have : (zipD xs ys)[i]? = some (.tup [xs[i],ys[i]'(Nat.lt_of_lt_of_le hi hl)]) := by
      simp [zipD,List.getElem?_zipWith,hi,Nat.lt_of_lt_of_le hi hl]
    rw [this] at e; exact (Option.some.inj e).symm
  subst ed
  exact new_tup hs ⟨u,[w],rfl,ru,w,[],rfl,rw',rfl⟩ ht
theorem di_zip {elts : List Expr}{c1}{tpos : Pos}(hK : X.K = W.K)(t1 t2 : Bool)(hg : Gl X "zip") (hm : X.mg "zip" = none) (ha : PA X [a,b] (dnA W dA))
    (h : PI X (.Tuple elts c1 tpos) (.Call (.Name "zip" p) [a,b] [] pos) (iZip2 W.K t1 t2 (dnA W dA))) : PI X (.Tuple elts c1 tpos) (.Call (.Name "zip" p) [a,b] [] pos) (dnI W fz (iZipD fz t1 t2 dA)) := h.mono fun σ H R hh => hh.elim fun pn M b ρ P st h k => by
  refine ⟨pn,M,b,ρ,_,st,h,fun zs vs H1 hx rx k1 o1 => ?_⟩
  match zs,hx with
  | [x,y],hx =>
    obtain ⟨v,u,rfl,r,r'⟩ := rx2 rx
    dsimp only at hx
    split at hx
    case h_2 => exact hx.elim
    case h_1 xs ys e1 e2 =>
      obtain ⟨⟨a1,us,z1,q1,r1⟩,f1⟩ := asK.rep r e1
      obtain ⟨⟨a2,ws,z2,q2,r2⟩,f2⟩ := asK.rep r' e2
      subst z1 z2
      refine ⟨a1,a2,rfl,⟨us,q1⟩,⟨ws,q2⟩,k _ _ _ H1 hx.2 (zipD_plain _ _) (it_zip e1 e2 hx.1) (fun q hq => ?_) k1 o1⟩
      rcases List.mem_cons.mp hq with z | z
      · subst z; exact ⟨r,f1⟩
      · have z := List.mem_singleton.mp z
        subst z; exact ⟨r',f2⟩
end
def GD (W : Wd)(g : TG)(gd : D -> Ev -> (Ev -> Prop) -> Prop) : Prop := ∀ pn M b H σ ρ x v Q P,Sta W pn M b H σ ρ -> RepX W M b H x v -> plain x = true -> gd x ρ P -> (∀ ρ' σ',P ρ' -> Sta W pn M b H σ' ρ' -> (∀ (i : Nat) d,mine d = true -> ρ'[i]? = some (some d) -> ρ[i]? = some (some d) /\ σ'[i]? = σ[i]?) -> Q σ' H) -> g v σ H Q
theorem Sta.set {W : Wd}{pn : List (D × V)}{M : Addr -> Prop}{b : Option Addr}{H : Hp}{σ : St}{ρ : Ev}{x : D}{v : V}(s : Sta W pn M b H σ ρ)(j : Nat)(r : RepX W M b H x v) : Sta W pn M b H (σ.set j (some v)) (ρ.set j (some x)) where
  toHs := s.toHs
  kp := s.kp
  new := s.new
  len := by simp [s.len]
  pin := s.pin
  env := fun i d e => by
    by_cases z : j = i
    · subst z
      rw [List.getElem?_set] at e
      simp at e
      obtain ⟨hl,rfl⟩ := e
      exact ⟨v,by rw [List.getElem?_set]; simp [<- s.len,hl],r⟩
    · rw [List.getElem?_set_ne z] at e
      obtain ⟨w,e1,r1⟩ := s.env i d e
      exact ⟨w,by rw [List.getElem?_set_ne z]; exact e1,r1⟩
theorem own_set {ρ : Ev}{σ : St}{j : Nat}{x : D}{v : V}(p : plain x = true) : ∀ (i : Nat) d,mine d = true -> (ρ.set j (some x))[i]? = some (some d) -> ρ[i]? = some (some d) /\ (σ.set j (some v))[i]? = σ[i]? := fun i d hm e => by
  by_cases z : j = i
  · subst z
    rw [List.getElem?_set] at e
    simp at e
    obtain ⟨hl,rfl⟩ := e
    cases x <;> first | (cases hm; done) | (cases p; done)
  · rw [List.getElem?_set_ne z] at e
    exact ⟨e,by rw [List.getElem?_set_ne z]⟩
def gdN (j : Nat) : D -> Ev -> (Ev -> Prop) -> Prop := fun x ρ P => P (ρ.set j (some x))
theorem gd_name {W : Wd}(j : Nat) : GD W (gName j) (gdN j) := fun pn M b H σ ρ x v Q P st r p h k => k _ _ h (st.set j r) (own_set p)
def setAll : List Nat -> List D -> Ev -> Ev
  | j :: js,x :: xs,ρ => setAll js xs (ρ.set j (some x))
  | _,_,ρ => ρ
def gNames : List Nat -> TGs
  | [] => gNil
  | j :: js => gCons (gName j) (gNames js)
def gSeq (K : PySem.W.Frag)(n : Nat)(t : TGs) : TG := fun v σ H Q => gTup K n t v σ H Q \/ gLst K n t v σ H Q
def gdU (js : List Nat) : D -> Ev -> (Ev -> Prop) -> Prop := fun x ρ P => match x with
  | .tup xs => xs.length = js.length /\ P (setAll js xs ρ)
  | .lst xs => xs.length = js.length /\ P (setAll js xs ρ)
  | _ => False
theorem gd_names {W : Wd}{pn : List (D × V)}{M : Addr -> Prop}{b : Option Addr}{H : Hp}{Q : St -> Hp -> Prop}{P : Ev -> Prop} : ∀ (js : List Nat) (xs : List D) (vs : List V) (σ : St) (ρ : Ev),Sta W pn M b H σ ρ -> Reps W.K M H xs vs -> xs.length = js.length -> P (setAll js xs ρ) -> (∀ ρ' σ',P ρ' -> Sta W pn M b H σ' ρ' -> (∀ (i : Nat) d,mine d = true -> ρ'[i]? = some (some d) -> ρ[i]? = some (some d) /\ σ'[i]? = σ[i]?) -> Q σ' H) -> gNames js vs σ H Q
  | [],[],vs,σ,ρ,st,r,hl,h,k => ⟨r,k _ _ h st fun _ _ _ e => ⟨e,rfl⟩⟩
  | j :: js,x :: xs,vs,σ,ρ,st,r,hl,h,k => by
    obtain ⟨v,us,rfl,r1,r2⟩ := r
    refine ⟨v,us,rfl,?_⟩
    have p : plain x = true := by cases x <;> first | rfl | exact r1.elim
    refine gd_names js xs us _ (ρ.set j (some x)) (st.set j r1.x) r2 (by simpa using hl) h fun ρ' σ' hp st' ho => k ρ' σ' hp st' fun i xs hm e => ?_
    obtain ⟨z1,z2⟩ := ho i xs hm e
    obtain ⟨z3,z4⟩ := own_set (v := v) (σ := σ) p i xs hm z1
    exact ⟨z3,z2.trans z4⟩
theorem gd_seq {W : Wd}(js : List Nat) : GD W (gSeq W.K js.length (gNames js)) (gdU js) := fun pn M b H σ ρ x v Q P st r p h k => by
  cases x <;> first | exact h.elim | skip
  case tup xs =>
    obtain ⟨a,vs,rfl,hh,r⟩ := r
    exact .inl ⟨a,vs,rfl,hh.sq,by rw [r.length]; exact h.1,gd_names js xs vs σ ρ st r h.1 h.2 k⟩
  case lst xs =>
    obtain ⟨a,vs,rfl,hh,r⟩ := r
    exact .inr ⟨a,vs,rfl,SqL.of hh.2,by rw [r.length]; exact h.1,gd_names js xs vs σ ρ st r h.1 h.2 k⟩
theorem PG.or {X : Cx}{tg : Expr}{t u : TG}(h : PG X tg t)(h' : PG X tg u) : PG X tg (fun v σ H Q => t v σ H Q \/ u v σ H Q) := by
  intro pins s σ H v u' Q I r q
  rcases q with q | q
  · exact h pins s σ H v u' Q I r q
  · exact h' pins s σ H v u' Q I r q
theorem gkeep_seq {K : PySem.W.Frag}{js : List Nat}{n : Nat}{map : List (Option Nat)}(hj : ∀ j ∈ js,map[j]? = some none) : GKeep (gSeq K n (gNames js)) map := by
  have key : ∀ (js : List Nat),(∀ j ∈ js,map[j]? = some none) -> ∀ vs σ H Q,gNames js vs σ H Q -> gNames js vs σ H fun σ' H' => (σ'.length = σ.length /\ ∀ j i : Nat,map[j]? = some (some i) -> σ'[j]? = σ[j]?) /\ Q σ' H' := by
    intro js
    induction js with
    | nil => intro _ vs σ H Q h; exact ⟨h.1,⟨rfl,fun _ _ _ => rfl⟩,h.2⟩
    | cons j js ih =>
      intro hj vs σ H Q h
      obtain ⟨v,r,e,h⟩ := h
      refine ⟨v,r,e,?_⟩
      have q := ih (fun j' m => hj j' (.tail _ m)) r _ H _ h
      have mono : ∀ (js : List Nat) vs σ H (Q Q' : St -> Hp -> Prop),(∀ s h,Q s h -> Q' s h) -> gNames js vs σ H Q -> gNames js vs σ H Q' := by
        intro js
        induction js with
        | nil => intro vs σ H Q Q' m h; exact ⟨h.1,m _ _ h.2⟩
        | cons j js ih => intro vs σ H Q Q' m ⟨v,r,e,h⟩; exact ⟨v,r,e,ih _ _ _ _ _ m h⟩
      refine mono js r _ H _ _ (fun s h ⟨⟨l,z⟩,w⟩ => ⟨⟨by rw [l]; simp,fun j' i hm => ?_⟩,w⟩) q
      rw [z j' i hm]
      have n1 : j ≠ j' := fun z => by
        have := hj j (.head _)
        rw [z,hm] at this; cases this
      rw [List.getElem?_set_ne n1]
  intro v σ H Q h
  rcases h with ⟨a,xs,e,s,l,h⟩ | ⟨a,xs,e,s,l,h⟩
  · exact .inl ⟨a,xs,e,s,l,key js hj _ _ _ _ h⟩
  · exact .inr ⟨a,xs,e,s,l,key js hj _ _ _ _ h⟩
def captD (ρ : Ev)(map : List (Option Nat)) : Ev := map.map fun o => o.bind fun i => (ρ[i]?).join
def dCompL (gd : D -> Ev -> (Ev -> Prop) -> Prop)(dt : DT)(de : DE)(ρc : Ev) : List D -> List D -> (List D -> Prop) -> Prop
  | [],acc,P => P acc
  | x :: xs,acc,P => gd x ρc fun ρ1 => dt ρ1 fun c => IfP c (de ρ1 fun y => plain y = true /\ dCompL gd dt de ρc xs (acc ++ [y]) P) (dCompL gd dt de ρc xs acc P)
inductive compI (gd : D -> Ev -> (Ev -> Prop) -> Prop)(dt : DT)(de : DE)(ρc : Ev)(items : List D)(P : List D -> Prop) : Prop
  | mk (I : Nat -> List D -> Prop) (h0 : I 0 []) (hs : ∀ (i : Nat) x acc,items[i]? = some x -> I i acc -> gd x ρc fun ρ1 => dt ρ1 fun c => IfP c (de ρ1 fun y => plain y = true /\ I (i + 1) (acc ++ [y])) (I (i + 1) acc)) (hd : ∀ acc,I items.length acc -> P acc) : compI gd dt de ρc items P
theorem comp_rec {gd : D -> Ev -> (Ev -> Prop) -> Prop}{dt : DT}{de : DE}{ρc : Ev}{items : List D}{P : List D -> Prop}(h : dCompL gd dt de ρc items [] P) : compI gd dt de ρc items P := by
  refine ⟨fun i acc => dCompL gd dt de ρc (items.drop i) acc P,h,fun i x acc e q => ?_,fun acc q => ?_⟩
  · obtain ⟨hlt,rfl⟩ := List.getElem?_eq_some_iff.mp e
    try dsimp only at q
    rw [List.drop_eq_getElem_cons hlt] at q
    exact q
  · (try dsimp only at q); rw [List.drop_length] at q; exact q
def dComp (map : List (Option Nat))(gd : D -> Ev -> (Ev -> Prop) -> Prop)(di : DA)(dt : DT)(de : DE) : DE := fun ρ P => di ρ fun items => items.length <= 1000 /\ compI gd dt de (captD ρ map) items fun acc => P (.lst acc)
theorem Sta.capt {W : Wd}{pn : List (D × V)}{M : Addr -> Prop}{b : Option Addr}{H : Hp}{σ : St}{ρ : Ev}(s : Sta W pn M b H σ ρ)(map : List (Option Nat)) : Sta W pn M b H (capt σ map) (captD ρ map) where
  toHs := s.toHs
  kp := s.kp
  new := s.new
  len := by simp [L2.capt,captD]
  pin := s.pin
  env := fun j d e => by
    unfold captD at e
    rw [List.getElem?_map] at e
    simp only [Option.map_eq_some_iff] at e
    obtain ⟨o,e1,e2⟩ := e
    simp only [Option.bind_eq_some_iff] at e2
    obtain ⟨i,rfl,e3⟩ := e2
    have e4 : ρ[i]? = some (some d) := by
      cases q : ρ[i]? with
      | none => rw [q] at e3; cases e3
      | some z => rw [q] at e3; exact congrArg some e3
    obtain ⟨v,e5,r⟩ := s.env i d e4
    exact ⟨v,by unfold L2.capt; rw [List.getElem?_map,e1]; simp [e5],r⟩
theorem comp_turns {W : Wd}{pn : List (D × V)}{M : Addr -> Prop}{b : Option Addr}{H : Hp}{σ : St}{ρ : Ev}{J : It}{need : List (D × V)}{items : List D}{g : TG}{gd : D -> Ev -> (Ev -> Prop) -> Prop}{dt : DT}{de : DE}{P : List D -> Prop}{Fin : List V -> Hp -> Prop}
    (hG : GD W g gd) (st : Sta W pn M b H σ ρ) (hp : items.all plain = true) (hI : ItOk W J need items) (hn : ∀ q ∈ need,RepX W M b H q.1 q.2) (hl : items.length <= 1000) (h : compI gd dt de ρ items P)
    (fin : ∀ ds acc H',P ds -> Reps W.K M H' ds acc -> acc.length <= sizeLine -> Kp b H H' -> okB W.B b H' -> Fin acc H') : ∃ Wf : Nat -> Nat -> List V -> Hp -> Prop,(∃ m,Wf 0 m [] H) /\ Turns J g (dnT W dt) (dn W de) σ Fin Wf := by
  obtain ⟨I,i0,istep,idone⟩ := h
  refine ⟨fun i m acc H2 => m = items.length - i /\ i <= items.length /\ acc.length <= i /\ Kp b H H2 /\ okB W.B b H2 /\ ∃ ds,Reps W.K M H2 ds acc /\ I i ds,⟨items.length,by simp,Nat.zero_le _,Nat.le_refl _,Kp.refl _ _,st.ok,[],rfl,i0⟩,?_⟩
  rintro i m acc H2 ⟨rfl,hi,ha,k2,o2,ds,r,q⟩
  have st2 := st.step k2 o2
  obtain ⟨hgo,hstop⟩ := hI M b H2 st2.toHs fun q hq => (hn q hq).step st.bagM k2
  by_cases hlt : i < items.length
  · have ei : items[i]? = some items[i] := List.getElem?_eq_getElem hlt
    replace q := istep i _ ds ei q
    refine .inr ⟨(hgo i _ ei).1,by have := le1000; omega,fun acc' H' => acc'.length <= i + 1 /\ Kp b H H' /\ okB W.B b H' /\ ∃ ds,Reps W.K M H' ds acc' /\ I (i + 1) ds,fun acc' H' n => ⟨items.length - (i + 1),by omega,rfl,hlt,n⟩,fun x H3 y => ?_⟩
    obtain ⟨S3,rx⟩ := (hgo i _ ei).2 x H3 y
    have o3 : okB W.B b H3 := fun p e => W.B.st p H2 H3 (o2 p e) fun o e' => S3 p o e'
    have k3 : Kp b H2 H3 := Kp.same S3
    have st3 := st2.step k3 o3
    refine hG pn M b H3 σ ρ items[i] x _ _ st3 rx (List.all_eq_true.mp hp _ (List.getElem_mem hlt)) q fun ρ1 σ1 h1 st4 _ => ?_
    refine ⟨pn,M,b,ρ1,_,st4,h1,fun c H5 h5 k5 o5 => ?_⟩
    cases h5 with
    | t e h5 =>
      rw [if_pos e]
      refine ⟨pn,M,b,ρ1,_,st4.step k5 o5,h5,fun y v H6 h6 ry k6 o6 => ?_⟩
      have kk := ((k3.trans k5).trans k6)
      refine ⟨by simp; omega,k2.trans kk,o6,ds ++ [y],Reps.append (Reps.keep (fun c o n e => kk c o (fun z => n (st.bagM c z)) e) _ _ r) ⟨v,[],rfl,ry.rep h6.1,rfl⟩,h6.2⟩
    | f e h5 =>
      rw [if_neg (by rw [e]; exact Bool.false_ne_true)]
      have kk := k3.trans k5
      exact ⟨by omega,k2.trans kk,o5,ds,Reps.keep (fun c o n e => kk c o (fun z => n (st.bagM c z)) e) _ _ r,h5⟩
  · have e : i = items.length := by omega
    subst e
    exact .inl ⟨hstop _ (Nat.le_refl _),by have := le1000; omega,fin ds acc H2 (idone _ q) r (by have := le1000; omega) k2 o2⟩
section
variable {X : Cx}{W : Wd}{elt iter tg : Expr}{ifs : List Expr}{scope : Scope}{pos : Pos}{N' : List Str}{map : List (Option Nat)}{g : TG}{gd : D -> Ev -> (Ev -> Prop) -> Prop}{di : DA}{dt : DT}{de : DE}
theorem de_comp (hG : GD W g gd)(B : Blk X N' scope map tg elt ifs g (dnT W dt) (dn W de))(hi : PI X tg iter (dnI W false di))(hs : ∀ x,foldedSetIterable iter X.env x = pure x := by intro _; rfl) : PE X (.ListComp elt [⟨tg,iter,ifs,0⟩] scope pos) (dn W (dComp map gd di dt de)) := (pe_comp B hi hs).mono fun σ H Q hh => hh.elim fun pn M b ρ P st h k => by
  refine ⟨pn,M,b,ρ,_,st,h,fun items J need H1 hx hp hI hn k1 o1 => ?_⟩
  have st1 := st.step k1 o1
  refine comp_turns hG (st1.capt map) hp hI (fun q hq => (hn q hq).1) hx.1 hx.2 fun ds acc H' hP r hl k2 o2 D hD => ?_
  exact k _ _ _ hP (new_lst (st1.step k2 o2).toHs r hD) ((k1.trans k2).trans (Kp.upd hD)) ((st1.step k2 o2).okU hD)
def dTrue : DT := fun _ P => P true
theorem dif_nil : PIf X [] (dnT W dTrue) := fun pins s σ H Q I hh => hh.elim fun pn M b ρ P st h k => pif_nil pins s σ H Q I (k true H h (Kp.refl _ _) st.ok)
theorem dif_one {c : Expr}(hc : PT X c (dnT W dt)) : PIf X [c] (dnT W dt) := pif_one hc
end
end L2
set_option Elab.async false
set_option linter.all false
set_option maxRecDepth 100000
set_option maxHeartbeats 4000000
namespace L2
open PySem PySem.Spec PyProof.Rows
structure StS (W : Wd)(pn : List (D × V))(M : Addr -> Prop)(b : Option Addr)(H : Hp)(σ : St)(ρ : Ev) : Prop extends Sta W pn M b H σ ρ where
  dj : ∀ (i j : Nat) d e v u c,ρ[i]? = some (some d) -> ρ[j]? = some (some e) -> σ[i]? = some (some v) -> σ[j]? = some (some u) -> mineA d v c -> mineA e u c -> i = j
  lj : ∀ ys a,(D.own ys,V.ref a) ∈ pn -> ∀ (i : Nat) d v,ρ[i]? = some (some d) -> σ[i]? = some (some v) -> ¬ mineA d v a
theorem StS.own {W : Wd}{pn : List (D × V)}{M : Addr -> Prop}{b : Option Addr}{H : Hp}{σ : St}{ρ : Ev}(s : StS W pn M b H σ ρ) : ∀ (i j : Nat) xs ys a,ρ[i]? = some (some (.own xs)) -> ρ[j]? = some (some (.own ys)) -> σ[i]? = some (some (.ref a)) -> σ[j]? = some (some (.ref a)) -> i = j := fun i j xs ys a e1 e2 e3 e4 => s.dj i j _ _ _ _ a e1 e2 e3 e4 rfl rfl
theorem StS.lk {W : Wd}{pn : List (D × V)}{M : Addr -> Prop}{b : Option Addr}{H : Hp}{σ : St}{ρ : Ev}(s : StS W pn M b H σ ρ) : ∀ ys a,(D.own ys,V.ref a) ∈ pn -> ∀ (i : Nat) xs,ρ[i]? = some (some (.own xs)) -> σ[i]? ≠ some (some (.ref a)) := fun ys a hq i xs e y => s.lj ys a hq i _ _ e y rfl
theorem StS.step {W : Wd}{pn : List (D × V)}{M : Addr -> Prop}{b : Option Addr}{H H' : Hp}{σ : St}{ρ : Ev}(s : StS W pn M b H σ ρ)(k : Kp b H H')(o : okB W.B b H') : StS W pn M b H' σ ρ := ⟨s.toSta.step k o,s.dj,s.lj⟩
theorem StS.of2 {W : Wd}{pn pn' : List (D × V)}{M M' : Addr -> Prop}{b b' : Option Addr}{H H' : Hp}{σ σ' : St}{ρ ρ' : Ev}(s : StS W pn M b H σ ρ)(t : Sta W pn' M' b' H' σ' ρ')(hp : ∀ ys a,(D.own ys,V.ref a) ∈ pn' -> (D.own ys,V.ref a) ∈ pn)(h : ∀ (i : Nat) d v c,ρ'[i]? = some (some d) -> σ'[i]? = some (some v) -> mineA d v c -> ∃ d0,ρ[i]? = some (some d0) /\ σ[i]? = some (some v) /\ mineA d0 v c) : StS W pn' M' b' H' σ' ρ' :=
  ⟨t,fun i j d e v u c e1 e2 e3 e4 m1 m2 => by
    obtain ⟨d0,z1,z2,z3⟩ := h i d v c e1 e3 m1
    obtain ⟨d1,y1,y2,y3⟩ := h j e u c e2 e4 m2
    exact s.dj i j d0 d1 v u c z1 y1 z2 y2 z3 y3,fun ys a hq i d v e1 e2 m => by
    obtain ⟨d0,z1,z2,z3⟩ := h i d v a e1 e2 m
    exact s.lj ys a (hp ys a hq) i d0 v z1 z2 z3⟩
theorem StS.of {W : Wd}{pn : List (D × V)}{M M' : Addr -> Prop}{b b' : Option Addr}{H H' : Hp}{σ σ' : St}{ρ ρ' : Ev}(s : StS W pn M b H σ ρ)(t : Sta W pn M' b' H' σ' ρ')(h : ∀ (i : Nat) d,mine d = true -> ρ'[i]? = some (some d) -> ρ[i]? = some (some d) /\ σ'[i]? = σ[i]?) : StS W pn M' b' H' σ' ρ' :=
  s.of2 t (fun _ _ q => q) fun i d v c e1 e2 m => by
    obtain ⟨z1,z2⟩ := h i d m.m e1
    exact ⟨d,z1,z2 ▸ e2,m⟩
theorem StS.add {W : Wd}{pn : List (D × V)}{M M' : Addr -> Prop}{b b' : Option Addr}{H H' : Hp}{σ : St}{ρ : Ev}(s : StS W pn M b H σ ρ)(i : Nat){d : D}{v : V}(t : Sta W pn M' b' H' (σ.set i (some v)) (ρ.set i (some d)))(h : ∀ c,mineA d v c -> ¬ M c) : StS W pn M' b' H' (σ.set i (some v)) (ρ.set i (some d)) := by
  have slot : ∀ (j : Nat) e u,(ρ.set i (some d))[j]? = some (some e) -> (σ.set i (some v))[j]? = some (some u) -> (j = i /\ e = d /\ u = v) \/ (j ≠ i /\ ρ[j]? = some (some e) /\ σ[j]? = some (some u)) := fun j e u e1 e2 => by
    by_cases z : i = j
    · subst z
      rw [List.getElem?_set] at e1 e2
      simp at e1 e2
      exact .inl ⟨rfl,e1.2.symm,e2.2.symm⟩
    · rw [List.getElem?_set_ne z] at e1 e2
      exact .inr ⟨fun y => z y.symm,e1,e2⟩
  have old : ∀ (j : Nat) e u c,ρ[j]? = some (some e) -> σ[j]? = some (some u) -> mineA e u c -> M c := fun j e u c e1 e2 m => by
    obtain ⟨w,e3,r⟩ := s.env j e e1
    rw [e2] at e3; cases e3
    exact (r.mine m).1
  refine ⟨t,fun j k e f u w c e1 e2 e3 e4 m1 m2 => ?_,fun ys a hq j e u e1 e2 m => ?_⟩
  · rcases slot j e u e1 e3 with ⟨z1,z2,z3⟩ | ⟨z1,z2,z3⟩ <;> rcases slot k f w e2 e4 with ⟨y1,y2,y3⟩ | ⟨y1,y2,y3⟩
    · rw [z1,y1]
    · subst z2 z3; exact absurd (old k f w c y2 y3 m2) (h c m1)
    · subst y2 y3; exact absurd (old j e u c z2 z3 m1) (h c m2)
    · exact s.dj j k e f u w c z2 y2 z3 y3 m1 m2
  · rcases slot j e u e1 e2 with ⟨z1,z2,z3⟩ | ⟨z1,z2,z3⟩
    · subst z2 z3
      obtain ⟨a2,us2,ev,n1,_⟩ := (s.pin _ hq)
      cases ev
      exact absurd n1 (h a m)
    · exact s.lj ys a hq j e u z2 z3 m
structure DEnds where
  nx : Ev -> Prop
  rt : D -> Prop
  bk : Ev -> Prop := fun _ => False
  ct : Ev -> Prop := fun _ => False
  ro : List D -> Prop := fun _ => False
abbrev DS := DEnds -> Ev -> Prop
structure Link (W : Wd)(pn : List (D × V))(E : Ends)(F : DEnds) : Prop where
  nx : ∀ M b ρ σ H,StS W pn M b H σ ρ -> F.nx ρ -> E.nx σ H
  rt : ∀ d v H,F.rt d -> Rep W.K W.M0 H d v -> Kp W.b0 W.H0 H -> okB W.B W.b0 H -> E.rt v H
  bk : ∀ M b ρ σ H,StS W pn M b H σ ρ -> F.bk ρ -> E.bk σ H
  ct : ∀ M b ρ σ H,StS W pn M b H σ ρ -> F.ct ρ -> E.ct σ H
  ro : ∀ xs a vs H,F.ro xs -> W.H0 a = none -> ¬ W.M0 a -> H a = some (.lst vs) -> Reps W.K (fun c => W.M0 c \/ c = a) H xs vs -> Kp W.b0 W.H0 H -> okB W.B W.b0 H -> E.rt (.ref a) H
def sn (W : Wd)(d : DS) : TS := fun E σ H => ∃ pn M b ρ F,StS W pn M b H σ ρ /\ Link W pn E F /\ d F ρ
theorem sn.elim {W : Wd}{d : DS}{E : Ends}{σ : St}{H : Hp}{Z : Prop}(h : sn W d E σ H)(f : ∀ pn M b ρ F,StS W pn M b H σ ρ -> Link W pn E F -> d F ρ -> Z) : Z := by
  obtain ⟨pn,M,b,ρ,F,s,l,h⟩ := h
  exact f pn M b ρ F s l h
section
variable {X : Cx}{W : Wd}{e a b c tg iter l : Expr}{es : List Expr}{pos p : Pos}{d da db dc dl de : DE}{dA di : DA}{dt : DT}{st : Stmt}{rest sts : List Stmt}{d1 d2 : DS}{t : TS}
theorem PS.mono {t' : TS}(h : PS X st t)(m : ∀ E σ H,t' E σ H -> t E σ H) : PS X st t' := fun pins s σ H D I q => h pins s σ H D I (m D σ H q)
theorem PSs.mono {t' : TS}(h : PSs X sts t)(m : ∀ E σ H,t' E σ H -> t E σ H) : PSs X sts t' := fun pins s σ H D I q => h pins s σ H D I (m D σ H q)
def dNext : DS := fun F ρ => F.nx ρ
def dSeq (d1 d2 : DS) : DS := fun F ρ => d1 { F with nx := d2 F } ρ
theorem dss_nil : PSs X [] (sn W dNext) := pss_nil.mono fun E σ H hh => hh.elim fun pn M b ρ F s l h => l.nx _ _ _ _ _ s h
theorem dss_one (h : PS X st (sn W d1)) : PSs X [st] (sn W d1) := pss_one h
theorem dss_cons (h1 : PS X st (sn W d1))(h2 : PSs X rest (sn W d2)) : PSs X (st :: rest) (sn W (dSeq d1 d2)) := (pss_cons h1 h2).mono fun E σ H hh => hh.elim fun pn M b ρ F s l h => ⟨pn,M,b,ρ,{ F with nx := d2 F },s,⟨fun M b ρ σ H s' h' => ⟨pn,M,b,ρ,F,s',l,h'⟩,l.rt,l.bk,l.ct,l.ro⟩,h⟩
def dRet (de : DE) : DS := fun F ρ => de ρ fun x => match x with | .own xs => F.rt (.lst xs) | .bag => False | .frg _ _ => False | x => F.rt x
theorem ret_rep {M : Addr -> Prop}{b : Option Addr}{H : Hp}{x : D}{v : V}(hs : Hs W M b H)(r : Rep W.K M H x v) : Rep W.K W.M0 H x v := Rep.avoid (fun c m => .inl (hs.m0 c m)) _ _ r
theorem ds_ret (he : PE X e (dn W de)) : PS X (.Return (some e) pos) (sn W (dRet de)) := (ps_ret he).mono fun E σ H hh => hh.elim fun pn M b ρ F s l h => by
  refine ⟨pn,M,b,ρ,_,s.toSta,h,fun x v H' hx rx k o => ?_⟩
  have s' := s.toSta.step k o
  cases x
  case own xs =>
    obtain ⟨a,vs,rfl,m,n,n0,m0,hh,r⟩ := rx
    exact l.rt _ _ H' hx ⟨a,vs,rfl,⟨m0,hh⟩,Reps.avoid (fun c m => .inl (s'.m0 c m)) _ _ r⟩ s'.kp s'.ok0
  case bag => exact hx.elim
  case frg => exact hx.elim
  all_goals exact l.rt _ _ H' hx (ret_rep s'.toHs (RepX.rep rx rfl)) s'.kp s'.ok0
def dIfS (dt : DT)(d1 d2 : DS) : DS := fun F ρ => dt ρ fun c => IfP c (d1 F ρ) (d2 F ρ)
theorem ds_if {s1 s2 : List Stmt}(hc : PT X c (dnT W dt))(ha : PSs X s1 (sn W d1))(hb : PSs X s2 (sn W d2)) : PS X (.If c s1 s2 pos) (sn W (dIfS dt d1 d2)) := (ps_if hc ha hb).mono fun E σ H hh => hh.elim fun pn M b ρ F s l h => by
  refine ⟨pn,M,b,ρ,_,s.toSta,h,fun x H' hx k o => ?_⟩
  cases hx with
  | t e hx => rw [if_pos e]; exact ⟨pn,M,b,ρ,F,s.step k o,l,hx⟩
  | f e hx => rw [if_neg (by rw [e]; exact Bool.false_ne_true)]; exact ⟨pn,M,b,ρ,F,s.step k o,l,hx⟩
def dAsg (de : DE)(gd : D -> Ev -> (Ev -> Prop) -> Prop) : DS := fun F ρ => de ρ fun x => plain x = true /\ gd x ρ F.nx
theorem up_asg {g : TG}{gd : D -> Ev -> (Ev -> Prop) -> Prop}(hG : GD W g gd) : ∀ E σ H,sn W (dAsg de gd) E σ H -> tAsg (dn W de) g E σ H := fun E σ H hh => hh.elim fun pn M b ρ F s l h => by
  refine ⟨pn,M,b,ρ,_,s.toSta,h,fun x v H' hx rx k o => ?_⟩
  exact hG pn M b H' σ ρ x v E.nx F.nx (s.toSta.step k o) rx hx.1 hx.2 fun ρ' σ' hp st' ho => l.nx _ _ _ _ _ (s.of st' ho) hp
theorem ds_set {i : Nat} {x : Str} {pos' : Pos} (hN : X.N.Nodup) (hi : X.N[i]? = some x) (hx : Loc X.env.scope x) (he : PE X e (dn W de)) (hs : swapsWith e (some (.Name x pos')) pos.line X.env = pure false := by rfl) (hf : X.fn x = true \/ X.env.scope.names.lookup x = some .local := by first | exact .inl rfl | exact .inr rfl | assumption) :
    PS X (.Assign [.Name x pos'] e pos) (sn W (dAsg de (gdN i))) := (ps_set hN hi hx he hs hf).mono (up_asg (gd_name i))
theorem ds_asg {g : TG}{gd : D -> Ev -> (Ev -> Prop) -> Prop}(hG : GD W g gd)(he : PE X e (dn W de))(hg : PG X tg g)(hs : swapsWithSole [tg] e pos.line X.env = pure false := by rfl)(hw : swappedStores [tg] e X.env = pure none := by rfl)
    (h1 : (assignEach [tg] X.env).map (·.2) = [assign tg X.env] := by rfl) : PS X (.Assign [tg] e pos) (sn W (dAsg de gd)) := (ps_asg he hg hs hw h1).mono (up_asg hG)
theorem StS.newOwn {pn : List (D × V)}{M : Addr -> Prop}{b : Option Addr}{H : Hp}{σ : St}{ρ : Ev}{xs : List D}{vs : List V}{p : Addr}(s : StS W pn M b H σ ρ)(i : Nat)(r : Reps W.K M H xs vs)(h : H p = none) :
    StS W pn (fun c => M c \/ c = p) b (upd H p (.lst vs)) (σ.set i (some (.ref p))) (ρ.set i (some (.own xs))) := by
  have hM : ∀ c,(M c \/ c = p) -> M c \/ H c = none := fun c hc => hc.imp id (fun z => by rw [z]; exact h)
  have kk : ∀ c o,H c = some o -> upd H p (.lst vs) c = some o := fun c o e => Same.upd h c o e
  have rep : ∀ d v,Rep W.K M H d v -> Rep W.K (fun c => M c \/ c = p) (upd H p (.lst vs)) d v := fun d v r => Rep.keep (fun c o _ e => kk c o e) _ _ (Rep.avoid hM _ _ r)
  have reps : ∀ d v,Reps W.K M H d v -> Reps W.K (fun c => M c \/ c = p) (upd H p (.lst vs)) d v := fun d v r => Reps.keep (fun c o _ e => kk c o e) _ _ (Reps.avoid hM _ _ r)
  have hbp : b ≠ some p := fun z => by
    obtain ⟨o,e⟩ := W.B.dm p H (s.ok p z)
    rw [h] at e; cases e
  have h0 : W.H0 p = none := by
    cases q : W.H0 p with
    | none => rfl
    | some o =>
      by_cases z : W.b0 = some p
      · rcases s.new with y | ⟨y,_⟩
        · exact absurd (y.trans z) hbp
        · rw [y] at z; cases z
      · have := s.kp p o z q
        rw [h] at this; cases this
  have hm0 : ¬ W.M0 p := fun z => s.toHs.new h (s.m0 p z)
  refine s.add i ⟨⟨s.toHs.okU h,fun q e => .inl (s.bagM q e),fun c hc => ?_,fun c m => .inl (s.m0 c m)⟩,fun c o n e => kk c o (s.kp c o n e),s.new,fun j d e => ?_,by simp [s.len],fun q hq => (s.pin q hq).to rep reps fun xs a vs _ _ m n hh => ⟨.inl m,n,kk _ _ hh⟩⟩ fun c m => by
    cases (show V.ref p = V.ref c from m)
    exact s.toHs.new h
  · rcases hc with hc | hc
    · obtain ⟨o,e⟩ := s.dom c hc; exact ⟨o,kk c o e⟩
    · rw [hc]; exact ⟨_,upd_same⟩
  · by_cases z : i = j
    · subst z
      rw [List.getElem?_set] at e
      simp at e
      obtain ⟨hl,rfl⟩ := e
      exact ⟨.ref p,by rw [List.getElem?_set]; simp [<- s.len,hl],p,vs,rfl,.inr rfl,hbp,h0,hm0,upd_same,reps _ _ r⟩
    · rw [List.getElem?_set_ne z] at e
      obtain ⟨w,e1,r1⟩ := s.env j d e
      refine ⟨w,by rw [List.getElem?_set_ne z]; exact e1,?_⟩
      cases d
      case own ys =>
        obtain ⟨a,us,rfl,m1,m2,m3,m4,hh,r'⟩ := r1
        exact ⟨a,us,rfl,.inl m1,m2,m3,m4,kk _ _ hh,reps _ _ r'⟩
      case bag => exact r1
      case frg f _ => exact RepX.move r1 (fun c _ m n => ⟨.inl m,n⟩) (fun c o _ e => kk c o e) hM
      all_goals exact rep _ _ r1
theorem StS.setOwn {pn : List (D × V)}{M : Addr -> Prop}{b : Option Addr}{H : Hp}{σ : St}{ρ : Ev}{xs ys : List D}{vs : List V}{a : Addr}(s : StS W pn M b H σ ρ)(i : Nat)(e : ρ[i]? = some (some (.own xs)))(ea : σ[i]? = some (some (.ref a)))(r : Reps W.K M H ys vs) :
    StS W pn M b (upd H a (.lst vs)) σ (ρ.set i (some (.own ys))) := by
  obtain ⟨v,e1,a',us,ev,m1,m2,m3,m4,hh,r'⟩ := s.env i _ e
  rw [ea] at e1; cases e1; cases ev
  have kk : ∀ c o,¬ M c -> H c = some o -> upd H a (.lst vs) c = some o := fun c o n q => by rw [upd_ne (show c ≠ a from fun z => n (by rw [z]; exact m1))]; exact q
  have kb : ∀ c o,c ≠ a -> H c = some o -> upd H a (.lst vs) c = some o := fun c o n q => by rw [upd_ne n]; exact q
  refine s.of2 ⟨⟨fun q z => W.B.st q H _ (s.ok q z) fun o h => kb q o (fun w => m2 (w ▸ z)) h,s.bagM,fun c hc => ?_,s.m0⟩,fun c o n q => kb c o (fun z => by rw [z,m3] at q; cases q) (s.kp c o n q),s.new,fun j d e' => ?_,by simp [s.len],fun q hq => (s.pin q hq).to (fun _ _ r => Rep.keep kk _ _ r) (fun _ _ r => Reps.keep kk _ _ r) fun zs a2 us ed ev m n hh2 => ⟨m,n,kb _ _ (fun y => s.lk zs a2 (by rw [<- ed,<- ev]; exact hq) i xs e (by rw [y]; exact ea)) hh2⟩⟩ (fun _ _ q => q) fun j d v c e' e2 m => ?_
  · by_cases z : c = a
    · rw [z]; exact ⟨_,upd_same⟩
    · obtain ⟨o,q⟩ := s.dom c hc; exact ⟨o,kb c o z q⟩
  · by_cases z : i = j
    · subst z
      rw [List.getElem?_set] at e'
      simp at e'
      obtain ⟨hl,rfl⟩ := e'
      exact ⟨.ref a,ea,a,vs,rfl,m1,m2,m3,m4,upd_same,Reps.keep kk _ _ r⟩
    · rw [List.getElem?_set_ne z] at e'
      obtain ⟨w,e1,r1⟩ := s.env j d e'
      refine ⟨w,e1,?_⟩
      cases d
      case own zs =>
        obtain ⟨a2,us2,rfl,n1,n2,n3,n4,hh2,r2⟩ := r1
        have na : a2 ≠ a := fun y => z (s.own i j xs zs a e e' ea (y ▸ e1))
        exact ⟨a2,us2,rfl,n1,n2,n3,n4,kb _ _ na hh2,Reps.keep kk _ _ r2⟩
      case bag => exact r1
      case frg f _ =>
        have na : a ∉ f.ads := fun y => z (s.dj i j _ _ _ _ a e e' ea e1 rfl y)
        exact RepX.move r1 (fun c _ m n => ⟨m,n⟩) (fun c o q h => kb c o (fun y => q.elim (fun n => n (by rw [y]; exact m1)) (fun n => na (by rw [<- y]; exact n))) h) fun c m => .inl m
      all_goals exact Rep.keep kk _ _ r1
  · by_cases z : i = j
    · subst z
      rw [List.getElem?_set] at e'
      simp at e'
      obtain ⟨_,rfl⟩ := e'
      exact ⟨_,e,e2,m⟩
    · rw [List.getElem?_set_ne z] at e'
      exact ⟨d,e',e2,m⟩
def dOwnL (i : Nat)(dA : DA) : DS := fun F ρ => dA ρ fun xs => okIt xs = true /\ F.nx (ρ.set i (some (.own xs)))
theorem ds_ownL {i : Nat} {x : Str} {pos' lpos : Pos} (hN : X.N.Nodup) (hi : X.N[i]? = some x) (hx : Loc X.env.scope x) (ha : PA X es (dnA W dA)) (hs : swapsWith (.List es lpos) (some (.Name x pos')) pos.line X.env = pure false := by rfl) (hf : X.fn x = true \/ X.env.scope.names.lookup x = some .local := by first | exact .inl rfl | exact .inr rfl | assumption) :
    PS X (.Assign [.Name x pos'] (.List es lpos) pos) (sn W (dOwnL i dA)) := (ps_set hN hi hx (pe_lst ha) hs hf).mono fun E σ H hh => hh.elim fun pn M b ρ F s l h => by
  refine ⟨pn,M,b,ρ,_,s.toSta,h,fun xs vs H' hx rx k o => ?_⟩
  have rr := rx.reps _ _ (okIt.pl hx.1)
  exact ⟨by rw [rr.length]; exact okIt.len hx.1,fun q hq => l.nx _ _ _ _ _ ((s.step k o).newOwn i rr hq) hx.2⟩
def dSetC (own : Bool)(i : Nat)(map : List (Option Nat))(gd : D -> Ev -> (Ev -> Prop) -> Prop)(di : DA)(dt : DT)(de : DE) : DS := fun F ρ => di ρ fun items => items.length <= 1000 /\ compI gd dt de (captD ρ map) items fun acc => F.nx (ρ.set i (some (if own then .own acc else .lst acc)))
theorem ds_setC {elt iter tg : Expr}{ifs : List Expr}{scope : Scope}{N' : List Str}{map : List (Option Nat)}{g : TG}{gd : D -> Ev -> (Ev -> Prop) -> Prop}(own : Bool){i : Nat}{y : Str}{py spos : Pos}(hN : X.N.Nodup)(hiN : X.N[i]? = some y)(hy : Loc X.env.scope y)(hG : GD W g gd)(B : Blk X N' scope map tg elt ifs g (dnT W dt) (dn W de))(hi : PI X tg iter (dnI W false di))
    (hsw : swapsWith (.ListComp elt [⟨tg,iter,ifs,0⟩] scope pos) (some (.Name y py)) spos.line X.env = pure true := by rfl) (hfn : X.fn y = true \/ X.env.scope.names.lookup y = some .local := by first | exact .inl rfl | exact .inr rfl)
    (hs : ∀ x,foldedSetIterable iter X.env x = pure x := by intro _; rfl) : PS X (.Assign [.Name y py] (.ListComp elt [⟨tg,iter,ifs,0⟩] scope pos) spos) (sn W (dSetC own i map gd di dt de)) := (ps_setComp hN hiN hy B hi hsw hfn hs).mono fun E σ H hh => hh.elim fun pn M b ρ F s l h => by
  refine ⟨pn,M,b,ρ,_,s.toSta,h,fun items J need H1 hx hp hI hn k1 o1 => ?_⟩
  have s1 := s.step k1 o1
  refine comp_turns hG (s1.toSta.capt map) hp hI (fun q hq => (hn q hq).1) hx.1 hx.2 fun ds acc H' hP r hl k2 o2 q hq => ?_
  have s2 := s1.step k2 o2
  cases own
  · have s3 := (s2.step (Kp.upd (o := .lst acc) hq) (s2.toHs.okU hq))
    exact l.nx _ _ _ _ _ (s3.of (s3.toSta.set i (new_lst s2.toHs r hq)) (own_set rfl)) hP
  · exact l.nx _ _ _ _ _ (s2.newOwn i r hq) hP
def dApp (i : Nat)(dA : DA) : DS := fun F ρ => match ρ[i]? with
  | some (some (.own ys)) => dA ρ fun xs => (match xs with | [y] => (plain y && decide (ys.length < 1000)) = true /\ F.nx (ρ.set i (some (.own (ys ++ [y])))) | _ => False)
  | _ => False
theorem own_at {pn : List (D × V)}{M : Addr -> Prop}{b : Option Addr}{H : Hp}{σ : St}{ρ : Ev}{i : Nat}{ys : List D}(s : Sta W pn M b H σ ρ)(e : ρ[i]? = some (some (.own ys))) : ∃ a vs,σ[i]? = some (some (.ref a)) /\ b ≠ some a /\ H a = some (.lst vs) /\ Reps W.K M H ys vs := by
  obtain ⟨v,e1,a,us,rfl,m1,m2,m3,m4,hh,r⟩ := s.env i _ e
  exact ⟨a,us,e1,m2,hh,r⟩
theorem up_app {i : Nat} : ∀ E σ H,sn W (dApp i dA) E σ H -> tDrop (tBM W.K "list" rAppend (tVar i) (dnA W dA)) E σ H := fun E σ H hh => hh.elim fun pn M b ρ F s l h => by
  unfold dApp at h
  split at h
  case h_2 => exact h.elim
  case h_1 ys e =>
    obtain ⟨a,vs,ea,nb,hh,r⟩ := own_at s.toSta e
    refine ⟨.ref a,ea,.inl ⟨rfl,vs,SqL.of hh⟩,pn,M,b,ρ,_,s.toSta,h,fun xs us H' hx rx k o => ?_⟩
    match xs,hx with
    | [y],hx =>
      obtain ⟨u,rfl,ru⟩ := rx1 rx
      obtain ⟨p1,p2⟩ := (Bool.and_eq_true _ _).mp hx.1
      have p2 := of_decide_eq_true p2
      have s' := s.step k o
      obtain ⟨a',vs',ea',nb',hh',r'⟩ := own_at s'.toSta e
      rw [ea] at ea'; cases ea'
      refine ⟨a,vs',u,rfl,rfl,hh',by rw [r'.length]; have := le1000; omega,l.nx _ _ _ _ _ (s'.setOwn i e ea (Reps.append r' (show Reps W.K M H' [y] [u] from ⟨u,[],rfl,ru.rep p1,rfl⟩))) hx.2⟩
theorem ds_append {i : Nat}{x : Str}{e : Expr}{npos apos cpos : Pos}(hK : X.K = W.K)(hN : X.N[i]? = some x)(hv : Vis X.env.scope x)(ha : PA X [e] (dnA W dA))
    (h : PE X (.Call (.Attribute (.Name x npos) "append" apos) [e] [] cpos) (tBM X.K "list" rAppend (tVar i) (dnA W dA))) (hs : swapsWith (.Call (.Attribute (.Name x npos) "append" apos) [e] [] cpos) none pos.line X.env = pure false := by rfl) :
    PS X (.Expr (.Call (.Attribute (.Name x npos) "append" apos) [e] [] cpos) pos) (sn W (dApp i dA)) := (ps_expr (by rw [hK] at h; exact h) hs).mono up_app
def dSetI (i : Nat)(de dk : DE) : DS := fun F ρ => match ρ[i]? with
  | some (some (.own ys)) => de ρ fun x => dk ρ fun k => (match k with | .int k => plain x = true /\ (ixN ys.length k).elim False fun j => F.nx (ρ.set i (some (.own (ys.set j x)))) | _ => False)
  | _ => False
theorem up_setI {i : Nat}{dk : DE} : ∀ E σ H,sn W (dSetI i de dk) E σ H -> tAsg (dn W de) (gSub (tVar i) (dn W dk) rSetL) E σ H := fun E σ H hh => hh.elim fun pn M b ρ F s l h => by
  unfold dSetI at h
  split at h
  case h_2 => exact h.elim
  case h_1 ys e =>
    obtain ⟨a,vs,ea,nb,hh,r⟩ := own_at s.toSta e
    refine ⟨pn,M,b,ρ,_,s.toSta,h,fun x v H1 hx rx k1 o1 => ⟨.ref a,ea,pn,M,b,ρ,_,s.toSta.step k1 o1,hx,fun y u H2 hy ry k2 o2 => ?_⟩⟩
    cases y <;> first | exact hy.elim | skip
    case int k =>
      cases (show _ = _ from ry)
      have s' := (s.step k1 o1).step k2 o2
      obtain ⟨a',vs',ea',nb',hh',r'⟩ := own_at s'.toSta e
      rw [ea] at ea'; cases ea'
      obtain ⟨hp,hy⟩ := hy
      cases q : ixN ys.length k with
      | none => rw [q] at hy; exact hy.elim
      | some j =>
        rw [q] at hy
        exact ⟨a,vs',k,j,rfl,rfl,hh',by rw [r'.length]; exact q,l.nx _ _ _ _ _ (s'.setOwn i e ea (Reps.set ((rx.step s.bagM k2).rep hp) j r')) hy⟩
theorem ds_setI {i : Nat}{x : Str}{n : Expr}{dk : DE}{npos tpos : Pos}(hN : X.N[i]? = some x)(hv : Vis X.env.scope x)(he : PE X e (dn W de))(hk : PE X n (dn W dk))(hg : PG X (.Subscript (.Name x npos) n tpos) (gSub (tVar i) (dn W dk) rSetL))
    (hs : swapsWithSole [.Subscript (.Name x npos) n tpos] e pos.line X.env = pure false := by rfl) (hw : swappedStores [.Subscript (.Name x npos) n tpos] e X.env = pure none := by rfl)
    (h1 : (assignEach [.Subscript (.Name x npos) n tpos] X.env).map (·.2) = [assign (.Subscript (.Name x npos) n tpos) X.env] := by rfl) : PS X (.Assign [.Subscript (.Name x npos) n tpos] e pos) (sn W (dSetI i de dk)) := (ps_asg he hg hs hw h1).mono up_setI
inductive forI (gd : D -> Ev -> (Ev -> Prop) -> Prop)(db : DS)(F : DEnds)(items : List D)(ρ : Ev) : Prop
  | mk (I : Nat -> Ev -> Prop) (h0 : I 0 ρ) (hs : ∀ (i : Nat) x ρ,items[i]? = some x -> I i ρ -> gd x ρ fun ρ1 => db { F with nx := I (i + 1),ct := I (i + 1),bk := F.nx } ρ1) (hd : ∀ ρ,I items.length ρ -> F.nx ρ) : forI gd db F items ρ
def dFor (gd : D -> Ev -> (Ev -> Prop) -> Prop)(di : DA)(db : DS) : DS := fun F ρ => di ρ fun items => forI gd db F items ρ
theorem Sta.pins {pn pn' : List (D × V)}{M : Addr -> Prop}{b : Option Addr}{H : Hp}{σ : St}{ρ : Ev}(s : Sta W pn M b H σ ρ)(h : ∀ q ∈ pn',PinR W M b H q.1 q.2) : Sta W pn' M b H σ ρ := ⟨s.toHs,s.kp,s.new,s.env,s.len,h⟩
theorem up_for {g : TG}{gd : D -> Ev -> (Ev -> Prop) -> Prop}{db : DS}(hG : GD W g gd) : ∀ E σ H,sn W (dFor gd di db) E σ H -> tFor (dnI W true di) g (sn W db) E σ H := fun E σ H hh => hh.elim fun pn M b ρ F s l h => by
  refine ⟨pn,M,b,ρ,_,s.toSta,h,fun items J need H1 hx hp hI hn k1 o1 => ?_⟩
  have s1 := s.step k1 o1
  have pins : ∀ q ∈ need ++ pn,PinR W M b H1 q.1 q.2 := fun q hq => (List.mem_append.mp hq).elim (fun z => (hn q z).1.pin ((hn q z).2 rfl)) fun z => s1.pin q z
  obtain ⟨I,i0,istep,idone⟩ := hx
  refine ⟨fun i m σ H => m = items.length - i /\ i <= items.length /\ ∃ M b ρ,StS W (need ++ pn) M b H σ ρ /\ I i ρ,⟨items.length,by simp,Nat.zero_le _,M,b,ρ,⟨s1.toSta.pins pins,s1.dj,fun ys a hq => (List.mem_append.mp hq).elim (fun z => by have := (hn _ z).2 rfl; cases this) fun z => s1.lj ys a z⟩,i0⟩,?_⟩
  rintro i m σ2 H2 ⟨rfl,hi,M2,b2,ρ2,s2,q⟩
  have unp : ∀ {M b ρ σ H},StS W (need ++ pn) M b H σ ρ -> StS W pn M b H σ ρ := fun s => ⟨s.toSta.pins fun q hq => s.pin q (List.mem_append_right _ hq),s.dj,fun ys a hq => s.lj ys a (List.mem_append_right _ hq)⟩
  obtain ⟨hgo,hstop⟩ := hI M2 b2 H2 s2.toHs fun q hq => (s2.pin q (List.mem_append_left _ hq)).x
  by_cases hlt : i < items.length
  · have ei : items[i]? = some items[i] := List.getElem?_eq_getElem hlt
    replace q := istep i _ ρ2 ei q
    refine .inr ⟨(hgo i _ ei).1,fun σ' H' => ∃ M b ρ,StS W (need ++ pn) M b H' σ' ρ /\ I (i + 1) ρ,fun σ' H' n => ⟨items.length - (i + 1),by omega,rfl,hlt,n⟩,fun x H3 y => ?_⟩
    obtain ⟨S3,rx⟩ := (hgo i _ ei).2 x H3 y
    have o3 : okB W.B b2 H3 := fun p e => W.B.st p H2 H3 (s2.ok p e) fun o e' => S3 p o e'
    have s3 := s2.step (Kp.same S3) o3
    refine hG (need ++ pn) M2 b2 H3 σ2 ρ2 items[i] x _ _ s3.toSta rx (List.all_eq_true.mp hp _ (List.getElem_mem hlt)) q fun ρ1 σ1 h1 st4 ho => ?_
    exact ⟨need ++ pn,M2,b2,ρ1,{ F with nx := I (i + 1),ct := I (i + 1),bk := F.nx },s3.of st4 ho,⟨fun M b ρ σ H s' h' => ⟨M,b,ρ,s',h'⟩,l.rt,fun M b ρ σ H s' h' => l.nx _ _ _ _ _ (unp s') h',fun M b ρ σ H s' h' => ⟨M,b,ρ,s',h'⟩,l.ro⟩,h1⟩
  · have e : i = items.length := by omega
    subst e
    exact .inl ⟨hstop _ (Nat.le_refl _),l.nx _ _ _ _ _ (unp s2) (idone _ q)⟩
theorem ds_for {g : TG}{gd : D -> Ev -> (Ev -> Prop) -> Prop}{db : DS}{body : List Stmt}(hG : GD W g gd)(hp : PassesOwn (model X.prog X.w) X.A X.env X.xe)(hc : X.calm = true)(hi : PI X tg iter (dnI W true di))(hg : PG X tg g)(hb : PSs X body (sn W db))
    (hs : ∀ x,foldedSetIterable iter X.env x = pure x := by intro _; rfl) : PS X (.For tg iter body [] pos) (sn W (dFor gd di db)) := (ps_for hp hc hi hg hb hs).mono (up_for hG)
def dFrz (i : Nat)(d : DS) : DS := fun F ρ => match ρ[i]? with | some (some (.own xs)) => d F (ρ.set i (some (.lst xs))) | _ => False
theorem Sta.avoid {pn : List (D × V)}{M M' : Addr -> Prop}{b : Option Addr}{H : Hp}{σ : St}{ρ : Ev}(s : Sta W pn M b H σ ρ)(h : ∀ c,M' c -> M c)(hb : ∀ p,b = some p -> M' p)(h0 : ∀ c,W.M0 c -> M' c)(ho : ∀ (i : Nat) d v c,ρ[i]? = some (some d) -> σ[i]? = some (some v) -> mineA d v c -> M' c)(hpo : ∀ xs a,(D.own xs,V.ref a) ∈ pn -> M' a) : Sta W pn M' b H σ ρ where
  ok := s.ok
  bagM := hb
  dom := fun c m => s.dom c (h c m)
  m0 := h0
  kp := s.kp
  new := s.new
  len := s.len
  pin := fun q hq => (s.pin q hq).to (fun _ _ r => Rep.avoid (fun c m => .inl (h c m)) _ _ r) (fun _ _ r => Reps.avoid (fun c m => .inl (h c m)) _ _ r) fun xs a vs ed ev m n hh => ⟨hpo xs a (by rw [<- ed,<- ev]; exact hq),n,hh⟩
  env := fun i d e => by
    obtain ⟨v,e1,r⟩ := s.env i d e
    refine ⟨v,e1,?_⟩
    cases d
    case own xs =>
      obtain ⟨a,us,rfl,m1,m2,m3,m4,hh,r'⟩ := r
      exact ⟨a,us,rfl,ho i _ _ a e e1 rfl,m2,m3,m4,hh,Reps.avoid (fun c m => .inl (h c m)) _ _ r'⟩
    case bag => exact r
    case frg f _ => exact RepX.move r (fun c m _ n => ⟨ho i _ _ c e e1 m,n⟩) (fun c o _ e => e) fun c m => .inl (h c m)
    all_goals exact Rep.avoid (fun c m => .inl (h c m)) _ _ r
theorem dss_frz (i : Nat)(h : PSs X sts (sn W d1)) : PSs X sts (sn W (dFrz i d1)) := h.mono fun E σ H hh => hh.elim fun pn M b ρ F s l h => by
  unfold dFrz at h
  split at h
  case h_2 => exact h.elim
  case h_1 xs e =>
    obtain ⟨v,e1,a,us,rfl,m1,m2,m3,m4,hh,r⟩ := s.env i _ e
    have st : Sta W pn (fun c => M c /\ c ≠ a) b H σ (ρ.set i none) := by
      refine Sta.avoid (M := M) ⟨s.toHs,s.kp,s.new,fun j d e' => ?_,by simp [s.len],s.pin⟩ (fun c m => m.1) (fun p z => ⟨s.bagM p z,fun y => m2 (by rw [<- y]; exact z)⟩) (fun c m => ⟨s.m0 c m,fun y => m4 (by rw [<- y]; exact m)⟩) (fun j d' v' c' e' e2 mm => ?_) fun ys a' hq => ⟨by
        obtain ⟨a2,us2,ev,n1,_⟩ := (s.pin _ hq)
        cases ev; exact n1,fun y => s.lk ys a' hq i xs e (by rw [y]; exact e1)⟩
      · by_cases z : i = j
        · subst z; rw [List.getElem?_set] at e'; simp at e'
        · rw [List.getElem?_set_ne z] at e'; exact s.env j d e'
      · by_cases z : i = j
        · subst z; rw [List.getElem?_set] at e'; simp at e'
        · rw [List.getElem?_set_ne z] at e'
          obtain ⟨v3,e3,r3⟩ := s.env j _ e'
          rw [e2] at e3; cases e3
          exact ⟨(r3.mine mm).1,fun y => z (s.dj i j _ _ _ _ a e e' e1 e2 rfl (by rw [<- y]; exact mm))⟩
    have st2 := st.set (x := .lst xs) (v := .ref a) i ⟨a,us,rfl,⟨fun m => m.2 rfl,hh⟩,Reps.avoid (fun c m => .inl m.1) _ _ r⟩
    have eσ : σ.set i (some (.ref a)) = σ := by
      apply List.ext_getElem?
      intro n
      by_cases z : i = n
      · subst z; rw [List.getElem?_set,e1]; simp; exact (List.getElem?_eq_some_iff.mp e1).1
      · rw [List.getElem?_set_ne z]
    rw [eσ,List.set_set] at st2
    refine ⟨pn,_,b,_,F,s.of st2 fun j ys hm e' => ?_,l,h⟩
    by_cases z : i = j
    · subst z; rw [List.getElem?_set] at e'; simp at e'; rw [<- e'.2] at hm; cases hm
    · rw [List.getElem?_set_ne z] at e'; exact ⟨e',rfl⟩
end
def startD (N : List Str)(ds : List D) : Ev := ds.map some ++ List.replicate (N.length - ds.length) none
theorem RepAs.get {K : PySem.W.Frag}{M : Addr -> Prop}{b : Option Addr}{H : Hp} : ∀ {ds : List D} {vs : List V} {i : Nat} {d : D},RepAs K M b H ds vs -> ds[i]? = some d -> ∃ v,vs[i]? = some v /\ RepA K M b H d v
  | [],_,_,_,h,e => by simp at e
  | d :: ds,vs,0,_,h,e => by
    obtain ⟨v,r,rfl,h1,h2⟩ := h
    simp at e; subst e
    exact ⟨v,rfl,h1⟩
  | d :: ds,vs,i + 1,d',h,e => by
    obtain ⟨v,r,rfl,h1,h2⟩ := h
    obtain ⟨u,e1,e2⟩ := RepAs.get (i := i) h2 (by simpa using e)
    exact ⟨u,by simpa using e1,e2⟩
theorem startD_get {N : List Str}{ds : List D}{i : Nat}{d : D}(h : (startD N ds)[i]? = some (some d)) : ds[i]? = some d := by
  unfold startD at h
  by_cases hi : i < ds.length
  · rw [List.getElem?_append_left (by simpa using hi),List.getElem?_map] at h
    simpa using h
  · rw [List.getElem?_append_right (by simpa using hi)] at h
    have := List.mem_of_getElem? h
    simp at this
theorem enter {K : PySem.W.Frag}{B : BagT}{M : Addr -> Prop}{b : Option Addr}{N : List Str}{ds : List D}{vs : List V}{H : Hp}(hr : RepAs K M b H ds vs)(ho : okB B b H)(hb : ∀ p,b = some p -> M p)(hd : ∀ c,M c -> ∃ o,H c = some o) : StS ⟨K,B,H,M,b⟩ [] M b H (start N vs) (startD N ds) := by
  refine ⟨⟨⟨ho,hb,hd,fun _ m => m⟩,Kp.refl _ _,.inl rfl,fun i d e => ?_,by simp [start,startD,hr.length],fun _ hq => by cases hq⟩,fun i j d e v u c e0 _ _ _ m _ => ?_,fun _ _ hq => by cases hq⟩
  · obtain ⟨v,e1,r⟩ := hr.get (startD_get e)
    refine ⟨v,?_,?_⟩
    · unfold start
      rw [List.getElem?_append_left (by simpa using (List.getElem?_eq_some_iff.mp e1).1),List.getElem?_map,e1]; rfl
    · cases d <;> first | exact r | exact r.elim
  · obtain ⟨v',e1,r⟩ := hr.get (startD_get e0)
    cases d <;> first | exact m.elim | exact r.elim
theorem leave {K : PySem.W.Frag}{B : BagT}{M : Addr -> Prop}{b : Option Addr}{H : Hp}{Q : VK}{P : D -> Prop}(hq : ∀ d v H',P d -> Rep K M H' d v -> Kp b H H' -> okB B b H' -> Q v H') : Link ⟨K,B,H,M,b⟩ [] { nx := fun _ H' => Q .non H',rt := Q } { nx := fun _ => P .non,rt := P } :=
  ⟨fun M b ρ σ H s h => hq _ _ _ h rfl s.kp s.ok0,fun d v H h r k o => hq d v H h r k o,fun _ _ _ _ _ _ h => h.elim,fun _ _ _ _ _ _ h => h.elim,fun _ _ _ _ h => h.elim⟩
theorem run {K : PySem.W.Frag}{B : BagT}{M : Addr -> Prop}{b : Option Addr}{N : List Str}{ds : List D}{vs : List V}{H : Hp}{Q : VK}{P : D -> Prop}{d : DS}(hr : RepAs K M b H ds vs)(ho : okB B b H)(hb : ∀ p,b = some p -> M p)(hd : ∀ c,M c -> ∃ o,H c = some o)(hq : ∀ d v H',P d -> Rep K M H' d v -> Kp b H H' -> okB B b H' -> Q v H')
    (h : d { nx := fun _ => P .non,rt := P } (startD N ds)) : sn ⟨K,B,H,M,b⟩ d { nx := fun _ H' => Q .non H',rt := Q } (start N vs) H :=
  ⟨[],M,b,startD N ds,_,enter hr ho hb hd,leave hq,h⟩
theorem liftSp.len {K : PySem.W.Frag}{B : BagT}{S : DSp}{n : Nat}(h : ∀ ds P Ed,S ds P Ed -> ds.length = n) : ∀ vs H Q E,liftSp K B S vs H Q E -> vs.length = n := fun vs H Q E ⟨M,b,ds,P,Ed,hS,hr,_⟩ => by rw [hr.length]; exact h _ _ _ hS
theorem Callee.imp {P : Program}{w : World}{K : PySem.W.Frag}{mg : Str -> Option Value}{base : Heap}{CX : CXT}{x : Str}{k : Nat}{ps : List Str}{sp sp' : Sp}(G : Callee P w K mg base CX x k ps sp)(h : ∀ vs H Q E,sp' vs H Q E -> sp vs H Q E) : Callee P w K mg base CX x k ps sp' := by
  obtain ⟨f,fd,F,r⟩ := G.ex
  exact ⟨f,fd,⟨fun vs H Q E q => F.len vs H Q E (h _ _ _ _ q),fun A outer s H args us vs Q E r0 e0 b0 v0 q => F.run A outer s H args us vs Q E r0 e0 b0 v0 (h _ _ _ _ q)⟩,r⟩
end L2
set_option Elab.async false
set_option linter.all false
set_option maxRecDepth 100000
set_option maxHeartbeats 4000000
namespace L2
open PySem PySem.Spec PyProof.Rows
section
variable {X : Cx}{W : Wd}{e a b c tg iter l : Expr}{es : List Expr}{pos p : Pos}{d da db dc dl de : DE}{dA di : DA}{dt : DT}{st : Stmt}{rest sts : List Stmt}{d1 d2 : DS}{t : TS}
abbrev DO := Ev -> (Option Int -> Prop) -> Prop
def dnO (W : Wd)(d : DO) : TO := fun σ H Q => ∃ pn M b ρ P,Sta W pn M b H σ ρ /\ d ρ P /\ ∀ x H',P x -> Kp b H H' -> okB W.B b H' -> Q x H'
theorem dnO.elim {W : Wd}{d : DO}{σ : St}{H : Hp}{Q : Option Int -> Hp -> Prop}{R : Prop}(h : dnO W d σ H Q)(f : ∀ pn M b ρ P,Sta W pn M b H σ ρ -> d ρ P -> (∀ x H',P x -> Kp b H H' -> okB W.B b H' -> Q x H') -> R) : R := by
  obtain ⟨pn,M,b,ρ,P,st,h,k⟩ := h
  exact f pn M b ρ P st h k
def oNo : DO := fun _ P => P none
def oPt (de : DE) : DO := fun ρ P => de ρ fun x => match x with | .int i => P (some i) | _ => False
theorem do_none : PO X none (dnO W oNo) := fun pins s σ H Q I hh => hh.elim fun pn M b ρ P st h k => po_none pins s σ H Q I (k _ H h (Kp.refl _ _) st.ok)
theorem do_some (h : PE X e (dn W de)) : PO X (some e) (dnO W (oPt de)) := fun pins s σ H Q I hh => hh.elim fun pn M b ρ P st q k => po_some h pins s σ H Q I (by
  refine ⟨pn,M,b,ρ,_,st,q,fun x v H1 hx rx k1 o1 => ?_⟩
  cases x <;> first | exact hx.elim | skip
  cases (show _ = _ from rx)
  exact ⟨_,rfl,k _ H1 hx k1 o1⟩)
def cutD (xs : List D)(lo hi : Option Int) : List D := (xs.drop (HT.sIx xs.length 0 lo)).take (HT.sIx xs.length xs.length hi - HT.sIx xs.length 0 lo)
theorem Reps.cut {K : PySem.W.Frag}{M : Addr -> Prop}{H : Hp}{ds : List D}{vs : List V}(h : Reps K M H ds vs)(lo hi : Option Int) : Reps K M H (cutD ds lo hi) (cutV vs lo hi) := by
  unfold cutD cutV
  rw [h.length]
  exact Reps.take _ (Reps.drop _ h)
def oSl (x : D)(lo hi : Option Int)(P : D -> Prop) : Prop := match x with
  | .tup xs => ¬ (HT.sIx xs.length 0 lo = 0 /\ HT.sIx xs.length xs.length hi = xs.length) /\ P (.tup (cutD xs lo hi))
  | .lst xs => P (.lst (cutD xs lo hi))
  | .own xs => P (.lst (cutD xs lo hi))
  | _ => False
def dSl (de : DE)(dl dh : DO) : DE := fun ρ P => de ρ fun x => dl ρ fun lo => dh ρ fun hi => oSl x lo hi P
theorem sl_tupK (K : PySem.W.Frag)(h : X.K = K) : SlR X (rSlT K) := by subst h; exact sl_tup
theorem sl_any (K : PySem.W.Frag)(h : X.K = K) : SlR X (fun x lo hi H Q => rSlT K x lo hi H Q \/ rSlL K x lo hi H Q) := (sl_tupK K h).or (sl_listK' K h)
theorem de_slice {lo hi : Option Expr}{dl dh : DO}{p2 : Pos}(hr : SlR X (fun x lo hi H Q => rSlT W.K x lo hi H Q \/ rSlL W.K x lo hi H Q))(he : PE X e (dn W de))(hl : PO X lo (dnO W dl))(hu : PO X hi (dnO W dh)) : PE X (.Subscript e (.Slice lo hi none p2) pos) (dn W (dSl de dl dh)) := (pe_slice hr he hl hu).mono fun σ H Q hh => hh.elim fun pn M b ρ P st h k => by
  refine ⟨pn,M,b,ρ,_,st,h,fun x v H1 hx rx k1 o1 => ?_⟩
  refine ⟨pn,M,b,ρ,_,st.step k1 o1,hx,fun lo H2 hy k2 o2 => ?_⟩
  refine ⟨pn,M,b,ρ,_,(st.step k1 o1).step k2 o2,hy,fun hi H3 hz k3 o3 => ?_⟩
  have s3 := ((st.step k1 o1).step k2 o2).step k3 o3
  have rx := (rx.step st.bagM k2).step st.bagM k3
  have kk := (k1.trans k2).trans k3
  cases x <;> first | exact hz.elim | skip
  case tup xs =>
    obtain ⟨a,vs,rfl,hh,r⟩ := rx
    refine .inl ⟨a,vs,rfl,hh.sq,by rw [r.length]; exact hz.1,fun p hp => k _ _ _ hz.2 (new_tup s3.toHs (r.cut lo hi) hp) (kk.trans (Kp.upd hp)) (s3.okU hp)⟩
  case lst xs =>
    obtain ⟨a,vs,rfl,hh,r⟩ := rx
    refine .inr ⟨a,vs,rfl,SqL.of hh.2,fun p hp => k _ _ _ hz (new_lst s3.toHs (r.cut lo hi) hp) (kk.trans (Kp.upd hp)) (s3.okU hp)⟩
  case own xs =>
    obtain ⟨a,vs,rfl,_,_,_,_,hh,r⟩ := rx
    refine .inr ⟨a,vs,rfl,SqL.of hh,fun p hp => k _ _ _ hz (new_lst s3.toHs (r.cut lo hi) hp) (kk.trans (Kp.upd hp)) (s3.okU hp)⟩
def oCat : D -> D -> (D -> Prop) -> Prop := fun x y P => match asL x,asL y with
  | some xs,some ys => xs.length + ys.length <= 1000 /\ P (.lst (xs ++ ys))
  | _,_ => False
theorem od_cat : OpD W rCat oCat := by
  intro M b H x y v u P Q hs rx ry ho k
  unfold oCat at ho
  split at ho
  case h_2 => exact ho.elim
  case h_1 xs ys e1 e2 =>
    obtain ⟨a1,vs,rfl,h1,r1⟩ := asL.rep rx e1
    obtain ⟨a2,us,rfl,h2,r2⟩ := asL.rep ry e2
    exact ⟨a1,a2,vs,us,rfl,rfl,h1,h2,by rw [r1.length,r2.length]; exact Nat.le_trans ho.1 le1000,fun p hp => k _ _ _ ho.2 (new_lst hs (Reps.append r1 r2) hp) (Kp.upd hp) (hs.okU hp)⟩
theorem Reps.ne {K : PySem.W.Frag}{M : Addr -> Prop}{H : Hp}{ds : List D}{vs : List V}(h : Reps K M H ds vs)(n : ds ≠ []) : vs ≠ [] := fun z => by
  have := h.length
  rw [z] at this
  exact n (List.length_eq_zero_iff.mp this.symm)
def bagSp (K : PySem.W.Frag)(B : BagT)(pre : List D -> Prop) : Sp := fun vs H Q _ => ∃ (M : Addr -> Prop) (b : Option Addr) (ds : List D),RepAs K M b H ds vs /\ pre ds /\ ∀ p H1,H p = none -> Same H H1 -> B.ok p H1 -> Q (.ref p) H1
def dropB (ρ : Ev) : Ev := ρ.map fun o => match o with | some .bag => none | o => o
def dBag (i : Nat)(pre : List D -> Prop)(dA : DA) : DS := fun F ρ => dA ρ fun ds => ds.all notOwn = true /\ pre ds /\ F.nx ((dropB ρ).set i (some .bag))
theorem dropB_get {ρ : Ev}{i : Nat}{d : D}(h : (dropB ρ)[i]? = some (some d)) : ρ[i]? = some (some d) /\ d ≠ .bag := by
  unfold dropB at h
  rw [List.getElem?_map] at h
  cases q : ρ[i]? with
  | none => rw [q] at h; cases h
  | some o =>
    rw [q] at h
    cases o with
    | none => cases h
    | some d' => cases d' <;> simp at h <;> subst h <;> exact ⟨rfl,by intro z; cases z⟩
theorem ds_bag {spos : Pos}{x f : Str}{k : Nat}{ps : List Str}{pre : List D -> Prop}{i : Nat}{pos' : Pos}(hb0 : W.b0 = none)(hN : X.N.Nodup)(hi : X.N[i]? = some x)(hx : Loc X.env.scope x)(G : Callee X.prog X.w X.K X.mg X.base CX0 f k ps (bagSp W.K W.B pre))(hr : Room k X.A)(hg : Gl X f)(ha : PA X (e :: es) (dnA W dA))
    (hdb : (f == ("__debug__" : Str)) = false := by decide) (he : starEach (e :: es) X.env = (false,eval e X.env) :: starEach es X.env := by rfl) (hpl : (backTo pos (starEach es X.env)).any (·.1) = false := by rfl)
    (hs : swapsWith (.Call (.Name f p) (e :: es) [] pos) (some (.Name x pos')) spos.line X.env = pure false := by rfl) (hf : X.fn x = true \/ X.env.scope.names.lookup x = some .local := by first | exact .inl rfl | exact .inr rfl | assumption) :
    PS X (.Assign [.Name x pos'] (.Call (.Name f p) (e :: es) [] pos) spos) (sn W (dBag i pre dA)) := (ps_set hN hi hx (pe_own G hr hg ha hdb he hpl) hs hf).mono fun E σ H hh => hh.elim fun pn M b ρ F s l h => by
  refine ⟨pn,M,b,ρ,_,s.toSta,h,fun ds vs H' hx rx k o => ?_⟩
  have s1 := s.step k o
  refine ⟨M,b,ds,by rw [List.append_nil]; exact rx.args _ _ hx.1,hx.2.1,fun q H1 hq S ok => ?_⟩
  have rep : ∀ d v,Rep W.K M H' d v -> Rep W.K (fun c => M c \/ c = q) H1 d v := fun d v r => Rep.keep (fun c o _ e => S c o e) _ _ (Rep.avoid (fun c hc => hc.imp id fun z => by rw [z]; exact hq) _ _ r)
  have reps : ∀ d v,Reps W.K M H' d v -> Reps W.K (fun c => M c \/ c = q) H1 d v := fun d v r => Reps.keep (fun c o _ e => S c o e) _ _ (Reps.avoid (fun c hc => hc.imp id fun z => by rw [z]; exact hq) _ _ r)
  have h0 : W.H0 q = none := by
    cases z : W.H0 q with
    | none => rfl
    | some o =>
      have := s1.kp q o (by rw [hb0]; intro y; cases y) z
      rw [hq] at this; cases this
  have st1 : Sta W pn (fun c => M c \/ c = q) (some q) H1 σ (dropB ρ) := by
    refine ⟨⟨fun p e => by cases e; exact ok,fun p e => by cases e; exact .inr rfl,fun c hc => ?_,fun c m => .inl (s1.m0 c m)⟩,fun c o n e => S c o (s1.kp c o n e),.inr ⟨hb0,fun p e => by cases e; exact h0⟩,fun j d e => ?_,by simp [dropB,s.len],fun q' hq' => (s1.pin q' hq').to rep reps fun xs a vs _ _ m n hh => ⟨.inl m,(fun z => by cases z; rw [hq] at hh; cases hh),S _ _ hh⟩⟩
    · rcases hc with hc | hc
      · obtain ⟨o,e⟩ := s1.dom c hc; exact ⟨o,S c o e⟩
      · rw [hc]; exact W.B.dm q H1 ok
    · obtain ⟨e1,nb⟩ := dropB_get e
      obtain ⟨v,e2,r⟩ := s1.env j d e1
      refine ⟨v,e2,?_⟩
      cases d
      case own xs =>
        obtain ⟨a,us,rfl,m1,m2,m3,m4,hh,r'⟩ := r
        have nq : some q ≠ some a := fun z => by
          cases z
          rw [hq] at hh
          cases hh
        exact ⟨a,us,rfl,.inl m1,nq,m3,m4,S _ _ hh,reps _ _ r'⟩
      case bag => exact absurd rfl nb
      case frg f _ => exact RepX.move r (fun c _ m n => ⟨.inl m,fun z => by cases z; exact s1.toHs.new hq m⟩) (fun c o _ e => S c o e) fun c hc => hc.imp id fun z => by rw [z]; exact hq
      all_goals exact rep _ _ r
  refine l.nx _ _ _ _ _ (s1.of (st1.set (x := .bag) (v := .ref q) i ⟨q,rfl,rfl⟩) fun j xs hm e => ?_) hx.2.2
  by_cases z : i = j
  · subst z
    rw [List.getElem?_set] at e
    simp at e
    rw [<- e.2] at hm; cases hm
  · rw [List.getElem?_set_ne z] at e
    exact ⟨(dropB_get e).1,by rw [List.getElem?_set_ne z]⟩
end
end L2
set_option linter.all false
namespace K
open PySem L2
def gcdL (ns : List Int) : Int := ns.foldl (fun g n => ((Int.gcd g n : Nat) : Int)) 0
def low (ns : List Int)(last : Int) : Int := if last < 0 then -gcdL (ns ++ [last]) else gcdL (ns ++ [last])
end K
set_option linter.all false
namespace K
open PySem L2
end K
namespace K
open PySem L2
end K
set_option linter.all false
namespace K
open PySem L2
end K
set_option linter.all false
namespace K
open PySem L2
def dot (r s : List Int) : Int := (List.zipWith (· * ·) r s).sum
def Mv (n : Nat)(H : Hp)(m : Addr)(M : List (List Int)) : Prop := ∃ ps : List Addr,H m = some (.tup (ps.map V.ref)) /\ ps.length = 4 /\ M.length = 4 /\ ∀ (i : Nat) p r,ps[i]? = some p -> M[i]? = some r -> H p = some (.tup (r.map V.int)) /\ r.length = 4 /\ ∀ x ∈ r,Bd n x
theorem Mv.of {n : Nat}{H : Hp}{m p0 p1 p2 p3 : Addr}{r0 r1 r2 r3 : List Int}(e : H m = some (.tup [.ref p0,.ref p1,.ref p2,.ref p3]))(e0 : H p0 = some (.tup (r0.map V.int)))(e1 : H p1 = some (.tup (r1.map V.int)))(e2 : H p2 = some (.tup (r2.map V.int)))(e3 : H p3 = some (.tup (r3.map V.int)))
    (l : r0.length = 4 /\ r1.length = 4 /\ r2.length = 4 /\ r3.length = 4) (b : ∀ x ∈ r0 ++ r1 ++ r2 ++ r3,Bd n x) : Mv n H m [r0,r1,r2,r3] := by
  refine ⟨[p0,p1,p2,p3],e,rfl,rfl,fun i p r h1 h2 => ?_⟩
  match i with
  | 0 => cases h1; cases h2; exact ⟨e0,l.1,fun x hx => b x (by simp [hx])⟩
  | 1 => cases h1; cases h2; exact ⟨e1,l.2.1,fun x hx => b x (by simp [hx])⟩
  | 2 => cases h1; cases h2; exact ⟨e2,l.2.2.1,fun x hx => b x (by simp [hx])⟩
  | 3 => cases h1; cases h2; exact ⟨e3,l.2.2.2,fun x hx => b x (by simp [hx])⟩
  | i + 4 => simp at h1
end K
set_option Elab.async false
set_option linter.all false
set_option maxRecDepth 100000
set_option maxHeartbeats 4000000
namespace L2
open PySem PySem.Spec PyProof.Rows
theorem oIx_mem {xs : List D}{i : Int}{P : D -> Prop}(h0 : 0 <= i)(h1 : i < xs.length)(h : ∀ d ∈ xs,P d) : oIx (.lst xs) (.int i) P := by
  obtain ⟨j,rfl⟩ : ∃ j : Nat,i = j := ⟨i.toNat,by omega⟩
  have hj : j < xs.length := by omega
  have e : atI xs (j : Int) = some xs[j] := atI_nat (List.getElem?_eq_getElem hj)
  simp only [oIx,e]
  exact h _ (List.getElem_mem hj)
theorem ixm {xs : List D}{i : Int}{P : D -> Prop}(h0 : 0 <= i)(h1 : i < xs.length)(h : ∀ d ∈ xs,P d) : (atI xs i).elim False P := oIx_mem (P := P) h0 h1 h
theorem rangeD_get {lo : Int}{n i : Nat}{d : D}(h : (rangeD lo n)[i]? = some d) : d = .int (lo + i) /\ i < n := by
  have hi : i < n := by
    have := (List.getElem?_eq_some_iff.mp h).1
    simpa [rangeD] using this
  simp [rangeD,hi] at h
  exact ⟨h.symm,hi⟩
theorem rangeD_len (lo : Int)(n : Nat) : (rangeD lo n).length = n := by simp [rangeD]
abbrev sp4 (x y z w : Int) : D := .tup [.int x,.int y,.int z,.int w]
abbrev t3 (x y z : Int) : D := .tup [.int x,.int y,.int z]
abbrev t2 (x y : Int) : D := .tup [.int x,.int y]
end L2
set_option Elab.async false
set_option linter.all false
set_option maxRecDepth 100000
set_option maxHeartbeats 4000000
namespace L2
open PySem PySem.Spec PyProof.Rows
structure JE (X : Cx)(W : Wd)(e : Expr)(d : DE) : Prop where
  h : PE X e (dn W d)
structure JT (X : Cx)(W : Wd)(e : Expr)(d : DT) : Prop where
  h : PT X e (dnT W d)
structure JW (X : Cx)(W : Wd)(e : Expr)(d : DT) : Prop where
  h : PW X e (dnT W d)
structure JA (X : Cx)(W : Wd)(es : List Expr)(d : DA) : Prop where
  h : PA X es (dnA W d)
structure JO (X : Cx)(W : Wd)(e : Option Expr)(d : DO) : Prop where
  h : PO X e (dnO W d)
structure JIf (X : Cx)(W : Wd)(es : List Expr)(d : DT) : Prop where
  h : PIf X es (dnT W d)
structure JI (X : Cx)(W : Wd)(fz : Bool)(tg l : Expr)(d : DA) : Prop where
  h : PI X tg l (dnI W fz d)
structure JS (X : Cx)(W : Wd)(st : Stmt)(d : DS) : Prop where
  h : PS X st (sn W d)
structure JSs (X : Cx)(W : Wd)(st : List Stmt)(d : DS) : Prop where
  h : PSs X st (sn W d)
section
variable {X : Cx}{W : Wd}{e a b c : Expr}{es : List Expr}{pos : Pos}{d da db dc : DE}{dA : DA}{t : TE}
theorem jdv (i : Nat) {x : Str} {pos : Pos} (hN : X.N[i]? = some x := by rfl) (hv : Vis X.env.scope x := by first | exact Or.inl rfl | exact Or.inr (Or.inl rfl) | exact Or.inr (Or.inr rfl)) (hd : (x == ("__debug__" : Str)) = false := by decide)
    (hcd : (x == ("__classdict__" : Str)) = false := by decide) : JE X W (.Name x pos) (dVar i) := ⟨dv i hN hv hd hcd⟩
theorem jde_int {i j pos} : JE X W (.Constant (.int i) j pos) (dC (.int i)) := ⟨de_int ⟩
theorem jde_bl {i j pos} : JE X W (.Constant (.bool i) j pos) (dC (.bl i)) := ⟨de_bl ⟩
theorem jde_non {j pos} : JE X W (.Constant .none j pos) (dC .non) := ⟨de_non ⟩
theorem jde_op {op : Operator}{r : R2}{o : D -> D -> (D -> Prop) -> Prop}(ho : OpR X (binaryOp op) r)(hd : OpD W r o)(ha : JE X W a da)(hb : JE X W b db) : JE X W (.BinOp a op b pos) (dOp o da db) := ⟨de_op ho hd ha.h hb.h⟩
theorem jde_cmp {op : CmpOp}{r : R2}{o : D -> D -> (D -> Prop) -> Prop}(ho : OpR X (compareOp op) r)(hd : OpD W r o)(ha : JE X W a da)(hb : JE X W b db)(hm : behindInMarks op b = false) : JE X W (.Compare a [op] [b] pos) (dOp o da db) := ⟨de_cmp ho hd ha.h hb.h hm⟩
theorem jde_ix {r : R2}{o : D -> D -> (D -> Prop) -> Prop}(hr : IxR X r)(hd : OpD W r o)(ha : JE X W a da)(hb : JE X W b db)(hs : PlainIx b) : JE X W (.Subscript a b pos) (dOp o da db) := ⟨de_ix hr hd ha.h hb.h hs⟩
theorem jde_neg (ha : JE X W a da) : JE X W (.UnaryOp .USub a pos) (dUn oNeg da) := ⟨de_neg ha.h⟩
variable {rest : List Expr}
theorem jde_one {op}(h : JE X W a da) : JE X W (.BoolOp op [a] pos) da := ⟨de_one h.h⟩
theorem jde_and (ha : JE X W a da)(hb : JE X W (.BoolOp .And (b :: rest) pos) db) : JE X W (.BoolOp .And (a :: b :: rest) pos) (dAnd da db) := ⟨de_and ha.h hb.h⟩
theorem jdt_cmp {op : CmpOp}{r : R2}{o : D -> D -> (D -> Prop) -> Prop}(ho : OpR X (compareOp op) r)(hd : OpD W r o)(ha : JE X W a da)(hb : JE X W b db)(hm : behindInMarks op b = false) : JT X W (.Compare a [op] [b] pos) (dTest (dOp o da db)) := ⟨dt_cmp ho hd ha.h hb.h hm⟩
theorem jdt_truth (hK : X.K = W.K)(ha : JE X W a da)(he : ∀ whole,isTrue a X.env whole = (do let v <- whole; standAt a.pos; holding [v] (truthy v))) : JT X W a (dTru da) := ⟨dt_truth hK ha.h he⟩
variable {ta tb : DT}
theorem jdw_or1 (ha : JT X W a ta) : JW X W (.BoolOp .Or [a] pos) ta := ⟨dw_or1 ha.h⟩
theorem jda_nil : JA X W [] aNil := ⟨da_nil ⟩
theorem jda_cons {dr : DA}(ha : JE X W e da)(hr : JA X W es dr)(hs : starEach (e :: es) X.env = (false,eval e X.env) :: starEach es X.env := by rfl) : JA X W (e :: es) (aCons da dr) := ⟨da_cons ha.h hr.h hs⟩
theorem jde_tup {x1}(h : JA X W es dA) : JE X W (.Tuple es x1 pos) (dTup dA) := ⟨de_tup h.h⟩
theorem jde_lst (h : JA X W es dA) : JE X W (.List es pos) (dLst dA) := ⟨de_lst h.h⟩
end
section
variable {X : Cx}{W : Wd}{e a b c : Expr}{es : List Expr}{pos p : Pos}{d da db dc : DE}{dA : DA}{x : Str}{k : Nat}{ps : List Str}{S : DSp}
theorem jde_own (G : Callee X.prog X.w X.K X.mg X.base CX0 x k ps (liftSp W.K W.B S))(hr : Room k X.A)(hg : Gl X x)(ha : JA X W (e :: es) dA)(hdb : (x == ("__debug__" : Str)) = false := by decide) (he : starEach (e :: es) X.env = (false,eval e X.env) :: starEach es X.env := by rfl) (hpl : (backTo pos (starEach es X.env)).any (·.1) = false := by rfl) :
    JE X W (.Call (.Name x p) (e :: es) [] pos) (dCall S (fun _ => False) dA) := ⟨de_own G hr hg ha.h hdb he hpl⟩
variable {r : List V -> Hp -> VK -> Prop}{o : List D -> (D -> Prop) -> Prop}{id T : String}
theorem jde_callB (hc : CallR X (.builtin id) r)(hd : CallD W r o)(hg : Gl X x)(hm : X.mg x = none)(hv : bootBuiltins x = some (.builtin id))(ha : JA X W (e :: es) dA)(hn : x ≠ "__name__" := by decide) (hdb : (x == ("__debug__" : Str)) = false := by decide)
    (he : starEach (e :: es) X.env = (false,eval e X.env) :: starEach es X.env := by rfl) (hpl : (backTo pos (starEach es X.env)).any (·.1) = false := by rfl) : JE X W (.Call (.Name x p) (e :: es) [] pos) (dCB o dA) := ⟨de_callB hc hd hg hm hv ha.h hn hdb he hpl⟩
end
section
variable {X : Cx}{W : Wd}{tg l e a b c : Expr}{es : List Expr}{pos p : Pos}{d da db dc dl : DE}{dA di : DA}{fz : Bool}
theorem jdi_seq (hK : X.K = W.K)(hl : JE X W l dl) : JI X W fz tg l (iSeq fz dl) := ⟨di_seq hK hl.h⟩
theorem jdi_range1 (hg : Gl X "range") (hm : X.mg "range" = none) (ha : JA X W [a] dA) (hs : starEach [a] X.env = [(false,eval a X.env)] := by rfl) : JI X W fz tg (.Call (.Name "range" p) [a] [] pos) (iRange1 dA) := ⟨di_range1 hg hm ha.h hs⟩
theorem jdi_zip {elts : List Expr}{c1}{tpos : Pos}(hK : X.K = W.K)(t1 t2 : Bool)(hg : Gl X "zip") (hm : X.mg "zip" = none) (ha : JA X W [a,b] dA)
    (h : PI X (.Tuple elts c1 tpos) (.Call (.Name "zip" p) [a,b] [] pos) (iZip2 W.K t1 t2 (dnA W dA))) : JI X W fz (.Tuple elts c1 tpos) (.Call (.Name "zip" p) [a,b] [] pos) (iZipD fz t1 t2 dA) := ⟨di_zip hK t1 t2 hg hm ha.h h⟩
end
section
variable {X : Cx}{W : Wd}{elt iter tg : Expr}{ifs : List Expr}{scope : Scope}{pos : Pos}{N' : List Str}{map : List (Option Nat)}{g : TG}{gd : D -> Ev -> (Ev -> Prop) -> Prop}{di : DA}{dt : DT}{de : DE}
theorem jde_comp (hG : GD W g gd)(B : Blk X N' scope map tg elt ifs g (dnT W dt) (dn W de))(hi : JI X W false tg iter di)(hs : ∀ x,foldedSetIterable iter X.env x = pure x := by intro _; rfl) : JE X W (.ListComp elt [⟨tg,iter,ifs,0⟩] scope pos) (dComp map gd di dt de) := ⟨de_comp hG B hi.h hs⟩
theorem jdif_nil : JIf X W [] dTrue := ⟨dif_nil ⟩
theorem jdif_one {c : Expr}(hc : JT X W c dt) : JIf X W [c] dt := ⟨dif_one hc.h⟩
end
section
variable {X : Cx}{W : Wd}{e a b c tg iter l : Expr}{es : List Expr}{pos p : Pos}{d da db dc dl de : DE}{dA di : DA}{dt : DT}{st : Stmt}{rest sts : List Stmt}{d1 d2 : DS}{t : TS}
theorem jdss_nil : JSs X W [] dNext := ⟨dss_nil ⟩
theorem jdss_one (h : JS X W st d1) : JSs X W [st] d1 := ⟨dss_one h.h⟩
theorem jdss_cons (h1 : JS X W st d1)(h2 : JSs X W rest d2) : JSs X W (st :: rest) (dSeq d1 d2) := ⟨dss_cons h1.h h2.h⟩
theorem jds_ret (he : JE X W e de) : JS X W (.Return (some e) pos) (dRet de) := ⟨ds_ret he.h⟩
theorem jds_if {s1 s2 : List Stmt}(hc : JT X W c dt)(ha : JSs X W s1 d1)(hb : JSs X W s2 d2) : JS X W (.If c s1 s2 pos) (dIfS dt d1 d2) := ⟨ds_if hc.h ha.h hb.h⟩
theorem jds_set {i : Nat} {x : Str} {pos' : Pos} (hN : X.N.Nodup) (hi : X.N[i]? = some x) (hx : Loc X.env.scope x) (he : JE X W e de) (hs : swapsWith e (some (.Name x pos')) pos.line X.env = pure false := by rfl) (hf : X.fn x = true \/ X.env.scope.names.lookup x = some .local := by first | exact .inl rfl | exact .inr rfl | assumption) :
    JS X W (.Assign [.Name x pos'] e pos) (dAsg de (gdN i)) := ⟨ds_set hN hi hx he.h hs hf⟩
theorem jds_asg {g : TG}{gd : D -> Ev -> (Ev -> Prop) -> Prop}(hG : GD W g gd)(he : JE X W e de)(hg : PG X tg g)(hs : swapsWithSole [tg] e pos.line X.env = pure false := by rfl)(hw : swappedStores [tg] e X.env = pure none := by rfl)
    (h1 : (assignEach [tg] X.env).map (·.2) = [assign tg X.env] := by rfl) : JS X W (.Assign [tg] e pos) (dAsg de gd) := ⟨ds_asg hG he.h hg hs hw h1⟩
theorem jds_ownL {i : Nat} {x : Str} {pos' lpos : Pos} (hN : X.N.Nodup) (hi : X.N[i]? = some x) (hx : Loc X.env.scope x) (ha : JA X W es dA) (hs : swapsWith (.List es lpos) (some (.Name x pos')) pos.line X.env = pure false := by rfl) (hf : X.fn x = true \/ X.env.scope.names.lookup x = some .local := by first | exact .inl rfl | exact .inr rfl | assumption) :
    JS X W (.Assign [.Name x pos'] (.List es lpos) pos) (dOwnL i dA) := ⟨ds_ownL hN hi hx ha.h hs hf⟩
theorem jds_setC {elt iter tg : Expr}{ifs : List Expr}{scope : Scope}{N' : List Str}{map : List (Option Nat)}{g : TG}{gd : D -> Ev -> (Ev -> Prop) -> Prop}(own : Bool){i : Nat}{y : Str}{py spos : Pos}(hN : X.N.Nodup)(hiN : X.N[i]? = some y)(hy : Loc X.env.scope y)(hG : GD W g gd)(B : Blk X N' scope map tg elt ifs g (dnT W dt) (dn W de))(hi : JI X W false tg iter di)
    (hsw : swapsWith (.ListComp elt [⟨tg,iter,ifs,0⟩] scope pos) (some (.Name y py)) spos.line X.env = pure true := by rfl) (hfn : X.fn y = true \/ X.env.scope.names.lookup y = some .local := by first | exact .inl rfl | exact .inr rfl)
    (hs : ∀ x,foldedSetIterable iter X.env x = pure x := by intro _; rfl) : JS X W (.Assign [.Name y py] (.ListComp elt [⟨tg,iter,ifs,0⟩] scope pos) spos) (dSetC own i map gd di dt de) := ⟨ds_setC own hN hiN hy hG B hi.h hsw hfn hs⟩
theorem jds_append {i : Nat}{x : Str}{e : Expr}{npos apos cpos : Pos}(hK : X.K = W.K)(hN : X.N[i]? = some x)(hv : Vis X.env.scope x)(ha : JA X W [e] dA)
    (h : PE X (.Call (.Attribute (.Name x npos) "append" apos) [e] [] cpos) (tBM X.K "list" rAppend (tVar i) (dnA W dA))) (hs : swapsWith (.Call (.Attribute (.Name x npos) "append" apos) [e] [] cpos) none pos.line X.env = pure false := by rfl) :
    JS X W (.Expr (.Call (.Attribute (.Name x npos) "append" apos) [e] [] cpos) pos) (dApp i dA) := ⟨ds_append hK hN hv ha.h h hs⟩
theorem jds_setI {i : Nat}{x : Str}{n : Expr}{dk : DE}{npos tpos : Pos}(hN : X.N[i]? = some x)(hv : Vis X.env.scope x)(he : JE X W e de)(hk : JE X W n dk)(hg : PG X (.Subscript (.Name x npos) n tpos) (gSub (tVar i) (dn W dk) rSetL))
    (hs : swapsWithSole [.Subscript (.Name x npos) n tpos] e pos.line X.env = pure false := by rfl) (hw : swappedStores [.Subscript (.Name x npos) n tpos] e X.env = pure none := by rfl)
    (h1 : (assignEach [.Subscript (.Name x npos) n tpos] X.env).map (·.2) = [assign (.Subscript (.Name x npos) n tpos) X.env] := by rfl) : JS X W (.Assign [.Subscript (.Name x npos) n tpos] e pos) (dSetI i de dk) := ⟨ds_setI hN hv he.h hk.h hg hs hw h1⟩
theorem jds_for {g : TG}{gd : D -> Ev -> (Ev -> Prop) -> Prop}{db : DS}{body : List Stmt}(hG : GD W g gd)(hp : PassesOwn (model X.prog X.w) X.A X.env X.xe)(hc : X.calm = true)(hi : JI X W true tg iter di)(hg : PG X tg g)(hb : JSs X W body db)
    (hs : ∀ x,foldedSetIterable iter X.env x = pure x := by intro _; rfl) : JS X W (.For tg iter body [] pos) (dFor gd di db) := ⟨ds_for hG hp hc hi.h hg hb.h hs⟩
theorem jdss_frz (i : Nat)(h : JSs X W sts d1) : JSs X W sts (dFrz i d1) := ⟨dss_frz i h.h⟩
end
section
variable {X : Cx}{W : Wd}{e a b c tg iter l : Expr}{es : List Expr}{pos p : Pos}{d da db dc dl de : DE}{dA di : DA}{dt : DT}{st : Stmt}{rest sts : List Stmt}{d1 d2 : DS}{t : TS}
theorem jdo_none : JO X W none oNo := ⟨do_none ⟩
theorem jdo_some (h : JE X W e de) : JO X W (some e) (oPt de) := ⟨do_some h.h⟩
theorem jde_slice {lo hi : Option Expr}{dl dh : DO}{p2 : Pos}(hr : SlR X (fun x lo hi H Q => rSlT W.K x lo hi H Q \/ rSlL W.K x lo hi H Q))(he : JE X W e de)(hl : JO X W lo dl)(hu : JO X W hi dh) : JE X W (.Subscript e (.Slice lo hi none p2) pos) (dSl de dl dh) := ⟨de_slice hr he.h hl.h hu.h⟩
theorem jds_bag {spos : Pos}{x f : Str}{k : Nat}{ps : List Str}{pre : List D -> Prop}{i : Nat}{pos' : Pos}(hb0 : W.b0 = none)(hN : X.N.Nodup)(hi : X.N[i]? = some x)(hx : Loc X.env.scope x)(G : Callee X.prog X.w X.K X.mg X.base CX0 f k ps (bagSp W.K W.B pre))(hr : Room k X.A)(hg : Gl X f)(ha : JA X W (e :: es) dA)
    (hdb : (f == ("__debug__" : Str)) = false := by decide) (he : starEach (e :: es) X.env = (false,eval e X.env) :: starEach es X.env := by rfl) (hpl : (backTo pos (starEach es X.env)).any (·.1) = false := by rfl)
    (hs : swapsWith (.Call (.Name f p) (e :: es) [] pos) (some (.Name x pos')) spos.line X.env = pure false := by rfl) (hf : X.fn x = true \/ X.env.scope.names.lookup x = some .local := by first | exact .inl rfl | exact .inr rfl | assumption) :
    JS X W (.Assign [.Name x pos'] (.Call (.Name f p) (e :: es) [] pos) spos) (dBag i pre dA) := ⟨ds_bag hb0 hN hi hx G hr hg ha.h hdb he hpl hs hf⟩
end
section
variable {X : Cx}{W : Wd}{a b : Expr}{rest : List Expr}{pos : Pos}{ta tb : DT}
theorem jdt_or (ha : JT X W a ta)(hb : JW X W (.BoolOp .Or (b :: rest) pos) tb) : JT X W (.BoolOp .Or (a :: b :: rest) pos) (dTOr ta tb) := ⟨(dw_or ha.h hb.h).pt⟩
end
theorem blkJ {X : Cx} {W : Wd} {N' : List Str} {scope : Scope} {map : List (Option Nat)} {tg elt : Expr} {ifs : List Expr} {g : TG} {dt : DT} {de : DE} (calm : X.calm = true) (kind : scope.kind = .function) (loc : ∀ x ∈ scope.names,x.2 = .local -> scope.names.lookup x.1 = some .local) (free : (scope.names.all fun p => !(p.2 == NameKind.free) || (X.env.kindOf p.1 == some .cell || X.env.kindOf p.1 == some .free)) = true) (cap : CapOk X scope map N') (keep : GKeep g map)
    (run : ∀ cells C fp s H,PG (cxComp X N' scope cells C fp s H) tg g /\ JIf (cxComp X N' scope cells C fp s H) W ifs dt /\ JE (cxComp X N' scope cells C fp s H) W elt de) : Blk X N' scope map tg elt ifs g (dnT W dt) (dn W de) :=
  ⟨calm,kind,loc,free,cap,keep,fun cells C fp s H _ => ⟨(run cells C fp s H).1,(run cells C fp s H).2.1.h,(run cells C fp s H).2.2.h⟩⟩
theorem Fun.okD {P : Program}{w : World}{K : PySem.W.Frag}{mg : Str -> Option Value}{base : Heap}{x qual : Str}{st : Stmt}{f : Addr}{fd : FuncData}{N ps : List Str}{k : Nat}{B : BagT}{Sd : DSp}(F : Fun K x qual st f fd)(S : FnScope N ps (defScope st))(len : ∀ ds PP Ed,Sd ds PP Ed -> ds.length = ps.length)
    (hbody : ∀ (cdv : Value) (A : Around) (outer : List Env) (s : Shared) (H : Hp) (E : XK) (M : Addr -> Prop) (bg : Option Addr) (ds : List D) (PP : D -> Prop) (Ed : Addr -> Prop),Room k (A.deeper (envOfC qual (defScope st) s.heap.objs.size f cdv)) -> Sd ds PP Ed ->
      ∃ d,JSs (cxOf CX0 P w K mg base N qual (defScope st) f cdv A outer s H E).nox ⟨K,B,H,M,bg⟩ (defBody st) d /\ d { nx := fun _ => PP .non,rt := PP } (startD N ds)) : FnOk P w K mg base CX0 (k + 1) f fd ps (liftSp K B Sd) :=
  F.ok S (liftSp.len len) fun cdv A outer s H vs Q E hr h => by
    obtain ⟨M,bg,ds,PP,Ed,hS,hR,ho,hb,hd,hq,hx⟩ := h
    obtain ⟨d,J,q⟩ := hbody cdv A outer s H E M bg ds PP Ed hr hS
    exact ⟨_,J.h,run hR ho hb hd hq q⟩
theorem Fun.okL {P : Program}{w : World}{K : PySem.W.Frag}{mg : Str -> Option Value}{base : Heap}{x qual : Str}{st : Stmt}{f : Addr}{fd : FuncData}{N : List Str}{p : Str}{k : Nat}(B : BagT)(F : Fun K x qual st f fd)(S : FnScope N [p] (defScope st))
    (hbody : ∀ (cdv : Value) (A : Around) (outer : List Env) (s : Shared) (H : Hp) (E : XK) (ns : List Int),Room k (A.deeper (envOfC qual (defScope st) s.heap.objs.size f cdv)) -> ns.length <= 63 ->
      ∃ d,JSs (cxOf CX0 P w K mg base N qual (defScope st) f cdv A outer s H E).nox ⟨K,B,H,fun _ => False,none⟩ (defBody st) d /\ d { nx := fun _ => D.non = .bl true,rt := fun d => d = .bl true } (startD N [.scr ns])) :
    FnOk P w K mg base CX0 (k + 1) f fd [p] (fun vs H Q _ => ∃ (a : Addr) (ns : List Int),vs = [.ref a] /\ SqL K H a (ns.map V.int) /\ ns.length <= 63 /\ ∀ H',Q (.bl true) H') :=
  F.ok S (fun vs H Q E h => by obtain ⟨a,ns,rfl,_⟩ := h; rfl) fun cdv A outer s H vs Q E hr h => by
    obtain ⟨a,ns,rfl,hS,hlen,k⟩ := h
    have hR : RepAs K (fun _ => False) none H [.scr ns] [.ref a] := ⟨.ref a,[],rfl,⟨a,rfl,hS.imp (fun q => ⟨id,q⟩) id⟩,rfl⟩
    obtain ⟨d,J,q⟩ := hbody cdv A outer s H E ns hr hlen
    exact ⟨_,J.h,run (P := fun d => d = .bl true) hR (fun p e => by cases e) (fun p e => by cases e) (fun c m => m.elim) (fun d v H' hd r _ _ => by cases hd; cases (show _ = _ from r); exact k H') q⟩
end L2
set_option Elab.async false
set_option linter.all false
set_option maxRecDepth 100000
set_option maxHeartbeats 4000000
namespace L2
open PySem PySem.Spec PyProof.Rows
mutual
def pyOf : D -> Option PyData
  | .non => some .none
  | .bl b => some (.bool b)
  | .int i => some (.int i)
  | .str x => if PyData.strOk x then some (.str x) else none
  | .tup xs => (pysOf xs).map .tuple
  | .lst xs => (pysOf xs).map .list
  | .own xs => (pysOf xs).map .list
  | .ty _ => none
  | .adr _ => none
  | .bag => none
  | .frg _ d => pyOf d
  | .scr _ => none
  | .dct _ _ _ => none
def pysOf : List D -> Option (List PyData)
  | [] => some []
  | d :: ds => (pyOf d).bind fun p => (pysOf ds).map (p :: ·)
end
mutual
theorem pyOf.lay : ∀ (d : D) (p : PyData),pyOf d = some p -> p.canLay0 = true
  | .non,p,h => by cases h; rfl
  | .bl b,p,h => by cases h; rfl
  | .int i,p,h => by cases h; rfl
  | .str x,p,h => by
    unfold pyOf at h
    split at h
    · cases h; unfold PyData.canLay0; assumption
    · cases h
  | .tup xs,p,h => by
    unfold pyOf at h
    obtain ⟨ps,e,rfl⟩ := Option.map_eq_some_iff.mp h
    unfold PyData.canLay0
    exact pysOf.lay xs ps e
  | .lst xs,p,h => by
    unfold pyOf at h
    obtain ⟨ps,e,rfl⟩ := Option.map_eq_some_iff.mp h
    unfold PyData.canLay0
    exact pysOf.lay xs ps e
  | .own xs,p,h => by
    unfold pyOf at h
    obtain ⟨ps,e,rfl⟩ := Option.map_eq_some_iff.mp h
    unfold PyData.canLay0
    exact pysOf.lay xs ps e
  | .ty _,p,h => by unfold pyOf at h; cases h
  | .adr _,p,h => by unfold pyOf at h; cases h
  | .bag,p,h => by unfold pyOf at h; cases h
  | .frg _ d,p,h => by unfold pyOf at h; exact pyOf.lay d p h
  | .scr _,p,h => by unfold pyOf at h; cases h
  | .dct _ _ _,p,h => by unfold pyOf at h; cases h
theorem pysOf.lay : ∀ (ds : List D) (ps : List PyData),pysOf ds = some ps -> PyData.canLayAll0 ps = true
  | [],ps,h => by cases h; rfl
  | d :: ds,ps,h => by
    unfold pysOf at h
    obtain ⟨p,e1,h⟩ := Option.bind_eq_some_iff.mp h
    obtain ⟨qs,e2,rfl⟩ := Option.map_eq_some_iff.mp h
    unfold PyData.canLayAll0
    rw [pyOf.lay d p e1,pysOf.lay ds qs e2]; rfl
end
section
variable {X : Cx}{pins : List (Addr × Obj)}{σ : St}{H : Hp}{s : Shared}{M : Addr -> Prop}
mutual
theorem rep_reads (I : Inv X pins σ H s) : ∀ (d : D) (v : V) (u : Value) (p : PyData),Rep X.K M H d v -> RelV v u -> pyOf d = some p -> ∃ as,Reads s.heap u p as
  | .non,v,u,p,r,q,h => by cases h; cases (show _ = _ from r); cases (show u = Value.none from q); exact ⟨_,.none⟩
  | .bl b,v,u,p,r,q,h => by cases h; cases (show _ = _ from r); cases (show u = Value.bool b from q); exact ⟨_,.bool _⟩
  | .int i,v,u,p,r,q,h => by
    cases h; cases (show _ = _ from r)
    obtain ⟨t,rfl⟩ := (show ∃ t,u = Value.int i t from q)
    exact ⟨_,.int _ _⟩
  | .str x,v,u,p,r,q,h => by
    unfold pyOf at h
    split at h
    · cases h; cases (show _ = _ from r)
      obtain ⟨t,rfl⟩ := (show ∃ t,u = Value.str x t from q)
      exact ⟨_,.str _ _⟩
    · cases h
  | .tup xs,v,u,p,r,q,h => by
    unfold pyOf at h
    obtain ⟨ps,e,rfl⟩ := Option.map_eq_some_iff.mp h
    obtain ⟨a,vs,rfl,z,rs⟩ := r
    cases (show u = Value.ref a from q)
    obtain ⟨its,r1,⟨o,h1,h2,n,h3⟩,_⟩ := I.tuple z.sq
    obtain ⟨as,ra⟩ := reps_reads I xs vs its ps rs r1 e
    exact ⟨as,.tuple h1 h2 h3 (by simpa using ra)⟩
  | .lst xs,v,u,p,r,q,h => by
    unfold pyOf at h
    obtain ⟨ps,e,rfl⟩ := Option.map_eq_some_iff.mp h
    obtain ⟨a,vs,rfl,z,rs⟩ := r
    cases (show u = Value.ref a from q)
    obtain ⟨its,r1,⟨o,n,h1,h2,_,h3⟩,_⟩ := I.list (SqL.of z.2)
    obtain ⟨as,ra⟩ := reps_reads I xs vs its ps rs r1 e
    exact ⟨a :: as,.list h1 h2 h3 (by simpa using ra)⟩
  | .own xs,v,u,p,r,q,h => r.elim
  | .ty _,_,_,p,_,_,h => by unfold pyOf at h; cases h
  | .adr _,_,_,p,_,_,h => by unfold pyOf at h; cases h
  | .bag,_,_,p,_,_,h => by unfold pyOf at h; cases h
  | .frg _ _,_,_,p,r,_,h => r.elim
  | .scr _,_,_,p,_,_,h => by unfold pyOf at h; cases h
  | .dct _ _ _,_,_,p,_,_,h => by unfold pyOf at h; cases h
theorem reps_reads (I : Inv X pins σ H s) : ∀ (ds : List D) (vs : List V) (us : List Value) (ps : List PyData),Reps X.K M H ds vs -> Vals vs us -> pysOf ds = some ps -> ∃ as,ReadsAll s.heap us ps as
  | [],vs,us,ps,r,q,h => by
    cases h
    cases (show vs = [] from r)
    cases q
    exact ⟨[],.nil⟩
  | d :: ds,vs,us,ps,r,q,h => by
    unfold pysOf at h
    obtain ⟨p,e1,h⟩ := Option.bind_eq_some_iff.mp h
    obtain ⟨qs,e2,rfl⟩ := Option.map_eq_some_iff.mp h
    obtain ⟨v,rv,rfl,r1,r2⟩ := r
    cases q with
    | cons q1 q2 =>
      obtain ⟨as,a1⟩ := rep_reads I d v _ p r1 q1 e1
      obtain ⟨bs,a2⟩ := reps_reads I ds rv _ qs r2 q2 e2
      exact ⟨as ++ bs,.cons a1 a2⟩
end
end
def RepG (K : PySem.W.Frag)(M : Addr -> Prop)(H : Hp) : D -> V -> Prop
  | .own xs,v => ∃ a vs,v = .ref a /\ H a = some (.lst vs) /\ Reps K M H xs vs
  | .frg _ d,v => ∃ M',Rep K M' H d v
  | d,v => Rep K M H d v
theorem RepX.g {W : Wd}{M : Addr -> Prop}{b : Option Addr}{H : Hp}{d : D}{v : V}{p : PyData}(h : RepX W M b H d v)(e : pyOf d = some p) : RepG W.K M H d v := by
  cases d
  case own xs => obtain ⟨a,vs,rfl,_,_,_,_,hh,r⟩ := h; exact ⟨a,vs,rfl,hh,r⟩
  case bag => unfold pyOf at e; cases e
  case frg f d => exact ⟨_,h.2.2⟩
  all_goals exact h
theorem repG_reads {X : Cx}{pins : List (Addr × Obj)}{σ : St}{H : Hp}{s : Shared}{M : Addr -> Prop}(I : Inv X pins σ H s){d : D}{v : V}{u : Value}{p : PyData}(r : RepG X.K M H d v)(q : RelV v u)(h : pyOf d = some p) : ∃ as,Reads s.heap u p as := by
  cases d
  case own xs =>
    obtain ⟨a,vs,rfl,hh,r⟩ := r
    unfold pyOf at h
    obtain ⟨ps,e,rfl⟩ := Option.map_eq_some_iff.mp h
    cases (show u = Value.ref a from q)
    obtain ⟨its,r1,⟨o,n,h1,h2,_,h3⟩,_⟩ := I.list (SqL.of hh)
    obtain ⟨as,ra⟩ := reps_reads I xs vs its ps r r1 e
    exact ⟨a :: as,.list h1 h2 h3 (by simpa using ra)⟩
  case frg f d =>
    obtain ⟨M',r⟩ := r
    exact rep_reads (M := M') I d _ _ _ r q (by unfold pyOf at h; exact h)
  all_goals exact rep_reads I _ _ _ _ r q h
mutual
def fineD : Nat -> D -> Bool
  | _,.non => true
  | _,.bl _ => true
  | _,.int _ => true
  | _,.str x => PyData.strOk x
  | n + 1,.tup xs => finesD n xs
  | n + 1,.lst xs => finesD n xs
  | n + 1,.own xs => finesD n xs
  | n,.frg _ d => fineD n d
  | _,_ => false
def finesD : Nat -> List D -> Bool
  | _,[] => true
  | n,d :: ds => fineD n d && finesD n ds
end
mutual
theorem fine_py : ∀ (n : Nat) (d : D),fineD n d = true -> ∃ p,pyOf d = some p /\ p.depth <= n /\ PyData.eqv p p = true
  | n,.non,h => ⟨_,rfl,Nat.zero_le _,rfl⟩
  | n,.bl b,h => ⟨_,rfl,Nat.zero_le _,by simp [PyData.eqv]⟩
  | n,.int i,h => ⟨_,rfl,Nat.zero_le _,by simp [PyData.eqv]⟩
  | n,.str x,h => by
    have h : PyData.strOk x = true := by cases n <;> simpa [fineD] using h
    exact ⟨.str x,by unfold pyOf; rw [if_pos h],Nat.zero_le _,by simp [PyData.eqv]⟩
  | 0,.tup xs,h => by simp [fineD] at h
  | 0,.lst xs,h => by simp [fineD] at h
  | 0,.own xs,h => by simp [fineD] at h
  | n + 1,.tup xs,h => by
    obtain ⟨ps,e,hd,hq⟩ := fines_py n xs (by simpa [fineD] using h)
    exact ⟨.tuple ps,by unfold pyOf; rw [e]; rfl,by unfold PyData.depth; omega,by unfold PyData.eqv; exact hq⟩
  | n + 1,.lst xs,h => by
    obtain ⟨ps,e,hd,hq⟩ := fines_py n xs (by simpa [fineD] using h)
    exact ⟨.list ps,by unfold pyOf; rw [e]; rfl,by unfold PyData.depth; omega,by unfold PyData.eqv; exact hq⟩
  | n + 1,.own xs,h => by
    obtain ⟨ps,e,hd,hq⟩ := fines_py n xs (by simpa [fineD] using h)
    exact ⟨.list ps,by unfold pyOf; rw [e]; rfl,by unfold PyData.depth; omega,by unfold PyData.eqv; exact hq⟩
  | n,.ty _,h => by cases n <;> simp [fineD] at h
  | n,.adr _,h => by cases n <;> simp [fineD] at h
  | n,.bag,h => by cases n <;> simp [fineD] at h
  | n,.frg _ d,h => by
    obtain ⟨p,e,h1,h2⟩ := fine_py n d (by cases n <;> simpa [fineD] using h)
    exact ⟨p,by unfold pyOf; exact e,h1,h2⟩
  | n,.scr _,h => by cases n <;> simp [fineD] at h
  | n,.dct _ _ _,h => by cases n <;> simp [fineD] at h
theorem fines_py : ∀ (n : Nat) (ds : List D),finesD n ds = true -> ∃ ps,pysOf ds = some ps /\ PyData.depthAll ps <= n /\ PyData.eqvAll ps ps = true
  | n,[],h => ⟨[],rfl,Nat.zero_le _,rfl⟩
  | n,d :: ds,h => by
    unfold finesD at h
    obtain ⟨h1,h2⟩ := (Bool.and_eq_true _ _).mp h
    obtain ⟨p,e1,d1,q1⟩ := fine_py n d h1
    obtain ⟨ps,e2,d2,q2⟩ := fines_py n ds h2
    exact ⟨p :: ps,by unfold pysOf; rw [e1,e2]; rfl,by unfold PyData.depthAll; omega,by unfold PyData.eqvAll; rw [q1,q2]; rfl⟩
end
end L2
set_option Elab.async false
set_option linter.all false
set_option maxRecDepth 100000
set_option maxHeartbeats 4000000
namespace L2
open PySem PySem.Spec PyProof.Rows
end L2
set_option Elab.async false
set_option linter.all false
set_option maxRecDepth 100000
set_option maxHeartbeats 4000000
namespace L2
open PySem PySem.Spec PyProof.Rows
section
variable {X : Cx}{W : Wd}{e a b c tg iter l : Expr}{es : List Expr}{pos p : Pos}{d da db dc dl de : DE}{dA di : DA}{dt : DT}{fz : Bool}{x : Str}{k : Nat}{ps : List Str}{S : DSp}
def bor : D -> D
  | .own xs => .lst xs
  | .frg _ d => d
  | d => d
end
end L2
set_option Elab.async false
set_option linter.all false
set_option maxRecDepth 100000
set_option maxHeartbeats 4000000
namespace L2
open PySem PySem.Spec PyProof.Rows
abbrev DSO := List D -> (List D -> Prop) -> (Addr -> Prop) -> Prop
def liftSpO (K : PySem.W.Frag)(B : BagT)(S : DSO) : Sp := fun vs H Q E => ∃ (M : Addr -> Prop) (b : Option Addr) (ds : List D) (P : List D -> Prop) (Ed : Addr -> Prop),S ds P Ed /\ RepAs K M b H ds vs /\ okB B b H /\ (∀ p,b = some p -> M p) /\ (∀ c,M c -> ∃ o,H c = some o) /\
  (∀ xs a us H',P xs -> H a = none -> H' a = some (.lst us) -> Reps K (fun c => M c \/ c = a) H' xs us -> Kp b H H' -> okB B b H' -> Q (.ref a) H') /\ ∀ C H',Ed C -> Kp b H H' -> okB B b H' -> E (.ref C) none H'
theorem liftSpO.len {K : PySem.W.Frag}{B : BagT}{S : DSO}{n : Nat}(h : ∀ ds P Ed,S ds P Ed -> ds.length = n) : ∀ vs H Q E,liftSpO K B S vs H Q E -> vs.length = n := fun vs H Q E ⟨M,b,ds,P,Ed,hS,hr,_⟩ => by rw [hr.length]; exact h _ _ _ hS
theorem runO {K : PySem.W.Frag}{B : BagT}{M : Addr -> Prop}{b : Option Addr}{N : List Str}{ds : List D}{vs : List V}{H : Hp}{Q : VK}{P : List D -> Prop}{d : DS}(hr : RepAs K M b H ds vs)(ho : okB B b H)(hb : ∀ p,b = some p -> M p)(hd : ∀ c,M c -> ∃ o,H c = some o)(hq : ∀ xs a us H',P xs -> H a = none -> H' a = some (.lst us) -> Reps K (fun c => M c \/ c = a) H' xs us -> Kp b H H' -> okB B b H' -> Q (.ref a) H')
    (h : d { nx := fun _ => False,rt := fun _ => False,ro := P } (startD N ds)) : sn ⟨K,B,H,M,b⟩ d { nx := fun _ H' => Q .non H',rt := Q } (start N vs) H :=
  ⟨[],M,b,startD N ds,{ nx := fun _ => False,rt := fun _ => False,ro := P },enter hr ho hb hd,⟨fun _ _ _ _ _ _ h => h.elim,fun _ _ _ h => h.elim,fun _ _ _ _ _ _ h => h.elim,fun _ _ _ _ _ _ h => h.elim,fun xs a us H' hp h0 _ hh r k o => hq xs a us H' hp h0 hh r k o⟩,h⟩
theorem Fun.okDO {P : Program}{w : World}{K : PySem.W.Frag}{mg : Str -> Option Value}{base : Heap}{x qual : Str}{st : Stmt}{f : Addr}{fd : FuncData}{N ps : List Str}{k : Nat}{B : BagT}{Sd : DSO}(F : Fun K x qual st f fd)(S : FnScope N ps (defScope st))(len : ∀ ds PP Ed,Sd ds PP Ed -> ds.length = ps.length)
    (hbody : ∀ (cdv : Value) (A : Around) (outer : List Env) (s : Shared) (H : Hp) (E : XK) (M : Addr -> Prop) (bg : Option Addr) (ds : List D) (PP : List D -> Prop) (Ed : Addr -> Prop),Room k (A.deeper (envOfC qual (defScope st) s.heap.objs.size f cdv)) -> Sd ds PP Ed ->
      ∃ d,JSs (cxOf CX0 P w K mg base N qual (defScope st) f cdv A outer s H E).nox ⟨K,B,H,M,bg⟩ (defBody st) d /\ d { nx := fun _ => False,rt := fun _ => False,ro := PP } (startD N ds)) : FnOk P w K mg base CX0 (k + 1) f fd ps (liftSpO K B Sd) :=
  F.ok S (liftSpO.len len) fun cdv A outer s H vs Q E hr h => by
    obtain ⟨M,bg,ds,PP,Ed,hS,hR,ho,hb,hd,hq,hx⟩ := h
    obtain ⟨d,J,q⟩ := hbody cdv A outer s H E M bg ds PP Ed hr hS
    exact ⟨_,J.h,runO hR ho hb hd hq q⟩
section
variable {X : Cx}{W : Wd}{e a b c tg iter l : Expr}{es : List Expr}{pos p : Pos}{d da db dc dl de : DE}{dA di : DA}{dt : DT}{fz : Bool}{x : Str}{k : Nat}{ps : List Str}{S : DSO}
theorem Sta.fresh0 {pn : List (D × V)}{M : Addr -> Prop}{b : Option Addr}{H : Hp}{σ : St}{ρ : Ev}{p : Addr}(s : Sta W pn M b H σ ρ)(h : H p = none) : W.H0 p = none /\ ¬ W.M0 p := by
  have hbp : b ≠ some p := fun z => by
    obtain ⟨o,e⟩ := W.B.dm p H (s.ok p z)
    rw [h] at e; cases e
  refine ⟨?_,fun z => s.toHs.new h (s.m0 p z)⟩
  cases q : W.H0 p with
  | none => rfl
  | some o =>
    by_cases z : W.b0 = some p
    · rcases s.new with y | ⟨y,_⟩
      · exact absurd (y.trans z) hbp
      · rw [y] at z; cases z
    · have := s.kp p o z q
      rw [h] at this; cases this
theorem ret_new {pn : List (D × V)}{M : Addr -> Prop}{b : Option Addr}{H : Hp}{σ : St}{ρ : Ev}{p : Addr}{E : Ends}{F : DEnds}{xs : List D}{vs : List V}(s : Sta W pn M b H σ ρ)(l : Link W pn E F)(h : H p = none)(r : Reps W.K M H xs vs)(hx : F.ro xs) : E.rt (.ref p) (upd H p (.lst vs)) := by
  obtain ⟨h0,m0⟩ := s.fresh0 h
  have s' := s.step (Kp.upd (o := HO.lst vs) h) (s.toHs.okU h)
  exact l.ro xs p vs _ hx h0 m0 upd_same (Reps.keep (fun c o _ e => Same.upd h c o e) _ _ (Reps.avoid (fun c z => z.elim (fun y => .inl (s.m0 c y)) fun y => .inr (by rw [y]; exact h)) _ _ r)) s'.kp s'.ok0
def dRetCat (da db : DE) : DS := fun F ρ => da ρ fun x => db ρ fun y => match asL x,asL y with
  | some xs,some ys => xs.length + ys.length <= 1000 /\ F.ro (xs ++ ys)
  | _,_ => False
theorem jds_retCat {opos : Pos}(ha : JE X W a da)(hb : JE X W b db)(h : PE X (.BinOp a .Add b opos) (tOp rCat (dn W da) (dn W db))) : JS X W (.Return (some (.BinOp a .Add b opos)) pos) (dRetCat da db) := ⟨(ps_ret h).mono fun E σ H hh => hh.elim fun pn M b ρ F s l h => by
  refine ⟨pn,M,b,ρ,_,s.toSta,h,fun x v H1 hx rx k1 o1 => ?_⟩
  refine ⟨pn,M,b,ρ,_,s.toSta.step k1 o1,hx,fun y u H2 hy ry k2 o2 => ?_⟩
  have s2 := (s.toSta.step k1 o1).step k2 o2
  have rx := rx.step s.bagM k2
  split at hy
  case h_2 => exact hy.elim
  case h_1 xs ys e1 e2 =>
    obtain ⟨a1,vs,rfl,h1,r1⟩ := asL.rep rx e1
    obtain ⟨a2,us,rfl,h2,r2⟩ := asL.rep ry e2
    exact ⟨a1,a2,vs,us,rfl,rfl,h1,h2,by rw [r1.length,r2.length]; exact Nat.le_trans hy.1 le1000,fun p hp => ret_new s2 l hp (Reps.append r1 r2) hy.2⟩⟩
mutual
def noL : D -> Bool
  | .tup xs => noLs xs
  | .lst _ => false
  | .own _ => false
  | .bag => false
  | .frg _ _ => false
  | .scr _ => false
  | .dct _ _ _ => false
  | .non => true
  | .bl _ => true
  | .int _ => true
  | .str _ => true
  | .ty _ => true
  | .adr _ => true
def noLs : List D -> Bool
  | [] => true
  | d :: ds => noL d && noLs ds
end
theorem noLs_all : ∀ {ds : List D},(∀ d ∈ ds,noL d = true) -> noLs ds = true
  | [],_ => by unfold noLs; rfl
  | d :: ds,h => by
    unfold noLs
    rw [h d (List.mem_cons_self ..),noLs_all fun e he => h e (List.mem_cons_of_mem _ he)]; rfl
section
variable {K : PySem.W.Frag}{M M' : Addr -> Prop}{H : Hp}
mutual
theorem Rep.unbor (k : ∀ c,M c -> M' c \/ ∃ o,H c = some o /\ ∀ vs,o ≠ .tup vs) : ∀ (d : D) (v : V),noL d = true -> Rep K M' H d v -> Rep K M H d v
  | .non,_,_,h => h
  | .bl _,_,_,h => h
  | .int _,_,_,h => h
  | .str _,_,_,h => h
  | .ty _,_,_,h => h
  | .adr _,_,_,h => h
  | .tup xs,v,n,h => by
    obtain ⟨a,vs,e,z,r⟩ := h
    refine ⟨a,vs,e,z.imp (fun q => ⟨fun m => ?_,q.2⟩) id,Reps.unbor k xs vs (by unfold noL at n; exact n) r⟩
    rcases k a m with y | ⟨us,y,nt⟩
    · exact q.1 y
    · rw [q.2] at y; cases y; exact nt _ rfl
  | .lst _,_,n,_ => by unfold noL at n; cases n
  | .own _,_,n,_ => by unfold noL at n; cases n
  | .bag,_,n,_ => by unfold noL at n; cases n
  | .frg _ _,_,n,_ => by unfold noL at n; cases n
  | .scr _,_,n,_ => by unfold noL at n; cases n
  | .dct _ _ _,_,n,_ => by unfold noL at n; cases n
theorem Reps.unbor (k : ∀ c,M c -> M' c \/ ∃ o,H c = some o /\ ∀ vs,o ≠ .tup vs) : ∀ (ds : List D) (vs : List V),noLs ds = true -> Reps K M' H ds vs -> Reps K M H ds vs
  | [],_,_,h => h
  | d :: ds,vs,n,h => by
    obtain ⟨v,r,e,h1,h2⟩ := h
    unfold noLs at n
    obtain ⟨n1,n2⟩ := (Bool.and_eq_true _ _).mp n
    exact ⟨v,r,e,Rep.unbor k d v n1 h1,Reps.unbor k ds r n2 h2⟩
end
end
def BorAt : List D -> List V -> Addr -> Prop
  | .own _ :: ds,v :: vs,c => v = .ref c \/ BorAt ds vs c
  | .frg f _ :: ds,_ :: vs,c => c ∈ f.ads \/ BorAt ds vs c
  | _ :: ds,_ :: vs,c => BorAt ds vs c
  | _,_,_ => False
theorem BorAt.lst {M : Addr -> Prop}{b : Option Addr}{H : Hp}{c : Addr} : ∀ (ds : List D) (vs : List V),RepXs W M b H ds vs -> BorAt ds vs c -> b ≠ some c /\ ∃ o,H c = some o /\ ∀ vs,o ≠ .tup vs
  | [],vs,h,q => by cases (show vs = [] from h); exact q.elim
  | d :: ds,vs,h,q => by
    obtain ⟨v,r,rfl,h1,h2⟩ := h
    cases d
    case own xs =>
      rcases q with z | z
      · obtain ⟨a,us,e,m1,m2,m3,m4,hh,r'⟩ := h1
        rw [z] at e; cases e
        exact ⟨m2,_,hh,fun _ y => by cases y⟩
      · exact BorAt.lst ds r h2 z
    case frg f d =>
      rcases q with z | z
      · exact ⟨(h1.1 c z).2.1,f.nt _ _ _ h1.2.1 c z⟩
      · exact BorAt.lst ds r h2 z
    all_goals exact BorAt.lst ds r h2 q
theorem RepXs.bor2 {M M' : Addr -> Prop}{b : Option Addr}{H : Hp}(sub : ∀ c,M' c -> M c) : ∀ (ds : List D) (vs : List V),(∀ c,BorAt ds vs c -> ¬ M' c) -> RepXs W M b H ds vs -> RepAs W.K M' b H (ds.map L2.bor) vs
  | [],_,_,h => h
  | d :: ds,vs,nb,h => by
    obtain ⟨v,r,rfl,h1,h2⟩ := h
    have av : ∀ c,M' c -> M c \/ H c = none := fun c hc => .inl (sub c hc)
    have nb2 : ∀ c,BorAt ds r c -> ¬ M' c := fun c hc => nb c (by cases d <;> first | exact hc | exact .inr hc)
    refine ⟨v,r,rfl,?_,RepXs.bor2 sub ds r nb2 h2⟩
    cases d
    case own xs =>
      obtain ⟨a,us,rfl,m1,m2,m3,m4,hh,r'⟩ := h1
      exact ⟨a,us,rfl,⟨nb a (.inl rfl),hh⟩,Reps.avoid av _ _ r'⟩
    case bag => exact h1
    case frg f d =>
      have r := Rep.avoid (M' := M') (fun c hc => .inl ⟨sub c hc,fun m => nb c (.inl m) hc⟩) _ _ h1.2.2
      show RepA W.K _ b H d v
      cases d <;> first | exact r | exact r.elim
    all_goals exact Rep.avoid av _ _ h1
theorem call_own {pn : List (D × V)}{M : Addr -> Prop}{b : Option Addr}{H1 : Hp}{σ : St}{ρ : Ev}{xs : List D}{vs : List V}{P : List D -> Prop}{Q : VK}(st1 : Sta W pn M b H1 σ ρ)(rx : RepXs W M b H1 xs vs)(hS : S (xs.map bor) (fun ys => noLs ys = true /\ P ys) (fun _ => False))
    (k : ∀ ys a us H',P ys -> H1 a = none -> H' a = some (.lst us) -> Reps W.K M H' ys us -> Kp b H1 H' -> okB W.B b H' -> Q (.ref a) H') : liftSpO W.K W.B S vs H1 Q E0 := by
  refine ⟨fun c => M c /\ ¬ BorAt xs vs c,b,xs.map bor,_,fun _ => False,hS,RepXs.bor2 (fun c h => h.1) _ _ (fun c h z => z.2 h) rx,st1.ok,fun p h => ⟨st1.bagM p h,fun z => (BorAt.lst xs vs rx z).1 h⟩,fun c hc => st1.dom c hc.1,fun ys a us H' hp h0 hh r k2 o2 => ?_,fun C H' hC => hC.elim⟩
  refine k ys a us H' hp.2 h0 hh (Reps.unbor (fun c m => ?_) _ _ hp.1 (Reps.avoid (fun c m => .inl (.inl m)) _ _ r)) k2 o2
  by_cases z : BorAt xs vs c
  · obtain ⟨nb,us',e,nt⟩ := BorAt.lst xs vs rx z
    exact .inr ⟨us',k2 c _ nb e,nt⟩
  · exact .inl ⟨m,z⟩
def dCallO (S : DSO)(dA : DA) : DE := fun ρ P => dA ρ fun ds => S (ds.map bor) (fun ys => noLs ys = true /\ P (.lst ys)) (fun _ => False)
theorem jde_ownO (G : Callee X.prog X.w X.K X.mg X.base CX0 x k ps (liftSpO W.K W.B S))(hr : Room k X.A)(hg : Gl X x)(ha : JA X W (e :: es) dA)(hdb : (x == ("__debug__" : Str)) = false := by decide) (he : starEach (e :: es) X.env = (false,eval e X.env) :: starEach es X.env := by rfl) (hpl : (backTo pos (starEach es X.env)).any (·.1) = false := by rfl) :
    JE X W (.Call (.Name x p) (e :: es) [] pos) (dCallO S dA) := ⟨(pe_own G hr hg ha.h hdb he hpl).mono fun σ H Q hh => hh.elim fun pn M b ρ P st h k => by
  refine ⟨pn,M,b,ρ,_,st,h,fun xs vs H1 hx rx k1 o1 => ?_⟩
  have st1 := st.step k1 o1
  show liftSpO W.K W.B S (vs ++ []) H1 Q E0
  rw [List.append_nil]
  exact call_own (P := fun ys => P (.lst ys)) st1 rx hx fun ys a us H' hp h0 hh r k2 o2 => k _ _ H' hp ⟨a,us,rfl,⟨st1.toHs.new h0,hh⟩,r⟩ (k1.trans k2) o2⟩
end
end L2
set_option Elab.async false
set_option linter.all false
set_option maxRecDepth 100000
set_option maxHeartbeats 4000000
namespace L2
open PySem PySem.Spec PyProof.Rows
end L2
set_option Elab.async false
set_option linter.all false
set_option maxRecDepth 100000
set_option maxHeartbeats 4000000
namespace L2
open PySem PySem.Spec PyProof.Rows
section
variable {X : Cx}{W : Wd}{e a b st : Expr}{pos : Pos}{d da db de ds : DE}{dA : DA}
end
end L2
set_option Elab.async false
set_option linter.all false
set_option maxRecDepth 100000
set_option maxHeartbeats 4000000
namespace L2
open PySem PySem.Spec PyProof.Rows
section
variable {X : Cx}{W : Wd}{pos : Pos}{de : DE}{di : DA}{dt : DT}
end
end L2
set_option Elab.async false
set_option linter.all false
set_option maxRecDepth 100000
set_option maxHeartbeats 4000000
namespace L2
open PySem PySem.Spec PyProof.Rows
section
variable {X : Cx}{W : Wd}{e a b c tg iter l : Expr}{es : List Expr}{pos p : Pos}{d da db dc dl de : DE}{dA di : DA}{dt : DT}{fz : Bool}{x : Str}{k : Nat}{ps : List Str}{S : DSO}
end
section
variable {X : Cx}{W : Wd}{tg : Expr}{pos npos : Pos}
end
end L2
set_option Elab.async false
set_option linter.all false
set_option maxRecDepth 100000
set_option maxHeartbeats 4000000
namespace L2
open PySem PySem.Spec PyProof.Rows
section
variable {prog : Program}{w : World}{A : Around}{E : Value -> Shared -> Prop}{s : Shared}{l : Addr}{xs : Array (Int × Tok)}
end
section
variable {X : Cx}
end
section
variable {W : Wd}
end
end L2
set_option Elab.async false
set_option linter.all false
set_option maxRecDepth 100000
set_option maxHeartbeats 4000000
namespace L2
open PySem PySem.Spec PyProof.Rows
section
variable {X : Cx}{W : Wd}{pos : Pos}{dA : DA}
end
section
variable {X : Cx}{W : Wd}{a b : Expr}{pos : Pos}{da db : DE}
end
end L2
set_option Elab.async false
set_option linter.all false
set_option maxRecDepth 100000
set_option maxHeartbeats 4000000
namespace L2
open PySem PySem.Spec PyProof.Rows
section
variable {κ : Type}[DecidableEq κ]
def valV (kvs : List (κ × V))(k : κ) : Option V := (kvs.find? fun kv => decide (kv.1 = k)).map (·.2)
def putK (kvs : List (κ × V))(k : κ)(v : V) : List (κ × V) :=
  if (kvs.any fun kv => decide (kv.1 = k)) = true then kvs.map (fun kv => if kv.1 = k then (kv.1,v) else kv) else kvs ++ [(k,v)]
theorem KV.length {kvs : List (κ × V)}{vs : List (κ × Value)}(r : KV kvs vs) : kvs.length = vs.length := Paired.length r
end
section
variable {P : Program}{w : World}{H : Hp}{h : Heap}{a : Addr}
end
def DGet (H : Hp)(a : Addr)(y : V)(r : Option V) : Prop :=
  (∃ kvs k,Rd H a (.dK kvs) /\ y = kV k /\ r = valV kvs k) \/ ∃ kvs k b,Rd H a (.dT kvs) /\ y = .ref b /\ H b = some (.tup (k.map kV)) /\ r = valV kvs k
def DPut (H : Hp)(a : Addr)(y v : V)(H' : Hp) : Prop :=
  (∃ kvs k,H a = some (.dK kvs) /\ y = kV k /\ kvs.length < sizeLine /\ H' = upd H a (.dK (putK kvs k v))) \/
  ∃ kvs k b,H a = some (.dT kvs) /\ y = .ref b /\ H b = some (.tup (k.map kV)) /\ kvs.length < sizeLine /\ H' = upd H a (.dT (putK kvs k v))
theorem DGet.k {H : Hp}{a : Addr}{kvs : List (Key × V)}{k : Key}(e : H a = some (.dK kvs)) : DGet H a (kV k) (valV kvs k) := .inl ⟨kvs,k,.inl e,rfl,rfl⟩
theorem DGet.t {H : Hp}{a b : Addr}{kvs : List (List Key × V)}{k : List Key}(e : H a = some (.dT kvs))(eb : H b = some (.tup (k.map kV))) : DGet H a (.ref b) (valV kvs k) := .inr ⟨kvs,k,b,.inl e,rfl,eb,rfl⟩
theorem DPut.k {H : Hp}{a : Addr}{kvs : List (Key × V)}{k : Key}{v : V}(e : H a = some (.dK kvs))(hl : kvs.length < sizeLine) : DPut H a (kV k) v (upd H a (.dK (putK kvs k v))) := .inl ⟨kvs,k,e,rfl,hl,rfl⟩
theorem DPut.t {H : Hp}{a b : Addr}{kvs : List (List Key × V)}{k : List Key}{v : V}(e : H a = some (.dT kvs))(eb : H b = some (.tup (k.map kV)))(hl : kvs.length < sizeLine) :
    DPut H a (.ref b) v (upd H a (.dT (putK kvs k v))) := .inr ⟨kvs,k,b,e,rfl,eb,hl,rfl⟩
section
variable {X : Cx}{pins : List (Addr × Obj)}{σ : St}{H : Hp}{s : Shared}{a : Addr}{y v : V}{u r : Value}{o : Option V}{A : Around}{E : Value -> Shared -> Prop}
end
section
variable {X : Cx}{pins : List (Addr × Obj)}{σ : St}{H : Hp}{s : Shared}{a : Addr}{kvs : List (Key × V)}{k : Key}{u : Value}{A : Around}{E : Value -> Shared -> Prop}
end
section
variable {X : Cx}{o i e value : Expr}{pos pos' tpos : Pos}{td ty tv : TE}
end
section
variable {X : Cx}{pos : Pos}
end
structure M2 (X : Cx)(o : Expr)(m : Str)(apos : Pos)(e f : Expr)(cpos : Pos) : Prop where
  base : attributeBase o m X.env (eval o X.env) = eval o X.env
  few : ((backTo cpos (starEach [e,f] X.env)).all (fun x => !x.1) && (backToKw cpos (keywordEach [] X.env)).all (fun x => x.1.isSome)
    && decide (([e,f] : List Expr).length + ([] : List Keyword).length + (if ([] : List Keyword).isEmpty then 0 else 1) < 30)) = true
  line : (apos.endLine == cpos.line) = true
  trees : backTo cpos (starEach [e,f] X.env) = [(false,eval e X.env),(false,eval f X.env)]
section
variable {X : Cx}{pins : List (Addr × Obj)}{σ : St}{H : Hp}{s : Shared}{a : Addr}{y d : V}{u r : Value}{o : Option V}{A : Around}{E : Value -> Shared -> Prop}
end
section
variable {X : Cx}{o e f : Expr}{apos cpos : Pos}{td ty tx : TE}
end
section
variable {X : Cx}{pins : List (Addr × Obj)}{σ : St}{H : Hp}{s : Shared}{a : Addr}{kvs : List (Key × V)}{A : Around}{E : Value -> Shared -> Prop}
end
section
variable {X : Cx}{pins : List (Addr × Obj)}{σ : St}{H : Hp}{s : Shared}{a : Addr}{y : V}{u : Value}{A : Around}{E : Value -> Shared -> Prop}
end
end L2
set_option Elab.async false
set_option linter.all false
set_option maxRecDepth 100000
set_option maxHeartbeats 4000000
namespace L2
open PySem PySem.Spec PyProof.Rows
section
variable {X : Cx}{pins : List (Addr × Obj)}{σ : St}{H : Hp}{s : Shared}{a b : Addr}{v : V}{u r : Value}{A : Around}{E : Value -> Shared -> Prop}
end
end L2
set_option Elab.async false
set_option linter.all false
set_option maxRecDepth 100000
set_option maxHeartbeats 4000000
namespace L2
open PySem PySem.Spec PyProof.Rows
abbrev Ens := List (List Int × Addr × Value)
abbrev tiK (P : Program)(w : World) := tupleKind (intKind P w)
theorem int_items {P : Program}{w : World} : ∀ {ns : List Int} {us : List Value},Vals (ns.map V.int) us -> ItemsAre (intKind P w) ns us
  | [],_,h => by cases h; exact .nil
  | n :: ns,_,h => by
    cases h with
    | cons h t =>
      obtain ⟨t',rfl⟩ := h
      exact .cons (by simp [intKind,Value.isInt]) (int_items t)
section
variable {X : Cx}{pins : List (Addr × Obj)}{σ : St}{H : Hp}{s : Shared}{a b : Addr}{es : Ens}{ep : Nat}{ns : List Int}
theorem Inv.tkey (I : Inv X pins σ H s)(h : SqT X.K H b (ns.map V.int)) : (tiK X.prog X.w).is s.heap ns b := by
  obtain ⟨its,r,⟨o,h1,h2,n,h3⟩,_⟩ := I.tuple h
  exact ⟨o,its.toArray,n,h1,h2,h3,int_items r⟩
end
section
variable {X : Cx}{pins : List (Addr × Obj)}{σ : St}{H : Hp}{s : Shared}{a b : Addr}{es : Ens}{ep : Nat}{ns : List Int}{A : Around}{E : Value -> Shared -> Prop}{r : Value}
end
end L2
set_option Elab.async false
set_option linter.all false
set_option maxRecDepth 100000
set_option maxHeartbeats 4000000
namespace L2
open PySem PySem.Spec PyProof.Rows
local macro_rules | `(tactic| walk_at "un stored") => do let n := Lean.mkIdent (Lean.mkPrivateNameCore `PySem.SetOps `PySem.storedHashAt); `(tactic| unfold $n)
abbrev TK := List Int × Addr
abbrev thash (prog : Program)(w : World)(k : List Int) : Int := (tiK prog w).hash k
structure TS0 (prog : Program)(w : World)(xs : List TK)(o : Obj)(es : Array (Int × Value))(ep : Nat)(t : SetTable) : Prop where
  ex : o.ExactSet
  da : o.data = .set es ep t
  el : es.toList = xs.map fun x => (thash prog w x.1,Value.ref x.2)
  nd : (xs.map (·.1)).Nodup
  rt : RT t es
  led : w.params.followText "set-order" = false -> t.led = true
  ft : t.fits es.size = true
structure TSo (prog : Program)(w : World)(h : Heap)(xs : List TK)(o : Obj)(es : Array (Int × Value))(ep : Nat)(t : SetTable) : Prop extends TS0 prog w xs o es ep t where
  is : ∀ x ∈ xs,(tiK prog w).is h x.1 x.2
section
variable {prog : Program}{w : World}{A : Around}{E : Value -> Shared -> Prop}{s : Shared}{xs : List TK}{a b : Addr}{o : Obj}{es : Array (Int × Value)}{ep : Nat}{t : SetTable}{k : List Int}
theorem TSo.at (T : TSo prog w s.heap xs o es ep t){i : Nat}{e : Int × Value}(h : es[i]? = some e) : ∃ x,xs[i]? = some x /\ e = (thash prog w x.1,.ref x.2) /\ (tiK prog w).is s.heap x.1 x.2 := by
  rw [<- Array.getElem?_toList,T.el,List.getElem?_map] at h
  obtain ⟨x,ex,rfl⟩ := Option.map_eq_some_iff.mp h
  exact ⟨x,ex,rfl,T.is x (List.mem_of_getElem? ex)⟩
theorem classless {Q : Bool -> Shared -> Prop}(kb : (tiK prog w).is s.heap k b)(h : Q false s) : wpAny (model prog w) A (ofAClassStatement 8 (.ref b)) Q E s := by
  have hT := IsTupleKey.typeIs kb
  obtain ⟨o,items,n,ho,hc,hd,hi⟩ := kb
  unfold ofAClassStatement
  refine wpAny_bind (wpAny_typeOf hT ?_)
  dsimp only
  refine wpAny_bind (wpAny_pure ?_)
  simp only [Bool.not_true,Bool.false_eq_true,if_false]
  refine wpAny_bind (wpAny_seqItems ho hd ?_)
  dsimp only
  refine wpAny_bind ?_
  rw [<- Array.forIn_toList]
  refine wpAny_forIn_list _ (fun rest r s' => r.1 = none /\ s' = s /\ ∃ ks,ItemsAre (intKind prog w) ks rest) _ ?_ ?_ _ _ ⟨rfl,rfl,_,hi⟩
  · rintro v rest r s' ⟨hr,rfl,ks,hall⟩
    cases hall with
    | @cons k1 _ ks1 _ h1 h2 =>
      obtain ⟨t,rfl⟩ := Value.isInt_shape (show Value.isInt k1 v = true from h1)
      unfold ofAClassStatement
      refine wpAny_bind (wpAny_pure ?_)
      simp only [Bool.false_eq_true,if_false]
      exact wpAny_pure ⟨rfl,rfl,ks1,h2⟩
  · rintro ⟨r1,r2⟩ s' ⟨hr,rfl,_⟩
    simp only at hr
    subst hr
    exact wpAny_pure h
theorem unseen {ys : List Value}{Q : Bool -> Shared -> Prop}(kb : (tiK prog w).is s.heap k b)(hy : ∀ y ∈ ys,∃ k c,y = .ref c /\ (tiK prog w).is s.heap k c)(h : Q false s) : wpAny (model prog w) A (searchCouldBeSeen (.ref b) ys) Q E s := by
  unfold searchCouldBeSeen
  refine wpAny_bind ?_
  refine wpAny_forIn_list _ (fun rest r s' => r.1 = none /\ s' = s /\ ∀ y ∈ rest,∃ k c,y = .ref c /\ (tiK prog w).is s.heap k c) _ ?_ ?_ _ _ ⟨rfl,rfl,hy⟩
  · rintro v rest r s' ⟨hr,rfl,hall⟩
    obtain ⟨k',c,rfl,kc⟩ := hall v (List.mem_cons_self ..)
    have hr2 : ∀ y ∈ rest,∃ k c,y = Value.ref c /\ (tiK prog w).is s'.heap k c := fun y hy => hall y (List.mem_cons_of_mem _ hy)
    dsimp only
    refine wpAny_ite ?_
    split
    · exact wpAny_pure ⟨rfl,rfl,hr2⟩
    · refine wpAny_bind ((tiK prog w).quiet kb ?_)
      simp only [Bool.not_true,Bool.false_eq_true,if_false]
      refine wpAny_bind ((tiK prog w).quiet kc ?_)
      simp only [Bool.not_true,Bool.false_eq_true,if_false]
      refine wpAny_bind (classless kb ?_)
      simp only [Bool.false_eq_true,if_false]
      refine wpAny_bind (classless kc ?_)
      simp only [Bool.false_eq_true,if_false]
      exact wpAny_pure ⟨rfl,rfl,hr2⟩
  · rintro ⟨r1,r2⟩ s' ⟨hr,rfl,_⟩
    simp only at hr
    subst hr
    exact wpAny_pure h
theorem same_self {b : Addr}{Q : Bool -> Shared -> Prop}(h : Q true s) : wpAny (model prog w) A (isSame (.ref b) (.ref b)) Q E s := by
  unfold isSame
  dsimp only
  rw [if_pos (beq_self_eq_true b)]
  exact wpAny_pure h
theorem tset_fromA {ad : Bool}{N : Nat}{Q : SetFound -> Shared -> Prop}(hu : A.units < cLine)(g : s.heap.get? a = some o)(T : TSo prog w s.heap xs o es ep t)(kb : (tiK prog w).is s.heap k b)
    (eN : t.slot (posM t.mask (thash prog w k) N) = .empty) (oN : ∀ m,m < N -> t.slot (posM t.mask (thash prog w k) m) ≠ .empty)
    (yes : ∀ r,k ∈ xs.map (·.1) -> (ad = false -> r ≠ none) -> Q (.there r) s) (no : k ∉ xs.map (·.1) -> Q (.free (posM t.mask (thash prog w k) N) false) s) :
    ∀ (fuel n : Nat) (stand : Option SetTable.Probe),stand.getD (t.probeStart (thash prog w k)) = sqM t.mask (thash prog w k) n -> n <= N -> N - n < fuel ->
      (∀ i x,xs[i]? = some x -> x.1 = k -> ∃ c,n <= c /\ c < N /\ t.slot (posM t.mask (thash prog w k) c) = .live i) ->
      wpAny (model prog w) A (setSearchFrom a (.ref b) (thash prog w k) ad fuel stand) Q E s
  | 0,n,stand,_,h1,h2,_ => by omega
  | fuel + 1,n,stand,hst,h1,h2,hk => by
    have gw : t.gaveWay = false := by
      unfold SetTable.gaveWay
      rcases T.rt.msk with e | e | e <;> rw [e] <;> rfl
    have bound : N - n < 10 * SetTable.turns t.mask := by
      obtain ⟨N',l,e',o'⟩ := T.rt.end (thash prog w k)
      have : N = N' := by
        rcases Nat.lt_trichotomy N N' with z | z | z
        · exact absurd eN (o' N z)
        · exact z
        · exact absurd e' (oN N' z)
      unfold SetTable.turns
      omega
    unfold setSearchFrom
    walk_at "un stored"
    refine wpAny_bind (wpAny_setState_of g T.da T.ft ?_)
    dsimp only
    rw [gw]
    simp only [Bool.false_eq_true,if_false]
    refine wpAny_bind (wpAny_pure ?_)
    rw [hst]
    have pf := probe_from (ha := fun i => ((es[i]?).map (·.1)).getD 0) (h := thash prog w k) T.rt.dum eN oN (10 * SetTable.turns t.mask) n h1 bound
    rcases pf with ⟨e,none_⟩ | ⟨m,i,m1,m2,sl,hi,e,early⟩
    · have e' : t.probe (fun i => ((es[i]?).map (·.1)).getD 0) (thash prog w k) (sqM t.mask (thash prog w k) n) = some (.empty (posM t.mask (thash prog w k) N) none) := e
      rw [e']
      dsimp only
      refine wpAny_pure (no fun hm => ?_)
      obtain ⟨x,hx,ek⟩ := List.mem_map.mp hm
      obtain ⟨i,ei⟩ := List.getElem?_of_mem hx
      obtain ⟨c,c1,c2,c3⟩ := hk i x ei ek
      refine none_ c i c1 c2 c3 ?_
      have : es[i]? = some (thash prog w x.1,Value.ref x.2) := by rw [<- Array.getElem?_toList,T.el,List.getElem?_map,ei]; rfl
      show ((es[i]?).map (·.1)).getD 0 = _
      rw [this,<- ek]
      rfl
    · have e' : t.probe (fun i => ((es[i]?).map (·.1)).getD 0) (thash prog w k) (sqM t.mask (thash prog w k) n) = some (.candidate (posM t.mask (thash prog w k) m) i (sqM t.mask (thash prog w k) (m + 1))) := e
      rw [e']
      dsimp only
      obtain ⟨i',si,ep'⟩ := slot_not T.rt.dum (oN m m2)
      rw [sl] at si
      cases si
      have il : i < es.size := by rw [<- T.rt.siz]; exact (Array.getElem?_eq_some_iff.mp ep').1
      have ee : es[i]? = some es[i] := Array.getElem?_eq_getElem il
      obtain ⟨x,exi,ex,kx⟩ := T.at ee
      rw [ex] at ee
      have more : wpAny (model prog w) A (do
          let some (_,y) := es[i]? | unsupported "internal:set-entry"
          let equal <- holding [y] (eqBool y (.ref b))
          let (es',_,t') <- setState a
          if ad && equal then return SetFound.there none
          let some same := t'.sameMemory t.moves t.mask | unsupported "set.changed-during-lookup:is-the-new-block-at-the-old-address"
          let still <- match (if same then t'.slot (posM t.mask (thash prog w k) m) else .empty) with
            | .live i' => match es'[i']? with
              | some (_,y') => do pure (if <- isSame y' y then some i' else none)
              | none => pure none
            | _ => pure none
          match still with
          | none => do rule "set.search.anew"; setSearchFrom a (.ref b) (thash prog w k) ad fuel none
          | some i' => if equal then return .there (some i') else setSearchFrom a (.ref b) (thash prog w k) ad fuel (some (sqM t.mask (thash prog w k) (m + 1)))) Q E s := by
        rw [ee]
        dsimp only
        refine wpAny_bind (wpAny_holding ((tiK prog w).eqBool hu kx kb ?_))
        refine wpAny_bind (wpAny_setState_of g T.da T.ft ?_)
        dsimp only
        by_cases z : x.1 = k
        · rw [decide_eq_true z]
          have mm := List.mem_map.mpr ⟨x,List.mem_of_getElem? exi,z⟩
          cases ad
          · simp only [Bool.and_true,Bool.false_eq_true,if_false]
            have sm : t.sameMemory t.moves t.mask = some true := by unfold SetTable.sameMemory; rw [if_pos (beq_self_eq_true _)]
            refine wpAny_bind (wpAny_pure ?_)
            rw [sm]
            dsimp only
            rw [if_pos rfl,sl]
            dsimp only
            rw [ee]
            dsimp only
            refine wpAny_bind (same_self (wpAny_bind (wpAny_pure ?_)))
            simp only [if_true]
            exact wpAny_pure (yes _ mm fun _ => by simp)
          · exact wpAny_pure (yes _ mm fun h => by cases h)
        · rw [decide_eq_false z]
          simp only [Bool.and_false,Bool.false_eq_true,if_false]
          have sm : t.sameMemory t.moves t.mask = some true := by unfold SetTable.sameMemory; rw [if_pos (beq_self_eq_true _)]
          refine wpAny_bind (wpAny_pure ?_)
          rw [sm]
          dsimp only
          rw [if_pos rfl,sl]
          dsimp only
          rw [ee]
          dsimp only
          refine wpAny_bind (same_self (wpAny_bind (wpAny_pure ?_)))
          simp only [if_true]
          refine tset_fromA hu g T kb eN oN yes no fuel (m + 1) _ rfl (by omega) (by omega) fun i2 x2 e2 ek => ?_
          obtain ⟨c,c1,c2,c3⟩ := hk i2 x2 e2 ek
          refine ⟨c,?_,c2,c3⟩
          rcases Nat.lt_trichotomy c m with y | y | y
          · exfalso
            refine early c i2 c1 y c3 ?_
            have : es[i2]? = some (thash prog w x2.1,Value.ref x2.2) := by rw [<- Array.getElem?_toList,T.el,List.getElem?_map,e2]; rfl
            show ((es[i2]?).map (·.1)).getD 0 = _
            rw [this,<- ek]
            rfl
          · exfalso
            rw [y,sl] at c3
            cases c3
            rw [exi] at e2
            cases e2
            exact z ek
          · omega
      cases tl : t.led
      · simp only [Bool.not_false,if_true]
        refine wpAny_bind (unseen kb (fun y hy => ?_) ?_)
        · obtain ⟨q,hq,rfl⟩ := List.mem_map.mp hy
          have hq := (Array.mem_toList_iff.mp hq)
          obtain ⟨hq,_⟩ := Array.mem_filter.mp hq
          have hq := Array.mem_toList_iff.mpr hq
          rw [T.el] at hq
          obtain ⟨x',hx',rfl⟩ := List.mem_map.mp hq
          exact ⟨x'.1,x'.2,rfl,T.is x' hx'⟩
        · simp only [Bool.false_eq_true,if_false]
          exact wpAny_bind (wpAny_pure more)
      · simp only [Bool.not_true,Bool.false_eq_true,if_false]
        exact wpAny_bind (wpAny_pure more)
theorem tset_from {N : Nat}{Q : SetFound -> Shared -> Prop}(hu : A.units < cLine)(g : s.heap.get? a = some o)(T : TSo prog w s.heap xs o es ep t)(kb : (tiK prog w).is s.heap k b)
    (eN : t.slot (posM t.mask (thash prog w k) N) = .empty) (oN : ∀ m,m < N -> t.slot (posM t.mask (thash prog w k) m) ≠ .empty)
    (yes : ∀ r,k ∈ xs.map (·.1) -> Q (.there r) s) (no : k ∉ xs.map (·.1) -> Q (.free (posM t.mask (thash prog w k) N) false) s) :
    ∀ (fuel n : Nat) (stand : Option SetTable.Probe),stand.getD (t.probeStart (thash prog w k)) = sqM t.mask (thash prog w k) n -> n <= N -> N - n < fuel ->
      (∀ i x,xs[i]? = some x -> x.1 = k -> ∃ c,n <= c /\ c < N /\ t.slot (posM t.mask (thash prog w k) c) = .live i) ->
      wpAny (model prog w) A (setSearchFrom a (.ref b) (thash prog w k) true fuel stand) Q E s := tset_fromA hu g T kb eN oN (fun r m _ => yes r m) no
end
end L2
set_option Elab.async false
set_option linter.all false
set_option maxRecDepth 100000
set_option maxHeartbeats 4000000
namespace L2
open PySem PySem.Spec PyProof.Rows
def iv : Value -> Int
  | .int n _ => n
  | _ => 0
abbrev nums (es : Array (Int × Value)) : List Int := es.toList.map fun e => iv e.2
structure ISo (prog : Program)(w : World)(ns : List Int)(o : Obj)(es : Array (Int × Value))(ep : Nat)(t : SetTable) : Prop where
  ex : o.ExactSet
  da : o.data = .set es ep t
  el : ElemsOf (intKind prog w) es.toList
  nd : (nums es).Nodup
  me : ∀ z,z ∈ nums es ↔ z ∈ ns
  sz : es.size <= ns.length
  ft : t.fits es.size = true
  tb : Tb w t
structure WSo (w : World)(o : Obj)(es : Array (Int × Value))(ep : Nat)(t : SetTable) : Prop where
  ex : o.ExactSet
  da : o.data = .set es ep t
  ft : t.fits es.size = true
  tb : Tb w t
theorem ISo.w {prog : Program}{w : World}{ns : List Int}{o : Obj}{es : Array (Int × Value)}{ep : Nat}{t : SetTable}(I : ISo prog w ns o es ep t) : WSo w o es ep t := ⟨I.ex,I.da,I.ft,I.tb⟩
section
variable {prog : Program}{w : World}{A : Around}{E : Value -> Shared -> Prop}{s : Shared}{ns : List Int}{a : Addr}
theorem put_get {h : Heap}{o : Obj}{es es' : Array (Int × Value)}{ep : Nat}{t t' : SetTable}(g : h.get? a = some o)(d : o.data = .set es ep t) : (h.update a (Obj.putSet es' t')).get? a = some { o with data := .set es' (ep + 1) t' } := by
  have q := Heap.get?_update_self (Obj.putSet es' t') g (by rw [putSet_of es' t' d]; rfl)
  rwa [putSet_of es' t' d] at q
end
end L2
set_option Elab.async false
set_option linter.all false
set_option maxRecDepth 100000
set_option maxHeartbeats 4000000
namespace L2
open PySem PySem.Spec PyProof.Rows
local macro_rules | `(tactic| walk_at "un reordered") => do let n := Lean.mkIdent (Lean.mkPrivateNameCore `PySem.SetOps `PySem.reordered); `(tactic| unfold $n)
theorem perm_map {α β : Type}(f : α -> β){l m : List β}(p : l.Perm m) : ∀ xs : List α,m = xs.map f -> ∃ ys : List α,ys.Perm xs /\ l = ys.map f := by
  induction p with
  | nil => intro xs e; exact ⟨xs,List.Perm.refl _,e⟩
  | cons x _ ih =>
    intro xs e
    cases xs with
    | nil => cases e
    | cons y ys =>
      rw [List.map_cons,List.cons.injEq] at e
      obtain ⟨zs,p,q⟩ := ih ys e.2
      exact ⟨y :: zs,p.cons _,by rw [List.map_cons,<- q,e.1]⟩
  | swap x y l =>
    intro xs e
    match xs,e with
    | a :: b :: ys,e =>
      rw [List.map_cons,List.map_cons,List.cons.injEq,List.cons.injEq] at e
      exact ⟨b :: a :: ys,List.Perm.swap ..,by rw [List.map_cons,List.map_cons,e.1,e.2.1,e.2.2]⟩
  | trans _ _ h1 h2 =>
    intro xs e
    obtain ⟨ys,p,q⟩ := h2 xs e
    obtain ⟨zs,p',q'⟩ := h1 ys q
    exact ⟨zs,p'.trans p,q'⟩
def TSt (prog : Program)(w : World)(kas : List TK)(a : Addr)(h : Heap) : Prop := ∃ o xs es ep t,h.get? a = some o /\ TS0 prog w xs o es ep t /\ (∀ x ∈ xs,x ∈ kas) /\ (∀ x ∈ kas,x.1 ∈ xs.map (·.1)) /\ es.size * 5 < t.mask * 3
section
variable {prog : Program}{w : World}{A : Around}{E : Value -> Shared -> Prop}{s : Shared}{xs : List TK}{a b : Addr}{o : Obj}{es : Array (Int × Value)}{ep : Nat}{t : SetTable}{k : List Int}{kas : List TK}
theorem hash_val {Q : Bool -> Shared -> Prop}(kb : (tiK prog w).is s.heap k b)(h : Q true s) : wpAny (model prog w) A (hashByValue 8 (.ref b)) Q E s := by
  have hT := IsTupleKey.typeIs kb
  obtain ⟨o,items,n,ho,hc,hd,hi⟩ := kb
  unfold hashByValue
  refine wpAny_bind (wpAny_specialOf hT PySem.F.slot_tuple_hash.lookup ?_)
  dsimp only
  refine wpAny_bind (wpAny_seqItems ho hd ?_)
  show wpAny _ _ (forIn items _ _ >>= _) _ _ s
  refine wpAny_bind ?_
  rw [<- Array.forIn_toList]
  refine wpAny_forIn_list _ (fun rest r s' => r.1 = none /\ s' = s /\ ∃ ks,ItemsAre (intKind prog w) ks rest) _ ?_ ?_ _ _ ⟨rfl,rfl,_,hi⟩
  · rintro v rest r s' ⟨hr,rfl,ks,hall⟩
    cases hall with
    | @cons k1 _ ks1 _ h1 h2 =>
      obtain ⟨t,rfl⟩ := Value.isInt_shape (show Value.isInt k1 v = true from h1)
      unfold hashByValue
      refine wpAny_bind (wpAny_pure ?_)
      simp only [Bool.not_true,Bool.false_eq_true,if_false]
      exact wpAny_pure ⟨rfl,rfl,ks1,h2⟩
  · rintro ⟨r1,r2⟩ s' ⟨hr,rfl,_⟩
    simp only at hr
    subst hr
    exact wpAny_pure h
theorem grow7 : SetTable.sizeAbove (SetTable.grown 5) - 1 = 31 := by decide +kernel
theorem grow31 : SetTable.sizeAbove (SetTable.grown 19) - 1 = 127 := by decide +kernel
theorem setAdd_t {Q : Bool -> Shared -> Prop}(hr : (tiK prog w).room A)(hS : TSt prog w kas a s.heap)(hl : kas.length <= 70)(his : ∀ x ∈ kas,(tiK prog w).is s.heap x.1 x.2)(kb : (tiK prog w).is s.heap k b)
    (fin : ∀ r h' tk,s.toks <= tk -> Heap.SameBut a s.heap h' -> TSt prog w (kas ++ [(k,b)]) a h' -> Q r { s with heap := h',toks := tk }) : wpAny (model prog w) A (setAdd a (.ref b)) Q E s := by
  obtain ⟨o,xs,es,ep,t,g,T0,sub,cov,nf⟩ := hS
  have T : TSo prog w s.heap xs o es ep t := ⟨T0,fun x hx => his x (sub x hx)⟩
  have ln : xs.length <= kas.length := by
    have := sub_len (xs.map (·.1)) (kas.map (·.1)) T.nd fun z hz => by
      obtain ⟨x,hx,rfl⟩ := List.mem_map.mp hz
      exact List.mem_map.mpr ⟨x,sub x hx,rfl⟩
    rwa [List.length_map,List.length_map] at this
  unfold setAdd
  refine wpAny_holding (wpAny_bind ((tiK prog w).pyHash hr kb ?_))
  generalize hs1 : ({ s with toks := s.toks + (tiK prog w).draws k } : Shared) = s1
  have g1 : s1.heap.get? a = some o := by rw [<- hs1]; exact g
  have T1 : TSo prog w s1.heap xs o es ep t := by rw [<- hs1]; exact T
  have kb1 : (tiK prog w).is s1.heap k b := by rw [<- hs1]; exact kb
  have fin' : ∀ r h',Heap.SameBut a s1.heap h' -> TSt prog w (kas ++ [(k,b)]) a h' -> Q r { s1 with heap := h' } := fun r h' x y => by
    subst hs1
    exact fin r h' _ (Nat.le_add_right _ _) x y
  unfold setAddHashed setAddHashedIn
  refine wpAny_holding (wpAny_bind (wpAny_setState_of g1 T.da T.ft ?_))
  dsimp only
  rw [show byScan (.ref b) es = false by unfold byScan; rfl]
  simp only [Bool.false_eq_true,if_false]
  obtain ⟨N,Nl,eN,oN⟩ := T.rt.end (thash prog w k)
  have nb : N < 100000 := by
    rcases T.rt.msk with e | e | e <;> rw [e] at Nl <;> omega
  unfold setSearch
  refine wpAny_bind (tset_from (N := N) hr g1 T1 kb1 eN oN (fun _ yes => ?_) (fun no => ?_) 100000 0 none rfl (Nat.zero_le _) (by omega) fun i x ei ek => ?_)
  · dsimp only
    refine wpAny_pure ?_
    have e1 : s1 = { s1 with heap := s1.heap } := by cases s1; rfl
    rw [e1]
    refine fin' _ s1.heap (Heap.SameBut.refl a s1.heap) ⟨o,xs,es,ep,t,g1,T0,fun x hx => List.mem_append_left _ (sub x hx),fun x hx => ?_,nf⟩
    rcases List.mem_append.mp hx with hx | hx
    · exact cov x hx
    · rw [List.mem_singleton.mp hx]; exact yes
  · dsimp only
    refine wpAny_bind (wpAny_setState_of g1 T.da T.ft ?_)
    dsimp only
    have ez : es.size = xs.length := by rw [<- Array.length_toList,T.el,List.length_map]
    have room1 : es.size + 1 <= t.mask := by
      rcases T.rt.msk with e | e | e <;> rw [e] at nf ⊢ <;> omega
    have R := T.rt.put (x := Value.ref b) eN oN room1
    have pe : (SetTable.insertAt es (t.put (posM t.mask (thash prog w k) N)).2 (thash prog w k,Value.ref b)).toList = (xs.take (t.put (posM t.mask (thash prog w k) N)).2 ++ (k,b) :: xs.drop (t.put (posM t.mask (thash prog w k) N)).2).map fun x => (thash prog w x.1,Value.ref x.2) := by
      rw [SetTable.toList_insertAt,T.el,List.map_append,List.map_cons,List.map_take,List.map_drop]
    have mk : (t.put (posM t.mask (thash prog w k) N)).1.mask = t.mask := rfl
    have ld : (t.put (posM t.mask (thash prog w k) N)).1.led = t.led := rfl
    generalize t.put (posM t.mask (thash prog w k) N) = tp at R pe mk ld ⊢
    obtain ⟨t1,p⟩ := tp
    dsimp only at R pe mk ld ⊢
    have z1 : (SetTable.insertAt es p (thash prog w k,Value.ref b)).size = es.size + 1 := by
      rw [<- Array.length_toList,pe,List.length_map,List.length_append,List.length_cons,List.length_take,List.length_drop]
      omega
    generalize hes1 : SetTable.insertAt es p (thash prog w k,Value.ref b) = es1 at R pe z1 ⊢
    obtain ⟨xs1,hx1⟩ : ∃ l,l = xs.take p ++ (k,b) :: xs.drop p := ⟨_,rfl⟩
    rw [<- hx1] at pe
    have px : xs1.Perm (xs ++ [(k,b)]) := by
      rw [hx1]
      have := List.take_append_drop p xs
      conv => rhs; rw [<- this]
      rw [List.append_assoc]
      exact List.Perm.append_left _ (List.perm_append_singleton (k,b) (xs.drop p)).symm
    have nd1 : (xs1.map (·.1)).Nodup := by
      have pn := px.map (·.1)
      rw [List.map_append] at pn
      refine pn.nodup_iff.mpr ?_
      rw [List.nodup_append]
      refine ⟨T.nd,by simp,fun x hx y hy e => ?_⟩
      rw [List.map_cons,List.map_nil,List.mem_singleton] at hy
      subst hy; subst e
      exact no hx
    have mkset : ∀ {h' : Heap} {es2 : Array (Int × Value)} {ep2 : Nat} {t2 : SetTable},Heap.SameBut a s1.heap h' -> h'.get? a = some { o with data := .set es2 ep2 t2 } -> es2.toList.Perm es1.toList -> RT t2 es2 -> t2.led = t.led -> t2.fits es2.size = true -> es2.size * 5 < t2.mask * 3 -> TSt prog w (kas ++ [(k,b)]) a h' := fun {h' es2 ep2 t2} sb g2 pp rt2 l2 f2 n2 => by
      obtain ⟨xs2,p2,q2⟩ := perm_map (fun x : TK => (thash prog w x.1,Value.ref x.2)) pp xs1 pe
      refine ⟨_,xs2,es2,ep2,t2,g2,⟨T.ex,rfl,q2,(p2.map (·.1)).nodup_iff.mpr nd1,rt2,fun z => by rw [l2]; exact T.led z,f2⟩,fun x hx => ?_,fun x hx => ?_,n2⟩
      · have hx := px.mem_iff.mp (p2.mem_iff.mp hx)
        rcases List.mem_append.mp hx with hx | hx
        · exact List.mem_append_left _ (sub x hx)
        · exact List.mem_append_right _ hx
      · rw [(p2.map (·.1)).mem_iff,(px.map (·.1)).mem_iff,List.map_append,List.mem_append]
        rcases List.mem_append.mp hx with hx | hx
        · exact .inl (cov x hx)
        · rw [List.mem_singleton.mp hx]; exact .inr (by simp)
    have fits_of : ∀ {t2 : SetTable} {es2 : Array (Int × Value)},RT t2 es2 -> t2.fits es2.size = true := fun {t2 es2} r => by
      unfold SetTable.fits SetTable.fill
      rw [r.siz,r.dum]
      have := r.le
      simp
      exact this
    have tail : ∀ bv : Bool,wpAny (model prog w) A (do
        storeSet a es1 (if bv then t1 else { t1 with plain := false })
        if (!false && (if bv then t1 else { t1 with plain := false }).tooFull) = true then setRelay a (SetTable.grown (es.size + 1))
        pure true) Q E s1 := fun bv => by
      have R2 : RT (if bv then t1 else { t1 with plain := false }) es1 := by
        cases bv
        · exact R.plain false
        · exact R
      have mk2 : (if bv then t1 else { t1 with plain := false }).mask = t.mask := by cases bv <;> exact mk
      have ld2 : (if bv then t1 else { t1 with plain := false }).led = t.led := by cases bv <;> exact ld
      generalize (if bv then t1 else { t1 with plain := false }) = t2 at *
      have f2 : t2.fill = es.size + 1 := by
        unfold SetTable.fill
        rw [R2.siz,R2.dum,z1]
        rfl
      refine wpAny_bind (wpAny_storeSet_of g1 T.da ?_ (by rw [sizeLine_eq,z1]; omega))
      have g2 := put_get (es' := es1) (t' := t2) g1 T.da
      have sb2 := Heap.SameBut.update s1.heap a (Obj.putSet es1 t2)
      by_cases tf : t2.tooFull = true
      · rw [if_pos (by rw [tf]; rfl)]
        have tf' : t2.fill * 5 >= t2.mask * 3 := of_decide_eq_true tf
        rw [f2,mk2] at tf'
        have wanted : ∃ m,SetTable.sizeAbove (SetTable.grown (es.size + 1)) - 1 = m /\ masks m /\ es.size + 1 <= m /\ (es.size + 1) * 5 < m * 3 /\ SetTable.sizeAbove (SetTable.grown (es.size + 1)) = m + 1 := by
          rcases T.rt.msk with e | e | e
          · rw [e] at nf tf'
            have e5 : es.size + 1 = 5 := by omega
            rw [e5]
            exact ⟨31,grow7,.inr (.inl rfl),by decide,by decide,by decide +kernel⟩
          · rw [e] at nf tf'
            have e5 : es.size + 1 = 19 := by omega
            rw [e5]
            exact ⟨127,grow31,.inr (.inr rfl),by decide,by decide,by decide +kernel⟩
          · rw [e] at tf'
            omega
        obtain ⟨m,w1,w2,w3,w4,w5⟩ := wanted
        obtain ⟨t3,ord,r1,r2,r3,r4,r5,r6⟩ := relay_ok (t := t2) (es := es1) w1 w2 (by rw [z1]; exact w3)
        unfold setRelay
        refine wpAny_bind (wpAny_bind (wpAny_setState_of g2 rfl (fits_of R2) ?_))
        dsimp only
        rw [if_neg (show ¬ SetTable.sizeAbove (SetTable.grown (es.size + 1)) > sizeLine by rw [w5,sizeLine_eq]; rcases w2 with e | e | e <;> rw [e] <;> decide)]
        walk_at "un reordered"
        rw [r1]
        refine wpAny_bind (wpAny_bind (wpAny_pure ?_))
        dsimp only
        rw [show ((ord.filterMap (es1[·]?)).size != es1.size) = false by rw [r2]; simp]
        refine wpAny_pure ?_
        dsimp only
        refine wpAny_storeSet_of g2 rfl ?_ (by rw [sizeLine_eq,r2,z1]; omega)
        have g3 := put_get (es' := ord.filterMap (es1[·]?)) (t' := t3) g2 rfl
        refine wpAny_pure (fin' _ _ (sb2.trans (Heap.SameBut.update _ a _)) (mkset (sb2.trans (Heap.SameBut.update _ a _)) g3 r3 r4 (r6.trans ld2) (by rw [r2]; exact r5) ?_))
        rw [r2,z1]
        have : t3.mask = m := by
          have := r1
          unfold SetTable.relaid SetTable.laid at this
          rw [w1] at this
          cases q : SetTable.layClean m (es1.map (·.1)) with
          | none => rw [q] at this; cases this
          | some owner =>
            rw [q] at this
            simp only [Option.bind_eq_bind,Option.bind_some] at this
            cases this
            rfl
        rw [this]
        exact w4
      · rw [if_neg (by simp [tf])]
        refine wpAny_pure (fin' _ _ sb2 (mkset sb2 g2 (List.Perm.refl _) R2 ld2 (fits_of R2) ?_))
        have tf' : ¬ t2.fill * 5 >= t2.mask * 3 := fun z => tf (decide_eq_true z)
        rw [f2] at tf'
        rw [z1]
        omega
    split
    · exact wpAny_bind (hash_val kb1 (tail true))
    · exact wpAny_bind (wpAny_pure (tail true))
  · have : es[i]? = some (thash prog w x.1,Value.ref x.2) := by rw [<- Array.getElem?_toList,T.el,List.getElem?_map,ei]; rfl
    rw [ek] at this
    obtain ⟨c,c1,c2⟩ := T.rt.met (i := i) (N := N) this eN
    exact ⟨c,Nat.zero_le _,c1,c2⟩
end
end L2
set_option Elab.async false
set_option linter.all false
set_option maxRecDepth 100000
set_option maxHeartbeats 4000000
namespace L2
open PySem PySem.Spec PyProof.Rows
theorem erase_perm {α : Type} : ∀ (l : List α) (i : Nat) (hi : i < l.length),(l[i] :: l.eraseIdx i).Perm l
  | [],i,hi => absurd hi (Nat.not_lt_zero i)
  | x :: xs,0,hi => List.Perm.refl _
  | x :: xs,i + 1,hi => (List.Perm.swap ..).trans (List.Perm.cons _ (erase_perm xs i (Nat.lt_of_succ_lt_succ hi)))
section
variable {prog : Program}{w : World}{A : Around}{E : Value -> Shared -> Prop}{s : Shared}
theorem wpAny_choose {src : Source}{n : Nat}{Q : Nat -> Shared -> Prop}(hn : n ≠ 0)(h : ∀ i d,i < n -> Q i { s with drawn := d }) : wpAny (model prog w) A (choose src n) Q E s := fun Γ p _ => by
  show n ≠ 0 /\ _
  exact ⟨hn,h _ _ (Nat.mod_lt _ (Nat.pos_of_ne_zero hn))⟩
theorem wpAny_drawOrder {α : Type} : ∀ (n : Nat) (xs : List α) (s : Shared) {Q : List α -> Shared -> Prop},xs.length = n -> (∀ l d,l.Perm xs -> Q l { s with drawn := d }) -> wpAny (model prog w) A (drawOrder n xs) Q E s
  | 0,xs,s,Q,hl,h => by
    have : xs = [] := List.length_eq_zero_iff.mp hl
    subst this
    exact wpAny_pure (h [] s.drawn (List.Perm.refl _))
  | n + 1,[],s,Q,hl,h => by cases hl
  | n + 1,x :: xs,s,Q,hl,h => by
    refine wpAny_bind (wpAny_choose (by simp) fun i d hi => ?_)
    have e : (x :: xs)[i]? = some ((x :: xs)[i]'hi) := List.getElem?_eq_getElem hi
    rw [e]
    dsimp only
    refine wpAny_bind (wpAny_drawOrder n _ _ (by rw [List.length_eraseIdx_of_lt hi]; omega) fun l d' p => wpAny_pure ?_)
    exact h _ d' (List.Perm.trans (List.Perm.cons _ p) (erase_perm _ _ hi))
end
theorem pick_perm {α : Type}(next : Nat -> Nat) : ∀ (f k : Nat) (l : List α) (o : Array α),l.length <= f -> (pickOrder.go next f k l o).toList.Perm (o.toList ++ l)
  | 0,k,l,o,h => by
    have : l = [] := List.length_eq_zero_iff.mp (by omega)
    subst this
    simp [pickOrder.go]
  | f + 1,k,l,o,h => by
    unfold pickOrder.go
    by_cases hl : l.length = 0
    · have : l = [] := List.length_eq_zero_iff.mp hl
      subst this
      simp
    · have hi : next k % l.length < l.length := Nat.mod_lt _ (by omega)
      rw [List.getElem?_eq_getElem hi]
      dsimp only
      refine (pick_perm next f (k + 1) _ _ (by rw [List.length_eraseIdx_of_lt hi]; omega)).trans ?_
      rw [Array.toList_push,List.append_assoc]
      exact List.Perm.append_left _ (erase_perm _ _ hi)
end L2
set_option Elab.async false
set_option linter.all false
set_option maxRecDepth 100000
set_option maxHeartbeats 4000000
namespace L2
open PySem PySem.Spec PyProof.Rows
abbrev byT (w : World) : Bool := w.params.followText "set-order"
inductive Way (w : World)(a : Addr)(es : Array (Int × Value))(ep : Nat)(t : SetTable)(ord : List (Int × Value))(fx : List Addr)(h : Heap)(i : Nat)(first : Value) : Prop
  | text (k : Nat) (b : byT w = true) (f : first = .int k 0) (o : ord = (pickOrder (w.params.setOrder a ep) es).toList)
  | place (k : Nat) (b : byT w = false) (d : (!t.plain && decide (es.size > 1)) = false) (c : Asc t.place) (f : first = .int k 0) (e : SetTable.below t.place k = i) (o : ord = es.toList)
  | drawn (p : Addr) (ps : List Nat) (b : byT w = false) (d : (!t.plain && decide (es.size > 1)) = true) (f : first = .ref p) (m : p ∈ fx) (q : h.get? p = some { cls := .type "tuple",data := .seq (ps.map fun x : Nat => Value.int (x : Int) 0).toArray 0 }) (o : ps.map (fun x => es[x]?) = ord.map some)
section
variable {prog : Program}{w : World}{A : Around}{E : Value -> Shared -> Prop}{s : Shared}{a it : Addr}{o : Obj}{es : Array (Int × Value)}{ep : Nat}{t : SetTable}{ns : List Int}{ord : List (Int × Value)}{fx : List Addr}{i : Nat}{first : Value}
end
end L2
set_option Elab.async false
set_option linter.all false
set_option maxRecDepth 100000
set_option maxHeartbeats 4000000
namespace L2
open PySem PySem.Spec PyProof.Rows
section
variable {prog : Program}{w : World}{A : Around}{E : Value -> Shared -> Prop}{s : Shared}{a it : Addr}{o : Obj}{es : Array (Int × Value)}{ep : Nat}{t : SetTable}{ns : List Int}{ord : List (Int × Value)}{i : Nat}{first : Value}
end
end L2
set_option Elab.async false
set_option linter.all false
set_option maxRecDepth 100000
set_option maxHeartbeats 4000000
namespace L2
open PySem PySem.Spec PyProof.Rows
section
variable {prog : Program}{w : World}{A : Around}{E : Value -> Shared -> Prop}{s : Shared}{a it : Addr}{o : Obj}{es : Array (Int × Value)}{ep : Nat}{t : SetTable}{ns : List Int}{ord : List (Int × Value)}{fx : List Addr}{i : Nat}{first : Value}
theorem Way.frame {h h' : Heap}(W : Way w a es ep t ord fx h i first)(k : ∀ b ∈ fx,∀ o,h.get? b = some o -> h'.get? b = some o) : Way w a es ep t ord fx h' i first := by
  cases W with
  | text k b f o => exact .text k b f o
  | place k b d c f e o => exact .place k b d c f e o
  | drawn p ps b d f m q o => exact .drawn p ps b d f m (k p m _ q) o
end
end L2
set_option Elab.async false
set_option linter.all false
set_option maxRecDepth 100000
set_option maxHeartbeats 4000000
namespace L2
open PySem PySem.Spec PyProof.Rows
local macro_rules | `(tactic| walk_at "un mled") => do let n := Lean.mkIdent (Lean.mkPrivateNameCore `PySem.SetOps `PySem.mustBeLed); `(tactic| unfold $n)
section
variable {prog : Program}{w : World}{A : Around}{E : Value -> Shared -> Prop}{s : Shared}{xs : List TK}{a b : Addr}{o : Obj}{es : Array (Int × Value)}{ep : Nat}{t : SetTable}{k : List Int}{kas : List TK}
theorem tset_find {Q : Option Nat -> Shared -> Prop}(hu : A.units < cLine)(g : s.heap.get? a = some o)(T : TSo prog w s.heap xs o es ep t)(kb : (tiK prog w).is s.heap k b)(h : ∀ r : Option Nat,r.isNone = decide (k ∉ xs.map (·.1)) -> Q r s) : wpAny (model prog w) A (setFind a (.ref b) (thash prog w k)) Q E s := by
  unfold setFind setFindIn
  refine wpAny_bind (wpAny_setState_of g T.da T.ft ?_)
  dsimp only
  rw [show byScan (.ref b) es = false by unfold byScan; rfl]
  simp only [Bool.false_eq_true,if_false]
  obtain ⟨N,Nl,eN,oN⟩ := T.rt.end (thash prog w k)
  have nb : N < 100000 := by
    rcases T.rt.msk with e | e | e <;> rw [e] at Nl <;> omega
  unfold setSearch
  refine wpAny_bind (tset_fromA (ad := false) (N := N) hu g T kb eN oN (fun r yes ne => ?_) (fun no => ?_) 100000 0 none rfl (Nat.zero_le _) (by omega) fun i x ei ek => ?_)
  · dsimp only
    refine wpAny_pure (h r ?_)
    rw [decide_eq_false (fun z => z yes)]
    cases r with
    | none => exact absurd rfl (ne rfl)
    | some _ => rfl
  · dsimp only
    refine wpAny_pure (h none ?_)
    rw [decide_eq_true no]; rfl
  · have : es[i]? = some (thash prog w x.1,Value.ref x.2) := by rw [<- Array.getElem?_toList,T.el,List.getElem?_map,ei]; rfl
    rw [ek] at this
    obtain ⟨c,c1,c2⟩ := T.rt.met (i := i) (N := N) this eN
    exact ⟨c,Nat.zero_le _,c1,c2⟩
theorem walk_set {Q : Array (Int × Value) -> Shared -> Prop}(g : s.heap.get? a = some o)(T : TS0 prog w xs o es ep t)(h : ∀ es' d,es'.toList.Perm es.toList -> Q es' { s with drawn := d }) : wpAny (model prog w) A (setWalk a) Q E s := by
  unfold setWalk setsByText
  refine wpAny_bind (wpAny_setState_of g T.da T.ft ?_)
  dsimp only
  refine wpAny_bind (wpAny_bind (wpAny_askSetting (wpAny_pure ?_)))
  cases b : byT w with
  | true =>
    rw [show (model prog w).w.params.followText "set-order" = true from b]
    simp only [if_true]
    refine wpAny_bind (wpAny_askSetting (wpAny_pure (h _ s.drawn ?_)))
    have := pick_perm (w.params.setOrder a ep) es.size 0 es.toList #[] (by simp)
    simpa [pickOrder,model] using this
  | false =>
    rw [show (model prog w).w.params.followText "set-order" = false from b]
    simp only [Bool.false_eq_true,if_false]
    split
    · refine wpAny_bind (wpAny_drawOrder es.size es.toList s (by simp) fun l d p => wpAny_pure (h _ d (by simpa using p)))
    · walk_at "un mled"
      rw [T.led b]
      simp only [Bool.not_true,Bool.false_and,Bool.false_eq_true,if_false]
      exact wpAny_bind (wpAny_pure (wpAny_pure (h es s.drawn (List.Perm.refl _))))
end
end L2
set_option Elab.async false
set_option linter.all false
set_option maxRecDepth 100000
set_option maxHeartbeats 4000000
namespace L2
open PySem PySem.Spec PyProof.Rows
local macro_rules | `(tactic| walk_at "un scmp") => do let n := Lean.mkIdent (Lean.mkPrivateNameCore `PySem.Builtin.Frozenset.W1All `PySem.Builtin.compare); `(tactic| unfold $n)
theorem seq_entry : entryFor table "set.__eq__" = some Builtin.«frozenset.__eq__» := entryFor_alias (id' := "frozenset.__eq__") (by kernel_rfl) rfl (by decide +kernel) (by kernel_rfl)
theorem sub_set_frz : isSubtype (.type "set") (.type "frozenset") = pure false := by rw [isSubtype_type]; kernel_rfl
section
variable {prog : Program}{w : World}{A : Around}{E : Value -> Shared -> Prop}{s : Shared}{xs ys : List TK}{a b : Addr}{o o2 : Obj}{es es2 : Array (Int × Value)}{ep ep2 : Nat}{t t2 : SetTable}{k : List Int}
theorem TSo.draw {s : Shared}{d : Drawn}(T : TSo prog w s.heap xs o es ep t) : TSo prog w ({ s with drawn := d } : Shared).heap xs o es ep t := T
theorem quiet_t {Q : Bool -> Shared -> Prop}(kb : (tiK prog w).is s.heap k b)(h : Q false s) : wpAny (model prog w) A (Builtin.Frozenset.quietEq (.ref b)) Q E s := by
  have hT := IsTupleKey.typeIs kb
  unfold Builtin.Frozenset.quietEq
  dsimp only
  refine wpAny_bind (wpAny_specialOf hT PySem.F.slot_tuple_eq.lookup (wpAny_pure ?_))
  exact h
theorem walk_seen {Q : List (Int × Value) -> Shared -> Prop}(g : s.heap.get? a = some o)(T : TSo prog w s.heap xs o es ep t)(g2 : s.heap.get? b = some o2)(T2 : TSo prog w s.heap ys o2 es2 ep2 t2)(h : ∀ l d,l.Perm es.toList -> Q l { s with drawn := d }) : wpAny (model prog w) A (Builtin.Frozenset.walkUnseen a b) Q E s := by
  unfold Builtin.Frozenset.walkUnseen setEntries
  refine wpAny_bind (wpAny_bind (wpAny_setState_of g T.da T.ft (wpAny_pure ?_)))
  refine wpAny_bind (wpAny_bind (wpAny_setState_of g2 T2.da T2.ft (wpAny_pure ?_)))
  have all : ∀ e ∈ es.toList ++ es2.toList,∃ k c,e.2 = Value.ref c /\ (tiK prog w).is s.heap k c := fun e he => by
    rcases List.mem_append.mp he with he | he
    · rw [T.el] at he
      obtain ⟨x,hx,rfl⟩ := List.mem_map.mp he
      exact ⟨x.1,x.2,rfl,T.is x hx⟩
    · rw [T2.el] at he
      obtain ⟨x,hx,rfl⟩ := List.mem_map.mp he
      exact ⟨x.1,x.2,rfl,T2.is x hx⟩
  refine wpAny_bind ?_
  dsimp only
  refine wpAny_forIn_list _ (fun rest r s' => r.1 = none /\ s' = s /\ ∀ e ∈ rest,∃ k c,e.2 = Value.ref c /\ (tiK prog w).is s.heap k c) _ ?_ ?_ _ _ ⟨rfl,rfl,all⟩
  · rintro ⟨hz,v⟩ rest r s' ⟨hr,rfl,hall⟩
    obtain ⟨k,c,e,kc⟩ := hall _ (List.mem_cons_self ..)
    have e : v = .ref c := e
    subst e
    dsimp only
    refine wpAny_bind (quiet_t kc ?_)
    simp only [Bool.not_false,if_true]
    unfold Builtin.Frozenset.walk
    exact wpAny_bind (wpAny_bind (walk_set g T.toTS0 fun es' d p => wpAny_pure (wpAny_pure (wpAny_pure (h _ d p)))))
  · rintro ⟨r1,r2⟩ s' ⟨hr,rfl,_⟩
    simp only at hr
    subst hr
    exact wpAny_pure (h _ s'.drawn (List.Perm.refl _))
theorem subset_t {Q : Bool -> Shared -> Prop}{id : String}(hu : A.units < cLine)(g : s.heap.get? a = some o)(T : TSo prog w s.heap xs o es ep t)(g2 : s.heap.get? b = some o2)(T2 : TSo prog w s.heap ys o2 es2 ep2 t2)(hz : xs.length = ys.length)(h : ∀ d,Q (decide (∀ x ∈ xs,x.1 ∈ ys.map (·.1))) { s with drawn := d }) : wpAny (model prog w) A (Builtin.Frozenset.subsetOf id a b) Q E s := by
  have z1 : es.size = xs.length := by rw [<- Array.length_toList,T.el,List.length_map]
  have z2 : es2.size = ys.length := by rw [<- Array.length_toList,T2.el,List.length_map]
  unfold Builtin.Frozenset.subsetOf Builtin.Frozenset.sizeOf setEntries
  refine wpAny_bind (wpAny_bind (wpAny_bind (wpAny_setState_of g T.da T.ft (wpAny_pure (wpAny_pure ?_)))))
  refine wpAny_bind (wpAny_bind (wpAny_bind (wpAny_setState_of g2 T2.da T2.ft (wpAny_pure (wpAny_pure ?_)))))
  dsimp only
  rw [if_neg (by omega)]
  refine wpAny_bind (wpAny_setEpoch_of g T.da T.ft ?_)
  refine wpAny_bind (walk_seen g T g2 T2 fun l d p => ?_)
  have all : ∀ e ∈ l,∃ x ∈ xs,e = (thash prog w x.1,Value.ref x.2) := fun e he => by
    have he := p.mem_iff.mp he
    rw [T.el] at he
    obtain ⟨x,hx,rfl⟩ := List.mem_map.mp he
    exact ⟨x,hx,rfl⟩
  have cov : ∀ x ∈ xs,(thash prog w x.1,Value.ref x.2) ∈ l := fun x hx => p.mem_iff.mpr (by rw [T.el]; exact List.mem_map.mpr ⟨x,hx,rfl⟩)
  refine wpAny_bind ?_
  refine wpAny_forIn_list _ (fun rest r s' => r.1 = none /\ s' = { s with drawn := d } /\ (∀ e ∈ rest,e ∈ l) /\ ∀ x ∈ xs,(thash prog w x.1,Value.ref x.2) ∉ rest -> x.1 ∈ ys.map (·.1)) _ ?_ ?_ _ _ ⟨rfl,rfl,fun _ h => h,fun x hx n => absurd (cov x hx) n⟩
  · rintro ⟨hz,v⟩ rest r s' ⟨hr,rfl,hall,hin⟩
    obtain ⟨x,hx,e⟩ := all _ (hall _ (List.mem_cons_self ..))
    cases e
    dsimp only
    refine wpAny_bind (wpAny_holding (tset_find hu g2 T2.draw (T.is x hx) fun r2 e2 => ?_))
    rw [e2]
    by_cases m : x.1 ∈ ys.map (·.1)
    · rw [decide_eq_false (fun z => z m)]
      simp only [Bool.false_eq_true,if_false]
      unfold Builtin.Frozenset.unchanged
      refine wpAny_bind (wpAny_bind (wpAny_setEpoch_of g T.da T.ft ?_))
      rw [if_neg (by simp)]
      refine wpAny_pure (wpAny_pure ⟨rfl,rfl,fun e he => hall e (List.mem_cons_of_mem _ he),fun y hy n => ?_⟩)
      by_cases q : (thash prog w y.1,Value.ref y.2) = (thash prog w x.1,Value.ref x.2)
      · have : y.2 = x.2 := Value.ref.inj (Prod.mk.inj q).2
        have ky := T.is y hy
        rw [this] at ky
        rw [IsTupleKey.inj ky (T.is x hx)]
        exact m
      · exact hin y hy fun z => (List.mem_cons.mp z).elim q n
    · rw [decide_eq_true m]
      simp only [if_true]
      refine wpAny_pure (wpAny_pure ?_)
      have := h d
      rwa [decide_eq_false (fun z => m (z x hx))] at this
  · rintro ⟨r1,r2⟩ s' ⟨hr,rfl,_,hin⟩
    simp only at hr
    subst hr
    refine wpAny_pure ?_
    have := h d
    rwa [decide_eq_true (fun x hx => hin x hx (by simp))] at this
end
end L2
set_option Elab.async false
set_option linter.all false
set_option maxRecDepth 100000
set_option maxHeartbeats 4000000
namespace L2
open PySem PySem.Spec PyProof.Rows
local macro_rules | `(tactic| walk_at "un scmp") => do let n := Lean.mkIdent (Lean.mkPrivateNameCore `PySem.Builtin.Frozenset.W1All `PySem.Builtin.compare); `(tactic| unfold $n)
theorem same_keys {l m : List (List Int)}(hl : l.Nodup)(hm : m.Nodup) : (decide (l.length = m.length) && decide (∀ r ∈ l,r ∈ m)) = true ↔ ∀ r,r ∈ l ↔ r ∈ m := by
  rw [Bool.and_eq_true,decide_eq_true_eq,decide_eq_true_eq]
  constructor
  · rintro ⟨z,y⟩ r
    refine ⟨y r,fun hr => Decidable.byContradiction fun n => ?_⟩
    have := sub_len (r :: l) m (List.nodup_cons.mpr ⟨n,hl⟩) fun x hx => (List.mem_cons.mp hx).elim (fun e => e ▸ hr) (y x)
    rw [List.length_cons] at this
    omega
  · intro h
    have := sub_len l m hl fun r hr => (h r).mp hr
    have := sub_len m l hm fun r hr => (h r).mpr hr
    exact ⟨by omega,fun r hr => (h r).mp hr⟩
section
variable {prog : Program}{w : World}{A : Around}{E : Value -> Shared -> Prop}{s : Shared}{xs ys : List TK}{a b : Addr}{o o2 : Obj}{es es2 : Array (Int × Value)}{ep ep2 : Nat}{t t2 : SetTable}
theorem seteq_t {Q : Value -> Shared -> Prop}(hu : A.units + 1 < cLine)(g : s.heap.get? a = some o)(T : TSo prog w s.heap xs o es ep t)(g2 : s.heap.get? b = some o2)(T2 : TSo prog w s.heap ys o2 es2 ep2 t2)(h : ∀ d e,(e = true ↔ ∀ r,r ∈ xs.map (·.1) ↔ r ∈ ys.map (·.1)) -> Q (.bool e) { s with drawn := d }) : wpAny (model prog w) A (compareOp .Eq (.ref a) (.ref b)) Q E s := by
  have z1 : es.size = xs.length := by rw [<- Array.length_toList,T.el,List.length_map]
  have z2 : es2.size = ys.length := by rw [<- Array.length_toList,T2.el,List.length_map]
  have hT : s.TypeIs (.ref a) "set" := ⟨o,g,T.ex.1⟩
  have hT2 : s.TypeIs (.ref b) "set" := ⟨o2,g2,T2.ex.1⟩
  replace h := fun d => h d _ (same_keys T.nd T2.nd)
  rw [List.length_map,List.length_map] at h
  show wpAny _ _ (richCompare .Eq (.ref a) (.ref b)) Q E s
  refine wpAny_richCompare_same_room (op := .Eq) hT hT2 PySem.F.slot_set_eq (wpAny_call_entry PySem.F.slot_set_eq hT seq_entry ?_ (PySem.F.args_set_eq_2 _ _)) (by omega)
  unfold Builtin.«frozenset.__eq__»
  walk_at "un scmp"
  unfold Builtin.Frozenset.slot1
  refine wpAny_bind (wpAny_bind (wpAny_pure ?_))
  dsimp only
  refine wpAny_pure ?_
  refine wpAny_bind ?_
  unfold Builtin.Frozenset.isAnySet orM
  refine wpAny_bind (wpAny_isInstance hT2 sub_set_self ?_)
  show wpAny _ _ (pure true) _ _ s
  refine wpAny_pure ?_
  simp only [Bool.not_true,Bool.false_eq_true,if_false]
  unfold Builtin.Frozenset.addrOf
  refine wpAny_bind (wpAny_pure (wpAny_bind (wpAny_pure ?_)))
  unfold Builtin.Frozenset.sizeOf setEntries
  refine wpAny_bind (wpAny_bind (wpAny_bind (wpAny_setState_of g T.da T.ft (wpAny_pure (wpAny_pure ?_)))))
  refine wpAny_bind (wpAny_bind (wpAny_bind (wpAny_setState_of g2 T2.da T2.ft (wpAny_pure (wpAny_pure ?_)))))
  dsimp only
  by_cases z : xs.length = ys.length
  · rw [if_neg (by simp; omega)]
    refine wpAny_bind (wpAny_bind ?_)
    unfold andM
    refine wpAny_bind (wpAny_isInstance hT sub_set_frz ?_)
    show wpAny _ _ (pure false) _ _ s
    refine wpAny_pure ?_
    simp only [Bool.false_eq_true,if_false]
    refine subset_t (A := A.in1) hu g T g2 T2 z fun d => ?_
    refine wpAny_pure ⟨_,rfl,by simp,?_⟩
    have := h d
    rw [decide_eq_true z,Bool.true_and] at this
    have e : decide (∀ x ∈ xs,x.1 ∈ ys.map (·.1)) = decide (∀ r ∈ xs.map (·.1),r ∈ ys.map (·.1)) := by
      rw [Bool.eq_iff_iff,decide_eq_true_eq,decide_eq_true_eq]
      exact ⟨fun h r hr => by obtain ⟨x,hx,rfl⟩ := List.mem_map.mp hr; exact h x hx,fun h x hx => h _ (List.mem_map.mpr ⟨x,hx,rfl⟩)⟩
    rwa [e]
  · rw [if_pos (by simp; omega)]
    refine wpAny_bind (wpAny_pure ?_)
    refine wpAny_pure ⟨_,rfl,by simp,?_⟩
    have := h s.drawn
    rwa [decide_eq_false z,Bool.false_and] at this
end
end L2
set_option Elab.async false
set_option linter.all false
set_option maxRecDepth 100000
set_option maxHeartbeats 4000000
namespace L2
open PySem PySem.Spec PyProof.Rows
section
variable {prog : Program}{w : World}{A : Around}{E : Value -> Shared -> Prop}{s : Shared}{a it : Addr}{o : Obj}{es : Array (Int × Value)}{ep : Nat}{t : SetTable}{ns : List Int}
end
end L2
set_option Elab.async false
set_option linter.all false
set_option maxRecDepth 100000
set_option maxHeartbeats 4000000
namespace L2
open PySem PySem.Spec PyProof.Rows
section
variable {X : Cx}{W : Wd}{e f : Expr}{es : List Expr}{pos : Pos}{dA : DA}{df : DE}
end
end L2
set_option Elab.async false
set_option linter.all false
set_option maxRecDepth 100000
set_option maxHeartbeats 4000000
namespace L2
open PySem PySem.Spec PyProof.Rows
section
variable {X : Cx}{W : Wd}{tg e : Expr}{pos : Pos}{dA : DA}
end
section
variable {X : Cx}{W : Wd}{e : Expr}{pos : Pos}{dA : DA}
end
end L2
set_option Elab.async false
set_option linter.all false
set_option maxRecDepth 100000
set_option maxHeartbeats 4000000
namespace L2
open PySem PySem.Spec PyProof.Rows
def idMap : Nat -> List (Option Nat) -> Bool
  | _,[] => true
  | n,none :: m => idMap (n + 1) m
  | n,some i :: m => (i == n) && idMap (n + 1) m
def subMap : List (Option Nat) -> List (Option Nat) -> Bool
  | [],[] => true
  | none :: m,_ :: n => subMap m n
  | some _ :: m,some _ :: n => subMap m n
  | _,_ => false
structure Blk2 (X : Cx)(N' : List Str)(scope : Scope)(map mp2 : List (Option Nat))(tg tg2 iter2 elt : Expr)(ifs : List Expr)(g : TG)(wi2 : TI)(g2 : TG)(tt : TT)(te : TE) : Prop where
  calm : X.calm = true
  kind : scope.kind = .function
  loc : ∀ x ∈ scope.names,x.2 = .local -> scope.names.lookup x.1 = some .local
  free : (scope.names.all fun p => !(p.2 == NameKind.free) || (X.env.kindOf p.1 == some .cell || X.env.kindOf p.1 == some .free)) = true
  cap : CapOk X scope map N'
  keep : GKeep g map
  keep2 : GKeep g2 mp2
  ids : idMap 0 mp2 = true
  sub : subMap map mp2 = true
  fold : ∀ env x,foldedSetIterable iter2 env x = pure x
  run : ∀ cells C fp s H,PG (cxComp X N' scope cells C fp s H).nox tg g /\ PI (cxComp X N' scope cells C fp s H).nox tg2 iter2 wi2 /\ PG (cxComp X N' scope cells C fp s H).nox tg2 g2 /\ PIf (cxComp X N' scope cells C fp s H).nox ifs tt /\ PE (cxComp X N' scope cells C fp s H).nox elt te
section
variable {X : Cx}{elt iter tg tg2 iter2 : Expr}{ifs : List Expr}{scope : Scope}{pos : Pos}{N' : List Str}{map mp2 : List (Option Nat)}{wi wi2 : TI}{g g2 : TG}{tt : TT}{te : TE}
theorem Blk2.one (B : Blk2 X N' scope map mp2 tg tg2 iter2 elt ifs g wi2 g2 tt te) : Blk X N' scope map tg elt ifs (fun _ _ _ _ => False) (fun _ _ _ => False) (fun _ _ _ => False) :=
  ⟨B.calm,B.kind,B.loc,B.free,B.cap,fun _ _ _ _ z => z.elim,fun _ _ _ _ _ _ => ⟨fun _ _ _ _ _ _ _ _ _ z => z.elim,fun _ _ _ _ _ _ z => z.elim,fun _ _ _ _ _ _ z => z.elim⟩⟩
end
end L2
set_option Elab.async false
set_option linter.all false
set_option maxRecDepth 100000
set_option maxHeartbeats 4000000
namespace L2
open PySem PySem.Spec PyProof.Rows
def okA (acc : List V) : Prop := (∃ ns : List Int,acc = ns.map V.int) /\ acc.length <= 2000
section
variable {X : Cx}{elt iter tg tg2 iter2 : Expr}{ifs : List Expr}{scope : Scope}{pos : Pos}{N' : List Str}{map mp2 : List (Option Nat)}{wi wi2 : TI}{g g2 : TG}{tt : TT}{te : TE}
end
end L2
set_option Elab.async false
set_option linter.all false
set_option maxRecDepth 100000
set_option maxHeartbeats 4000000
namespace L2
open PySem PySem.Spec PyProof.Rows
def TG0 (prog : Program)(w : World)(kas : List TK)(o : Obj) : Prop := ∃ xs es ep t,TS0 prog w xs o es ep t /\ (∀ x ∈ xs,x ∈ kas) /\ (∀ x ∈ kas,x.1 ∈ xs.map (·.1)) /\ es.size * 5 < t.mask * 3
theorem TG0.new {prog : Program}{w : World} : TG0 prog w [] (nSet (!w.params.followText "set-order")) := ⟨[],#[],0,.fresh 0 0 (!w.params.followText "set-order"),⟨⟨rfl,rfl,rfl⟩,rfl,rfl,List.nodup_nil,RT.fresh 0 0 _,fun z => by simp [SetTable.fresh,z],rfl⟩,fun x hx => (by cases hx),fun x hx => (by cases hx),(by show 0 * 5 < 7 * 3; decide)⟩
def TOb (prog : Program)(w : World)(kas : List TK)(D : Addr) : HO := .ext fun h => ∃ o,h.get? D = some o /\ TG0 prog w kas o
section
variable {X : Cx}{elt iter tg : Expr}{ifs : List Expr}{scope : Scope}{pos : Pos}{N' : List Str}{map : List (Option Nat)}{wi : TI}{g : TG}{tt : TT}{te : TE}
end
end L2
set_option Elab.async false
set_option linter.all false
set_option maxRecDepth 100000
set_option maxHeartbeats 4000000
namespace L2
open PySem PySem.Spec PyProof PyProof.Rows
section
variable {prog : Program}{w : World}{A : Around}{E : Value -> Shared -> Prop}{s : Shared}{kas : List TK}
theorem tis_keep {h h' : Heap}{k : List Int}{b : Addr}(x : (tiK prog w).is h k b)(e : ∀ o,h.get? b = some o -> h'.get? b = some o) : (tiK prog w).is h' k b := by
  obtain ⟨o,items,n,ho,r⟩ := x
  exact ⟨o,items,n,e _ ho,r⟩
theorem TSt.keep {a : Addr}{h h' : Heap}(x : TSt prog w kas a h)(e : ∀ o,h.get? a = some o -> h'.get? a = some o) : TSt prog w kas a h' := by
  obtain ⟨o,xs,es,ep,t,g,r⟩ := x
  exact ⟨o,xs,es,ep,t,e _ g,r⟩
section
variable {R : Result -> Shared -> Prop}{I : Addr}{fp wr : List Addr}{G : Array GenState -> Array GenState -> Prop}{n : Nat}{P : Nat -> Value -> Prop}{St : Nat -> Shared -> Prop}
theorem loop_t (W : WalksS prog w A.in1 I fp wr G n P St)(S : Addr)(hSf : S ∉ fp)(hP : ∀ i v,P i v -> ∃ x,kas[i]? = some x /\ v = .ref x.2)(hn : kas.length = n)(hb : kas.length <= 70)(hu : A.in1.units < cLine)(hS : ∀ x ∈ kas,x.2 ∉ S :: wr) :
    ∀ (k i : Nat) (s : Shared),n - i = k -> i <= n -> St i s -> TSt prog w (kas.take i) S s.heap -> (∀ x ∈ kas,(tiK prog w).is s.heap x.1 x.2) ->
      (∀ s',Moved (S :: wr) G s s' -> TSt prog w kas S s'.heap -> R (.ok (.ret .none)) s') ->
      codeAny (model prog w) A (.builtin "set.update.loop" ⟨[.ref S,.ref I],[]⟩) R s := by
  have hSw : S ∉ wr := fun h => hSf (W.sub _ h)
  have more : ∀ b ∈ wr,b ∈ S :: wr := fun b hb => List.mem_cons_of_mem _ hb
  intro k
  induction k with
  | zero =>
    intro i s hk hi st T is R'
    have e : i = n := by omega
    subst e
    refine codeAny_builtin PyProof.Rows.F.entry_set_update_loop ?_
    rw [Around.under_plainId PyProof.Rows.F.plain_set_update_loop _]
    show wpAny _ A.in1 (pyNext (.ref I) >>= _) _ _ s
    refine wpAny_bind (W.done s _ _ st fun s' hm => ?_)
    refine wpAny_pure (R' s' (hm.mono more) ?_)
    rw [List.take_of_length_le (by omega)] at T
    exact T.keep fun o => hm.heap S o hSw
  | succ k ih =>
    intro i s hk hi st T is R'
    have hlt : i < n := by omega
    refine codeAny_builtin PyProof.Rows.F.entry_set_update_loop ?_
    rw [Around.under_plainId PyProof.Rows.F.plain_set_update_loop _]
    show wpAny _ A.in1 (pyNext (.ref I) >>= _) _ _ s
    refine wpAny_bind (W.item i s _ _ hlt st fun v s' hp st' hm => ?_)
    obtain ⟨⟨r,c⟩,ex,rfl⟩ := hP i v hp
    have T' : TSt prog w (kas.take i) S s'.heap := T.keep fun o => hm.heap S o hSw
    have is' : ∀ x ∈ kas,(tiK prog w).is s'.heap x.1 x.2 := fun x hx => tis_keep (is x hx) fun o => hm.heap _ o fun z => hS x hx (more _ z)
    have tk : kas.take (i + 1) = kas.take i ++ [(r,c)] := by rw [List.take_add_one,ex]; rfl
    show wpAny _ A.in1 (holding [Value.ref c] (setAdd S (.ref c)) >>= _) _ _ s'
    refine wpAny_bind (wpAny_holding (setAdd_t hu T' (by rw [List.length_take]; omega) (fun x hx => is' x (List.mem_of_mem_take hx)) (is' _ (List.mem_of_getElem? ex)) fun _ h' tok le sb T2 => ?_))
    rw [<- tk] at T2
    refine wpAny_pure ⟨plainId_quiet PyProof.Rows.F.plain_set_update_loop _,ih (i + 1) _ (by omega) hlt (W.frame _ s' _ _ st' ?_ fun b hb o e => ?_) T2 (fun x hx => tis_keep (is' x hx) fun o e => ?_) fun s'' hm'' T3 => ?_⟩
    · exact le
    · rw [sb.2 b (fun h : b = S => hSf (by rw [<- h]; exact hb))]; exact e
    · rw [sb.2 _ (fun h : x.2 = S => hS x hx (by rw [h]; exact List.mem_cons_self))]; exact e
    · refine R' s'' (Moved.trans W.gtrans ((hm.mono more).then_heap ?_ fun b o hb e => ?_) hm'') T3
      · exact le
      · rw [sb.2 b (fun h : b = S => hb (by rw [h]; exact List.mem_cons_self))]; exact e
end
theorem code_new_t (x : Value){Q : Value -> Shared -> Prop}(h : Q (.ref s.heap.objs.size) { s with heap := s.heap.push (nSet (!w.params.followText "set-order")) }) : codeAny (model prog w) A (.call (.builtin "set.__new__") ⟨[.type "set",x],[]⟩) (wants Q E) s := by
  refine codeAny_of_tree ?_
  show wpAny _ A.in1 (do checkBuiltinCall "set.__new__" ⟨[.type "set",x],[]⟩; again (.builtin "set.__new__" ⟨[.type "set",x],[]⟩)) _ _ s
  refine wpAny_bind (wpAny_of_eq (PySem.F.newCall_set_1 x) (wpAny_pure ⟨plainId_quiet PySem.F.plain_set_new _,codeAny_builtin PySem.F.entry_set_new ?_⟩))
  rw [Around.under_plainId PySem.F.plain_set_new _]
  unfold Builtin.«set.__new__» Builtin.Frozenset.newClass
  have hsub := sub_set_self
  obtain ⟨hp,g,d,tk,os⟩ := s
  dsimp only
  wp_walk
  refine wpAny_askSetting (wpAny_pure ?_)
  dsimp only
  simp only [newObj]
  refine wpAny_bind (wpAny_alloc (wpAny_pure ?_))
  exact wpAny_pure h
theorem TSt.new {h : Heap} : TSt prog w [] h.objs.size (h.push (nSet (!w.params.followText "set-order"))) := by
  obtain ⟨xs,es,ep,t,r⟩ := TG0.new (prog := prog) (w := w)
  exact ⟨_,xs,es,ep,t,Heap.get?_push_size _ rfl,r⟩
set_option maxHeartbeats 3200000 in
theorem call_set_tups {l : Addr}{items : Array Value}{Q : Value -> Shared -> Prop}(hh : A.handled = none)(hu : A.units + 8 < cLine)(hl : s.heap.IsList l items)(hi : items.toList = kas.map fun x => Value.ref x.2)(his : ∀ x ∈ kas,(tiK prog w).is s.heap x.1 x.2)(hb : kas.length <= 70)
    (h : ∀ h' tk,TSt prog w kas s.heap.objs.size h' -> (∀ b o,b < s.heap.objs.size -> s.heap.get? b = some o -> h'.get? b = some o) -> Q (.ref s.heap.objs.size) { s with heap := h',toks := tk }) : wpAny (model prog w) A (call (.type "set") [.ref l]) Q E s := by
  obtain ⟨c,tl,hmro⟩ := PySem.F.called_set.mro
  have hmade := PySem.F.called_set.made
  have hsub := PySem.F.called_set.sub
  refine wpAny_call (codeAny_of_tree ?_)
  show wpAny _ _ (callAny (.type "set") _) _ _ _
  refine wpAny_pure ⟨Code.quiet_builtin _ (by decide +kernel),codeAny_builtin PySem.F.entry_type_call ?_⟩
  rw [Around.under_plain (weight_type_call_type "set" [.ref l] []) rfl]
  have h1 := PySem.F.called_set.notType
  have h2 := PySem.F.called_set.canCreate
  have hct := PySem.F.typeCall_set_1 (.ref l)
  repeat (any_goals (first | assumption | wp_step))
  obtain ⟨led,hled⟩ : ∃ led,led = !w.params.followText "set-order" := ⟨_,rfl⟩
  have tn : TSt prog w [] s.heap.objs.size (s.heap.push (nSet led)) := by rw [hled]; exact TSt.new
  refine codeAny_mono (code_new_t (.ref l) (E := E) (Q := fun obj s₁ => obj = .ref s.heap.objs.size /\ s₁ = { s with heap := s.heap.push (nSet led) }) ⟨rfl,by rw [hled]⟩) fun r s₁ hr => ?_
  cases r with
  | error e => exact hr
  | ok fl =>
    cases fl with
    | ret obj =>
      obtain ⟨rfl,rfl⟩ := hr
      have hS : (s.heap.push (nSet led)).get? s.heap.objs.size = some (nSet led) := Heap.get?_push_size _ rfl
      have hT : Shared.TypeIs { s with heap := s.heap.push (nSet led) } (.ref s.heap.objs.size) "set" := ⟨_,hS,rfl⟩
      have hli := PySem.F.called_set.init.lookup
      have hbi := PySem.F.called_set.init.bind (.ref s.heap.objs.size)
      repeat (any_goals (first | assumption | wp_step))
      refine codeAny_mono (codeAny_call_builtin (R := wants (fun r s₂ => r = .none /\ ∃ h' tk,s₂ = { s with heap := h',toks := tk } /\ TSt prog w kas s.heap.objs.size h' /\ (∀ b o,b < s.heap.objs.size -> s.heap.get? b = some o -> h'.get? b = some o)) E) PySem.F.called_set.init.plain PySem.F.entry_set_init (check_set_init_1 hT ?_)) fun r₂ s₂ hr₂ => ?_
      · obtain ⟨ol,hol,hcl,nl',hdl⟩ := hl
        obtain ⟨ocls,odict,odata,oslots⟩ := ol
        simp only at hcl hdl
        subst hcl; subst hdl
        have hol' : (s.heap.push (nSet led)).get? l = some { cls := .type "list",dict := odict,data := .seq items nl',slots := oslots } := Heap.get?_push_of_some _ hol
        have hsls := PySem.F.sub_list_set
        have hslf := PySem.F.sub_list_frozenset
        have hne : (Value.type "list" == Value.type "dict") = false := by decide
        have hl1 : (s.heap.push (nSet led)).IsList l items := ⟨_,hol',rfl,nl',rfl⟩
        unfold Builtin.«set.__init__» noKeywords Builtin.Frozenset.updateFrom
        generalize hPI : pyIter = PI
        unfold nSet at *
        wp_walk
        subst hPI
        refine wpAny_pyIter_list hl1 ?_
        refine wpAny_bind (wpAny_runValue ?_)
        have hlS : l < s.heap.objs.size := Heap.lt_size hol
        have hh3 : A.in1.in1.in1.handled = none := by simp [hh]
        have hneI : l ≠ (s.heap.push (nSet led)).objs.size := by
          rw [Heap.size_push]; exact Nat.ne_of_lt (Nat.lt_succ_of_lt hlS)
        have hSf : s.heap.objs.size ∉ [(s.heap.push (nSet led)).objs.size,l] := by
          rw [Heap.size_push]; simp only [List.mem_cons,List.not_mem_nil,or_false,not_or]
          exact ⟨Nat.ne_of_lt (Nat.lt_succ_self _),Nat.ne_of_gt hlS⟩
        have hz : kas.length = items.size := by rw [<- Array.length_toList,hi,List.length_map]
        have low : ∀ x ∈ kas,x.2 < s.heap.objs.size := fun x hx => by
          obtain ⟨o,_,_,g,_⟩ := his x hx
          exact Heap.lt_size g
        refine loop_t (kas := kas) ((Walks.list hh3 _ l hneI items).toS) s.heap.objs.size hSf (fun i v hv => ?_) hz hb (by show A.units + 1 + 1 + 1 < cLine; omega) (fun x hx => ?_) (items.size - 0) 0 _ (by omega) (Nat.zero_le _) ⟨⟨_,Heap.get?_push_size _ rfl,rfl,rfl⟩,(hl1.push _)⟩ (tn.keep fun o => Heap.get?_push_of_some _) (fun x hx => tis_keep (his x hx) fun o e => Heap.get?_push_of_some _ (Heap.get?_push_of_some _ e)) fun s' hm T => ?_
        · have e : items.toList[i]? = some v := by rw [Array.getElem?_toList]; exact hv
          rw [hi,List.getElem?_map] at e
          obtain ⟨x,ex,rfl⟩ := Option.map_eq_some_iff.mp e
          exact ⟨x,ex,rfl⟩
        · have := low x hx
          rw [Heap.size_push]
          simp only [List.mem_cons,List.not_mem_nil,or_false,not_or]
          exact ⟨Nat.ne_of_lt this,Nat.ne_of_lt (Nat.lt_succ_of_lt this)⟩
        · obtain ⟨h',g',d',tk',os'⟩ := s'
          have eg : g' = s.gens := hm.gens
          have ed : d' = s.drawn := hm.drawn
          have eo : os' = s.os := hm.os
          subst eg; subst ed; subst eo
          show wpAny _ _ _ _ _ _
          refine wpAny_pure ?_
          show wpAny _ _ (ret Value.none) _ _ _
          refine wpAny_pure ⟨rfl,h',tk',rfl,T,fun b o hb e => ?_⟩
          refine hm.heap b o ?_ (Heap.get?_push_of_some _ (Heap.get?_push_of_some _ e))
          rw [Heap.size_push]
          simp only [List.mem_cons,List.not_mem_nil,or_false,not_or]
          exact ⟨Nat.ne_of_lt hb,Nat.ne_of_lt (Nat.lt_succ_of_lt hb)⟩
      · cases r₂ with
        | error e => exact hr₂
        | ok fl₂ =>
          cases fl₂ with
          | ret r =>
            obtain ⟨rfl,h',tk,rfl,T,k⟩ := hr₂
            repeat (any_goals (first | assumption | wp_step))
            exact h _ _ T k
          | _ => exact hr₂.elim
    | _ => exact hr.elim
end
end L2
set_option Elab.async false
set_option linter.all false
set_option maxRecDepth 100000
set_option maxHeartbeats 4000000
namespace L2
open PySem PySem.Spec PyProof.Rows
section
variable {X : Cx}{W : Wd}{elt iter tg tg2 iter2 : Expr}{ifs : List Expr}{scope : Scope}{pos : Pos}{N' : List Str}{map mp2 : List (Option Nat)}{g g2 : TG}{gd gd2 : D -> Ev -> (Ev -> Prop) -> Prop}{di di2 : DA}{dt : DT}{de : DE}
end
end L2
set_option Elab.async false
set_option linter.all false
set_option maxRecDepth 100000
set_option maxHeartbeats 4000000
namespace L2
open PySem PySem.Spec PyProof.Rows
section
variable {X : Cx}{W : Wd}{c : Expr}{dc : DT}{db : DS}{body : List Stmt}{pos : Pos}
end
end L2
set_option Elab.async false
set_option linter.all false
set_option maxRecDepth 100000
set_option maxHeartbeats 4000000
namespace L2
open PySem PySem.Spec PyProof.Rows
section
variable {X : Cx}{W : Wd}{c : Expr}{cs es : List Expr}{pos p pos' p' : Pos}{dC dA : DA}{x f : Str}{k k' : Nat}{ps ps' : List Str}{S : DSp}{pre : List D -> Prop}
end
end L2
set_option Elab.async false
set_option linter.all false
set_option maxRecDepth 100000
set_option maxHeartbeats 4000000
namespace L2
open PySem PySem.Spec PyProof.Rows
section
variable {X : Cx}{W : Wd}{a tg : Expr}{pos p : Pos}{dA : DA}{fz : Bool}
end
end L2
set_option Elab.async false
set_option linter.all false
set_option maxRecDepth 100000
set_option maxHeartbeats 4000000
namespace L2
open PySem PySem.Spec PyProof.Rows
abbrev Om := Nat -> Prop
def cntA (p : Addr)(H : Hp) : Nat := match H p with | some (.lst [_,_,.int st]) => st.toNat | _ => 0
def cnt (b : Option Addr)(H : Hp) : Nat := match b with | none => 0 | some p => cntA p H
abbrev DE3 := Ev -> (D -> Om) -> Om
abbrev DT3 := Ev -> (Bool -> Om) -> Om
abbrev DA3 := Ev -> (List D -> Om) -> Om
def cn (W : Wd)(d : DE3) : TE := fun σ H Q => ∃ pn M b ρ P,Sta W pn M b H σ ρ /\ d ρ P (cnt b H) /\ ∀ x v H',P x (cnt b H') -> RepX W M b H' x v -> Kp b H H' -> okB W.B b H' -> Q v H'
def cnT (W : Wd)(d : DT3) : TT := fun σ H Q => ∃ pn M b ρ P,Sta W pn M b H σ ρ /\ d ρ P (cnt b H) /\ ∀ x H',P x (cnt b H') -> Kp b H H' -> okB W.B b H' -> Q x H'
def cnA (W : Wd)(d : DA3) : TA := fun σ H Q => ∃ pn M b ρ P,Sta W pn M b H σ ρ /\ d ρ P (cnt b H) /\ ∀ xs vs H',P xs (cnt b H') -> RepXs W M b H' xs vs -> Kp b H H' -> okB W.B b H' -> Q vs H'
def cnI (W : Wd)(fz : Bool)(di : DA3) : TI := fun σ H R => ∃ pn M b ρ P,Sta W pn M b H σ ρ /\ di ρ P (cnt b H) /\ ∀ items J need H',P items (cnt b H') -> items.all plain = true -> ItOk W J need items -> (∀ q ∈ need,RepX W M b H' q.1 q.2 /\ (fz = true -> plain q.1 = true)) -> Kp b H H' -> okB W.B b H' -> R J H'
theorem cn.elim {W : Wd}{d : DE3}{σ : St}{H : Hp}{Q : VK}{R : Prop}(h : cn W d σ H Q)(f : ∀ pn M b ρ P,Sta W pn M b H σ ρ -> d ρ P (cnt b H) -> (∀ x v H',P x (cnt b H') -> RepX W M b H' x v -> Kp b H H' -> okB W.B b H' -> Q v H') -> R) : R := by
  obtain ⟨pn,M,b,ρ,P,st,h,k⟩ := h
  exact f pn M b ρ P st h k
theorem cnT.elim {W : Wd}{d : DT3}{σ : St}{H : Hp}{Q : Bool -> Hp -> Prop}{R : Prop}(h : cnT W d σ H Q)(f : ∀ pn M b ρ P,Sta W pn M b H σ ρ -> d ρ P (cnt b H) -> (∀ x H',P x (cnt b H') -> Kp b H H' -> okB W.B b H' -> Q x H') -> R) : R := by
  obtain ⟨pn,M,b,ρ,P,st,h,k⟩ := h
  exact f pn M b ρ P st h k
theorem cnA.elim {W : Wd}{d : DA3}{σ : St}{H : Hp}{Q : List V -> Hp -> Prop}{R : Prop}(h : cnA W d σ H Q)(f : ∀ pn M b ρ P,Sta W pn M b H σ ρ -> d ρ P (cnt b H) -> (∀ xs vs H',P xs (cnt b H') -> RepXs W M b H' xs vs -> Kp b H H' -> okB W.B b H' -> Q vs H') -> R) : R := by
  obtain ⟨pn,M,b,ρ,P,st,h,k⟩ := h
  exact f pn M b ρ P st h k
theorem cnI.elim {W : Wd}{fz : Bool}{d : DA3}{σ : St}{H : Hp}{R : It -> Hp -> Prop}{Z : Prop}(h : cnI W fz d σ H R)(f : ∀ pn M b ρ P,Sta W pn M b H σ ρ -> d ρ P (cnt b H) -> (∀ items J need H',P items (cnt b H') -> items.all plain = true -> ItOk W J need items -> (∀ q ∈ need,RepX W M b H' q.1 q.2 /\ (fz = true -> plain q.1 = true)) -> Kp b H H' -> okB W.B b H' -> R J H') -> Z) : Z := by
  obtain ⟨pn,M,b,ρ,P,st,h,k⟩ := h
  exact f pn M b ρ P st h k
section
variable {X : Cx}{W : Wd}{e a b c l tg : Expr}{es : List Expr}{pos p : Pos}{fz : Bool}
end
end L2
set_option Elab.async false
set_option linter.all false
set_option maxRecDepth 100000
set_option maxHeartbeats 4000000
namespace L2
open PySem PySem.Spec PyProof.Rows
section
variable {X : Cx}{W : Wd}{e a b c l tg : Expr}{es : List Expr}{pos p : Pos}{d da db dc dl : DE3}{dA : DA3}{x : Str}{k : Nat}{ps : List Str}
variable {ta tb : DT3}{rest : List Expr}
abbrev DSp3 := List D -> (D -> Om) -> Om
def liftSp3 (K : PySem.W.Frag)(B : BagT)(S : DSp3) : Sp := fun vs H Q E => ∃ (M : Addr -> Prop) (b : Option Addr) (ds : List D) (P : D -> Om),S ds P (cnt b H) /\ RepAs K M b H ds vs /\ okB B b H /\ (∀ p,b = some p -> M p) /\ (∀ c,M c -> ∃ o,H c = some o) /\
  (∀ d v H',P d (cnt b H') -> Rep K M H' d v -> Kp b H H' -> okB B b H' -> Q v H')
variable {r : List V -> Hp -> VK -> Prop}{o : List D -> (D -> Prop) -> Prop}{id T : String}
variable {fz : Bool}
end
end L2
set_option Elab.async false
set_option linter.all false
set_option maxRecDepth 100000
set_option maxHeartbeats 4000000
namespace L2
open PySem PySem.Spec PyProof.Rows
structure DEnds3 where
  nx : Ev -> Om
  rt : D -> Om
  bk : Ev -> Om := fun _ _ => False
  ct : Ev -> Om := fun _ _ => False
  ro : List D -> Om := fun _ _ => False
abbrev DS3 := DEnds3 -> Ev -> Om
structure Link3 (W : Wd)(pn : List (D × V))(E : Ends)(F : DEnds3) : Prop where
  nx : ∀ M b ρ σ H,StS W pn M b H σ ρ -> F.nx ρ (cnt b H) -> E.nx σ H
  rt : ∀ d v H n,F.rt d n -> (∀ p,W.b0 = some p -> n = cnt W.b0 H) -> Rep W.K W.M0 H d v -> Kp W.b0 W.H0 H -> okB W.B W.b0 H -> E.rt v H
  bk : ∀ M b ρ σ H,StS W pn M b H σ ρ -> F.bk ρ (cnt b H) -> E.bk σ H
  ct : ∀ M b ρ σ H,StS W pn M b H σ ρ -> F.ct ρ (cnt b H) -> E.ct σ H
  ro : ∀ xs a vs H n,F.ro xs n -> (∀ p,W.b0 = some p -> n = cnt W.b0 H) -> W.H0 a = none -> ¬ W.M0 a -> H a = some (.lst vs) -> Reps W.K W.M0 H xs vs -> Kp W.b0 W.H0 H -> okB W.B W.b0 H -> E.rt (.ref a) H
def sn3 (W : Wd)(d : DS3) : TS := fun E σ H => ∃ pn M b ρ F,StS W pn M b H σ ρ /\ Link3 W pn E F /\ d F ρ (cnt b H)
theorem sn3.elim {W : Wd}{d : DS3}{E : Ends}{σ : St}{H : Hp}{Z : Prop}(h : sn3 W d E σ H)(f : ∀ pn M b ρ F,StS W pn M b H σ ρ -> Link3 W pn E F -> d F ρ (cnt b H) -> Z) : Z := by
  obtain ⟨pn,M,b,ρ,F,s,l,h⟩ := h
  exact f pn M b ρ F s l h
section
variable {X : Cx}{W : Wd}{e a b c tg iter l : Expr}{es : List Expr}{pos p : Pos}{d da db dc dl de : DE3}{dA di : DA3}{dt : DT3}{st : Stmt}{rest sts : List Stmt}{d1 d2 : DS3}{t : TS}
end
theorem liftSp3.len {K : PySem.W.Frag}{B : BagT}{S : DSp3}{m : Nat}(h : ∀ ds P n,S ds P n -> ds.length = m) : ∀ vs H Q E,liftSp3 K B S vs H Q E -> vs.length = m := fun vs H Q E ⟨M,b,ds,P,hS,hr,_⟩ => by rw [hr.length]; exact h _ _ _ hS
end L2
set_option Elab.async false
set_option linter.all false
set_option maxRecDepth 100000
set_option maxHeartbeats 4000000
namespace L2
open PySem PySem.Spec PyProof.Rows
abbrev DSO3 := List D -> (List D -> Om) -> Om
def liftSpO3 (K : PySem.W.Frag)(B : BagT)(S : DSO3) : Sp := fun vs H Q E => ∃ (M : Addr -> Prop) (b : Option Addr) (ds : List D) (P : List D -> Om),S ds P (cnt b H) /\ RepAs K M b H ds vs /\ okB B b H /\ (∀ p,b = some p -> M p) /\ (∀ c,M c -> ∃ o,H c = some o) /\
  (∀ xs a us H',P xs (cnt b H') -> H a = none -> H' a = some (.lst us) -> Reps K M H' xs us -> Kp b H H' -> okB B b H' -> Q (.ref a) H')
theorem liftSpO3.len {K : PySem.W.Frag}{B : BagT}{S : DSO3}{m : Nat}(h : ∀ ds P n,S ds P n -> ds.length = m) : ∀ vs H Q E,liftSpO3 K B S vs H Q E -> vs.length = m := fun vs H Q E ⟨M,b,ds,P,hS,hr,_⟩ => by rw [hr.length]; exact h _ _ _ hS
section
variable {X : Cx}{W : Wd}{e a b c tg iter l : Expr}{es : List Expr}{pos p : Pos}{d da db dc dl de : DE3}{dA di : DA3}{dt : DT3}{fz : Bool}{x : Str}{k : Nat}{ps : List Str}{S : DSO3}
end
end L2
set_option Elab.async false
set_option linter.all false
set_option maxRecDepth 100000
set_option maxHeartbeats 4000000
namespace L2
open PySem PySem.Spec PyProof.Rows
section
variable {X : Cx}{tg : Expr}
end
section
variable {X : Cx}{W : Wd}{tg a b c : Expr}{pos p : Pos}{dA : DA}{fz : Bool}
end
end L2
set_option Elab.async false
set_option linter.all false
set_option maxRecDepth 100000
set_option maxHeartbeats 4000000
namespace L2
open PySem PySem.Spec PyProof.Rows
end L2
set_option Elab.async false
set_option linter.all false
set_option maxRecDepth 100000
set_option maxHeartbeats 4000000
namespace L2
open PySem PySem.Spec PyProof.Rows
section
variable {X : Cx}{W : Wd}{a b c : Expr}{pos p : Pos}{dA : DA}{fz : Bool}
end
section
variable {X : Cx}{W : Wd}{tg a b c : Expr}{pos p : Pos}{dA : DA3}{fz : Bool}
end
end L2
set_option Elab.async false
set_option linter.all false
set_option maxRecDepth 100000
set_option maxHeartbeats 4000000
namespace L2
open PySem PySem.Spec PyProof.Rows
section
variable {X : Cx}{W : Wd}{e e1 e2 : Expr}{es : List Expr}{pos p : Pos}{dA : DA}{x : Str}{k : Nat}{ps : List Str}{S : DSO}
end
end L2
set_option Elab.async false
set_option linter.all false
set_option maxRecDepth 100000
set_option maxHeartbeats 4000000
namespace L2
open PySem PySem.Spec PyProof.Rows
def RowsR (K : PySem.W.Frag)(M : Addr -> Prop)(H : Hp) : List Addr -> List (List D) -> Prop
  | [],rows => rows = []
  | r :: rs,rows => ∃ row rest us,rows = row :: rest /\ H r = some (.lst us) /\ Reps K M H row us /\ RowsR K M H rs rest
section
variable {K : PySem.W.Frag}{M M' : Addr -> Prop}{H H' : Hp}
theorem RowsR.keep : ∀ (rs : List Addr) (rows : List (List D)),(∀ c o,(¬ M c \/ c ∈ rs) -> H c = some o -> H' c = some o) -> RowsR K M H rs rows -> RowsR K M H' rs rows
  | [],_,_,h => h
  | r :: rs,rows,k,h => by
    obtain ⟨row,rest,us,e,h1,h2,h3⟩ := h
    exact ⟨row,rest,us,e,k _ _ (.inr (List.mem_cons_self ..)) h1,Reps.keep (fun c o n e => k c o (.inl n) e) _ _ h2,RowsR.keep rs rest (fun c o q e => k c o (q.imp id (List.mem_cons_of_mem _)) e) h3⟩
theorem RowsR.length : ∀ {rs : List Addr} {rows : List (List D)},RowsR K M H rs rows -> rows.length = rs.length
  | [],_,h => by rw [show _ = [] from h]; rfl
  | r :: rs,rows,h => by
    obtain ⟨row,rest,us,rfl,h1,h2,h3⟩ := h
    simp [RowsR.length h3]
theorem RowsR.lst : ∀ {rs : List Addr} {rows : List (List D)},RowsR K M H rs rows -> ∀ r ∈ rs,∃ us,H r = some (.lst us)
  | [],_,_,r,m => by cases m
  | r :: rs,rows,h,r',m => by
    obtain ⟨row,rest,us,rfl,h1,h2,h3⟩ := h
    rcases List.mem_cons.mp m with z | z
    · rw [z]; exact ⟨us,h1⟩
    · exact RowsR.lst h3 r' z
theorem RowsR.at : ∀ {rs : List Addr} {rows : List (List D)} {k : Nat} {r : Addr},RowsR K M H rs rows -> rs[k]? = some r -> ∃ row us,rows[k]? = some row /\ H r = some (.lst us) /\ Reps K M H row us
  | [],_,_,_,_,e => by simp at e
  | _ :: rs,rows,0,r,h,e => by
    obtain ⟨row,rest,us,rfl,h1,h2,h3⟩ := h
    simp at e; subst e
    exact ⟨row,us,rfl,h1,h2⟩
  | _ :: rs,rows,k + 1,r,h,e => by
    obtain ⟨row,rest,us,rfl,h1,h2,h3⟩ := h
    obtain ⟨row',us',e1,e2⟩ := RowsR.at (k := k) h3 (by simpa using e)
    exact ⟨row',us',by simpa using e1,e2⟩
theorem RowsR.set : ∀ {rs : List Addr} {rows : List (List D)} {k : Nat} {r : Addr} {row : List D} {us : List V},rs.Nodup -> (∀ c ∈ rs,M c) -> RowsR K M H rs rows -> rs[k]? = some r -> Reps K M H row us -> RowsR K M (upd H r (.lst us)) rs (rows.set k row)
  | [],_,_,_,_,_,_,_,_,e,_ => by simp at e
  | r0 :: rs,rows,0,r,row,us,nd,hm,h,e,hr => by
    obtain ⟨row0,rest,us0,rfl,h1,h2,h3⟩ := h
    simp at e; subst e
    have kk : ∀ c o,¬ M c -> H c = some o -> upd H r0 (.lst us) c = some o := fun c o n q => by rw [upd_ne (fun z => n (by rw [z]; exact hm r0 (List.mem_cons_self ..)))]; exact q
    refine ⟨row,rest,us,rfl,upd_same,Reps.keep kk _ _ hr,RowsR.keep rs rest (fun c o q e => ?_) h3⟩
    rcases q with q | q
    · exact kk c o q e
    · rw [upd_ne (fun z => (List.nodup_cons.mp nd).1 (by rw [<- z]; exact q))]; exact e
  | r0 :: rs,rows,k + 1,r,row,us,nd,hm,h,e,hr => by
    obtain ⟨row0,rest,us0,rfl,h1,h2,h3⟩ := h
    have er : rs[k]? = some r := by simpa using e
    have ne : r0 ≠ r := fun z => (List.nodup_cons.mp nd).1 (by rw [z]; exact List.mem_of_getElem? er)
    have kk : ∀ c o,¬ M c -> H c = some o -> upd H r (.lst us) c = some o := fun c o n q => by rw [upd_ne (fun z => n (by rw [z]; exact hm r (List.mem_cons_of_mem _ (List.mem_of_getElem? er))))]; exact q
    exact ⟨row0,rest.set k row,us0,rfl,by rw [upd_ne ne]; exact h1,Reps.keep kk _ _ h2,RowsR.set (List.nodup_cons.mp nd).2 (fun c m => hm c (List.mem_cons_of_mem _ m)) h3 er hr⟩
end
end L2
set_option Elab.async false
set_option linter.all false
set_option maxRecDepth 100000
set_option maxHeartbeats 4000000
namespace L2
open PySem PySem.Spec PyProof.Rows
section
variable {X : Cx}{W : Wd}{elt iter tg : Expr}{ifs : List Expr}{scope : Scope}{pos : Pos}{N' : List Str}{map : List (Option Nat)}{g : TG}{gd : D -> Ev -> (Ev -> Prop) -> Prop}{di : DA}{dt : DT}{de : DE}
end
theorem RowsR.append {K : PySem.W.Frag}{M : Addr -> Prop}{H : Hp}{p : Addr}{row : List D}{us : List V}(hp : H p = some (.lst us))(hr : Reps K M H row us) : ∀ {rs : List Addr} {rows : List (List D)},RowsR K M H rs rows -> RowsR K M H (rs ++ [p]) (rows ++ [row])
  | [],rows,h => by rw [show rows = [] from h]; exact ⟨row,[],us,rfl,hp,hr,rfl⟩
  | r :: rs,rows,h => by
    obtain ⟨row0,rest,us0,rfl,h1,h2,h3⟩ := h
    exact ⟨row0,rest ++ [row],us0,rfl,h1,h2,RowsR.append hp hr h3⟩
abbrev DSG := List D -> (List (List D) -> Prop) -> (Addr -> Prop) -> Prop
structure GNew (K : PySem.W.Frag)(M : Addr -> Prop)(H H' : Hp)(a : Addr)(rs : List Addr)(rows : List (List D)) : Prop where
  a0 : H a = none
  r0 : ∀ r ∈ rs,H r = none
  nd : (a :: rs).Nodup
  ha : H' a = some (.lst (rs.map V.ref))
  hr : RowsR K (fun c => M c \/ c ∈ a :: rs) H' rs rows
def liftSpG (K : PySem.W.Frag)(B : BagT)(S : DSG) : Sp := fun vs H Q E => ∃ (M : Addr -> Prop) (b : Option Addr) (ds : List D) (P : List (List D) -> Prop) (Ed : Addr -> Prop),S ds P Ed /\ RepAs K M b H ds vs /\ okB B b H /\ (∀ p,b = some p -> M p) /\ (∀ c,M c -> ∃ o,H c = some o) /\
  (∀ rows a rs H',P rows -> GNew K M H H' a rs rows -> Kp b H H' -> okB B b H' -> Q (.ref a) H') /\ ∀ C H',Ed C -> Kp b H H' -> okB B b H' -> E (.ref C) none H'
theorem liftSpG.len {K : PySem.W.Frag}{B : BagT}{S : DSG}{n : Nat}(h : ∀ ds P Ed,S ds P Ed -> ds.length = n) : ∀ vs H Q E,liftSpG K B S vs H Q E -> vs.length = n := fun vs H Q E ⟨M,b,ds,P,Ed,hS,hr,_⟩ => by rw [hr.length]; exact h _ _ _ hS
end L2
set_option Elab.async false
set_option linter.all false
set_option maxRecDepth 100000
set_option maxHeartbeats 4000000
namespace L2
open PySem PySem.Spec PyProof.Rows
section
variable {X : Cx}{W : Wd}{e a b c tg iter l : Expr}{es : List Expr}{pos p : Pos}{d da db dc dl de : DE}{dA di : DA}{dt : DT}{fz : Bool}{x : Str}{k : Nat}{ps : List Str}{S : DSG}
end
end L2
set_option Elab.async false
set_option linter.all false
set_option maxRecDepth 100000
set_option maxHeartbeats 4000000
namespace L2
open PySem PySem.Spec PyProof.Rows
section
variable {X : Cx}{W : Wd}{e a b c tg iter l : Expr}{es : List Expr}{pos p : Pos}{dA : DA}{x : Str}{k : Nat}{ps : List Str}{S : DSG}{So : DSO}
end
end L2
set_option Elab.async false
set_option linter.all false
set_option maxRecDepth 100000
set_option maxHeartbeats 4000000
namespace L2
open PySem PySem.Spec PyProof.Rows
section
variable {X : Cx}{W : Wd}{e a b c tg iter l : Expr}{es : List Expr}{pos p : Pos}{dA : DA}
end
end L2
set_option Elab.async false
set_option linter.all false
set_option maxRecDepth 100000
set_option maxHeartbeats 4000000
namespace L2
open PySem PySem.Spec PyProof.Rows
section
variable {X : Cx}{W : Wd}{e a b c tg iter l : Expr}{es : List Expr}{pos p : Pos}{dA : DA}
end
end L2
set_option Elab.async false
set_option linter.all false
set_option maxRecDepth 100000
set_option maxHeartbeats 4000000
namespace L2
open PySem PySem.Spec PyProof.Rows
section
variable {X : Cx}{W : Wd}{pos : Pos}{dA : DA}
end
end L2
set_option Elab.async false
set_option linter.all false
set_option maxRecDepth 100000
set_option maxHeartbeats 4000000
namespace L2
open PySem PySem.Spec PyProof.Rows
section
variable {X : Cx}{W : Wd}{a b : Expr}{rest : List Expr}{pos : Pos}{da db : DE3}
end
end L2
set_option Elab.async false
set_option linter.all false
set_option maxRecDepth 100000
set_option maxHeartbeats 4000000
namespace L2
open PySem PySem.Spec PyProof.Rows
structure PNew (K : PySem.W.Frag)(M : Addr -> Prop)(H H' : Hp)(f : Frg)(d : D)(v : V) : Prop where
  new : ∀ c ∈ f.ads,H c = none
  R : f.R (fun c => M c \/ c ∈ f.ads) H' v
  rep : Rep K M H' d v
abbrev DSP3 := List D -> (Frg -> D -> Om) -> Om
def liftSpP3 (K : PySem.W.Frag)(B : BagT)(S : DSP3) : Sp := fun vs H Q E => ∃ (M : Addr -> Prop) (b : Option Addr) (ds : List D) (P : Frg -> D -> Om),S ds P (cnt b H) /\ RepAs K M b H ds vs /\ okB B b H /\ (∀ p,b = some p -> M p) /\ (∀ c,M c -> ∃ o,H c = some o) /\
  (∀ f d v H',P f d (cnt b H') -> PNew K M H H' f d v -> Kp b H H' -> okB B b H' -> Q v H')
theorem liftSpP3.len {K : PySem.W.Frag}{B : BagT}{S : DSP3}{m : Nat}(h : ∀ ds P n,S ds P n -> ds.length = m) : ∀ vs H Q E,liftSpP3 K B S vs H Q E -> vs.length = m := fun vs H Q E ⟨M,b,ds,P,hS,hr,_⟩ => by rw [hr.length]; exact h _ _ _ hS
section
variable {X : Cx}{W : Wd}{e a b c tg iter l : Expr}{es : List Expr}{pos p : Pos}{de : DE3}{dA di : DA3}{dt : DT3}{x : Str}{k : Nat}{ps : List Str}{S : DSP3}
end
end L2
set_option Elab.async false
set_option linter.all false
set_option maxRecDepth 100000
set_option maxHeartbeats 4000000
namespace L2
open PySem PySem.Spec PyProof.Rows
section
variable {X : Cx}{W : Wd}{e : Expr}{pos : Pos}{de : DE3}{dA : DA3}
end
end L2
set_option Elab.async false
set_option linter.all false
set_option maxRecDepth 100000
set_option maxHeartbeats 4000000
namespace L2
open PySem PySem.Spec PyProof.Rows
end L2
set_option Elab.async false
set_option linter.all false
set_option maxRecDepth 100000
set_option maxHeartbeats 4000000
namespace L2
open PySem PySem.Spec PyProof.Rows
def itemsP : PyData -> Option (List PyData)
  | .list ps => some ps
  | .tuple ps => some ps
  | _ => none
def rInG (K : PySem.W.Frag)(neg : Bool) : R2 := fun x y H Q => ∃ M dx dy p q ps,RepG K M H dx x /\ RepG K M H dy y /\ pyOf dx = some p /\ pyOf dy = some q /\ itemsP q = some ps /\ min (PyData.depthAll ps) p.depth <= 60 /\ Q (.bl ((ps.any fun y => PyData.eqv y p) != neg)) H
theorem layAll {ps : List PyData}{q : PyData}(h : q.canLay0 = true)(e : itemsP q = some ps) : PyData.canLayAll0 ps = true := by
  cases q <;> simp [itemsP] at e
  all_goals
    subst e
    unfold PyData.canLay0 at h
    exact h
theorem op_notinG {X : Cx}(K : PySem.W.Frag)(hK : X.K = K)(hu : X.A.units + 64 < cLine) : OpR X (compareOp .NotIn) (rInG K true) := by
  subst hK
  intro pins s σ H x y v u Q I rx ry h
  obtain ⟨M,dx,dy,p,q,ps,r1,r2,e1,e2,e3,hd,hq⟩ := h
  obtain ⟨as,a1⟩ := repG_reads I r1 rx e1
  obtain ⟨bs,a2⟩ := repG_reads I r2 ry e2
  have l2 := layAll (pyOf.lay _ _ e2) e3
  cases q <;> simp [itemsP] at e3
  case list qs => subst e3; exact SeqAt.notIn_list_reads a2 a1 l2 (pyOf.lay _ _ e1) (by omega) ⟨.bl _,H,I,rfl,by simpa using hq⟩
  case tuple qs => subst e3; exact SeqAt.notIn_tuple_reads a2 a1 l2 (pyOf.lay _ _ e1) (by omega) ⟨.bl _,H,I,rfl,by simpa using hq⟩
inductive InG (neg : Bool)(x y : D)(P : D -> Prop) : Prop
  | mk (p q : PyData) (ps : List PyData) (e1 : pyOf x = some p) (e2 : pyOf y = some q) (e3 : itemsP q = some ps) (hd : min (PyData.depthAll ps) p.depth <= 60) (h : P (.bl ((ps.any fun y => PyData.eqv y p) != neg))) : InG neg x y P
def oInG (neg : Bool) : D -> D -> (D -> Prop) -> Prop := fun x y P => InG neg x y P
theorem od_inG {W : Wd}{neg : Bool} : OpD W (rInG W.K neg) (oInG neg) := by
  intro M b H x y v u P Q hs rx ry ho k
  obtain ⟨p,q,ps,e1,e2,e3,hd,hp⟩ := ho
  exact ⟨M,x,y,p,q,ps,rx.g e1,ry.g e2,e1,e2,e3,hd,k _ _ H hp (show _ = _ from rfl) (Kp.refl _ _) hs.ok⟩
theorem pys_ints : ∀ ns : List Int,pysOf (ns.map D.int) = some (ns.map PyData.int)
  | [] => rfl
  | n :: ns => by rw [List.map_cons]; unfold pysOf; rw [pys_ints ns]; rfl
end L2
set_option Elab.async false
set_option linter.all false
set_option maxRecDepth 100000
set_option maxHeartbeats 4000000
namespace L2
open PySem PySem.Spec PyProof.Rows
structure Pc where
  (a : Addr) (f : Frg) (d : D)
abbrev Pc.g (p : Pc) : D := .frg p.f p.d
def Pc.at (p : Pc) : Prop := ∀ M H v,p.f.R M H v -> v = .ref p.a
structure RepP (K : PySem.W.Frag)(M : Addr -> Prop)(b : Option Addr)(H : Hp)(p : Pc) : Prop where
  at' : p.at
  ow : ∀ c ∈ p.f.ads,M c /\ b ≠ some c
  r : p.f.R M H (.ref p.a)
  d : Rep K (fun c => M c /\ c ∉ p.f.ads) H p.d (.ref p.a)
def adsP (ps : List Pc) : List Addr := ps.flatMap fun p => p.f.ads
def likeP (ps ps' : List Pc) : Prop := ps'.map (fun p => (p.a,p.f.ads)) = ps.map fun p => (p.a,p.f.ads)
theorem likeP.get {ps ps' : List Pc}{i : Nat}{p' : Pc}(h : likeP ps ps')(e : ps'[i]? = some p') : ∃ p,ps[i]? = some p /\ p'.a = p.a /\ p'.f.ads = p.f.ads := by
  have q := congrArg (fun l => l[i]?) h
  simp only [List.getElem?_map,e,Option.map_some] at q
  obtain ⟨p,e1,e2⟩ := Option.map_eq_some_iff.mp q.symm
  simp only [Prod.mk.injEq] at e2
  exact ⟨p,e1,e2.1.symm,e2.2.symm⟩
def disjP (ps : List Pc) : Prop := ∀ (i j : Nat) p q c,ps[i]? = some p -> ps[j]? = some q -> c ∈ p.f.ads -> c ∈ q.f.ads -> i = j
def KpA (A : List Addr)(b : Option Addr)(H H' : Hp) : Prop := ∀ c o,c ∉ A -> b ≠ some c -> H c = some o -> H' c = some o
abbrev DSU := List Pc -> List D -> (List Pc -> D -> Prop) -> Prop
def liftSpU (K : PySem.W.Frag)(B : BagT)(S : DSU) : Sp := fun vs H Q E => ∃ (M : Addr -> Prop) (b : Option Addr) (ps : List Pc) (ds : List D) (P : List Pc -> D -> Prop) (dvs : List V),vs = ps.map (fun p => .ref p.a) ++ dvs /\ S ps ds P /\ (∀ p ∈ ps,RepP K M b H p) /\ disjP ps /\ RepAs K M b H ds dvs /\ okB B b H /\ (∀ p,b = some p -> M p) /\ (∀ c,M c -> ∃ o,H c = some o) /\
  ∀ ps' r v H',P ps' r -> likeP ps ps' -> (∀ p ∈ ps',RepP K M b H' p) -> Rep K M H' r v -> KpA (adsP ps) b H H' -> okB B b H' -> Q v H'
theorem liftSpU.len {K : PySem.W.Frag}{B : BagT}{S : DSU}{n : Nat}(h : ∀ ps ds P,S ps ds P -> ps.length + ds.length = n) : ∀ vs H Q E,liftSpU K B S vs H Q E -> vs.length = n := fun vs H Q E ⟨M,b,ps,ds,P,dvs,e,hS,_,_,hr,_⟩ => by
  rw [e,List.length_append,List.length_map,hr.length]; exact h _ _ _ hS
end L2
set_option Elab.async false
set_option linter.all false
set_option maxRecDepth 100000
set_option maxHeartbeats 4000000
namespace L2
open PySem PySem.Spec PyProof.Rows
section
variable {W : Wd}{pn : List (D × V)}{M : Addr -> Prop}{b : Option Addr}{H H' : Hp}{σ : St}{ρ : Ev}{js : List Nat}{ps ps' : List Pc}
def heldP (js : List Nat)(ps : List Pc)(ρ : Ev) : Prop := js.length = ps.length /\ ∀ (k : Nat) p,ps[k]? = some p -> p.at /\ ∃ j,js[k]? = some j /\ ρ[j]? = some (some p.g)
theorem heldP.ads (s : StS W pn M b H σ ρ)(h : heldP js ps ρ){c : Addr}(m : c ∈ adsP ps) : ∃ (k j : Nat) (p : Pc),ps[k]? = some p /\ js[k]? = some j /\ ρ[j]? = some (some p.g) /\ c ∈ p.f.ads /\ σ[j]? = some (some (.ref p.a)) /\ RepX W M b H p.g (.ref p.a) := by
  obtain ⟨p,mp,mc⟩ := List.mem_flatMap.mp m
  obtain ⟨k,ek⟩ := List.getElem?_of_mem mp
  obtain ⟨pa,j,ej,er⟩ := h.2 k p ek
  obtain ⟨v,ev,r⟩ := s.env j _ er
  have hv := pa _ _ _ r.2.1
  subst hv
  exact ⟨k,j,p,ek,ej,er,mc,ev,r⟩
end
section
variable {X : Cx}{W : Wd}{S : DSU}{dA : DA}{pos : Pos}
end
end L2
set_option Elab.async false
set_option linter.all false
set_option maxRecDepth 100000
set_option maxHeartbeats 4000000
namespace L2
open PySem PySem.Spec PyProof.Rows
section
variable {W : Wd}{pn : List (D × V)}{M : Addr -> Prop}{b : Option Addr}{H H' : Hp}{σ : St}{ρ : Ev}{a : Addr}{ks : List (List Int)}{xs : List D}{t : Tg}{vs : List V}
end
section
variable {K : PySem.W.Frag}{M : Addr -> Prop}{H : Hp}{n : List Int}{z : D}{v : V}{u : Value}{b : Addr}
end
section
variable {X : Cx}{W : Wd}{pos : Pos}
end
end L2
set_option Elab.async false
set_option linter.all false
set_option maxRecDepth 100000
set_option maxHeartbeats 4000000
namespace L2
open PySem PySem.Spec PyProof.Rows
section
variable {X : Cx}{W : Wd}{S : DSU}{dA : DA}{pos : Pos}
end
end L2
set_option Elab.async false
set_option linter.all false
set_option maxRecDepth 100000
set_option maxHeartbeats 4000000
namespace L2
open PySem PySem.Spec PyProof.Rows
section
variable {X : Cx}{W : Wd}{pos : Pos}
variable {elt iter tg : Expr}{ifs : List Expr}{scope : Scope}{N' : List Str}{map : List (Option Nat)}{g : TG}{gd : D -> Ev -> (Ev -> Prop) -> Prop}{di : DA}{dt : DT}{de : DA}
end
end L2
set_option Elab.async false
set_option linter.all false
set_option maxRecDepth 100000
set_option maxHeartbeats 4000000
namespace L2
open PySem PySem.Spec PyProof.Rows
def RawD (h : Heap)(d : Addr)(ds : Array DictEntry)(ep : Nat) : Prop := ∃ o : Obj,h.get? d = some o /\ o.ExactDict /\ o.data = .dict ds ep
section
variable {prog : Program}{w : World}{A : Around}{E : Value -> Shared -> Prop}{s : Shared}{d it : Addr}{ds : Array DictEntry}{ep i : Nat}
end
end L2
set_option Elab.async false
set_option linter.all false
set_option maxRecDepth 100000
set_option maxHeartbeats 4000000
namespace L2
open PySem PySem.Spec PyProof.Rows
section
variable {X : Cx}{pins : List (Addr × Obj)}{σ : St}{H : Hp}{s : Shared}{a : Addr}{es : Ens}{ep : Nat}{tg : Expr}
end
end L2
set_option Elab.async false
set_option linter.all false
set_option maxRecDepth 100000
set_option maxHeartbeats 4000000
namespace L2
open PySem PySem.Spec PyProof.Rows
section
variable {X : Cx}{W : Wd}{e o f tg : Expr}{es : List Expr}{pos : Pos}{dA : DA}{de dk df : DE}
end
end L2
set_option Elab.async false
set_option linter.all false
set_option maxRecDepth 100000
set_option maxHeartbeats 4000000
namespace L2
open PySem PySem.Spec PyProof.Rows
section
variable {gd gd2 : D -> Ev -> (Ev -> Prop) -> Prop}{dt : DT}{de : DE}{ρc : Ev}{items acc0 : List D}{P : List D -> Prop}{mp2 : List (Option Nat)}{di2 : DA}
end
section
variable {X : Cx}{W : Wd}{pos : Pos}{a : Expr}{dA : DA}
end
end L2
set_option Elab.async false
set_option linter.all false
set_option maxRecDepth 100000
set_option maxHeartbeats 4000000
namespace L2
open PySem PySem.Spec PyProof.Rows
end L2
set_option Elab.async false
set_option linter.all false
set_option maxRecDepth 100000
set_option maxHeartbeats 4000000
namespace L2
open PySem PySem.Spec PyProof.Rows
section
variable {X : Cx}{W : Wd}{pos : Pos}{dA : DA}
end
end L2
set_option Elab.async false
set_option linter.all false
set_option maxRecDepth 100000
set_option maxHeartbeats 4000000
namespace L2
open PySem PySem.Spec PyProof.Rows
section
variable {prog : Program}{w : World}{A : Around}{R : Result -> Shared -> Prop}{I S : Addr}{fp wr : List Addr}{n : Nat}{P : Nat -> Value -> Prop}{St : Nat -> Heap -> Prop}{J : Heap -> Prop}{bt : Nat -> Nat -> Bool}
end
section
variable {prog : Program}{w : World}{A : Around}{E : Value -> Shared -> Prop}{s : Shared}
end
section
variable {prog : Program}{w : World}{A : Around}
theorem RawD.at {h h' : Heap}{d : Addr}{ds : Array DictEntry}{ep : Nat}(x : RawD h d ds ep)(k : ∀ o,h.get? d = some o -> h'.get? d = some o) : RawD h' d ds ep := let ⟨o,e,q⟩ := x; ⟨o,k o e,q⟩
end
section
variable {X : Cx}
end
end L2
set_option Elab.async false
set_option linter.all false
set_option maxRecDepth 100000
set_option maxHeartbeats 4000000
namespace L2
open PySem PySem.Spec PyProof.Rows
section
variable {X : Cx}{W : Wd}
end
end L2
set_option Elab.async false
set_option linter.all false
set_option maxRecDepth 100000
set_option maxHeartbeats 4000000
namespace L2
open PySem PySem.Spec PyProof.Rows
end L2
set_option Elab.async false
set_option linter.all false
set_option maxRecDepth 100000
set_option maxHeartbeats 4000000
namespace L2
open PySem PySem.Spec PyProof.Rows
section
variable {X : Cx}{W : Wd}{dt : DT}{dA dA1 dA2 : DA}{S S1 : DSO}{S2 : DSG}{st : Stmt}
end
end L2
set_option Elab.async false
set_option linter.all false
set_option maxRecDepth 100000
set_option maxHeartbeats 4000000
namespace L2
open PySem PySem.Spec PyProof.Rows
abbrev DST := List D -> (List (List D) -> Int -> Prop) -> (Addr -> Prop) -> Prop
structure TNew (K : PySem.W.Frag)(M : Addr -> Prop)(H H' : Hp)(p a : Addr)(rs : List Addr)(rows : List (List D))(n : Int) : Prop extends GNew K M H H' a rs rows where
  p0 : H p = none
  hp : H' p = some (.tup [.ref a,.int n])
def liftSpT (K : PySem.W.Frag)(B : BagT)(S : DST) : Sp := fun vs H Q E => ∃ (M : Addr -> Prop) (b : Option Addr) (ds : List D) (P : List (List D) -> Int -> Prop) (Ed : Addr -> Prop),S ds P Ed /\ RepAs K M b H ds vs /\ okB B b H /\ (∀ p,b = some p -> M p) /\ (∀ c,M c -> ∃ o,H c = some o) /\
  (∀ rows n p a rs H',P rows n -> TNew K M H H' p a rs rows n -> Kp b H H' -> okB B b H' -> Q (.ref p) H') /\ ∀ C H',Ed C -> Kp b H H' -> okB B b H' -> E (.ref C) none H'
theorem liftSpT.len {K : PySem.W.Frag}{B : BagT}{S : DST}{n : Nat}(h : ∀ ds P Ed,S ds P Ed -> ds.length = n) : ∀ vs H Q E,liftSpT K B S vs H Q E -> vs.length = n := fun vs H Q E ⟨M,b,ds,P,Ed,hS,hr,_⟩ => by rw [hr.length]; exact h _ _ _ hS
section
variable {X : Cx}{W : Wd}{e a : Expr}{es : List Expr}{pos p : Pos}{dA : DA}{x : Str}{k : Nat}{ps : List Str}{S : DST}
end
end L2
set_option Elab.async false
set_option linter.all false
set_option maxRecDepth 100000
set_option maxHeartbeats 4000000
namespace L2
open PySem PySem.Spec PyProof.Rows
section
variable {X : Cx}{W : Wd}{e o a b : Expr}{es : List Expr}{pos : Pos}{dO de : DE}{dA : DA}
variable {r : V -> List V -> Hp -> VK -> Prop}{f : Str -> List D -> (D -> Prop) -> Prop}{name : Str}{id : String}{apos cpos : Pos}
end
end L2
set_option Elab.async false
set_option linter.all false
set_option maxRecDepth 100000
set_option maxHeartbeats 4000000
namespace L2
open PySem PySem.Spec PyProof.Rows
end L2
set_option Elab.async false
set_option linter.all false
set_option maxRecDepth 100000
set_option maxHeartbeats 4000000
namespace L2
open PySem PySem.Spec PyProof.Rows
section
variable {X : Cx}{W : Wd}{e o a b l tg : Expr}{es : List Expr}{pos : Pos}{dO de da db dl : DE}{dA : DA}{fz : Bool}
end
end L2
set_option Elab.async false
set_option linter.all false
set_option maxRecDepth 100000
set_option maxHeartbeats 4000000
namespace L2
open PySem PySem.Spec PyProof.Rows
def asc (z : Str) : Prop := ∀ c ∈ z.cps.toList,c < 128
theorem asc.all {z : Str}(h : asc z) : z.cps.all (· < 128) = true := by
  refine (Array.all_toList ..).symm.trans (List.all_eq_true.mpr fun c hc => ?_)
  simpa using h c hc
end L2
set_option Elab.async false
set_option linter.all false
set_option maxRecDepth 100000
set_option maxHeartbeats 4000000
namespace L2
open PySem PySem.Spec PyProof.Rows
section
variable {X : Cx}{W : Wd}{e o a b : Expr}{es : List Expr}{pos : Pos}{dO de : DE}{dA : DA}
theorem bt_set : bootBuiltins "set" = some (.type "set") := by decide +kernel
end
end L2
set_option Elab.async false
set_option linter.all false
set_option maxRecDepth 100000
set_option maxHeartbeats 4000000
namespace L2
open PySem PySem.Spec PyProof.Rows
section
variable {X : Cx}
end
end L2
set_option Elab.async false
set_option linter.all false
set_option maxRecDepth 100000
set_option maxHeartbeats 4000000
namespace L2
open PySem PySem.Spec PyProof.Rows
section
variable {X : Cx}{W : Wd}
end
end L2
set_option Elab.async false
set_option linter.all false
set_option maxRecDepth 100000
set_option maxHeartbeats 4000000
namespace L2
open PySem PySem.Spec PyProof.Rows
section
variable {X : Cx}{W : Wd}{e : Expr}{dA : DA}
end
end L2
set_option Elab.async false
set_option linter.all false
set_option maxRecDepth 100000
set_option maxHeartbeats 4000000
namespace L2
open PySem PySem.Spec PyProof.Rows
def kA (k : Keyed -> Int)(xs : Array Keyed)(i : Nat) : Int := match xs[i]? with
  | some p => k p
  | none => 0
def SrtR (k : Keyed -> Int)(xs : Array Keyed)(lo n : Nat) : Prop := ∀ i j,lo <= i -> i <= j -> j < lo + n -> kA k xs i <= kA k xs j
theorem kA_at {k : Keyed -> Int}{xs : Array Keyed}{i : Nat}(h : i < xs.size) : kA k xs i = k xs[i] := by unfold kA; rw [getElem?_pos xs i h]
structure TB (κ : SortKind)(a₀ : Array Keyed)(st : SortSt) : Prop where
  perm : (arrOf st).Perm a₀
  kind : kindOf st = κ
  ok : failedOf st = none
theorem TB.size {κ : SortKind}{a₀ : Array Keyed}{st : SortSt}(h : TB κ a₀ st) : (arrOf st).size = a₀.size := h.perm.size_eq
structure Sam (lo hi : Nat)(st st' : SortSt) : Prop where
  pend : pendingOf st' = pendingOf st
  out : ∀ i,i < lo \/ hi <= i -> (arrOf st')[i]? = (arrOf st)[i]?
theorem Sam.trans {lo hi : Nat}{a b c : SortSt}(h : Sam lo hi a b)(h' : Sam lo hi b c) : Sam lo hi a c := ⟨h'.pend.trans h.pend,fun i hi => (h'.out i hi).trans (h.out i hi)⟩
section
variable {prog : Program}{w : World}{A : Around}{E : Value -> Shared -> Prop}{s : Shared}{κ : SortKind}{a₀ : Array Keyed}{k : Keyed -> Int}
end
end L2
set_option Elab.async false
set_option linter.all false
set_option maxRecDepth 100000
set_option maxHeartbeats 4000000
namespace L2
open PySem PySem.Spec PyProof.Rows
local macro_rules | `(tactic| walk_at "un gallop") => do let n := Lean.mkIdent (Lean.mkPrivateNameCore `PySem.Builtin.List.W1All `PySem.Builtin.gallop); `(tactic| unfold $n)
section
variable {prog : Program}{w : World}{A : Around}{E : Value -> Shared -> Prop}{s : Shared}{κ : SortKind}{a₀ : Array Keyed}{k : Keyed -> Int}
end
end L2
set_option Elab.async false
set_option linter.all false
set_option maxRecDepth 100000
set_option maxHeartbeats 4000000
namespace L2
open PySem PySem.Spec PyProof.Rows
local macro_rules | `(tactic| walk_at "un countRun") => do let n := Lean.mkIdent (Lean.mkPrivateNameCore `PySem.Builtin.List.W1All `PySem.Builtin.countRun); `(tactic| unfold $n)
section
variable {prog : Program}{w : World}{A : Around}{E : Value -> Shared -> Prop}{s : Shared}{κ : SortKind}{a₀ : Array Keyed}{k : Keyed -> Int}
end
end L2
set_option Elab.async false
set_option linter.all false
set_option maxRecDepth 100000
set_option maxHeartbeats 4000000
namespace L2
open PySem PySem.Spec PyProof.Rows
local macro_rules | `(tactic| walk_at "un mergeLo") => do let n := Lean.mkIdent (Lean.mkPrivateNameCore `PySem.Builtin.List.W1All `PySem.Builtin.mergeLo); `(tactic| unfold $n)
def SrtA (k : Keyed -> Int)(xs : Array Keyed) : Prop := SrtR k xs 0 xs.size
section
variable {k : Keyed -> Int}{a b out : Array Keyed}{ia ib : Nat}
structure MEnd (k : Keyed -> Int)(a b out : Array Keyed) : Prop where
  srt : SrtA k out
  pm : out.toList.Perm (a.toList ++ b.toList)
end
section
variable {prog : Program}{w : World}{A : Around}{E : Value -> Shared -> Prop}{s : Shared}{κ : SortKind}{a₀ : Array Keyed}{k : Keyed -> Int}
end
end L2
set_option Elab.async false
set_option linter.all false
set_option maxRecDepth 100000
set_option maxHeartbeats 4000000
namespace L2
open PySem PySem.Spec PyProof.Rows
local macro_rules | `(tactic| walk_at "un mergeHi") => do let n := Lean.mkIdent (Lean.mkPrivateNameCore `PySem.Builtin.List.W1All `PySem.Builtin.mergeHi); `(tactic| unfold $n)
section
variable {k : Keyed -> Int}{a b out : Array Keyed}{na nb : Nat}
end
section
variable {prog : Program}{w : World}{A : Around}{E : Value -> Shared -> Prop}{s : Shared}{κ : SortKind}{a₀ : Array Keyed}{k : Keyed -> Int}
end
end L2
set_option Elab.async false
set_option linter.all false
set_option maxRecDepth 100000
set_option maxHeartbeats 4000000
namespace L2
open PySem PySem.Spec PyProof.Rows
local macro_rules | `(tactic| walk_at "un mergeAt") => do let n := Lean.mkIdent (Lean.mkPrivateNameCore `PySem.Builtin.List.W1All `PySem.Builtin.mergeAt); `(tactic| unfold $n)
section
variable {k : Keyed -> Int}
theorem MEnd.size {x y out : Array Keyed}(h : MEnd k x y out) : out.size = x.size + y.size := by
  have := h.pm.length_eq
  simpa using this
theorem MEnd.all {x y out : Array Keyed}(h : MEnd k x y out){P : Int -> Prop}(hx : ∀ i,i < x.size -> P (kA k x i))(hy : ∀ i,i < y.size -> P (kA k y i)) : ∀ i,i < out.size -> P (kA k out i) := fun i hi => by
  have m : out[i] ∈ x.toList ++ y.toList := h.pm.mem_iff.mp (by simp)
  rw [kA_at hi]
  rcases List.mem_append.mp m with m | m
  · obtain ⟨j,hj,e⟩ := List.mem_iff_getElem.mp m
    have hj' : j < x.size := by simpa using hj
    have := hx j hj'
    rw [kA_at hj'] at this
    rw [<- e]; simpa using this
  · obtain ⟨j,hj,e⟩ := List.mem_iff_getElem.mp m
    have hj' : j < y.size := by simpa using hj
    have := hy j hj'
    rw [kA_at hj'] at this
    rw [<- e]; simpa using this
end
section
variable {prog : Program}{w : World}{A : Around}{E : Value -> Shared -> Prop}{s : Shared}{κ : SortKind}{a₀ : Array Keyed}{k : Keyed -> Int}
end
end L2
set_option Elab.async false
set_option linter.all false
set_option maxRecDepth 100000
set_option maxHeartbeats 4000000
namespace L2
open PySem PySem.Spec PyProof.Rows
section
variable {prog : Program}{w : World}{A : Around}{E : Value -> Shared -> Prop}{s : Shared}{κ : SortKind}{a₀ : Array Keyed}{k : Keyed -> Int}
end
end L2
set_option Elab.async false
set_option linter.all false
set_option maxRecDepth 100000
set_option maxHeartbeats 4000000
namespace L2
open PySem PySem.Spec PyProof.Rows
section
variable {prog : Program}{w : World}{A : Around}{E : Value -> Shared -> Prop}{s : Shared}
end
end L2
set_option Elab.async false
set_option linter.all false
set_option maxRecDepth 100000
set_option maxHeartbeats 4000000
namespace L2
open PySem PySem.Spec PyProof.Rows
section
variable {X : Cx}{ke ve iter tg : Expr}{ifs : List Expr}{scope : Scope}{pos : Pos}{N' : List Str}{map : List (Option Nat)}{wi : TI}{g : TG}{tt : TT}{tk te : TE}
end
end L2
set_option Elab.async false
set_option linter.all false
set_option maxRecDepth 100000
set_option maxHeartbeats 4000000
namespace L2
open PySem PySem.Spec PyProof.Rows
theorem Inv.drew {X : Cx}{pins : List (Addr × Obj)}{σ : St}{H : Hp}{s : Shared}(I : Inv X pins σ H s)(d : Drawn) : Inv X pins σ H { s with drawn := d } := ⟨I.ok,I.os,I.bare,I.base,I.loc,I.cell,I.free,I.freeC,I.pin,I.hok,I.len⟩
section
variable {X : Cx}
end
def intsD (acc : List D) : Prop := (∃ ns : List Int,acc = ns.map D.int) /\ acc.length <= 2000
theorem reps_ints {K : PySem.W.Frag}{M : Addr -> Prop}{H : Hp} : ∀ {ns : List Int} {vs : List V},Reps K M H (ns.map D.int) vs -> vs = ns.map V.int
  | [],vs,h => h
  | n :: ns,vs,h => by
    obtain ⟨v,r,rfl,h1,h2⟩ := h
    cases (show _ = _ from h1)
    rw [reps_ints h2]
    rfl
theorem intsD.ok {K : PySem.W.Frag}{M : Addr -> Prop}{H : Hp}{ds : List D}{vs : List V}(h : intsD ds)(r : Reps K M H ds vs) : okA vs := by
  obtain ⟨⟨ns,rfl⟩,hl⟩ := h
  have e := reps_ints r
  exact ⟨⟨ns,e⟩,by rw [e,List.length_map]; rwa [List.length_map] at hl⟩
section
variable {X : Cx}{W : Wd}{elt iter tg tg2 iter2 : Expr}{ifs : List Expr}{scope : Scope}{pos cpos p : Pos}{N' : List Str}{map mp2 : List (Option Nat)}{g g2 : TG}{gd gd2 : D -> Ev -> (Ev -> Prop) -> Prop}{di di2 : DA}{dt : DT}{de : DE}{x : Str}
end
end L2
set_option Elab.async false
set_option linter.all false
set_option maxRecDepth 100000
set_option maxHeartbeats 4000000
namespace L2
open PySem PySem.Spec PyProof.Rows
section
variable {X : Cx}
end
section
variable {X : Cx}{W : Wd}{ke ve iter tg : Expr}{ifs : List Expr}{scope : Scope}{pos : Pos}{N' : List Str}{map : List (Option Nat)}{g : TG}{gd : D -> Ev -> (Ev -> Prop) -> Prop}{di : DA}{dt : DT}{dk de : DE}
end
end L2
set_option Elab.async false
set_option linter.all false
set_option maxRecDepth 100000
set_option maxHeartbeats 4000000
namespace L2
open PySem PySem.Spec PyProof.Rows
section
variable {prog : Program}{w : World}{A : Around}{E : Value -> Shared -> Prop}{s : Shared}
end
section
variable {X : Cx}
end
def rowD (r : List Int) : D := .tup (r.map D.int)
theorem reps_rows {K : PySem.W.Frag}{M : Addr -> Prop}{H : Hp} : ∀ {rows : List (List Int)} {vs : List V},Reps K M H (rows.map rowD) vs -> ∃ ps : List (Addr × List Int),vs = ps.map (fun p => V.ref p.1) /\ rows = ps.map (·.2) /\ ∀ p ∈ ps,Rep K M H (rowD p.2) (.ref p.1)
  | [],vs,h => ⟨[],h,rfl,fun p hp => by simp at hp⟩
  | r :: rows,vs,h => by
    obtain ⟨v,rest,rfl,h1,h2⟩ := h
    obtain ⟨ps,rfl,hl,hr⟩ := reps_rows h2
    obtain ⟨a,us,rfl,h3⟩ := (show ∃ a us,v = V.ref a /\ TpA K M H a us /\ Reps K M H _ us from h1)
    refine ⟨(a,r) :: ps,rfl,by rw [List.map_cons,<- hl],fun p hp => ?_⟩
    rcases List.mem_cons.mp hp with rfl | hp
    · exact h1
    · exact hr p hp
theorem row_of {K : PySem.W.Frag}{M : Addr -> Prop}{H : Hp}{r : List Int}{a : Addr}(h : Rep K M H (rowD r) (.ref a)) : SqT K H a (r.map V.int) := by
  obtain ⟨a',us,e,h1,h2⟩ := (show ∃ a' us,V.ref a = V.ref a' /\ TpA K M H a' us /\ Reps K M H (r.map D.int) us from h)
  cases e
  rw [reps_ints h2] at h1
  exact h1.sq
section
variable {X : Cx}{W : Wd}{a e : Expr}{pos : Pos}{dA : DA}
end
end L2
set_option Elab.async false
set_option linter.all false
set_option maxRecDepth 100000
set_option maxHeartbeats 4000000
namespace L2
open PySem PySem.Spec PyProof.Rows
section
variable {X : Cx}{W : Wd}{e : Expr}{dA dB : DA}
def rSetP (K : PySem.W.Frag)(P : Program × World) : List V -> Hp -> VK -> Prop := fun xs H Q => ∃ (l : Addr) (kas : List TK),xs = [.ref l] /\ SqL K H l (kas.map fun x => V.ref x.2) /\ (∀ x ∈ kas,SqT K H x.2 (x.1.map V.int)) /\ kas.length <= 70 /\ ∀ p,H p = none -> Q (.ref p) (upd H p (TOb P.1 P.2 kas p))
theorem refs_are : ∀ {kas : List TK} {its : List Value},Vals (kas.map fun x => V.ref x.2) its -> its = kas.map fun x => Value.ref x.2
  | [],its,r => by cases r; rfl
  | x :: kas,its,r => by
    cases r with
    | cons r1 r2 =>
      cases (show _ = _ from r1)
      rw [refs_are r2]
      rfl
theorem call_setL (K : PySem.W.Frag)(hK : X.K = K)(hc : X.calm = true)(hu : X.A.units + 8 < cLine) : CallR X (.type "set") (rSetP K (X.prog,X.w)) := by
  subst hK
  intro pins s σ H xs us Q I r h
  obtain ⟨l,kas,rfl,ha,sq,hl,q⟩ := h
  obtain ⟨u,rfl,ru⟩ := vals1 r
  cases (show _ = _ from ru)
  obtain ⟨its,rv,pl,_⟩ := I.list ha
  refine call_set_tups (I.ok.hd hc) hu pl.isList (kas := kas) (by simpa using refs_are rv) (fun x hx => I.tkey (sq x hx)) hl fun h' tk T old => ?_
  obtain ⟨oS,xs,es,ep,t,gS,rest⟩ := T
  have new : ObjOk X.prog X.w (upd H s.heap.objs.size (TOb X.prog X.w kas s.heap.objs.size)) h' s.heap.objs.size (TOb X.prog X.w kas s.heap.objs.size) := ⟨⟨oS,gS,xs,es,ep,t,rest⟩,⟨oS,gS⟩,fun h1 h2 ⟨o,g,I⟩ k => ⟨o,k o g,I⟩⟩
  exact ⟨.ref s.heap.objs.size,_,I.laid (a := s.heap.objs.size) (h' := h') (t' := tk) (o := TOb X.prog X.w kas s.heap.objs.size) (fun b o e => old b o (Heap.lt_size e) e) (Nat.le_refl _) new,rfl,q _ (I.hok.fresh (Nat.le_refl _))⟩
def rEqSet (K : PySem.W.Frag)(P : Program × World) : R2 := fun x y H Q => ∃ (a b : Addr) (kas kbs : List TK),x = .ref a /\ y = .ref b /\ H a = some (TOb P.1 P.2 kas a) /\ H b = some (TOb P.1 P.2 kbs b) /\ (∀ x ∈ kas,SqT K H x.2 (x.1.map V.int)) /\ (∀ x ∈ kbs,SqT K H x.2 (x.1.map V.int)) /\ ∀ e,(e = true ↔ ∀ r,r ∈ kas.map (·.1) ↔ r ∈ kbs.map (·.1)) -> Q (.bl e) H
theorem op_eqSet (K : PySem.W.Frag)(hK : X.K = K)(hu : X.A.units + 64 < cLine) : OpR X (compareOp .Eq) (rEqSet K (X.prog,X.w)) := by
  subst hK
  intro pins s σ H x y v u Q I rx ry h
  obtain ⟨a,b,kas,kbs,rfl,rfl,h1,h2,s1,s2,q⟩ := h
  cases (show _ = _ from rx)
  cases (show _ = _ from ry)
  obtain ⟨⟨o,g,xs,es,ep,t,T,sub,cov,_⟩,_,_⟩ := I.hok a _ h1
  obtain ⟨⟨o2,g2,ys,es2,ep2,t2,T2,sub2,cov2,_⟩,_,_⟩ := I.hok b _ h2
  have k1 : ∀ r,r ∈ xs.map (·.1) ↔ r ∈ kas.map (·.1) := fun r => ⟨fun h => by obtain ⟨x,hx,rfl⟩ := List.mem_map.mp h; exact List.mem_map.mpr ⟨x,sub x hx,rfl⟩,fun h => by obtain ⟨x,hx,rfl⟩ := List.mem_map.mp h; exact cov x hx⟩
  have k2 : ∀ r,r ∈ ys.map (·.1) ↔ r ∈ kbs.map (·.1) := fun r => ⟨fun h => by obtain ⟨x,hx,rfl⟩ := List.mem_map.mp h; exact List.mem_map.mpr ⟨x,sub2 x hx,rfl⟩,fun h => by obtain ⟨x,hx,rfl⟩ := List.mem_map.mp h; exact cov2 x hx⟩
  refine seteq_t (by omega) g ⟨T,fun x hx => I.tkey (s1 x (sub x hx))⟩ g2 ⟨T2,fun x hx => I.tkey (s2 x (sub2 x hx))⟩ fun d e he => ?_
  exact ⟨.bl e,H,I.drew d,rfl,q e (he.trans ⟨fun h r => (k1 r).symm.trans ((h r).trans (k2 r)),fun h r => (k1 r).trans ((h r).trans (k2 r).symm)⟩)⟩
def dSetEq (dA dB : DA) : DE := fun ρ P => dA ρ fun xs => ∃ ra : List (List Int),xs = [.lst (ra.map rowD)] /\ ra.length <= 70 /\ dB ρ fun ys => ∃ rb : List (List Int),ys = [.lst (rb.map rowD)] /\ rb.length <= 70 /\ ∀ e,(e = true ↔ ∀ r,r ∈ ra ↔ r ∈ rb) -> P (.bl e)
theorem up_setEq : ∀ σ H Q,dn W (dSetEq dA dB) σ H Q -> tOp (rEqSet W.K (X.prog,X.w)) (tCB (rSetP W.K (X.prog,X.w)) (dnA W dA)) (tCB (rSetP W.K (X.prog,X.w)) (dnA W dB)) σ H Q := fun σ H Q hh => hh.elim fun pn M b ρ P st h k => by
  refine ⟨pn,M,b,ρ,_,st,h,fun xs vs H1 hx rx k1 o1 => ?_⟩
  have st1 := st.step k1 o1
  have rows : ∀ {as : List D} {H2 : Hp} {b2} {us : List V},RepXs W M b2 H2 [D.lst as] us -> ∀ {ra : List (List Int)},as = ra.map rowD -> ∃ (l : Addr) (kas : List TK),us = [.ref l] /\ ra = kas.map (·.1) /\ SqL W.K H2 l (kas.map fun x => V.ref x.2) /\ (∀ x ∈ kas,Rep W.K M H2 (rowD x.1) (.ref x.2)) := by
    intro as H2 b2 us rx ra e
    subst e
    obtain ⟨v,rfl,r⟩ := rx1 rx
    obtain ⟨l,us,rfl,ha,rr⟩ := r
    obtain ⟨ps,rfl,hl,hr⟩ := reps_rows rr
    refine ⟨l,ps.map fun p => (p.2,p.1),rfl,?_,?_,fun x hx => ?_⟩
    · rw [hl,List.map_map]; rfl
    · rw [List.map_map]; exact SqL.of ha.2
    · obtain ⟨p,hp,rfl⟩ := List.mem_map.mp hx
      exact hr p hp
  obtain ⟨ra,rfl,la,hB⟩ := hx
  obtain ⟨l,kas,rfl,rfl,sl,rk⟩ := rows rx rfl
  refine ⟨l,kas,rfl,sl,fun x hx => row_of (rk x hx),by rwa [List.length_map] at la,fun p1 hp1 => ?_⟩
  have kp1 : Kp b H1 (upd H1 p1 (TOb X.prog X.w kas p1)) := Kp.upd hp1
  have op1 := st1.toHs.okU (o := TOb X.prog X.w kas p1) hp1
  have st2 := st1.step kp1 op1
  refine ⟨pn,M,b,ρ,_,st2,hB,fun ys ws H2 hy ry k2 o2 => ?_⟩
  obtain ⟨rb,rfl,lb,hP⟩ := hy
  obtain ⟨l2,kbs,rfl,rfl,sl2,rk2⟩ := rows ry rfl
  refine ⟨l2,kbs,rfl,sl2,fun x hx => row_of (rk2 x hx),by rwa [List.length_map] at lb,fun p2 hp2 => ?_⟩
  have st3 := st2.step k2 o2
  have kp2 : Kp b H2 (upd H2 p2 (TOb X.prog X.w kbs p2)) := Kp.upd hp2
  have b1 : b ≠ some p1 := fun z => by
    obtain ⟨o,e⟩ := W.B.dm p1 H1 (o1 p1 z)
    rw [hp1] at e; cases e
  have e1 : H2 p1 = some (TOb X.prog X.w kas p1) := k2 p1 _ b1 upd_same
  have ne : p1 ≠ p2 := fun z => by rw [z,hp2] at e1; cases e1
  have kk := (kp1.trans k2).trans kp2
  refine ⟨p1,p2,kas,kbs,rfl,rfl,by rw [upd_ne ne]; exact e1,upd_same,fun x hx => row_of (Rep.keep (fun c o n e => kk c o (fun z => n (st1.bagM c z)) e) _ _ (rk x hx)),fun x hx => row_of (Rep.keep (fun c o n e => kp2 c o (fun z => n (st3.bagM c z)) e) _ _ (rk2 x hx)),fun e he => ?_⟩
  exact k _ _ _ (hP e he) (show _ = _ from rfl) (k1.trans kk) (st3.toHs.okU hp2)
theorem jdt_setEq (h : PT X e (tTest (tOp (rEqSet W.K (X.prog,X.w)) (tCB (rSetP W.K (X.prog,X.w)) (dnA W dA)) (tCB (rSetP W.K (X.prog,X.w)) (dnA W dB))))) : JT X W e (dTest (dSetEq dA dB)) := ⟨h.mono fun σ H Q hh => hh.elim fun pn M b ρ P st h k => by
  refine up_setEq σ H _ ⟨pn,M,b,ρ,_,st,h,fun x v H1 hx rx k1 o1 => ?_⟩
  cases x <;> first | exact hx.elim | skip
  case bl c =>
    cases (show _ = _ from rx)
    exact ⟨c,rfl,k _ H1 hx k1 o1⟩⟩
end
end L2
set_option Elab.async false
set_option linter.all false
set_option maxRecDepth 100000
set_option maxHeartbeats 4000000
namespace K
open PySem PySem.Spec PyProof.Rows L2
local macro_rules | `(tactic| walk_at "o") => `(tactic| first | exact Or.inl rfl | exact Or.inr rfl)
local macro_rules | `(tactic| walk_at "v") => `(tactic| first | exact Or.inl rfl | exact Or.inr (Or.inl rfl) | exact Or.inr (Or.inr rfl))
local macro_rules | `(tactic| walk_at "bg") => `(tactic| first | assumption | exact Bag.same (by walk_at "bg") (Same.upd (by assumption)) | exact Bag.same (by walk_at "bg") (by assumption))
local macro_rules | `(tactic| walk_at "hp") => `(tactic| first | assumption | exact upd_same | (refine Same.get (Same.upd (by assumption)) ?_; walk_at "hp") | (refine Same.get (by assumption) ?_; walk_at "hp") | (refine Keep.tup (by assumption) (by walk_at "bg") ?_; (walk_at "hp")))
local macro_rules | `(tactic| walk_at "sm") => `(tactic| first | exact Same.refl _ | assumption | (refine Same.trans ?_ (Same.upd (by assumption)); walk_at "sm") | (refine Same.trans ?_ (by assumption); walk_at "sm"))
local macro_rules | `(tactic| walk_at "kp") => `(tactic| first | exact Keep.refl _ _ | assumption | (refine Keep.trans ?_ (Same.keep (Same.upd (by assumption))); walk_at "kp") | (refine Keep.trans ?_ (by assumption); walk_at "kp") | (refine Keep.trans ?_ (Same.keep (by assumption)); walk_at "kp"))
local macro_rules | `(tactic| walk_at "bd") => `(tactic| first | assumption | exact Bd.mul (by walk_at "bd") (by walk_at "bd") | exact Bd.add (by walk_at "bd") (by walk_at "bd") | exact Bd.sub (by walk_at "bd") (by walk_at "bd") | exact Bd.neg (by walk_at "bd") | exact Bd.num _ (by decide))
local macro_rules | `(tactic| walk_at "rd1") => `(tactic| first | refine ⟨_,_,rfl,rfl,?_⟩ | refine ⟨_,rfl,?_⟩ | (refine' ⟨_,?xs,_,?vv,rfl,rfl,SqT.of ?ia,?ib,?_⟩; (case ia => walk_at "hp"); (case ib => rfl)) | refine And.intro (CMulB.right (Bd.num _ (by decide))) ?_ | (refine' rd_mul ?m1 ?m2 ?m3 ?_; (case m1 => walk_at "bd"); (case m2 => walk_at "bd"); (case m3 => first | decide | omega)) | refine ⟨rfl,?_⟩)
local macro_rules | `(tactic| walk_at "rd") => `(tactic| repeat (walk_at "rd1"))
local macro_rules | `(tactic| walk_at "al") => `(tactic| (refine ⟨(Nat.le_trans (Nat.le_of_ble_eq_true rfl) le1000),?_⟩; intro p en))
local macro_rules | `(tactic| walk_at "w") => `(tactic| (conv => whnf))
local macro_rules | `(tactic| walk_at "go1") => `(tactic| first | refine And.intro (by exact rfl) ?_ | refine IfP.t (by exact rfl) ?_ | refine IfP.f (by exact rfl) ?_ | refine And.intro (by exact Nat.le_of_ble_eq_true rfl) ?_ | refine And.intro (by decide) ?_ | refine And.intro (by dsimp only; decide) ?_ | refine And.intro (CMulB.right (Bd.num _ (by decide))) ?_ | refine And.intro (Or.inl ⟨_,_,by walk_at "bd",by walk_at "bd",by first | decide | omega⟩) ?_| refine And.intro ⟨by decide,by decide⟩ ?_)
local macro_rules | `(tactic| walk_at "go") => `(tactic| ((conv => whnf); repeat (walk_at "go1"; (conv => whnf))))
local macro_rules | `(tactic| walk_at "nz") => `(tactic| simp only [startD,List.map_cons,List.map_nil,List.length_cons,List.length_nil,List.replicate,List.cons_append,List.nil_append,List.set_cons_succ,List.set_cons_zero,captD,List.getElem?_cons_succ,List.getElem?_cons_zero,Option.bind_some,Option.bind_none,Option.join_some,Option.join_none,setAll,Nat.reduceAdd,Nat.reduceSub,Int.reduceAdd,Nat.zero_add])
local macro_rules | `(tactic| walk_at "gr") => `(tactic| ((try walk_at "nz"); refine for_rec ?_; walk_at "go"))
local macro_rules | `(tactic| walk_at "gc") => `(tactic| ((try walk_at "nz"); refine comp_rec ?_; walk_at "go"))
local macro_rules | `(tactic| walk_at "sp") => `(tactic| (refine IfP.of (fun h => ?_) (fun h => ?_) <;> (try simp only [decide_eq_true_eq,Bool.bne_false,Bool.bne_true,Bool.not_eq_true',decide_eq_false_iff_not,Bool.not_true,Bool.not_false,Bool.not_eq_false',bne_iff_ne,ne_eq,Bool.not_not] at h)))
def top (i : Nat) : Stmt := PySem.Challenge.pw_onceshade_k30_floors_of_faces.main.body.getD i (.Pass ⟨0,0,0,0⟩)
structure Bi (mg : Str -> Option Value) : Prop where
  abs_ : mg "abs" = none
  len_ : mg "len" = none
  range_ : mg "range" = none
  sum_ : mg "sum" = none
  set_ : mg "set" = none
  zip_ : mg "zip" = none
abbrev s__law_cell : Stmt := top 11
theorem sc__law_cell : FnScope ["_law_script","_law_k"] ["_law_script","_law_k"] (defScope s__law_cell) := ⟨rfl,rfl,rfl,by decide +kernel,rfl,by decide +kernel,by decide +kernel⟩
def sp_cell (K : PySem.W.Frag) : Sp := fun vs H Q _ => ∃ (a : Addr) (ns : List Int) (i : Nat),vs = [.ref a,.int i] /\ SqL K H a (ns.map V.int) /\ ∀ n,Q (.int n) H
theorem ok0__law_cell {P : Program}{w : World}{K : PySem.W.Frag}{mg : Str -> Option Value}{base : Heap}{f : Addr}{fd : FuncData}(F : Fun K "_law_cell" "_law_cell" s__law_cell f fd) (Z : Bi mg) : FnOk P w K mg base CX0 1 f fd ["_law_script","_law_k"] (sp_cell K) := by
  refine F.ok sc__law_cell (fun vs H Q E h => ?_) (fun cdv A outer s H vs Q E hr h => ?_)
  · obtain ⟨a,ns,i,rfl,hS,k⟩ := h
    rfl
  · obtain ⟨a,ns,i,rfl,hS,k⟩ := h
    refine ⟨_,(pss_cons (ps_if (pt_cmpR op_lt (pv 1) (pe_callB (call_len_seqK K (by rfl)) rfl Z.len_ bt_len (pa_cons (pv 0) pa_nil)) (nomark _)) (pss_one (ps_ret (pe_ix (ix_listK K (by rfl)) (pv 0) (pv 1) (fun _ _ => rfl)))) pss_nil)
      (pss_one (ps_ret pe_int))),?_⟩
    walk_at "rd"
    refine ⟨_,_,rfl,.inl hS,?_⟩
    walk_at "rd"
    refine iteB (fun h => ?_) (fun h => ?_)
    · have h : (i : Int) < ((ns.map V.int).length : Nat) := dec_t h
      have hi : i < ns.length := by rw [List.length_map] at h; omega
      walk_at "rd"
      refine ⟨_,_,_,_,rfl,rfl,hS,atI_nat (v := V.int ns[i]) ?_,k _⟩
      rw [List.getElem?_map,List.getElem?_eq_getElem hi]
      rfl
    · exact k _
abbrev s__law_bag : Stmt := top 12
theorem sc__law_bag : FnScope ["_law_cell_here","_law_place","_law_far"] ["_law_cell_here","_law_place"] (defScope s__law_bag) := ⟨rfl,rfl,rfl,by decide +kernel,rfl,by decide +kernel,by decide +kernel⟩
def sp_bag : Sp := fun vs H Q _ => ∃ (c : Int) (i : Nat),vs = [.int c,.int i] /\ i <= 1000 /\ ∀ p H',H p = none -> Same H H' -> Bag H' p -> Q (.ref p) H'
theorem ok0__law_bag {P : Program}{w : World}{K : PySem.W.Frag}{mg : Str -> Option Value}{base : Heap}{f : Addr}{fd : FuncData}(F : Fun K "_law_bag" "_law_bag" s__law_bag f fd) (Z : Bi mg) : FnOk P w K mg base CX0 1 f fd ["_law_cell_here","_law_place"] sp_bag := by
  refine F.ok sc__law_bag (fun vs H Q E h => ?_) (fun cdv A outer s H vs Q E hr h => ?_)
  · obtain ⟨c,i,rfl,hi,k⟩ := h
    rfl
  · obtain ⟨c,i,rfl,hi,k⟩ := h
    refine ⟨_,(pss_cons (ps_set (i := 2) sc__law_bag.nd rfl (by walk_at "o") (pe_callB call_abs rfl Z.abs_ bt_abs (pa_cons (pv 0) pa_nil)))
      (pss_cons (ps_if (pt_cmpR op_lt (pv 2) (pe_op op_pow pe_int pe_int) (nomark _)) (pss_one (ps_set (i := 2) sc__law_bag.nd rfl (by walk_at "o") pe_int)) pss_nil)
      (pss_one (ps_ret (pe_lst (pa_cons (pv 2) (pa_cons (pe_op op_mod (pe_op op_pow (pe_op op_add (pe_op op_add (pe_op op_mod (pv 0) pe_int) (pe_op op_mulB pe_int (pv 1))) pe_int) pe_int) pe_int) pa_nil))))))),?_⟩
    have fin : ∀ f : Int,0 <= f -> ∀ p,H p = none -> Q (.ref p) (upd H p (.lst [.int f,.int ((c % 2147483647 + 7919 * (i : Int) + 13) ^ (5 : Int).toNat % 2147483629)])) := fun f hf p hp =>
      k p _ hp (Same.upd hp) (Bag.mk' hf (Int.emod_nonneg _ (by decide)) (Int.lt_trans (Int.emod_lt_of_pos _ (by decide)) (by decide)))
    have hb : c % 2147483647 + 7919 * (i : Int) + 13 < 18446744073709551616 /\ 0 <= c % 2147483647 + 7919 * (i : Int) + 13 := by
      have h1 := Int.emod_nonneg c (show (2147483647 : Int) ≠ 0 by decide)
      have h2 := Int.emod_lt_of_pos c (show (0 : Int) < 2147483647 by decide)
      omega
    have hab : 0 <= (if c < 0 then -c else c) := by split <;> omega
    have bi : Bd 64 (i : Int) := Bd.of (by omega) (by omega)
    walk_at "rd"
    refine ⟨⟨by decide,by decide,by decide⟩,?_⟩
    walk_at "rd"
    refine iteB (fun h => ?_) (fun h => ?_)
    all_goals
      walk_at "rd"
      refine ⟨(by show (0 : Int) < 2147483647; decide),?_⟩
      walk_at "rd"
      refine ⟨⟨by decide,by decide,?_⟩,?_⟩
      · show (c % 2147483647 + 7919 * (i : Int) + 13).natAbs < 2 ^ 64
        omega
      walk_at "rd"
      refine ⟨(by show (0 : Int) < 2147483629; decide),?_⟩
      refine ⟨(Nat.le_trans (Nat.le_of_ble_eq_true rfl) le1000),?_⟩
    · exact fin 0 (by decide)
    · exact fin _ hab
abbrev s__law_mixed : Stmt := top 13
theorem sc__law_mixed : FnScope ["_law_bag_here"] ["_law_bag_here"] (defScope s__law_mixed) := ⟨rfl,rfl,rfl,by decide +kernel,rfl,by decide +kernel,by decide +kernel⟩
def sp_mixed : Sp := fun vs H Q _ => ∃ (p : Addr) (f m : Int),vs = [.ref p] /\ H p = some (.lst [.int f,.int m]) /\ 0 <= m /\ ∀ r m' : Int,0 <= r -> 0 <= m' -> m' < 2147483647 -> Q (.int r) (upd H p (.lst [.int f,.int m']))
theorem ok__law_mixed {P : Program}{w : World}{K : PySem.W.Frag}{mg : Str -> Option Value}{base : Heap}{f : Addr}{fd : FuncData}(F : Fun K "_law_mixed" "_law_mixed" s__law_mixed f fd) (Z : Bi mg) : FnOk P w K mg base CX0 1 f fd ["_law_bag_here"] sp_mixed := by
  refine F.ok sc__law_mixed (fun vs H Q E h => ?_) (fun cdv A outer s H vs Q E hr h => ?_)
  · obtain ⟨p,f,m,rfl,hp,hm,k⟩ := h
    rfl
  · obtain ⟨p,f,m,rfl,hp,hm,k⟩ := h
    refine ⟨_,(pss_cons (ps_asg (pe_op op_mod (pe_op op_add (pe_op op_mulB (pe_ix (ix_listK K (by rfl)) (pv 0) pe_int (fun _ _ => rfl)) pe_int) pe_int) pe_int) (pg_sub (pv 0) pe_int set_list))
      (pss_one (ps_ret (pe_op op_fdivB (pe_op op_mod (pe_op op_mulB (pe_ix (ix_listK K (by rfl)) (pv 0) pe_int (fun _ _ => rfl)) pe_int) pe_int) pe_int)))),?_⟩
    walk_at "rd"
    refine ⟨_,_,_,_,rfl,rfl,SqL.of hp,rfl,?_⟩
    walk_at "rd"
    refine ⟨(by show (0 : Int) < 2147483647; decide),?_⟩
    walk_at "rd"
    refine ⟨_,_,_,1,rfl,rfl,hp,rfl,?_⟩
    walk_at "rd"
    refine ⟨_,_,_,_,rfl,rfl,SqL.of upd_same,rfl,?_⟩
    walk_at "rd"
    refine ⟨(by show (0 : Int) < 2147483629; decide),?_⟩
    walk_at "rd"
    refine ⟨⟨by decide,64,Bd.num _ (by decide),by decide⟩,?_⟩
    exact k _ _ (Int.ediv_nonneg (Int.emod_nonneg _ (by decide)) (by decide)) (Int.emod_nonneg _ (by decide)) (Int.emod_lt_of_pos _ (by decide))
abbrev s__law_digit : Stmt := top 14
theorem sc__law_digit : FnScope ["_law_bag_here","_law_many","_law_found","_law_k"] ["_law_bag_here","_law_many"] (defScope s__law_digit) := ⟨rfl,rfl,rfl,by decide +kernel,rfl,by decide +kernel,by decide +kernel⟩
def sp_digit : Sp := fun vs H Q _ => ∃ (p : Addr) (many : Int) (n : Nat),vs = [.ref p,.int many] /\ Bag H p /\ 0 < many /\ Bd n many /\ n <= 9000 /\ DigitEnd p many H Q
structure C__law_digit (P : Program)(w : World)(K : PySem.W.Frag)(mg : Str -> Option Value)(base : Heap) : Prop where
  _law_mixed_ : Callee P w K mg base CX0 "_law_mixed" 1 ["_law_bag_here"] sp_mixed
theorem ok0__law_digit {P : Program}{w : World}{K : PySem.W.Frag}{mg : Str -> Option Value}{base : Heap}{f : Addr}{fd : FuncData}(F : Fun K "_law_digit" "_law_digit" s__law_digit f fd) (Z : Bi mg) (G : C__law_digit P w K mg base) : FnOk P w K mg base CX0 2 f fd ["_law_bag_here","_law_many"] sp_digit := by
  refine F.ok sc__law_digit (fun vs H Q E h => ?_) (fun cdv A outer s H vs Q E hr h => ?_)
  · obtain ⟨p,many,n,rfl,⟨f,m,hp,hf,hm,hm2⟩,h0,hb,hn,k⟩ := h
    rfl
  · obtain ⟨p,many,n,rfl,⟨f,m,hp,hf,hm,hm2⟩,h0,hb,hn,k⟩ := h
    refine ⟨_,(pss_cons (ps_if (pt_cmpR op_gt (pe_ix (ix_listK K (by rfl)) (pv 0) pe_int (fun _ _ => rfl)) pe_int (nomark _)) (pss_cons (ps_set (i := 2) sc__law_digit.nd rfl (by walk_at "o") (pe_op op_mod (pe_ix (ix_listK K (by rfl)) (pv 0) pe_int (fun _ _ => rfl)) (pv 1)))
      (pss_cons (ps_asg (pe_op op_fdivB (pe_ix (ix_listK K (by rfl)) (pv 0) pe_int (fun _ _ => rfl)) (pv 1)) (pg_sub (pv 0) pe_int set_list))
      (pss_one (ps_ret (pv 2))))) pss_nil)
      (pss_cons (ps_set (i := 2) sc__law_digit.nd rfl (by walk_at "o") (pe_own G._law_mixed_ (hr.mono (by decide)) rfl (pa_cons (pv 0) pa_nil)))
      (pss_cons (ps_if (pt_cmpR op_gt (pv 1) pe_int (nomark _)) (pss_one (ps_for PassesOwn.never rfl (pi_range1 rfl Z.range_ (pa_cons pe_int pa_nil)) (pg_name (i := 3) sc__law_digit.nd rfl (by walk_at "o")) (pss_one (ps_set (i := 2) sc__law_digit.nd rfl (by walk_at "o") (pe_op op_add (pe_op op_mulB (pv 2) pe_int) (pe_own G._law_mixed_ (hr.mono (by decide)) rfl (pa_cons (pv 0) pa_nil))))))) pss_nil)
      (pss_one (ps_ret (pe_op op_mod (pv 2) (pv 1))))))),?_⟩
    have md : ∀ x : Int,0 <= x % many /\ x % many < many := fun x => ⟨Int.emod_nonneg _ (by omega),Int.emod_lt_of_pos _ h0⟩
    walk_at "rd"
    refine ⟨_,_,_,_,rfl,rfl,SqL.of hp,rfl,?_⟩
    walk_at "rd"
    refine iteB (fun h => ?_) (fun h => ?_)
    · have h : 0 < f := dec_t h
      walk_at "rd"
      refine ⟨_,_,_,_,rfl,rfl,SqL.of hp,rfl,?_⟩
      walk_at "rd"
      refine ⟨h0,?_⟩
      walk_at "rd"
      refine ⟨_,_,_,_,rfl,rfl,SqL.of hp,rfl,?_⟩
      walk_at "rd"
      refine ⟨⟨h0,n,hb,hn⟩,?_⟩
      walk_at "rd"
      refine ⟨_,_,_,0,rfl,rfl,hp,rfl,?_⟩
      walk_at "rd"
      exact k _ _ (md f).1 (md f).2 (Bag.mk' (Int.ediv_nonneg hf (by omega)) hm hm2) Keep.upd
    · walk_at "rd"
      refine ⟨p,f,m,rfl,hp,hm,fun r m1 hr0 h1 h1' => ?_⟩
      walk_at "rd"
      refine iteB (fun h => ?_) (fun h => ?_)
      · refine ⟨7,rfl,by decide,by decide,for_range (n := 7) (fun i σ H2 => ∃ (x : Int) (m2 : Int) (v : Option V),σ = [some (.ref p),some (.int many),some (.int x),v] /\ 0 <= m2 /\ m2 < 2147483647 /\ H2 = upd H p (.lst [.int f,.int m2])) ⟨r,m1,none,rfl,h1,h1',rfl⟩ ?_ ?_⟩
        · rintro i σ H2 hi ⟨x,m2,v,rfl,g1,g2,rfl⟩
          walk_at "rd"
          refine ⟨p,f,m2,rfl,upd_same,g1,fun r' m3 hr' h3 h3' => ?_⟩
          walk_at "rd"
          exact ⟨_,_,_,rfl,h3,h3',upd_upd⟩
        · rintro σ H2 ⟨x,m2,v,rfl,g1,g2,rfl⟩
          walk_at "rd"
          refine ⟨h0,?_⟩
          exact k _ _ (md x).1 (md x).2 (Bag.mk' hf g1 g2) Keep.upd
      · walk_at "rd"
        refine ⟨h0,?_⟩
        exact k _ _ (md r).1 (md r).2 (Bag.mk' hf h1 h1') Keep.upd
def BT : BagT := ⟨fun p H => Bag H p,fun p H H' b k => by
  obtain ⟨f,m,e,q⟩ := b
  exact ⟨f,m,k _ e,q⟩,fun p H b => by
  obtain ⟨f,m,e,q⟩ := b
  exact ⟨_,e⟩⟩
theorem keep_kp {p : Addr}{H H' : Hp}(k : Keep p H H') : Kp (some p) H H' := fun c o n e => k c o (fun z => n (by rw [z])) e
def S_cell : DSp := fun ds P _ => ∃ (ns : List Int) (i : Nat),ds = [.scr ns,.int i] /\ ∀ n,P (.int n)
theorem up__law_cell {K : PySem.W.Frag} : ∀ vs H Q E,(liftSp K BT S_cell) vs H Q E -> (sp_cell K) vs H Q E := by
  rintro vs H Q E ⟨M,b,ds,P,Ed,⟨ns,i,rfl,hP⟩,⟨v,r,rfl,⟨a,rfl,hS⟩,u,r',rfl,h2,h3⟩,ho,hb,hd,hq,hx⟩
  cases (show _ = _ from h2)
  cases (show _ = _ from h3)
  exact ⟨a,ns,i,rfl,hS.imp (·.2) id,fun n => hq _ _ H (hP n) rfl (Kp.refl _ _) ho⟩
theorem ok__law_cell {P : Program}{w : World}{K : PySem.W.Frag}{mg : Str -> Option Value}{base : Heap}{f : Addr}{fd : FuncData}(F : Fun K "_law_cell" "_law_cell" s__law_cell f fd) (Z : Bi mg) : FnOk P w K mg base CX0 1 f fd ["_law_script","_law_k"] (liftSp K BT S_cell) := FnOk.imp (ok0__law_cell F Z) up__law_cell
def pre_bag : List D -> Prop := fun ds => ∃ (c : Int) (i : Nat),ds = [.int c,.int i] /\ i <= 1000
theorem up__law_bag {K : PySem.W.Frag} : ∀ vs H Q E,(bagSp K BT pre_bag) vs H Q E -> sp_bag vs H Q E := by
  rintro vs H Q E ⟨M,b,ds,hr,⟨c,i,rfl,hi⟩,k⟩
  · obtain ⟨v,r,rfl,h1,u,r',rfl,h2,h3⟩ := hr
    cases (show _ = _ from h1)
    cases (show _ = _ from h2)
    cases (show _ = _ from h3)
    exact ⟨c,i,rfl,hi,k⟩
theorem ok__law_bag {P : Program}{w : World}{K : PySem.W.Frag}{mg : Str -> Option Value}{base : Heap}{f : Addr}{fd : FuncData}(F : Fun K "_law_bag" "_law_bag" s__law_bag f fd) (Z : Bi mg) : FnOk P w K mg base CX0 1 f fd ["_law_cell_here","_law_place"] (bagSp K BT pre_bag) := FnOk.imp (ok0__law_bag F Z) up__law_bag
def S_digit : DSp := fun ds P _ => ∃ (many : Int) (n : Nat),ds = [.bag,.int many] /\ 0 < many /\ Bd n many /\ n <= 9000 /\ ∀ r,0 <= r -> r < many -> P (.int r)
theorem up__law_digit {K : PySem.W.Frag} : ∀ vs H Q E,(liftSp K BT S_digit) vs H Q E -> sp_digit vs H Q E := by
  rintro vs H Q E ⟨M,b,ds,P,Ed,⟨many,n,rfl,h0,hbd,hn,hP⟩,⟨v,r,rfl,⟨p,rfl,rfl⟩,u,r',rfl,h2,h3⟩,ho,hb,hd,hq,hx⟩
  cases (show _ = _ from h2)
  cases (show _ = _ from h3)
  exact ⟨p,many,n,rfl,ho p rfl,h0,hbd,hn,fun r H' r0 r1 b' k => hq _ _ H' (hP r r0 r1) rfl (keep_kp k) fun q e => by cases e; exact b'⟩
theorem ok__law_digit {P : Program}{w : World}{K : PySem.W.Frag}{mg : Str -> Option Value}{base : Heap}{f : Addr}{fd : FuncData}(F : Fun K "_law_digit" "_law_digit" s__law_digit f fd) (Z : Bi mg) (G : C__law_digit P w K mg base) : FnOk P w K mg base CX0 2 f fd ["_law_bag_here","_law_many"] (liftSp K BT S_digit) := FnOk.imp (ok0__law_digit F Z G) up__law_digit
def S_gcd : DSp := fun ds P _ => ∃ a b : Int,ds = [.int a,.int b] /\ P (.int (Int.gcd a b))
abbrev s__law_common : Stmt := top 15
theorem sc__law_common : FnScope ["_law_one","_law_other"] ["_law_one","_law_other"] (defScope s__law_common) := ⟨rfl,rfl,rfl,by decide +kernel,rfl,by decide +kernel,by decide +kernel⟩
def sp_common : Sp := fun vs H Q _ => ∃ a b : Int,vs = [.int a,.int b] /\ Q (.int (Int.gcd a b)) H
theorem ok0__law_common {P : Program}{w : World}{K : PySem.W.Frag}{mg : Str -> Option Value}{base : Heap}{f : Addr}{fd : FuncData}(F : Fun K "_law_common" "_law_common" s__law_common f fd) (Z : Bi mg) : FnOk P w K mg base CX0 1 f fd ["_law_one","_law_other"] sp_common := by
  refine F.ok sc__law_common (fun vs H Q E h => ?_) (fun cdv A outer s H vs Q E hr h => ?_)
  · obtain ⟨a,b,rfl,k⟩ := h
    rfl
  · obtain ⟨a,b,rfl,k⟩ := h
    refine ⟨_,(pss_cons (ps_set (i := 0) sc__law_common.nd rfl (by walk_at "o") (pe_callB call_abs rfl Z.abs_ bt_abs (pa_cons (pv 0) pa_nil)))
      (pss_cons (ps_set (i := 1) sc__law_common.nd rfl (by walk_at "o") (pe_callB call_abs rfl Z.abs_ bt_abs (pa_cons (pv 1) pa_nil)))
      (pss_cons (ps_while PassesOwn.never (pt_cmpR op_gt (pv 1) pe_int (nomark _)) (pss_one (ps_par (i := 0) (j := 1) rfl sc__law_common.nd rfl rfl (by decide) rfl rfl (pa_cons (pv 1) (pa_cons (pe_op op_mod (pv 0) (pv 1)) pa_nil)) rfl)))
      (pss_one (ps_ret (pv 0)))))),?_⟩
    have ab : ∀ x : Int,(if x < 0 then -x else x) = (x.natAbs : Int) := fun x => by split <;> omega
    walk_at "rd"
    refine while_by (fun σ H' => H' = H /\ ∃ x y : Int,σ = [some (.int x),some (.int y)] /\ 0 <= x /\ 0 <= y /\ Int.gcd x y = Int.gcd a b) (fun σ _ => match σ with | [_,some (.int y)] => y.toNat | _ => 0) ⟨rfl,_,_,rfl,by rw [ab]; omega,by rw [ab]; omega,by rw [ab,ab]; rfl⟩ ?_ ?_
    · rintro σ H' ⟨rfl,x,y,rfl,hx,hy,hg⟩
      walk_at "rd"
      refine iteB (fun h => ?_) (fun h => ?_)
      · have h : 0 < y := dec_t h
        walk_at "rd"
        refine ⟨h,?_⟩
        refine ⟨_,_,rfl,⟨rfl,_,_,rfl,hy,Int.emod_nonneg _ (by omega),by rw [gcd_turn hx h]; exact hg⟩,?_⟩
        have := Int.emod_lt_of_pos x h
        have := Int.emod_nonneg x (show y ≠ 0 by omega)
        show (x % y).toNat < y.toNat
        omega
      · have h : ¬ 0 < y := dec_f h
        walk_at "rd"
        have hy0 : y = 0 := by omega
        subst hy0
        have e : ((Int.gcd a b : Nat) : Int) = x := by rw [<- hg,Int.gcd_zero_right]; omega
        rw [e] at k
        exact k
    · rintro σ H' Q1 Q2 hq ⟨v,e1,i,j,e2,e3,k',e4,q⟩
      exact ⟨v,e1,i,j,e2,e3,k',e4,hq _ _ q⟩
theorem up__law_common {K : PySem.W.Frag} : ∀ vs H Q E,(liftSp K BT S_gcd) vs H Q E -> sp_common vs H Q E := by
  rintro vs H Q E ⟨M,b,ds,P,Ed,⟨x,y,rfl,hP⟩,⟨v,r,rfl,h1,u,r',rfl,h2,h3⟩,ho,hb,hd,hq,hx⟩
  cases (show _ = _ from h1)
  cases (show _ = _ from h2)
  cases (show _ = _ from h3)
  exact ⟨x,y,rfl,hq _ _ H hP rfl (Kp.refl _ _) ho⟩
theorem ok__law_common {P : Program}{w : World}{K : PySem.W.Frag}{mg : Str -> Option Value}{base : Heap}{f : Addr}{fd : FuncData}(F : Fun K "_law_common" "_law_common" s__law_common f fd) (Z : Bi mg) : FnOk P w K mg base CX0 1 f fd ["_law_one","_law_other"] (liftSp K BT S_gcd) := FnOk.imp (ok0__law_common F Z) up__law_common
abbrev s_sign : Stmt := top 1
theorem sc_sign : FnScope ["number"] ["number"] (defScope s_sign) := ⟨rfl,rfl,rfl,by decide +kernel,rfl,by decide +kernel,by decide +kernel⟩
def sgn (n : Int) : Int := if 0 < n then 1 else if n < 0 then -1 else 0
def S_sign : DSp := fun ds P _ => ∃ n : Int,ds = [.int n] /\ P (.int (sgn n))
theorem ok_sign {P : Program}{w : World}{K : PySem.W.Frag}{mg : Str -> Option Value}{base : Heap}{f : Addr}{fd : FuncData}(F : Fun K "sign" "sign" s_sign f fd) (Z : Bi mg) : FnOk P w K mg base CX0 1 f fd ["number"] (liftSp K BT S_sign) := by
  refine F.okD sc_sign (fun ds PP Ed h => ?_) (fun cdv A outer s H E M bg ds PP Ed hr hS_ => ?_)
  · obtain ⟨n,rfl,hP⟩ := h
    rfl
  · obtain ⟨n,rfl,hP⟩ := hS_
    refine ⟨_,(jdss_cons (jds_if (jdt_cmp op_gt od_B0 (jdv 0) jde_int (nomark _)) (jdss_one (jds_ret jde_int)) jdss_nil)
      (jdss_cons (jds_if (jdt_cmp op_lt od_B0 (jdv 0) jde_int (nomark _)) (jdss_one (jds_ret (jde_neg jde_int))) jdss_nil)
      (jdss_one (jds_ret jde_int)))),?_⟩
    unfold sgn at hP
    walk_at "go"
    walk_at "sp"
    · rename_i h; rw [if_pos h] at hP; exact hP
    · rename_i h
      rw [if_neg h] at hP
      walk_at "go"
      walk_at "sp"
      · rename_i h'; rw [if_pos h'] at hP; exact hP
      · rename_i h'; rw [if_neg h'] at hP; exact hP
abbrev s_determinant : Stmt := top 2
theorem sc_determinant : FnScope ["a","b","c"] ["a","b","c"] (defScope s_determinant) := ⟨rfl,rfl,rfl,by decide +kernel,rfl,by decide +kernel,by decide +kernel⟩
def det (a0 a1 a2 b0 b1 b2 c0 c1 c2 : Int) : Int := a0 * (b1 * c2 - b2 * c1) - a1 * (b0 * c2 - b2 * c0) + a2 * (b0 * c1 - b1 * c0)
def S_det : DSp := fun ds P _ => ∃ (a0 a1 a2 b0 b1 b2 c0 c1 c2 : Int),ds = [t3 a0 a1 a2,t3 b0 b1 b2,t3 c0 c1 c2] /\ (Bd 2000 a0 /\ Bd 2000 a1 /\ Bd 2000 a2) /\ (Bd 2000 b0 /\ Bd 2000 b1 /\ Bd 2000 b2) /\ (Bd 2000 c0 /\ Bd 2000 c1 /\ Bd 2000 c2) /\ P (.int (det a0 a1 a2 b0 b1 b2 c0 c1 c2))
theorem ok_determinant {P : Program}{w : World}{K : PySem.W.Frag}{mg : Str -> Option Value}{base : Heap}{f : Addr}{fd : FuncData}(F : Fun K "determinant" "determinant" s_determinant f fd) (Z : Bi mg) : FnOk P w K mg base CX0 1 f fd ["a","b","c"] (liftSp K BT S_det) := by
  refine F.okD sc_determinant (fun ds PP Ed h => ?_) (fun cdv A outer s H E M bg ds PP Ed hr hS_ => ?_)
  · obtain ⟨a0,a1,a2,b0,b1,b2,c0,c1,c2,rfl,⟨p0,p1,p2⟩,⟨q0,q1,q2⟩,⟨r0,r1,r2⟩,hP⟩ := h
    rfl
  · obtain ⟨a0,a1,a2,b0,b1,b2,c0,c1,c2,rfl,⟨p0,p1,p2⟩,⟨q0,q1,q2⟩,⟨r0,r1,r2⟩,hP⟩ := hS_
    refine ⟨_,(jdss_one (jds_ret (jde_op op_add od_I0 (jde_op op_sub od_I0 (jde_op op_mulB od_I (jde_ix (ix_any K (by rfl)) od_ix (jdv 0) jde_int (fun _ _ => rfl)) (jde_op op_sub od_I0 (jde_op op_mulB od_I (jde_ix (ix_any K (by rfl)) od_ix (jdv 1) jde_int (fun _ _ => rfl)) (jde_ix (ix_any K (by rfl)) od_ix (jdv 2) jde_int (fun _ _ => rfl))) (jde_op op_mulB od_I (jde_ix (ix_any K (by rfl)) od_ix (jdv 1) jde_int (fun _ _ => rfl)) (jde_ix (ix_any K (by rfl)) od_ix (jdv 2) jde_int (fun _ _ => rfl))))) (jde_op op_mulB od_I (jde_ix (ix_any K (by rfl)) od_ix (jdv 0) jde_int (fun _ _ => rfl)) (jde_op op_sub od_I0 (jde_op op_mulB od_I (jde_ix (ix_any K (by rfl)) od_ix (jdv 1) jde_int (fun _ _ => rfl)) (jde_ix (ix_any K (by rfl)) od_ix (jdv 2) jde_int (fun _ _ => rfl))) (jde_op op_mulB od_I (jde_ix (ix_any K (by rfl)) od_ix (jdv 1) jde_int (fun _ _ => rfl)) (jde_ix (ix_any K (by rfl)) od_ix (jdv 2) jde_int (fun _ _ => rfl)))))) (jde_op op_mulB od_I (jde_ix (ix_any K (by rfl)) od_ix (jdv 0) jde_int (fun _ _ => rfl)) (jde_op op_sub od_I0 (jde_op op_mulB od_I (jde_ix (ix_any K (by rfl)) od_ix (jdv 1) jde_int (fun _ _ => rfl)) (jde_ix (ix_any K (by rfl)) od_ix (jdv 2) jde_int (fun _ _ => rfl))) (jde_op op_mulB od_I (jde_ix (ix_any K (by rfl)) od_ix (jdv 1) jde_int (fun _ _ => rfl)) (jde_ix (ix_any K (by rfl)) od_ix (jdv 2) jde_int (fun _ _ => rfl)))))))),?_⟩
    walk_at "go"
    exact hP
abbrev s_on_board : Stmt := top 4
theorem sc_on_board : FnScope ["a"] ["a"] (defScope s_on_board) := ⟨rfl,rfl,rfl,by decide +kernel,rfl,by decide +kernel,by decide +kernel⟩
def S_on_board : DSp := fun ds P _ => ∃ (x y z w : Int),ds = [sp4 x y z w] /\ P (t3 x y w)
theorem ok_on_board {P : Program}{w : World}{K : PySem.W.Frag}{mg : Str -> Option Value}{base : Heap}{f : Addr}{fd : FuncData}(F : Fun K "on_board" "on_board" s_on_board f fd) (Z : Bi mg) : FnOk P w K mg base CX0 1 f fd ["a"] (liftSp K BT S_on_board) := by
  refine F.okD sc_on_board (fun ds PP Ed h => ?_) (fun cdv A outer s H E M bg ds PP Ed hr hS_ => ?_)
  · obtain ⟨x,y,z,w,rfl,hP⟩ := h
    rfl
  · obtain ⟨x,y,z,w,rfl,hP⟩ := hS_
    refine ⟨_,(jdss_one (jds_ret (jde_tup (jda_cons (jde_ix (ix_any K (by rfl)) od_ix (jdv 0) jde_int (fun _ _ => rfl)) (jda_cons (jde_ix (ix_any K (by rfl)) od_ix (jdv 0) jde_int (fun _ _ => rfl)) (jda_cons (jde_ix (ix_any K (by rfl)) od_ix (jdv 0) jde_int (fun _ _ => rfl)) jda_nil)))))),?_⟩
    walk_at "go"
    exact hP
structure T3 where
  ax : Int
  ay : Int
  az : Int
  aw : Int
  bx : Int
  b_y : Int
  bz : Int
  bw : Int
  cx : Int
  cy : Int
  cz : Int
  cw : Int
structure T3.ok (t : T3)(n : Nat) : Prop where
  ax : Bd n t.ax
  ay : Bd n t.ay
  az : Bd n t.az
  aw : Bd n t.aw
  bx : Bd n t.bx
  b_y : Bd n t.b_y
  bz : Bd n t.bz
  bw : Bd n t.bw
  cx : Bd n t.cx
  cy : Bd n t.cy
  cz : Bd n t.cz
  cw : Bd n t.cw
abbrev T3.d (t : T3) : D := .tup [sp4 t.ax t.ay t.az t.aw,sp4 t.bx t.b_y t.bz t.bw,sp4 t.cx t.cy t.cz t.cw]
def T3.tn (t : T3) : Int := det t.ax t.ay t.aw t.bx t.b_y t.bw t.cx t.cy t.cw
def T3.wA (t : T3)(px py : Int) : Int := det t.bx t.b_y t.bw t.cx t.cy t.cw px py 1
def T3.wB (t : T3)(px py : Int) : Int := det t.cx t.cy t.cw t.ax t.ay t.aw px py 1
def T3.wC (t : T3)(px py : Int) : Int := det t.ax t.ay t.aw t.bx t.b_y t.bw px py 1
def T3.top (t : T3)(px py : Int) : Int := t.wA px py * t.az + t.wB px py * t.bz + t.wC px py * t.cz
theorem bd1 {n : Nat}(h : 3 <= n) : Bd n 1 := (Bd.of (by decide) (by decide) : Bd 3 1).mono h
abbrev s_side_number : Stmt := top 5
theorem sc_side_number : FnScope ["a","b","dot"] ["a","b","dot"] (defScope s_side_number) := ⟨rfl,rfl,rfl,by decide +kernel,rfl,by decide +kernel,by decide +kernel⟩
def S_siden : DSp := fun ds P _ => ∃ (ax ay az aw bx b_y bz bw px py : Int),ds = [sp4 ax ay az aw,sp4 bx b_y bz bw,t2 px py] /\ (Bd 2000 ax /\ Bd 2000 ay /\ Bd 2000 aw) /\ (Bd 2000 bx /\ Bd 2000 b_y /\ Bd 2000 bw) /\ (Bd 2000 px /\ Bd 2000 py) /\ P (.int (det ax ay aw bx b_y bw px py 1))
structure C_side_number (P : Program)(w : World)(K : PySem.W.Frag)(mg : Str -> Option Value)(base : Heap) : Prop where
  determinant_ : Callee P w K mg base CX0 "determinant" 1 ["a","b","c"] (liftSp K BT S_det)
  on_board_ : Callee P w K mg base CX0 "on_board" 1 ["a"] (liftSp K BT S_on_board)
theorem ok_side_number {P : Program}{w : World}{K : PySem.W.Frag}{mg : Str -> Option Value}{base : Heap}{f : Addr}{fd : FuncData}(F : Fun K "side_number" "side_number" s_side_number f fd) (Z : Bi mg) (G : C_side_number P w K mg base) : FnOk P w K mg base CX0 2 f fd ["a","b","dot"] (liftSp K BT S_siden) := by
  refine F.okD sc_side_number (fun ds PP Ed h => ?_) (fun cdv A outer s H E M bg ds PP Ed hr hS_ => ?_)
  · obtain ⟨ax,ay,az,aw,bx,b_y,bz,bw,px,py,rfl,h1,h2,⟨h3,h4⟩,hP⟩ := h
    rfl
  · obtain ⟨ax,ay,az,aw,bx,b_y,bz,bw,px,py,rfl,h1,h2,⟨h3,h4⟩,hP⟩ := hS_
    refine ⟨_,(jdss_one (jds_ret (jde_own G.determinant_ (hr.mono (by decide)) rfl (jda_cons (jde_own G.on_board_ (hr.mono (by decide)) rfl (jda_cons (jdv 0) jda_nil)) (jda_cons (jde_own G.on_board_ (hr.mono (by decide)) rfl (jda_cons (jdv 1) jda_nil)) (jda_cons (jde_tup (jda_cons (jde_ix (ix_any K (by rfl)) od_ix (jdv 2) jde_int (fun _ _ => rfl)) (jda_cons (jde_ix (ix_any K (by rfl)) od_ix (jdv 2) jde_int (fun _ _ => rfl)) (jda_cons jde_int jda_nil)))) jda_nil)))))),?_⟩
    walk_at "go"
    refine ⟨_,_,_,_,rfl,?_⟩
    walk_at "go"
    refine ⟨_,_,_,_,rfl,?_⟩
    walk_at "go"
    exact ⟨_,_,_,_,_,_,_,_,_,rfl,h1,h2,⟨h3,h4,bd1 (by decide)⟩,hP⟩
abbrev s_growth : Stmt := top 6
theorem sc_growth : FnScope ["a","b"] ["a","b"] (defScope s_growth) := ⟨rfl,rfl,rfl,by decide +kernel,rfl,by decide +kernel,by decide +kernel⟩
def S_growth : DSp := fun ds P _ => ∃ (ax ay az aw bx b_y bz bw : Int),ds = [sp4 ax ay az aw,sp4 bx b_y bz bw] /\ (Bd 2000 ay /\ Bd 2000 aw) /\ (Bd 2000 b_y /\ Bd 2000 bw) /\ P (.int (ay * bw - aw * b_y))
theorem ok_growth {P : Program}{w : World}{K : PySem.W.Frag}{mg : Str -> Option Value}{base : Heap}{f : Addr}{fd : FuncData}(F : Fun K "growth" "growth" s_growth f fd) (Z : Bi mg) : FnOk P w K mg base CX0 1 f fd ["a","b"] (liftSp K BT S_growth) := by
  refine F.okD sc_growth (fun ds PP Ed h => ?_) (fun cdv A outer s H E M bg ds PP Ed hr hS_ => ?_)
  · obtain ⟨ax,ay,az,aw,bx,b_y,bz,bw,rfl,⟨h1,h2⟩,⟨h3,h4⟩,hP⟩ := h
    rfl
  · obtain ⟨ax,ay,az,aw,bx,b_y,bz,bw,rfl,⟨h1,h2⟩,⟨h3,h4⟩,hP⟩ := hS_
    refine ⟨_,(jdss_one (jds_ret (jde_op op_sub od_I0 (jde_op op_mulB od_I (jde_ix (ix_any K (by rfl)) od_ix (jdv 0) jde_int (fun _ _ => rfl)) (jde_ix (ix_any K (by rfl)) od_ix (jdv 1) jde_int (fun _ _ => rfl))) (jde_op op_mulB od_I (jde_ix (ix_any K (by rfl)) od_ix (jdv 0) jde_int (fun _ _ => rfl)) (jde_ix (ix_any K (by rfl)) od_ix (jdv 1) jde_int (fun _ _ => rfl)))))),?_⟩
    walk_at "go"
    exact hP
abbrev s_shifted_side : Stmt := top 7
theorem sc_shifted_side : FnScope ["a","b","dot","number"] ["a","b","dot"] (defScope s_shifted_side) := ⟨rfl,rfl,rfl,by decide +kernel,rfl,by decide +kernel,by decide +kernel⟩
def shd (ax ay aw bx b_y bw px py : Int) : Int := if det ax ay aw bx b_y bw px py 1 = 0 then (if ay * bw - aw * b_y = 0 then aw * bx - ax * bw else ay * bw - aw * b_y) else det ax ay aw bx b_y bw px py 1
def S_shs : DSp := fun ds P _ => ∃ (ax ay az aw bx b_y bz bw px py : Int),ds = [sp4 ax ay az aw,sp4 bx b_y bz bw,t2 px py] /\ (Bd 2000 ax /\ Bd 2000 ay /\ Bd 2000 aw) /\ (Bd 2000 bx /\ Bd 2000 b_y /\ Bd 2000 bw) /\ (Bd 2000 px /\ Bd 2000 py) /\ P (.int (sgn (shd ax ay aw bx b_y bw px py)))
structure C_shifted_side (P : Program)(w : World)(K : PySem.W.Frag)(mg : Str -> Option Value)(base : Heap) : Prop where
  side_number_ : Callee P w K mg base CX0 "side_number" 2 ["a","b","dot"] (liftSp K BT S_siden)
  sign_ : Callee P w K mg base CX0 "sign" 1 ["number"] (liftSp K BT S_sign)
  growth_ : Callee P w K mg base CX0 "growth" 1 ["a","b"] (liftSp K BT S_growth)
theorem ok_shifted_side {P : Program}{w : World}{K : PySem.W.Frag}{mg : Str -> Option Value}{base : Heap}{f : Addr}{fd : FuncData}(F : Fun K "shifted_side" "shifted_side" s_shifted_side f fd) (Z : Bi mg) (G : C_shifted_side P w K mg base) : FnOk P w K mg base CX0 3 f fd ["a","b","dot"] (liftSp K BT S_shs) := by
  refine F.okD sc_shifted_side (fun ds PP Ed h => ?_) (fun cdv A outer s H E M bg ds PP Ed hr hS_ => ?_)
  · obtain ⟨ax,ay,az,aw,bx,b_y,bz,bw,px,py,rfl,⟨a1,a2,a3⟩,⟨b1,b2,b3⟩,⟨h3,h4⟩,hP⟩ := h
    rfl
  · obtain ⟨ax,ay,az,aw,bx,b_y,bz,bw,px,py,rfl,⟨a1,a2,a3⟩,⟨b1,b2,b3⟩,⟨h3,h4⟩,hP⟩ := hS_
    refine ⟨_,(jdss_cons (jds_set (i := 3) sc_shifted_side.nd rfl (by walk_at "o") (jde_own G.side_number_ (hr.mono (by decide)) rfl (jda_cons (jdv 0) (jda_cons (jdv 1) (jda_cons (jdv 2) jda_nil)))))
      (jdss_cons (jds_if (jdt_cmp op_eq od_eqS (jdv 3) jde_int (nomark _)) (jdss_one (jds_set (i := 3) sc_shifted_side.nd rfl (by walk_at "o") (jde_own G.growth_ (hr.mono (by decide)) rfl (jda_cons (jdv 0) (jda_cons (jdv 1) jda_nil))))) jdss_nil)
      (jdss_cons (jds_if (jdt_cmp op_eq od_eqS (jdv 3) jde_int (nomark _)) (jdss_one (jds_set (i := 3) sc_shifted_side.nd rfl (by walk_at "o") (jde_op op_sub od_I0 (jde_op op_mulB od_I (jde_ix (ix_any K (by rfl)) od_ix (jdv 0) jde_int (fun _ _ => rfl)) (jde_ix (ix_any K (by rfl)) od_ix (jdv 1) jde_int (fun _ _ => rfl))) (jde_op op_mulB od_I (jde_ix (ix_any K (by rfl)) od_ix (jdv 0) jde_int (fun _ _ => rfl)) (jde_ix (ix_any K (by rfl)) od_ix (jdv 1) jde_int (fun _ _ => rfl)))))) jdss_nil)
      (jdss_one (jds_ret (jde_own G.sign_ (hr.mono (by decide)) rfl (jda_cons (jdv 3) jda_nil))))))),?_⟩
    walk_at "go"
    refine ⟨ax,ay,az,aw,bx,b_y,bz,bw,px,py,rfl,⟨a1,a2,a3⟩,⟨b1,b2,b3⟩,⟨h3,h4⟩,?_⟩
    walk_at "go"
    walk_at "sp"
    · rename_i z
      walk_at "go"
      refine ⟨ax,ay,az,aw,bx,b_y,bz,bw,rfl,⟨a2,a3⟩,⟨b2,b3⟩,?_⟩
      walk_at "go"
      walk_at "sp"
      · rename_i z2
        walk_at "go"
        refine ⟨_,rfl,?_⟩
        have e : shd ax ay aw bx b_y bw px py = aw * bx - ax * bw := by unfold shd; rw [if_pos z,if_pos z2]
        rw [e] at hP
        exact hP
      · rename_i z2
        walk_at "go"
        refine ⟨_,rfl,?_⟩
        have e : shd ax ay aw bx b_y bw px py = ay * bw - aw * b_y := by unfold shd; rw [if_pos z,if_neg z2]
        rw [e] at hP
        exact hP
    · rename_i z
      walk_at "go"
      refine IfP.f (by simp [z]) ?_
      walk_at "go"
      refine ⟨_,rfl,?_⟩
      have e : shd ax ay aw bx b_y bw px py = det ax ay aw bx b_y bw px py 1 := by unfold shd; rw [if_neg z]
      rw [e] at hP
      exact hP
abbrev s_has_dot : Stmt := top 9
theorem sc_has_dot : FnScope ["face","dot","a","b","c","first"] ["face","dot"] (defScope s_has_dot) := ⟨rfl,rfl,rfl,by decide +kernel,rfl,by decide +kernel,by decide +kernel⟩
def T3.s1 (t : T3)(px py : Int) : Int := sgn (shd t.ax t.ay t.aw t.bx t.b_y t.bw px py)
def T3.s2 (t : T3)(px py : Int) : Int := sgn (shd t.bx t.b_y t.bw t.cx t.cy t.cw px py)
def T3.s3 (t : T3)(px py : Int) : Int := sgn (shd t.cx t.cy t.cw t.ax t.ay t.aw px py)
def T3.has (t : T3)(px py : Int) : Prop := t.s1 px py ≠ 0 /\ t.s2 px py = t.s1 px py /\ t.s3 px py = t.s1 px py
instance (t : T3) (px py : Int) : Decidable (t.has px py) := inferInstanceAs (Decidable (_ /\ _ /\ _))
def S_hasdot : DSp := fun ds P _ => ∃ (t : T3) (px py : Int) (n : Nat),ds = [t.d,t2 px py] /\ t.ok n /\ Bd n px /\ Bd n py /\ n <= 2000 /\ P (.bl (decide (t.has px py)))
structure C_has_dot (P : Program)(w : World)(K : PySem.W.Frag)(mg : Str -> Option Value)(base : Heap) : Prop where
  shifted_side_ : Callee P w K mg base CX0 "shifted_side" 3 ["a","b","dot"] (liftSp K BT S_shs)
theorem ok_has_dot {P : Program}{w : World}{K : PySem.W.Frag}{mg : Str -> Option Value}{base : Heap}{f : Addr}{fd : FuncData}(F : Fun K "has_dot" "has_dot" s_has_dot f fd) (Z : Bi mg) (G : C_has_dot P w K mg base) : FnOk P w K mg base CX0 4 f fd ["face","dot"] (liftSp K BT S_hasdot) := by
  refine F.okD sc_has_dot (fun ds PP Ed h => ?_) (fun cdv A outer s H E M bg ds PP Ed hr hS_ => ?_)
  · obtain ⟨t,px,py,n,rfl,ok,hx,hy,hn,hP⟩ := h
    rfl
  · obtain ⟨t,px,py,n,rfl,ok,hx,hy,hn,hP⟩ := hS_
    refine ⟨_,(jdss_cons (jds_asg (gd_seq [2,3,4]) (jdv 0) (PG.or (pg_tupK (n := 3) K (by rfl) (by rfl) (pgs_cons (pg_name (i := 2) sc_has_dot.nd rfl (by walk_at "o")) (pgs_cons (pg_name (i := 3) sc_has_dot.nd rfl (by walk_at "o")) (pgs_cons (pg_name (i := 4) sc_has_dot.nd rfl (by walk_at "o")) pgs_nil)))) (pg_lstK (n := 3) K (by rfl) (by rfl) (pgs_cons (pg_name (i := 2) sc_has_dot.nd rfl (by walk_at "o")) (pgs_cons (pg_name (i := 3) sc_has_dot.nd rfl (by walk_at "o")) (pgs_cons (pg_name (i := 4) sc_has_dot.nd rfl (by walk_at "o")) pgs_nil))))))
      (jdss_cons (jds_set (i := 5) sc_has_dot.nd rfl (by walk_at "o") (jde_own G.shifted_side_ (hr.mono (by decide)) rfl (jda_cons (jdv 2) (jda_cons (jdv 3) (jda_cons (jdv 1) jda_nil)))))
      (jdss_one (jds_ret (jde_and (jde_cmp op_ne od_neS (jdv 5) jde_int (nomark _)) (jde_and (jde_cmp op_eq od_eqS (jde_own G.shifted_side_ (hr.mono (by decide)) rfl (jda_cons (jdv 3) (jda_cons (jdv 4) (jda_cons (jdv 1) jda_nil)))) (jdv 5) (nomark _)) (jde_one (jde_cmp op_eq od_eqS (jde_own G.shifted_side_ (hr.mono (by decide)) rfl (jda_cons (jdv 4) (jda_cons (jdv 2) (jda_cons (jdv 1) jda_nil)))) (jdv 5) (nomark _))))))))),?_⟩
    walk_at "go"
    refine ⟨_,_,_,_,_,_,_,_,_,_,rfl,⟨ok.ax.mono hn,ok.ay.mono hn,ok.aw.mono hn⟩,⟨ok.bx.mono hn,ok.b_y.mono hn,ok.bw.mono hn⟩,⟨hx.mono hn,hy.mono hn⟩,?_⟩
    walk_at "go"
    have key : ∀ b : Bool,(b = true ↔ t.has px py) -> PP (.bl b) := fun b h => by
      rw [show b = decide (t.has px py) from by rw [Bool.eq_iff_iff,h]; simp]
      exact hP
    unfold T3.has T3.s1 T3.s2 T3.s3 at key
    walk_at "sp"
    · rename_i h1
      walk_at "go"
      refine ⟨_,_,_,_,_,_,_,_,_,_,rfl,⟨ok.bx.mono hn,ok.b_y.mono hn,ok.bw.mono hn⟩,⟨ok.cx.mono hn,ok.cy.mono hn,ok.cw.mono hn⟩,⟨hx.mono hn,hy.mono hn⟩,?_⟩
      walk_at "go"
      walk_at "sp"
      · rename_i h2
        walk_at "go"
        refine ⟨_,_,_,_,_,_,_,_,_,_,rfl,⟨ok.cx.mono hn,ok.cy.mono hn,ok.cw.mono hn⟩,⟨ok.ax.mono hn,ok.ay.mono hn,ok.aw.mono hn⟩,⟨hx.mono hn,hy.mono hn⟩,?_⟩
        walk_at "go"
        refine key _ ?_
        simp [h1,h2]
      · rename_i h2
        walk_at "go"
        refine key _ ?_
        simp [h2]
    · rename_i h1
      walk_at "go"
      refine key _ ?_
      simp [h1]
theorem sgn_pos {n : Int}(h : 0 < n) : sgn n = 1 := by unfold sgn; rw [if_pos h]
theorem sgn_neg {n : Int}(h : n < 0) : sgn n = -1 := by unfold sgn; rw [if_neg (by omega),if_pos h]
theorem sgn_zero : sgn 0 = 0 := by decide
theorem sgn_neg_eq (n : Int) : sgn (-n) = 0 - sgn n := by
  unfold sgn
  by_cases h1 : 0 < n
  · rw [if_pos h1,if_neg (by omega),if_pos (by omega)]; decide
  · by_cases h2 : n < 0
    · rw [if_neg h1,if_pos h2,if_pos (by omega)]; decide
    · rw [if_neg h1,if_neg h2,if_neg (by omega),if_neg (by omega)]; decide
theorem sgn_eq_zero {n : Int} : sgn n = 0 ↔ n = 0 := by
  unfold sgn
  by_cases h1 : 0 < n
  · rw [if_pos h1]; omega
  · by_cases h2 : n < 0
    · rw [if_neg h1,if_pos h2]; omega
    · rw [if_neg h1,if_neg h2]; omega
theorem sgn_mul {a : Int}(n : Int)(h : 0 < a) : sgn (a * n) = sgn n := by
  by_cases h1 : 0 < n
  · rw [sgn_pos h1,sgn_pos (Int.mul_pos h h1)]
  · by_cases h2 : n < 0
    · rw [sgn_neg h2,sgn_neg (Int.mul_neg_of_pos_of_neg h h2)]
    · have : n = 0 := by omega
      subst this
      rw [Int.mul_zero]
theorem mulb {a b M : Int}(h1 : (a.natAbs : Int) <= M)(h2 : (b.natAbs : Int) <= M) : -(M * M) <= a * b /\ a * b <= M * M := by
  have h3 : a.natAbs * b.natAbs <= M.toNat * M.toNat := Nat.mul_le_mul (by omega) (by omega)
  have h4 : (a * b).natAbs = a.natAbs * b.natAbs := Int.natAbs_mul a b
  have h5 : ((M.toNat * M.toNat : Nat) : Int) = M * M := by rw [Int.natCast_mul]; have : (M.toNat : Int) = M := by omega
                                                            rw [this]
  omega
theorem sgn_near {A B C T F : Int}(hT : 0 <= T)(hF : F = 10 + 8 * T)(b1 : -(2 * T) <= B)(b2 : B <= 2 * T)(c1 : -(2 * T) <= C)(c2 : C <= 2 * T) :
    sgn (F * F * A + F * B + C) = sgn (if A = 0 then (if B = 0 then C else B) else A) := by
  have F0 : 0 < F := by omega
  have e1 : F * (10 + 6 * T) = F * F - F * (2 * T) := by rw [hF]; grind
  have e2 : 10 * (10 + 6 * T) <= F * (10 + 6 * T) := Int.mul_le_mul_of_nonneg_right (by omega) (by omega)
  have fb1 : F * -(2 * T) <= F * B := Int.mul_le_mul_of_nonneg_left b1 (by omega)
  have fb2 : F * B <= F * (2 * T) := Int.mul_le_mul_of_nonneg_left b2 (by omega)
  have e3 : F * -(2 * T) = -(F * (2 * T)) := Int.mul_neg _ _
  have FF : 0 < F * F := Int.mul_pos F0 F0
  by_cases hA : A = 0
  · rw [if_pos hA,hA,Int.mul_zero]
    by_cases hB : B = 0
    · rw [if_pos hB,hB,Int.mul_zero]
      congr 1
      omega
    · rw [if_neg hB]
      by_cases hp : 0 < B
      · have : F * 1 <= F * B := Int.mul_le_mul_of_nonneg_left (by omega) (by omega)
        rw [sgn_pos hp,sgn_pos (by omega)]
      · have : F * B <= F * -1 := Int.mul_le_mul_of_nonneg_left (by omega) (by omega)
        have e4 : F * -1 = -F := by omega
        rw [sgn_neg (show B < 0 by omega),sgn_neg (by omega)]
  · rw [if_neg hA]
    by_cases hp : 0 < A
    · have : F * F * 1 <= F * F * A := Int.mul_le_mul_of_nonneg_left (by omega) (by omega)
      rw [sgn_pos hp,sgn_pos (by omega)]
    · have : F * F * A <= F * F * -1 := Int.mul_le_mul_of_nonneg_left (by omega) (by omega)
      rw [sgn_neg (show A < 0 by omega),sgn_neg (by omega)]
theorem lean_det0 (ax ay aw bx b_y bw px py pw : Int) : (bx * aw - ax * bw) * (py * aw - ay * pw) - (b_y * aw - ay * bw) * (px * aw - ax * pw) = aw * det ax ay aw bx b_y bw px py pw := by unfold det; grind
theorem near_det (ax ay aw bx b_y bw px py F : Int) : det ax ay aw bx b_y bw (px * F * F + F) (py * F * F + 1) (F * F) = F * F * det ax ay aw bx b_y bw px py 1 + F * (ay * bw - aw * b_y) + (aw * bx - ax * bw) := by unfold det; grind
theorem right_near {ax ay az aw bx b_y bz bw px py M : Int}(hw : 0 < aw)(hM : 1 <= M)(h : ∀ n ∈ [ax,ay,az,aw,bx,b_y,bz,bw],(n.natAbs : Int) <= M) :
    sgn ((bx * aw - ax * bw) * ((py * (10 + 8 * M * M) * (10 + 8 * M * M) + 1) * aw - ay * ((10 + 8 * M * M) * (10 + 8 * M * M))) - (b_y * aw - ay * bw) * ((px * (10 + 8 * M * M) * (10 + 8 * M * M) + (10 + 8 * M * M)) * aw - ax * ((10 + 8 * M * M) * (10 + 8 * M * M)))) = sgn (shd ax ay aw bx b_y bw px py) := by
  rw [lean_det0,sgn_mul _ hw,near_det]
  have m1 := mulb (h ay (by simp)) (h bw (by simp))
  have m2 := mulb (h aw (by simp)) (h b_y (by simp))
  have m3 := mulb (h aw (by simp)) (h bx (by simp))
  have m4 := mulb (h ax (by simp)) (h bw (by simp))
  have hT : 0 <= M * M := Int.mul_nonneg (by omega) (by omega)
  exact sgn_near (T := M * M) hT (by rw [Int.mul_assoc]) (by omega) (by omega) (by omega) (by omega)
theorem sgn_cases (n : Int) : (0 < n /\ sgn n = 1) \/ (n = 0 /\ sgn n = 0) \/ (n < 0 /\ sgn n = -1) := by
  by_cases h : 0 < n
  · exact .inl ⟨h,sgn_pos h⟩
  · by_cases h' : n < 0
    · exact .inr (.inr ⟨h',sgn_neg h'⟩)
    · have : n = 0 := by omega
      subst this
      exact .inr (.inl ⟨rfl,sgn_zero⟩)
structure T3.pos (t : T3) : Prop where
  a : 0 < t.aw
  b : 0 < t.bw
  c : 0 < t.cw
def T3.nums (t : T3) : List Int := [t.ax,t.ay,t.az,t.aw,t.bx,t.b_y,t.bz,t.bw,t.cx,t.cy,t.cz,t.cw]
def T3.in (t : T3)(M : Int) : Prop := ∀ n ∈ t.nums,(n.natAbs : Int) <= M
def nX (px M : Int) : Int := px * (10 + 8 * M * M) * (10 + 8 * M * M) + (10 + 8 * M * M)
def nY (py M : Int) : Int := py * (10 + 8 * M * M) * (10 + 8 * M * M) + 1
def nW (M : Int) : Int := (10 + 8 * M * M) * (10 + 8 * M * M)
theorem near_det_sgn {ax ay az aw bx b_y bz bw px py M : Int}(hw : 0 < aw)(hM : 1 <= M)(h : ∀ n ∈ [ax,ay,az,aw,bx,b_y,bz,bw],(n.natAbs : Int) <= M) : sgn (det ax ay aw bx b_y bw (nX px M) (nY py M) (nW M)) = sgn (shd ax ay aw bx b_y bw px py) := by
  have e := right_near (px := px) (py := py) hw hM h
  rw [lean_det0,sgn_mul _ hw] at e
  exact e
theorem T3.near {t : T3}{px py M : Int}(hp : t.pos)(hM : 1 <= M)(h : t.in M) :
    sgn (det t.ax t.ay t.aw t.bx t.b_y t.bw (nX px M) (nY py M) (nW M)) = t.s1 px py /\ sgn (det t.bx t.b_y t.bw t.cx t.cy t.cw (nX px M) (nY py M) (nW M)) = t.s2 px py /\ sgn (det t.cx t.cy t.cw t.ax t.ay t.aw (nX px M) (nY py M) (nW M)) = t.s3 px py := by
  unfold T3.in T3.nums at h
  refine ⟨near_det_sgn (az := t.az) (bz := t.bz) hp.a hM fun n hn => h n ?_,near_det_sgn (az := t.bz) (bz := t.cz) hp.b hM fun n hn => h n ?_,near_det_sgn (az := t.cz) (bz := t.az) hp.c hM fun n hn => h n ?_⟩
  all_goals
    simp only [List.mem_cons,List.not_mem_nil,or_false] at hn ⊢
    rcases hn with e | e | e | e | e | e | e | e <;> simp [e]
theorem T3.sum_det (t : T3)(x y w : Int) : t.cw * det t.ax t.ay t.aw t.bx t.b_y t.bw x y w + t.aw * det t.bx t.b_y t.bw t.cx t.cy t.cw x y w + t.bw * det t.cx t.cy t.cw t.ax t.ay t.aw x y w = t.tn * w := by
  unfold T3.tn det
  grind
theorem T3.has_sgn {t : T3}{px py : Int}(hp : t.pos)(h : t.has px py) : sgn t.tn = t.s1 px py := by
  obtain ⟨f,hf⟩ : ∃ f : Int -> Nat,∀ n,f n = n.natAbs := ⟨Int.natAbs,fun _ => rfl⟩
  obtain ⟨M,hM,hin⟩ : ∃ M : Int,1 <= M /\ t.in M := by
    refine ⟨1 + f t.ax + f t.ay + f t.az + f t.aw + f t.bx + f t.b_y + f t.bz + f t.bw + f t.cx + f t.cy + f t.cz + f t.cw,by omega,fun n hn => ?_⟩
    unfold T3.nums at hn
    rw [<- hf]
    clear hf h
    simp only [List.mem_cons,List.not_mem_nil,or_false] at hn
    rcases hn with e | e | e | e | e | e | e | e | e | e | e | e <;> rw [e] <;> omega
  obtain ⟨e1,e2,e3⟩ := T3.near (px := px) (py := py) hp hM hin
  have s := t.sum_det (nX px M) (nY py M) (nW M)
  have w0 : 0 < nW M := by
    unfold nW
    have : 0 <= 8 * M * M := Int.mul_nonneg (by omega) (by omega)
    exact Int.mul_pos (by omega) (by omega)
  obtain ⟨h1,h2,h3⟩ := h
  rw [<- e1] at h1 h2 h3
  rw [<- e1]
  rw [<- e2] at h2
  rw [<- e3] at h3
  have pa := hp.a
  have pb := hp.b
  have pc := hp.c
  generalize det t.ax t.ay t.aw t.bx t.b_y t.bw (nX px M) (nY py M) (nW M) = d1 at *
  generalize det t.bx t.b_y t.bw t.cx t.cy t.cw (nX px M) (nY py M) (nW M) = d2 at *
  generalize det t.cx t.cy t.cw t.ax t.ay t.aw (nX px M) (nY py M) (nW M) = d3 at *
  generalize nW M = w at *
  have c1 := sgn_cases d1
  have c2 := sgn_cases d2
  have c3 := sgn_cases d3
  rcases c1 with ⟨c1,q⟩ | ⟨c1,q⟩ | ⟨c1,q⟩
  · have k2 : 0 < d2 := by omega
    have k3 : 0 < d3 := by omega
    have m1 := Int.mul_pos pc c1
    have m2 := Int.mul_pos pa k2
    have m3 := Int.mul_pos pb k3
    have : 0 < t.tn := by
      apply Decidable.byContradiction
      intro n
      have := Int.mul_nonpos_of_nonpos_of_nonneg (show t.tn <= 0 by omega) (show 0 <= w by omega)
      omega
    rw [sgn_pos this,q]
  · omega
  · have k2 : d2 < 0 := by omega
    have k3 : d3 < 0 := by omega
    have m1 := Int.mul_neg_of_pos_of_neg pc c1
    have m2 := Int.mul_neg_of_pos_of_neg pa k2
    have m3 := Int.mul_neg_of_pos_of_neg pb k3
    have : t.tn < 0 := by
      apply Decidable.byContradiction
      intro n
      have := Int.mul_nonneg (show 0 <= t.tn by omega) (show 0 <= w by omega)
      omega
    rw [sgn_neg this,q]
structure R4 where
  x : Int
  y : Int
  z : Int
  w : Int
abbrev R4.d (r : R4) : D := sp4 r.x r.y r.z r.w
structure R4.ok (r : R4)(n : Nat) : Prop where
  x : Bd n r.x
  y : Bd n r.y
  z : Bd n r.z
  w : Bd n r.w
theorem R4.ok.mono {r : R4}{m n : Nat}(h : r.ok m)(k : m <= n) : r.ok n := ⟨h.x.mono k,h.y.mono k,h.z.mono k,h.w.mono k⟩
def tri (a b c : R4) : T3 := ⟨a.x,a.y,a.z,a.w,b.x,b.y,b.z,b.w,c.x,c.y,c.z,c.w⟩
theorem tri_ok {a b c : R4}{n : Nat}(ha : a.ok n)(hb : b.ok n)(hc : c.ok n) : (tri a b c).ok n := ⟨ha.x,ha.y,ha.z,ha.w,hb.x,hb.y,hb.z,hb.w,hc.x,hc.y,hc.z,hc.w⟩
def T3.sg (t : T3)(px py : Int) : Int := if t.has px py then sgn t.tn else 0
def tri3 (x y z : Int) : Int := if x ≠ 0 /\ y = x /\ z = x then x else 0
def dd (a b : R4)(x y w : Int) : Int := det a.x a.y a.w b.x b.y b.w x y w
theorem dd_swap (a b : R4)(x y w : Int) : dd b a x y w = -dd a b x y w := by unfold dd det; grind
theorem dd_rel (a b c n : R4)(x y w : Int) : dd a b x y w * dd c n x y w + dd c a x y w * dd b n x y w + dd b c x y w * dd a n x y w = 0 := by unfold dd det; grind
def R4.in (r : R4)(M : Int) : Prop := (r.x.natAbs : Int) <= M /\ (r.y.natAbs : Int) <= M /\ (r.z.natAbs : Int) <= M /\ (r.w.natAbs : Int) <= M
theorem dd_sgn {a b : R4}{px py M : Int}(hw : 0 < a.w)(hM : 1 <= M)(ha : a.in M)(hb : b.in M) : sgn (dd a b (nX px M) (nY py M) (nW M)) = sgn (shd a.x a.y a.w b.x b.y b.w px py) := by
  obtain ⟨a1,a2,a3,a4⟩ := ha
  obtain ⟨b1,b2,b3,b4⟩ := hb
  refine near_det_sgn (az := a.z) (bz := b.z) hw hM fun n hn => ?_
  simp only [List.mem_cons,List.not_mem_nil,or_false] at hn
  rcases hn with e | e | e | e | e | e | e | e <;> rw [e] <;> assumption
theorem sg_tri {a b c : R4}{px py M : Int}(ha : 0 < a.w)(hb : 0 < b.w)(hc : 0 < c.w)(hM : 1 <= M)(ia : a.in M)(ib : b.in M)(ic : c.in M) : (tri a b c).sg px py = tri3 (sgn (dd a b (nX px M) (nY py M) (nW M))) (sgn (dd b c (nX px M) (nY py M) (nW M))) (sgn (dd c a (nX px M) (nY py M) (nW M))) := by
  rw [dd_sgn ha hM ia ib,dd_sgn hb hM ib ic,dd_sgn hc hM ic ia]
  unfold T3.sg tri3
  by_cases h : (tri a b c).has px py
  · have h' : sgn (shd a.x a.y a.w b.x b.y b.w px py) ≠ 0 /\ sgn (shd b.x b.y b.w c.x c.y c.w px py) = sgn (shd a.x a.y a.w b.x b.y b.w px py) /\ sgn (shd c.x c.y c.w a.x a.y a.w px py) = sgn (shd a.x a.y a.w b.x b.y b.w px py) := h
    rw [if_pos h,T3.has_sgn ⟨ha,hb,hc⟩ h,if_pos h']
    rfl
  · have h' : ¬ (sgn (shd a.x a.y a.w b.x b.y b.w px py) ≠ 0 /\ sgn (shd b.x b.y b.w c.x c.y c.w px py) = sgn (shd a.x a.y a.w b.x b.y b.w px py) /\ sgn (shd c.x c.y c.w a.x a.y a.w px py) = sgn (shd a.x a.y a.w b.x b.y b.w px py)) := h
    rw [if_neg h,if_neg h']
theorem same_place {a b c : R4}{px py M : Int}(ha : 0 < a.w)(hb : 0 < b.w)(hM : 1 <= M)(ia : a.in M)(ib : b.in M)(x y w : Int)(h : sgn (dd a b (nX px M) (nY py M) (nW M)) = 0) : sgn (dd a c x y w) = sgn (dd b c x y w) := by
  rw [dd_sgn ha hM ia ib] at h
  have h := sgn_eq_zero.mp h
  unfold shd at h
  split at h
  · split at h
    · rename_i h1 h2
      have e : dd a c x y w * b.w = dd b c x y w * a.w := by
        have q1 : a.x * b.w = b.x * a.w := by rw [Int.mul_comm b.x a.w]; omega
        have q2 : a.y * b.w = b.y * a.w := by rw [Int.mul_comm b.y a.w]; omega
        unfold dd det
        grind
      have e1 := sgn_mul (dd a c x y w) hb
      have e2 := sgn_mul (dd b c x y w) ha
      rw [<- e1,<- e2,Int.mul_comm b.w,Int.mul_comm a.w,e]
    · rename_i h1 h2
      exact absurd h h2
  · rename_i h1
    exact absurd h h1
theorem sg3 (n : Int) : sgn n = 1 \/ sgn n = 0 \/ sgn n = -1 := by have := sgn_cases n; omega
theorem sgn_mul2 (a b : Int) : sgn (a * b) = sgn a * sgn b := by
  rcases sgn_cases a with ⟨h,e⟩ | ⟨h,e⟩ | ⟨h,e⟩
  · rw [sgn_mul _ h,e,Int.one_mul]
  · rw [h,Int.zero_mul,sgn_zero,Int.zero_mul]
  · rw [e,show a * b = -((-a) * b) by rw [Int.neg_mul,Int.neg_neg],sgn_neg_eq,sgn_mul _ (show 0 < -a by omega)]
    omega
theorem tri_nonzero : ∀ ab bc ca an bn cn : Int,(ab = 1 \/ ab = -1) -> (bc = 1 \/ bc = -1) -> (ca = 1 \/ ca = -1) -> (an = 1 \/ an = -1) -> (bn = 1 \/ bn = -1) -> (cn = 1 \/ cn = -1) -> ¬ (ab * cn = 1 /\ ca * bn = 1 /\ bc * an = 1) -> ¬ (ab * cn = -1 /\ ca * bn = -1 /\ bc * an = -1) -> tri3 ab bc ca = tri3 ab bn (-an) + tri3 bc cn (-bn) + tri3 ca an (-cn) := by
  intro ab bc ca an bn cn h1 h2 h3 h4 h5 h6 k1 k2
  rcases h1 with rfl | rfl <;> rcases h2 with rfl | rfl <;> rcases h3 with rfl | rfl <;> rcases h4 with rfl | rfl <;> rcases h5 with rfl | rfl <;> rcases h6 with rfl | rfl <;> first | decide | exact absurd (by decide) k1 | exact absurd (by decide) k2
theorem sum_pos {x y z : Int}(h : x + y + z = 0)(q1 : sgn x = 1)(q2 : sgn y = 1)(q3 : sgn z = 1) : False := by
  have r1 := sgn_cases x
  have r2 := sgn_cases y
  have r3 := sgn_cases z
  omega
theorem sum_neg {x y z : Int}(h : x + y + z = 0)(q1 : sgn x = -1)(q2 : sgn y = -1)(q3 : sgn z = -1) : False := by
  have r1 := sgn_cases x
  have r2 := sgn_cases y
  have r3 := sgn_cases z
  omega
theorem ng1 {x y : Int}(h : -x = y) : x = -y := by omega
theorem ng2 {x y : Int}(h : -x = -y) : x = y := by omega
theorem pm1 {s : Int}(h : s = 1 \/ s = 0 \/ s = -1)(n : s ≠ 0) : s = 1 \/ s = -1 := by omega
theorem tri_ab (x y z : Int)(hx : (x = 1 \/ x = 0 \/ x = -1))(hy : (y = 1 \/ y = 0 \/ y = -1))(hz : (z = 1 \/ z = 0 \/ z = -1)) : tri3 0 x (-x) = tri3 0 y (-y) + tri3 x z (-y) + tri3 (-x) y (-z) := by
  rcases hx with rfl | rfl | rfl <;> rcases hy with rfl | rfl | rfl <;> rcases hz with rfl | rfl | rfl <;> decide
theorem tri_bc (x y z : Int)(hx : (x = 1 \/ x = 0 \/ x = -1))(hy : (y = 1 \/ y = 0 \/ y = -1))(hz : (z = 1 \/ z = 0 \/ z = -1)) : tri3 x 0 (-x) = tri3 x z (-y) + tri3 0 z (-z) + tri3 (-x) y (-z) := by
  rcases hx with rfl | rfl | rfl <;> rcases hy with rfl | rfl | rfl <;> rcases hz with rfl | rfl | rfl <;> decide
theorem tri_ca (x y z : Int)(hx : (x = 1 \/ x = 0 \/ x = -1))(hy : (y = 1 \/ y = 0 \/ y = -1))(hz : (z = 1 \/ z = 0 \/ z = -1)) : tri3 (-x) x 0 = tri3 (-x) y (-z) + tri3 x z (-y) + tri3 0 z (-z) := by
  rcases hx with rfl | rfl | rfl <;> rcases hy with rfl | rfl | rfl <;> rcases hz with rfl | rfl | rfl <;> decide
theorem tri_an (x y z : Int)(hx : (x = 1 \/ x = 0 \/ x = -1))(hy : (y = 1 \/ y = 0 \/ y = -1))(hz : (z = 1 \/ z = 0 \/ z = -1)) : tri3 (-y) x z = tri3 (-y) y (-0) + tri3 x z (-y) + tri3 z 0 (-z) := by
  rcases hx with rfl | rfl | rfl <;> rcases hy with rfl | rfl | rfl <;> rcases hz with rfl | rfl | rfl <;> decide
theorem tri_bn (x y z : Int)(hx : (x = 1 \/ x = 0 \/ x = -1))(hy : (y = 1 \/ y = 0 \/ y = -1))(hz : (z = 1 \/ z = 0 \/ z = -1)) : tri3 x (-z) y = tri3 x 0 (-x) + tri3 (-z) z (-0) + tri3 y x (-z) := by
  rcases hx with rfl | rfl | rfl <;> rcases hy with rfl | rfl | rfl <;> rcases hz with rfl | rfl | rfl <;> decide
theorem tri_cn (x y z : Int)(hx : (x = 1 \/ x = 0 \/ x = -1))(hy : (y = 1 \/ y = 0 \/ y = -1))(hz : (z = 1 \/ z = 0 \/ z = -1)) : tri3 x y (-z) = tri3 x y (-z) + tri3 y 0 (-y) + tri3 (-z) z (-0) := by
  rcases hx with rfl | rfl | rfl <;> rcases hy with rfl | rfl | rfl <;> rcases hz with rfl | rfl | rfl <;> decide
theorem sg_split {a b c n : R4}(ha : 0 < a.w)(hb : 0 < b.w)(hc : 0 < c.w)(hn : 0 < n.w)(px py : Int) : (tri a b c).sg px py = (tri a b n).sg px py + (tri b c n).sg px py + (tri c a n).sg px py := by
  obtain ⟨f,hf⟩ : ∃ f : Int -> Nat,∀ n,f n = n.natAbs := ⟨Int.natAbs,fun _ => rfl⟩
  obtain ⟨M,hM,ia,ib,ic,iN⟩ : ∃ M : Int,1 <= M /\ a.in M /\ b.in M /\ c.in M /\ n.in M := by
    refine ⟨1 + f a.x + f a.y + f a.z + f a.w + f b.x + f b.y + f b.z + f b.w + f c.x + f c.y + f c.z + f c.w + f n.x + f n.y + f n.z + f n.w,by omega,?_,?_,?_,?_⟩ <;> (unfold R4.in; rw [<- hf,<- hf,<- hf,<- hf]; omega)
  rw [sg_tri ha hb hc hM ia ib ic,sg_tri ha hb hn hM ia ib iN,sg_tri hb hc hn hM ib ic iN,sg_tri hc ha hn hM ic ia iN]
  have Z := fun (p q r : R4) hp hq ip iq => same_place (a := p) (b := q) (c := r) (px := px) (py := py) hp hq hM ip iq (nX px M) (nY py M) (nW M)
  have R := dd_rel a b c n (nX px M) (nY py M) (nW M)
  have zab1 := Z a b c ha hb ia ib
  have zab2 := Z a b n ha hb ia ib
  have zbc1 := Z b c a hb hc ib ic
  have zbc2 := Z b c n hb hc ib ic
  have zca1 := Z c a b hc ha ic ia
  have zca2 := Z c a n hc ha ic ia
  have zan1 := Z a n b ha hn ia iN
  have zan2 := Z a n c ha hn ia iN
  have zbn1 := Z b n c hb hn ib iN
  have zbn2 := Z b n a hb hn ib iN
  have zcn1 := Z c n a hc hn ic iN
  have zcn2 := Z c n b hc hn ic iN
  clear Z
  have sw := fun (p q : R4) => dd_swap p q (nX px M) (nY py M) (nW M)
  simp only [sw a n,sw b n,sw c n,sw a b,sw b c,sw c a,sgn_neg_eq] at zab1 zab2 zbc1 zbc2 zca1 zca2 zan1 zan2 zbn1 zbn2 zcn1 zcn2 ⊢
  clear sw
  generalize dd a b (nX px M) (nY py M) (nW M) = Dab at *
  generalize dd b c (nX px M) (nY py M) (nW M) = Dbc at *
  generalize dd c a (nX px M) (nY py M) (nW M) = Dca at *
  generalize dd a n (nX px M) (nY py M) (nW M) = Dan at *
  generalize dd b n (nX px M) (nY py M) (nW M) = Dbn at *
  generalize dd c n (nX px M) (nY py M) (nW M) = Dcn at *
  have k1 : ¬ (sgn Dab * sgn Dcn = 1 /\ sgn Dca * sgn Dbn = 1 /\ sgn Dbc * sgn Dan = 1) := by
    rintro ⟨q1,q2,q3⟩
    rw [<- sgn_mul2] at q1 q2 q3
    exact sum_pos R q1 q2 q3
  have k2 : ¬ (sgn Dab * sgn Dcn = -1 /\ sgn Dca * sgn Dbn = -1 /\ sgn Dbc * sgn Dan = -1) := by
    rintro ⟨q1,q2,q3⟩
    rw [<- sgn_mul2] at q1 q2 q3
    exact sum_neg R q1 q2 q3
  clear R
  have t1 := sg3 Dab
  have t2 := sg3 Dbc
  have t3 := sg3 Dca
  have t4 := sg3 Dan
  have t5 := sg3 Dbn
  have t6 := sg3 Dcn
  generalize sgn Dab = ab at *
  generalize sgn Dbc = bc at *
  generalize sgn Dca = ca at *
  generalize sgn Dan = an at *
  generalize sgn Dbn = bn at *
  generalize sgn Dcn = cn at *
  clear hf ia ib ic iN hM ha hb hc hn
  simp only [Int.zero_sub] at zab1 zab2 zbc1 zbc2 zca1 zca2 zan1 zan2 zbn1 zbn2 zcn1 zcn2 ⊢
  by_cases e1 : ab = 0
  · have h1 : ca = -bc := ng1 (zab1 e1)
    have h2 : an = bn := zab2 e1
    rw [h1,h2,e1]
    exact tri_ab bc bn cn t2 t5 t6
  by_cases e2 : bc = 0
  · have h1 : ca = -ab := (zbc1 e2).symm
    have h2 : bn = cn := zbc2 e2
    rw [h1,h2,e2]
    exact tri_bc ab an cn t1 t4 t6
  by_cases e3 : ca = 0
  · have h1 : ab = -bc := (zca1 e3).symm
    have h2 : an = cn := (zca2 e3).symm
    rw [h1,h2,e3]
    exact tri_ca bc bn cn t2 t5 t6
  by_cases e4 : an = 0
  · have h1 : ab = -bn := zan1 e4
    have h2 : ca = cn := ng2 (zan2 e4)
    rw [h1,h2,e4]
    exact tri_an bc bn cn t2 t5 t6
  by_cases e5 : bn = 0
  · have h1 : bc = -cn := zbn1 e5
    have h2 : an = ab := (ng2 (zbn2 e5)).symm
    rw [h1,h2,e5]
    exact tri_bn ab ca cn t1 t3 t6
  by_cases e6 : cn = 0
  · have h1 : ca = -an := zcn1 e6
    have h2 : bn = bc := (ng2 (zcn2 e6)).symm
    rw [h1,h2,e6]
    exact tri_cn ab bc an t1 t2 t4
  exact tri_nonzero ab bc ca an bn cn (pm1 t1 e1) (pm1 t2 e2) (pm1 t3 e3) (pm1 t4 e4) (pm1 t5 e5) (pm1 t6 e6) k1 k2
theorem shd_neg (ax ay aw bx b_y bw px py : Int) : shd bx b_y bw ax ay aw px py = -shd ax ay aw bx b_y bw px py := by
  have e1 : det bx b_y bw ax ay aw px py 1 = -det ax ay aw bx b_y bw px py 1 := by unfold det; grind
  have e2 : b_y * aw - bw * ay = -(ay * bw - aw * b_y) := by grind
  have e3 : bw * ax - bx * aw = -(aw * bx - ax * bw) := by grind
  unfold shd
  rw [e1,e2,e3]
  generalize det ax ay aw bx b_y bw px py 1 = p
  generalize ay * bw - aw * b_y = q
  generalize aw * bx - ax * bw = r
  by_cases h1 : p = 0
  · by_cases h2 : q = 0
    · rw [if_pos (by omega),if_pos (by omega),if_pos h1,if_pos h2]
    · rw [if_pos (by omega),if_neg (by omega),if_pos h1,if_neg h2]
  · rw [if_neg (by omega),if_neg h1]
theorem sg_rot (a b c : R4)(px py : Int) : (tri b c a).sg px py = (tri a b c).sg px py := by
  have e0 : (tri b c a).tn = (tri a b c).tn := by unfold tri T3.tn det; grind
  have hh : (tri b c a).has px py ↔ (tri a b c).has px py := by
    have s1 : (tri b c a).s1 px py = (tri a b c).s2 px py := rfl
    have s2 : (tri b c a).s2 px py = (tri a b c).s3 px py := rfl
    have s3 : (tri b c a).s3 px py = (tri a b c).s1 px py := rfl
    unfold T3.has
    rw [s1,s2,s3]
    omega
  unfold T3.sg
  by_cases h : (tri a b c).has px py
  · rw [if_pos h,if_pos (hh.mpr h),e0]
  · rw [if_neg h,if_neg (fun z => h (hh.mp z))]
theorem sg_flat {t : T3}{px py : Int}(h : t.tn = 0) : t.sg px py = 0 := by
  unfold T3.sg
  split
  · rw [h]; exact sgn_zero
  · rfl
structure Fa where
  a : R4
  b : R4
  c : R4
abbrev Fa.t (f : Fa) : T3 := tri f.a f.b f.c
abbrev Fa.d (f : Fa) : D := .tup [f.a.d,f.b.d,f.c.d]
structure Fa.ok (f : Fa)(n : Nat) : Prop where
  a : f.a.ok n
  b : f.b.ok n
  c : f.c.ok n
  pa : 0 < f.a.w
  pb : 0 < f.b.w
  pc : 0 < f.c.w
  tn : 0 < f.t.tn
theorem Fa.ok.mono {f : Fa}{m n : Nat}(h : f.ok m)(k : m <= n) : f.ok n := ⟨h.a.mono k,h.b.mono k,h.c.mono k,h.pa,h.pb,h.pc,h.tn⟩
structure Mean (f : Fa)(wa wb wc : Int)(d : R4) : Prop where
  w : 0 < d.w
  g : ∃ g : Int,0 < g /\ wa * f.a.x + wb * f.b.x + wc * f.c.x = g * d.x /\ wa * f.a.y + wb * f.b.y + wc * f.c.y = g * d.y /\ wa * f.a.w + wb * f.b.w + wc * f.c.w = g * d.w
theorem pos_of {g x : Int}(hg : 0 < g)(h : 0 < g * x) : 0 < x := by
  rcases Int.lt_or_le 0 x with z | z
  · exact z
  · have := Int.mul_nonpos_of_nonneg_of_nonpos (Int.le_of_lt hg) z; omega
theorem mean_tn {f : Fa}{wa wb wc : Int}{d : R4}(h : Mean f wa wb wc d) : ∃ g : Int,0 < g /\ g * (tri f.a f.b d).tn = wc * f.t.tn /\ g * (tri f.b f.c d).tn = wa * f.t.tn /\ g * (tri f.c f.a d).tn = wb * f.t.tn := by
  obtain ⟨g,g0,h1,h2,h3⟩ := h.g
  refine ⟨g,g0,?_,?_,?_⟩ <;> (unfold Fa.t tri T3.tn det; grind)
theorem tn_rot (a b c : R4) : (tri b c a).tn = (tri a b c).tn := by unfold tri T3.tn det; grind
theorem in_parts {f : Fa}{n m : Nat}{wa wb wc : Int}{d : R4}(h : Mean f wa wb wc d)(fo : f.ok n)(od : d.ok m)(hnm : n <= m)(ha : 0 < wa)(hb : 0 < wb)(hc : 0 < wc) : (∀ p ∈ [(⟨f.a,f.b,d⟩ : Fa),⟨f.b,f.c,d⟩,⟨f.c,f.a,d⟩],p.ok m) /\ ∀ px py,f.t.sg px py = ([(⟨f.a,f.b,d⟩ : Fa),⟨f.b,f.c,d⟩,⟨f.c,f.a,d⟩].map fun p => p.t.sg px py).sum := by
  obtain ⟨g,g0,e1,e2,e3⟩ := mean_tn h
  have p := fo.tn
  have q1 := Int.mul_pos hc p
  have q2 := Int.mul_pos ha p
  have q3 := Int.mul_pos hb p
  rw [<- e1] at q1
  rw [<- e2] at q2
  rw [<- e3] at q3
  have f' := fo.mono hnm
  refine ⟨fun x hx => ?_,fun px py => ?_⟩
  · simp only [List.mem_cons,List.not_mem_nil,or_false] at hx
    rcases hx with rfl | rfl | rfl
    · exact ⟨f'.a,f'.b,od,fo.pa,fo.pb,h.w,pos_of g0 q1⟩
    · exact ⟨f'.b,f'.c,od,fo.pb,fo.pc,h.w,pos_of g0 q2⟩
    · exact ⟨f'.c,f'.a,od,fo.pc,fo.pa,h.w,pos_of g0 q3⟩
  · show (tri f.a f.b f.c).sg px py = (tri f.a f.b d).sg px py + ((tri f.b f.c d).sg px py + ((tri f.c f.a d).sg px py + 0))
    rw [sg_split fo.pa fo.pb fo.pc h.w]
    omega
structure Btw (u v : R4)(d : R4) : Prop where
  w : 0 < d.w
  g : ∃ g wu wv : Int,0 < g /\ 0 < wu /\ 0 < wv /\ wu * u.x + wv * v.x = g * d.x /\ wu * u.y + wv * v.y = g * d.y /\ wu * u.w + wv * v.w = g * d.w
theorem Btw.swap {u v d : R4}(h : Btw u v d) : Btw v u d := by
  obtain ⟨w,g,wu,wv,g0,u0,v0,e1,e2,e3⟩ := h
  exact ⟨w,g,wv,wu,g0,v0,u0,by omega,by omega,by omega⟩
theorem side_parts {p q r d : R4}{n m : Nat}(h : Btw p q d)(fo : Fa.ok ⟨p,q,r⟩ n)(od : d.ok m)(hnm : n <= m) : Fa.ok ⟨p,d,r⟩ m /\ Fa.ok ⟨d,q,r⟩ m /\ ∀ px py,(tri p q r).sg px py = (tri p d r).sg px py + (tri d q r).sg px py := by
  obtain ⟨g,wu,wv,g0,u0,v0,h1,h2,h3⟩ := h.g
  have z : g * (tri p q d).tn = 0 := by unfold tri T3.tn det; grind
  have e1 : g * (tri p d r).tn = wv * (tri p q r).tn := by unfold tri T3.tn det; grind
  have e2 : g * (tri d q r).tn = wu * (tri p q r).tn := by unfold tri T3.tn det; grind
  have t : 0 < (tri p q r).tn := fo.tn
  have q1 := Int.mul_pos v0 t
  have q2 := Int.mul_pos u0 t
  rw [<- e1] at q1
  rw [<- e2] at q2
  have f' := fo.mono hnm
  refine ⟨⟨f'.a,od,f'.c,fo.pa,h.w,fo.pc,pos_of g0 q1⟩,⟨od,f'.b,f'.c,h.w,fo.pb,fo.pc,pos_of g0 q2⟩,fun px py => ?_⟩
  have z0 : (tri p q d).tn = 0 := (Int.mul_eq_zero.mp z).resolve_left (by omega)
  have r1 := sg_rot r p d px py
  rw [sg_split (n := d) fo.pa fo.pb fo.pc h.w,sg_flat z0,sg_rot d q r]
  show 0 + _ + (tri r p d).sg px py = _
  omega
def sgS (fs : List Fa)(px py : Int) : Int := (fs.map fun f => f.t.sg px py).sum
theorem sgS_app (xs ys : List Fa)(px py : Int) : sgS (xs ++ ys) px py = sgS xs px py + sgS ys px py := by
  unfold sgS
  rw [List.map_append,List.sum_append]
theorem sgS_cons (f : Fa)(fs : List Fa)(px py : Int) : sgS (f :: fs) px py = f.t.sg px py + sgS fs px py := rfl
structure Flo (fs : List Fa)(n : Nat)(W H : Int) : Prop where
  ok : ∀ f ∈ fs,f.ok n
  one : ∀ px py,0 <= px -> px < W -> 0 <= py -> py < H -> sgS fs px py = 1
def R4.r (u : R4) : List Int := [u.x,u.y,u.z,u.w]
theorem R4.ri {u v : R4}(h : u.r = v.r) : u = v := by
  unfold R4.r at h
  simp only [List.cons.injEq,and_true] at h
  cases u; cases v
  simpa using h
def Fa.rs (f : Fa) : List (List Int) := [f.a.r,f.b.r,f.c.r]
def sameB (x y u v : List Int) : Bool := decide ((x = u /\ y = v) \/ (x = v /\ y = u))
theorem same_iff {x y u v : List Int}(h : u ≠ v) : (∀ r,r ∈ [x,y] ↔ r ∈ [u,v]) ↔ ((x = u /\ y = v) \/ (x = v /\ y = u)) := by
  constructor
  · intro z
    have z1 := (z x).mp (by simp)
    have z2 := (z y).mp (by simp)
    have z3 := (z u).mpr (by simp)
    have z4 := (z v).mpr (by simp)
    simp only [List.mem_cons,List.not_mem_nil,or_false] at z1 z2 z3 z4
    rcases z1 with rfl | rfl
    · rcases z4 with z4 | z4
      · exact absurd z4.symm h
      · exact .inl ⟨rfl,z4.symm⟩
    · rcases z3 with z3 | z3
      · exact absurd z3 h
      · exact .inr ⟨rfl,z3.symm⟩
  · rintro (⟨rfl,rfl⟩ | ⟨rfl,rfl⟩) r
    · rfl
    · simp [or_comm]
def halves (u v d : R4)(f : Fa) : List Fa := (if sameB f.a.r f.b.r u.r v.r = true then [⟨f.a,d,f.c⟩,⟨d,f.b,f.c⟩] else []) ++ (if sameB f.b.r f.c.r u.r v.r = true then [⟨f.b,d,f.a⟩,⟨d,f.c,f.a⟩] else []) ++ if sameB f.c.r f.a.r u.r v.r = true then [⟨f.c,d,f.b⟩,⟨d,f.a,f.b⟩] else []
def both (u v : R4)(f : Fa) : Bool := decide (u.r ∈ f.rs) && decide (v.r ∈ f.rs)
structure Half (f : Fa)(m : Nat)(b : Bool)(hs : List Fa) : Prop where
  ok : ∀ p ∈ hs,p.ok m
  len : hs.length <= 2
  no : b = false -> hs = []
  two : b = true -> hs.length = 2
  sg : ∀ px py,sgS hs px py = if b = true then f.t.sg px py else 0
theorem btw_of {x y u v d : R4}(h : Btw u v d)(z : (x.r = u.r /\ y.r = v.r) \/ (x.r = v.r /\ y.r = u.r)) : Btw x y d := by
  rcases z with ⟨z1,z2⟩ | ⟨z1,z2⟩
  · rw [R4.ri z1,R4.ri z2]; exact h
  · rw [R4.ri z1,R4.ri z2]; exact h.swap
theorem un_of {f : Fa}{n : Nat}(h : f.ok n) : f.a.r ≠ f.b.r /\ f.b.r ≠ f.c.r /\ f.c.r ≠ f.a.r := by
  have t := h.tn
  refine ⟨fun z => ?_,fun z => ?_,fun z => ?_⟩ <;> (have z := R4.ri z; unfold Fa.t tri T3.tn det at t; rw [z] at t; grind)
theorem half_of {f : Fa}{n m : Nat}{u v d : R4}(h : Btw u v d)(ne : u.r ≠ v.r)(fo : f.ok n)(od : d.ok m)(hnm : n <= m) : Half f m (both u v f) (halves u v d f) := by
  obtain ⟨n1,n2,n3⟩ := un_of fo
  have rot1 : Fa.ok ⟨f.b,f.c,f.a⟩ n := ⟨fo.b,fo.c,fo.a,fo.pb,fo.pc,fo.pa,by rw [show (Fa.t ⟨f.b,f.c,f.a⟩) = tri f.b f.c f.a from rfl,tn_rot]; exact fo.tn⟩
  have rot2 : Fa.ok ⟨f.c,f.a,f.b⟩ n := ⟨fo.c,fo.a,fo.b,fo.pc,fo.pa,fo.pb,by rw [show (Fa.t ⟨f.c,f.a,f.b⟩) = tri f.c f.a f.b from rfl,<- tn_rot f.c f.a f.b]; exact fo.tn⟩
  have two : ∀ {p q : Fa},p.ok m -> q.ok m -> (∀ px py,f.t.sg px py = p.t.sg px py + q.t.sg px py) -> Half f m true [p,q] := fun hp hq s => ⟨fun x hx => by
    simp only [List.mem_cons,List.not_mem_nil,or_false] at hx
    rcases hx with rfl | rfl
    · exact hp
    · exact hq,Nat.le_refl 2,fun h => (by cases h),fun _ => rfl,fun px py => by
      rw [sgS_cons,sgS_cons,if_pos rfl,s px py]
      show _ + (_ + 0) = _
      omega⟩
  unfold halves both sameB Fa.rs
  simp only [List.mem_cons,List.not_mem_nil,or_false,decide_eq_true_eq]
  by_cases c1 : (f.a.r = u.r /\ f.b.r = v.r) \/ (f.a.r = v.r /\ f.b.r = u.r)
  · have k2 : ¬ ((f.b.r = u.r /\ f.c.r = v.r) \/ (f.b.r = v.r /\ f.c.r = u.r)) := fun z => by
      rcases c1 with ⟨e1,e2⟩ | ⟨e1,e2⟩ <;> rcases z with ⟨e3,e4⟩ | ⟨e3,e4⟩ <;> first | exact n3 (e4.trans e1.symm) | exact ne (e3.symm.trans e2) | exact ne (e2.symm.trans e3)
    have k3 : ¬ ((f.c.r = u.r /\ f.a.r = v.r) \/ (f.c.r = v.r /\ f.a.r = u.r)) := fun z => by
      rcases c1 with ⟨e1,e2⟩ | ⟨e1,e2⟩ <;> rcases z with ⟨e3,e4⟩ | ⟨e3,e4⟩ <;> first | exact n2 (e2.trans e3.symm) | exact ne (e1.symm.trans e4) | exact ne (e4.symm.trans e1)
    have bt : (decide (u.r = f.a.r \/ u.r = f.b.r \/ u.r = f.c.r) && decide (v.r = f.a.r \/ v.r = f.b.r \/ v.r = f.c.r)) = true := by
      rcases c1 with ⟨e1,e2⟩ | ⟨e1,e2⟩ <;> simp [e1,e2]
    rw [if_pos c1,if_neg k2,if_neg k3,bt]
    obtain ⟨o1,o2,s⟩ := side_parts (btw_of h c1) (r := f.c) fo od hnm
    exact two o1 o2 s
  · by_cases c2 : (f.b.r = u.r /\ f.c.r = v.r) \/ (f.b.r = v.r /\ f.c.r = u.r)
    · have k3 : ¬ ((f.c.r = u.r /\ f.a.r = v.r) \/ (f.c.r = v.r /\ f.a.r = u.r)) := fun z => by
        rcases c2 with ⟨e1,e2⟩ | ⟨e1,e2⟩ <;> rcases z with ⟨e3,e4⟩ | ⟨e3,e4⟩ <;> first | exact n1 (e4.trans e1.symm) | exact ne (e3.symm.trans e2) | exact ne (e2.symm.trans e3)
      have bt : (decide (u.r = f.a.r \/ u.r = f.b.r \/ u.r = f.c.r) && decide (v.r = f.a.r \/ v.r = f.b.r \/ v.r = f.c.r)) = true := by
        rcases c2 with ⟨e1,e2⟩ | ⟨e1,e2⟩ <;> simp [e1,e2]
      rw [if_neg c1,if_pos c2,if_neg k3,bt]
      obtain ⟨o1,o2,s⟩ := side_parts (btw_of h c2) (r := f.a) rot1 od hnm
      exact two o1 o2 fun px py => (sg_rot f.a f.b f.c px py).symm.trans (s px py)
    · by_cases c3 : (f.c.r = u.r /\ f.a.r = v.r) \/ (f.c.r = v.r /\ f.a.r = u.r)
      · have bt : (decide (u.r = f.a.r \/ u.r = f.b.r \/ u.r = f.c.r) && decide (v.r = f.a.r \/ v.r = f.b.r \/ v.r = f.c.r)) = true := by
          rcases c3 with ⟨e1,e2⟩ | ⟨e1,e2⟩ <;> simp [e1,e2]
        rw [if_neg c1,if_neg c2,if_pos c3,bt]
        obtain ⟨o1,o2,s⟩ := side_parts (btw_of h c3) (r := f.b) rot2 od hnm
        exact two o1 o2 fun px py => (sg_rot f.c f.a f.b px py).trans (s px py)
      · have bt : (decide (u.r = f.a.r \/ u.r = f.b.r \/ u.r = f.c.r) && decide (v.r = f.a.r \/ v.r = f.b.r \/ v.r = f.c.r)) = false := by
          rw [Bool.and_eq_false_iff]
          simp only [decide_eq_false_iff_not]
          refine Decidable.byContradiction fun z => ?_
          have z1 : u.r = f.a.r \/ u.r = f.b.r \/ u.r = f.c.r := Decidable.byContradiction fun y => z (.inl y)
          have z2 : v.r = f.a.r \/ v.r = f.b.r \/ v.r = f.c.r := Decidable.byContradiction fun y => z (.inr y)
          rcases z1 with e1 | e1 | e1 <;> rcases z2 with e2 | e2 | e2 <;> first | exact ne (e1.trans e2.symm) | exact c1 (.inl ⟨e1.symm,e2.symm⟩) | exact c1 (.inr ⟨e2.symm,e1.symm⟩) | exact c2 (.inl ⟨e1.symm,e2.symm⟩) | exact c2 (.inr ⟨e2.symm,e1.symm⟩) | exact c3 (.inl ⟨e1.symm,e2.symm⟩) | exact c3 (.inr ⟨e2.symm,e1.symm⟩)
        rw [if_neg c1,if_neg c2,if_neg c3,bt]
        exact ⟨fun p hp => by simp at hp,Nat.zero_le _,fun _ => rfl,fun h => (by cases h),fun px py => rfl⟩
theorem parted_sum {n m : Nat}{u v d : R4}(h : Btw u v d)(ne : u.r ≠ v.r)(od : d.ok m)(hnm : n <= m) : ∀ fs : List Fa,(∀ f ∈ fs,f.ok n) -> (∀ p ∈ fs.flatMap (halves u v d),p.ok m) /\ (fs.flatMap (halves u v d)).length <= 2 * fs.length /\ (fs.filter fun f => !both u v f).length <= fs.length /\ (fs.flatMap (halves u v d)).length + (fs.filter fun f => !both u v f).length <= 2 * fs.length /\ ∀ px py,sgS (fs.filter fun f => !both u v f) px py + sgS (fs.flatMap (halves u v d)) px py = sgS fs px py
  | [],_ => ⟨by simp,by simp,by simp,by simp,fun _ _ => rfl⟩
  | f :: fs,ho => by
    obtain ⟨i1,i2,i3,i4,i5⟩ := parted_sum h ne od hnm fs fun x hx => ho x (List.mem_cons_of_mem _ hx)
    have H := half_of h ne (ho f (List.mem_cons_self ..)) od hnm
    have e : (f :: fs).flatMap (halves u v d) = halves u v d f ++ fs.flatMap (halves u v d) := rfl
    rw [e]
    have hl := H.len
    have hs := H.sg
    have hz : both u v f = false -> (halves u v d f).length = 0 := fun b => by rw [H.no b]; rfl
    refine ⟨fun p hp => (List.mem_append.mp hp).elim (H.ok p) (i1 p),by rw [List.length_append,List.length_cons]; omega,by rw [List.filter_cons]; split <;> (simp only [List.length_cons]; omega),?_,fun px py => ?_⟩
    · rw [List.filter_cons,List.length_append]
      cases b : both u v f
      · have := hz b
        simp only [Bool.not_false,if_true,List.length_cons]
        omega
      · simp only [Bool.not_true,Bool.false_eq_true,if_false,List.length_cons]
        omega
    · have s := hs px py
      have i5 := i5 px py
      rw [List.filter_cons,sgS_app,sgS_cons]
      cases b : both u v f
      · rw [b] at s
        simp only [Bool.not_false,if_true,Bool.false_eq_true,if_false] at s ⊢
        rw [sgS_cons]
        omega
      · rw [b] at s
        simp only [Bool.not_true,if_true,Bool.false_eq_true,if_false] at s ⊢
        omega
theorem lt_area {u v p q : Int}(q0 : 0 < q)(qu : q < u)(pv : p < v)(v0 : 0 < v) : p * q < u * v := by
  have e1 : p * q <= v * q := Int.mul_le_mul_of_nonneg_right (Int.le_of_lt pv) (Int.le_of_lt q0)
  have e2 : v * q < v * u := Int.mul_lt_mul_of_pos_left qu v0
  rw [Int.mul_comm u v]
  omega
theorem lt_big {u v p q : Int}(u3 : 3 <= u)(v3 : 3 <= v)(pv : p + 3 <= v)(p2 : p <= 2)(q0 : 0 < q)(qu : q <= u + 2) : p * q < u * v := by
  have e1 : u * 3 <= u * v := Int.mul_le_mul_of_nonneg_left v3 (by omega)
  by_cases h : p <= 0
  · have := Int.mul_nonpos_of_nonpos_of_nonneg h (Int.le_of_lt q0)
    omega
  · obtain rfl | rfl : p = 1 \/ p = 2 := by omega
    · have e2 : u * 4 <= u * v := Int.mul_le_mul_of_nonneg_left (by omega) (by omega)
      omega
    · have e2 : u * 5 <= u * v := Int.mul_le_mul_of_nonneg_left (by omega) (by omega)
      omega
theorem shd_1 {ax ay bx b_y px py : Int}(h : 0 < det ax ay 1 bx b_y 1 px py 1) : sgn (shd ax ay 1 bx b_y 1 px py) = 1 := by
  unfold shd
  rw [if_neg (by omega)]
  exact sgn_pos h
theorem det_w (ax ay bx b_y px py : Int) : det ax ay 1 bx b_y 1 px py 1 = (bx - ax) * (py - ay) - (b_y - ay) * (px - ax) := by unfold det; grind
theorem ok5 {x y z : Int}(hx : -12 <= x /\ x <= 12)(hy : -12 <= y /\ y <= 12)(hz : -12 <= z /\ z <= 12) : R4.ok ⟨x,y,z,1⟩ 5 := by
  have bd : ∀ n : Int,-12 <= n /\ n <= 12 -> Bd 5 n := fun n h => Bd.of (by omega) (by omega)
  exact ⟨bd x hx,bd y hy,bd z hz,bd 1 (by decide)⟩
structure Fou (W H ax ay bx b_y cx cy dx dy : Int) : Prop where
  w : 1 <= W /\ W <= 9
  h : 1 <= H /\ H <= 9
  a1 : -3 <= ax /\ ax <= -1
  a2 : -3 <= ay /\ ay <= -1
  b1 : W + 1 <= bx /\ bx <= W + 3
  b2 : -3 <= b_y /\ b_y <= -1
  c1 : W + 1 <= cx /\ cx <= W + 3
  c2 : H + 1 <= cy /\ cy <= H + 3
  d1 : -3 <= dx /\ dx <= -1
  d2 : H + 1 <= dy /\ dy <= H + 3
theorem Fou.flo {W H ax ay bx b_y cx cy dx dy : Int}(h : Fou W H ax ay bx b_y cx cy dx dy) : Flo [⟨⟨ax,ay,1,1⟩,⟨bx,b_y,2,1⟩,⟨cx,cy,3,1⟩⟩,⟨⟨ax,ay,1,1⟩,⟨cx,cy,3,1⟩,⟨dx,dy,4,1⟩⟩] 5 W H := by
  obtain ⟨w,hh,a1,a2,b1',b2',c1,c2,d1,d2⟩ := h
  have t1 : 0 < (tri ⟨ax,ay,1,1⟩ ⟨bx,b_y,2,1⟩ ⟨cx,cy,3,1⟩).tn := by
    show 0 < det ax ay 1 bx b_y 1 cx cy 1
    rw [det_w]
    have := lt_big (u := bx - ax) (v := cy - ay) (p := b_y - ay) (q := cx - ax) (by omega) (by omega) (by omega) (by omega) (by omega) (by omega)
    omega
  have t2 : 0 < (tri ⟨ax,ay,1,1⟩ ⟨cx,cy,3,1⟩ ⟨dx,dy,4,1⟩).tn := by
    show 0 < det ax ay 1 cx cy 1 dx dy 1
    rw [det_w]
    have := lt_big (u := dy - ay) (v := cx - ax) (p := dx - ax) (q := cy - ay) (by omega) (by omega) (by omega) (by omega) (by omega) (by omega)
    rw [Int.mul_comm (cx - ax),Int.mul_comm (cy - ay)]
    omega
  have oA : R4.ok ⟨ax,ay,1,1⟩ 5 := ok5 (by omega) (by omega) (by decide)
  have oB : R4.ok ⟨bx,b_y,2,1⟩ 5 := ok5 (by omega) (by omega) (by decide)
  have oC : R4.ok ⟨cx,cy,3,1⟩ 5 := ok5 (by omega) (by omega) (by decide)
  have oD : R4.ok ⟨dx,dy,4,1⟩ 5 := ok5 (by omega) (by omega) (by decide)
  have p1 : (0 : Int) < 1 := by decide
  refine ⟨fun f hf => ?_,fun px py x0 x1 y0 y1 => ?_⟩
  · simp only [List.mem_cons,List.not_mem_nil,or_false] at hf
    rcases hf with rfl | rfl
    · exact ⟨oA,oB,oC,p1,p1,p1,t1⟩
    · exact ⟨oA,oC,oD,p1,p1,p1,t2⟩
  · show (tri ⟨ax,ay,1,1⟩ ⟨bx,b_y,2,1⟩ ⟨cx,cy,3,1⟩).sg px py + ((tri ⟨ax,ay,1,1⟩ ⟨cx,cy,3,1⟩ ⟨dx,dy,4,1⟩).sg px py + 0) = 1
    have e1 : sgn (shd ax ay 1 bx b_y 1 px py) = 1 := shd_1 (by
      rw [det_w]
      have := lt_area (u := bx - ax) (v := py - ay) (p := b_y - ay) (q := px - ax) (by omega) (by omega) (by omega) (by omega)
      omega)
    have e2 : sgn (shd bx b_y 1 cx cy 1 px py) = 1 := shd_1 (by
      rw [show det bx b_y 1 cx cy 1 px py 1 = (cy - b_y) * (bx - px) - (bx - cx) * (py - b_y) by unfold det; grind]
      have := lt_area (u := cy - b_y) (v := bx - px) (p := bx - cx) (q := py - b_y) (by omega) (by omega) (by omega) (by omega)
      omega)
    have e3 : sgn (shd cx cy 1 dx dy 1 px py) = 1 := shd_1 (by
      rw [show det cx cy 1 dx dy 1 px py 1 = (cx - dx) * (cy - py) - (cy - dy) * (cx - px) by unfold det; grind]
      have := lt_area (u := cx - dx) (v := cy - py) (p := cy - dy) (q := cx - px) (by omega) (by omega) (by omega) (by omega)
      omega)
    have e4 : sgn (shd dx dy 1 ax ay 1 px py) = 1 := shd_1 (by
      rw [show det dx dy 1 ax ay 1 px py 1 = (dy - ay) * (px - dx) - (ax - dx) * (dy - py) by unfold det; grind]
      have := lt_area (u := dy - ay) (v := px - dx) (p := ax - dx) (q := dy - py) (by omega) (by omega) (by omega) (by omega)
      omega)
    have sw : shd cx cy 1 ax ay 1 px py = -shd ax ay 1 cx cy 1 px py := shd_neg ..
    have nz : shd ax ay 1 cx cy 1 px py ≠ 0 := by
      unfold shd
      split
      · rw [if_neg (by omega)]; omega
      · assumption
    have hp1 : (tri ⟨ax,ay,1,1⟩ ⟨bx,b_y,2,1⟩ ⟨cx,cy,3,1⟩).pos := ⟨p1,p1,p1⟩
    have hp2 : (tri ⟨ax,ay,1,1⟩ ⟨cx,cy,3,1⟩ ⟨dx,dy,4,1⟩).pos := ⟨p1,p1,p1⟩
    unfold T3.sg
    rw [sgn_pos t1,sgn_pos t2]
    have h1 : (tri ⟨ax,ay,1,1⟩ ⟨bx,b_y,2,1⟩ ⟨cx,cy,3,1⟩).has px py ↔ (sgn (shd ax ay 1 bx b_y 1 px py) ≠ 0 /\ sgn (shd bx b_y 1 cx cy 1 px py) = sgn (shd ax ay 1 bx b_y 1 px py) /\ sgn (shd cx cy 1 ax ay 1 px py) = sgn (shd ax ay 1 bx b_y 1 px py)) := Iff.rfl
    have h2 : (tri ⟨ax,ay,1,1⟩ ⟨cx,cy,3,1⟩ ⟨dx,dy,4,1⟩).has px py ↔ (sgn (shd ax ay 1 cx cy 1 px py) ≠ 0 /\ sgn (shd cx cy 1 dx dy 1 px py) = sgn (shd ax ay 1 cx cy 1 px py) /\ sgn (shd dx dy 1 ax ay 1 px py) = sgn (shd ax ay 1 cx cy 1 px py)) := Iff.rfl
    rw [e1,e2,sw,sgn_neg_eq] at h1
    rw [e3,e4] at h2
    generalize shd ax ay 1 cx cy 1 px py = S at *
    rcases sgn_cases S with ⟨q,e⟩ | ⟨q,e⟩ | ⟨q,e⟩
    · rw [e] at h1 h2
      rw [if_neg (fun z => by have := (h1.mp z).2.2; omega),if_pos (h2.mpr ⟨by decide,rfl,rfl⟩)]
      rfl
    · exact absurd q nz
    · rw [e] at h1 h2
      rw [if_pos (h1.mpr ⟨by decide,rfl,by decide⟩),if_neg (fun z => by have := (h2.mp z).2.1; omega)]
      rfl
theorem sg_count {n : Nat}{px py : Int} : ∀ fs : List Fa,(∀ f ∈ fs,f.ok n) -> sgS fs px py = ((fs.filter fun f => decide (f.t.has px py)).length : Int)
  | [],_ => rfl
  | f :: fs,h => by
    have fo := h f (List.mem_cons_self ..)
    rw [sgS_cons,sg_count fs fun x hx => h x (List.mem_cons_of_mem _ hx),List.filter_cons]
    unfold T3.sg
    rw [sgn_pos fo.tn]
    by_cases z : f.t.has px py
    · rw [if_pos z,if_pos (decide_eq_true z),List.length_cons]
      omega
    · rw [if_neg z,if_neg (by simp [z])]
      omega
def dCut (d1 d2 : DS) : DS := fun F ρ => ∃ C : Ev -> Prop,d1 { F with nx := C } ρ /\ ∀ ρ',C ρ' -> d2 F ρ'
theorem jdss_cut {X : Cx}{W : Wd}{st : Stmt}{rest : List Stmt}{d1 d2 : DS}(h1 : JS X W st d1)(h2 : JSs X W rest d2) : JSs X W (st :: rest) (dCut d1 d2) := ⟨(pss_cons h1.h h2.h).mono fun E σ H hh => hh.elim fun pn M b ρ F s l h => by
  obtain ⟨C,q1,q2⟩ := h
  exact ⟨pn,M,b,ρ,{ F with nx := C },s,⟨fun M b ρ σ H s' h' => ⟨pn,M,b,ρ,F,s',l,q2 ρ h'⟩,l.rt,l.bk,l.ct,l.ro⟩,q1⟩⟩
abbrev s__law_spot : Stmt := top 16
theorem sc__law_spot : FnScope ["_law_x","_law_y","_law_z","_law_w","_law_common_here"] ["_law_x","_law_y","_law_z","_law_w"] (defScope s__law_spot) := ⟨rfl,rfl,rfl,by decide +kernel,rfl,by decide +kernel,by decide +kernel⟩
def S_lspot : DSp := fun ds P _ => ∃ (u : R4) (n : Nat),ds = [.int u.x,.int u.y,.int u.z,.int u.w] /\ 0 < u.w /\ u.ok n /\ n <= 9000 /\ ∀ d : R4,d.ok n -> 0 < d.w -> (∃ g : Int,0 < g /\ u.x = g * d.x /\ u.y = g * d.y /\ u.w = g * d.w) -> P d.d
structure C__law_spot (P : Program)(w : World)(K : PySem.W.Frag)(mg : Str -> Option Value)(base : Heap) : Prop where
  _law_common_ : Callee P w K mg base CX0 "_law_common" 1 ["_law_one","_law_other"] (liftSp K BT S_gcd)
theorem ok__law_spot {P : Program}{w : World}{K : PySem.W.Frag}{mg : Str -> Option Value}{base : Heap}{f : Addr}{fd : FuncData}(F : Fun K "_law_spot" "_law_spot" s__law_spot f fd) (Z : Bi mg) (G : C__law_spot P w K mg base) : FnOk P w K mg base CX0 2 f fd ["_law_x","_law_y","_law_z","_law_w"] (liftSp K BT S_lspot) := by
  refine F.okD sc__law_spot (fun ds PP Ed h => ?_) (fun cdv A outer s H E M bg ds PP Ed hr hS_ => ?_)
  · obtain ⟨⟨x,y,z,w'⟩,n,rfl,h0,⟨h1,h2,h3,h4⟩,hn,hP⟩ := h
    rfl
  · obtain ⟨⟨x,y,z,w'⟩,n,rfl,h0,⟨h1,h2,h3,h4⟩,hn,hP⟩ := hS_
    refine ⟨_,(jdss_cons (jds_set (i := 4) sc__law_spot.nd rfl (by walk_at "o") (jde_own G._law_common_ (hr.mono (by decide)) rfl (jda_cons (jde_own G._law_common_ (hr.mono (by decide)) rfl (jda_cons (jdv 0) (jda_cons (jdv 1) jda_nil))) (jda_cons (jde_own G._law_common_ (hr.mono (by decide)) rfl (jda_cons (jdv 2) (jda_cons (jdv 3) jda_nil))) jda_nil))))
      (jdss_one (jds_ret (jde_tup (jda_cons (jde_op op_fdivB od_I (jdv 0) (jdv 4)) (jda_cons (jde_op op_fdivB od_I (jdv 1) (jdv 4)) (jda_cons (jde_op op_fdivB od_I (jdv 2) (jdv 4)) (jda_cons (jde_op op_fdivB od_I (jdv 3) (jdv 4)) jda_nil)))))))),?_⟩
    dsimp only at h0 h1 h2 h3 h4 hP
    walk_at "go"
    refine ⟨_,_,rfl,?_⟩
    walk_at "go"
    refine ⟨_,_,rfl,?_⟩
    walk_at "go"
    refine ⟨_,_,rfl,?_⟩
    have dx : ((Int.gcd ((Int.gcd x y : Nat) : Int) ((Int.gcd z w' : Nat) : Int) : Nat) : Int) ∣ x := Int.dvd_trans (Int.gcd_dvd_left ..) (Int.gcd_dvd_left ..)
    have dy : ((Int.gcd ((Int.gcd x y : Nat) : Int) ((Int.gcd z w' : Nat) : Int) : Nat) : Int) ∣ y := Int.dvd_trans (Int.gcd_dvd_left ..) (Int.gcd_dvd_right ..)
    have dw : ((Int.gcd ((Int.gcd x y : Nat) : Int) ((Int.gcd z w' : Nat) : Int) : Nat) : Int) ∣ w' := Int.dvd_trans (Int.gcd_dvd_right ..) (Int.gcd_dvd_right ..)
    have gl := Int.le_of_dvd h0 dw
    have gn : 0 <= ((Int.gcd ((Int.gcd x y : Nat) : Int) ((Int.gcd z w' : Nat) : Int) : Nat) : Int) := Int.natCast_nonneg _
    generalize ((Int.gcd ((Int.gcd x y : Nat) : Int) ((Int.gcd z w' : Nat) : Int) : Nat) : Int) = gg at *
    have g0 : 0 < gg := by
      rcases Int.lt_or_eq_of_le gn with z | z
      · exact z
      · rw [<- z] at dw
        have := Int.zero_dvd.mp dw
        omega
    have gb : Bd n gg := by unfold Bd at h4 ⊢; omega
    walk_at "go"
    refine ⟨⟨g0,n,gb,hn⟩,⟨g0,n,gb,hn⟩,⟨g0,n,gb,hn⟩,⟨g0,n,gb,hn⟩,?_⟩
    walk_at "go"
    refine hP ⟨_,_,_,_⟩ ⟨h1.ediv g0,h2.ediv g0,h3.ediv g0,h4.ediv g0⟩ ?_ ⟨gg,g0,(Int.mul_ediv_cancel' dx).symm,(Int.mul_ediv_cancel' dy).symm,(Int.mul_ediv_cancel' dw).symm⟩
    have := Int.le_ediv_of_mul_le g0 (show 1 * gg <= w' by omega)
    show 0 < w' / gg
    omega
abbrev s__law_mean : Stmt := top 17
theorem sc__law_mean : FnScope ["_law_face","_law_weights","_law_sums"] ["_law_face","_law_weights"] (defScope s__law_mean) := ⟨rfl,rfl,rfl,by decide +kernel,rfl,by decide +kernel,by decide +kernel⟩
theorem sum3 (a b c : Int) : [a,b,c].sum = a + b + c := by simp only [List.sum_cons,List.sum_nil]; omega
theorem w3 {a b c wa wb wc : Int}{n : Nat}(ha : Bd n a)(hb : Bd n b)(hc : Bd n c)(h1 : 0 <= wa /\ wa <= 4)(h2 : 0 <= wb /\ wb <= 4)(h3 : 0 <= wc /\ wc <= 4) : Bd (n + 5) [wa * a,wb * b,wc * c].sum := by
  have b3 : ∀ {w : Int},0 <= w /\ w <= 4 -> Bd 3 w := fun h => Bd.of (by omega) (by omega)
  have e := Bd.add (Bd.add (Bd.mul (b3 h1) ha) (Bd.mul (b3 h2) hb)) (Bd.mul (b3 h3) hc)
  rw [show [wa * a,wb * b,wc * c].sum = wa * a + wb * b + wc * c by simp only [List.sum_cons,List.sum_nil]; omega]
  exact e.mono (by omega)
def S_mean : DSp := fun ds P _ => ∃ (f : Fa) (wa wb wc : Int) (n : Nat),ds = [f.d,.lst [.int wa,.int wb,.int wc]] /\ f.ok n /\ n <= 1000 /\ (0 <= wa /\ wa <= 4) /\ (0 <= wb /\ wb <= 4) /\ (0 <= wc /\ wc <= 4) /\ 0 < wa + wb + wc /\ ∀ d : R4,Mean f wa wb wc d -> d.ok (n + 5) -> P d.d
structure C__law_mean (P : Program)(w : World)(K : PySem.W.Frag)(mg : Str -> Option Value)(base : Heap) : Prop where
  _law_spot_ : Callee P w K mg base CX0 "_law_spot" 2 ["_law_x","_law_y","_law_z","_law_w"] (liftSp K BT S_lspot)
theorem ok__law_mean {P : Program}{w : World}{K : PySem.W.Frag}{mg : Str -> Option Value}{base : Heap}{f : Addr}{fd : FuncData}(F : Fun K "_law_mean" "_law_mean" s__law_mean f fd) (Z : Bi mg) (G : C__law_mean P w K mg base) : FnOk P w K mg base CX0 3 f fd ["_law_face","_law_weights"] (liftSp K BT S_mean) := by
  refine F.okD sc__law_mean (fun ds PP Ed h => ?_) (fun cdv A outer s H E M bg ds PP Ed hr hS_ => ?_)
  · obtain ⟨f_,wa,wb,wc,n,rfl,fo,hn,ha,hb,hc,hs,hP⟩ := h
    rfl
  · obtain ⟨f_,wa,wb,wc,n,rfl,fo,hn,ha,hb,hc,hs,hP⟩ := hS_
    refine ⟨_,(jdss_cons (jds_setC (X := (cxOf CX0 P w K mg base ["_law_face","_law_weights","_law_sums"] "_law_mean" (defScope s__law_mean) f cdv A outer s H E).nox) false (i := 2) sc__law_mean.nd rfl (by walk_at "o") (gd_name 0) (blkJ (X := (cxOf CX0 P w K mg base ["_law_face","_law_weights","_law_sums"] "_law_mean" (defScope s__law_mean) f cdv A outer s H E).nox) (N' := ["_law_k","_law_weights","_law_face"]) (map := [none,some 1,some 0]) (by rfl) (by rfl) (by decide +kernel) (by rfl) ⟨⟨rfl,rfl,rfl,by walk_at "o"⟩,⟨⟨rfl,rfl,rfl,by walk_at "o"⟩,True.intro⟩⟩ (gkeep_name rfl) fun cl0 C0 fp0 s0 H0 => ⟨(pg_name (X := (cxComp (cxOf CX0 P w K mg base ["_law_face","_law_weights","_law_sums"] "_law_mean" (defScope s__law_mean) f cdv A outer s H E).nox ["_law_k","_law_weights","_law_face"] _ cl0 C0 fp0 s0 H0)) (i := 0) (nodupS ["_law_k","_law_weights","_law_face"] (by decide +kernel)) rfl (by walk_at "o")),jdif_nil,(jde_callB (X := (cxComp (cxOf CX0 P w K mg base ["_law_face","_law_weights","_law_sums"] "_law_mean" (defScope s__law_mean) f cdv A outer s H E).nox ["_law_k","_law_weights","_law_face"] _ cl0 C0 fp0 s0 H0)) (call_sumL K (by rfl) (by rfl)) cd_sum rfl Z.sum_ bt_sum (jda_cons (jde_comp (X := (cxComp (cxOf CX0 P w K mg base ["_law_face","_law_weights","_law_sums"] "_law_mean" (defScope s__law_mean) f cdv A outer s H E).nox ["_law_k","_law_weights","_law_face"] _ cl0 C0 fp0 s0 H0)) (gd_seq [0,1]) (blkJ (X := (cxComp (cxOf CX0 P w K mg base ["_law_face","_law_weights","_law_sums"] "_law_mean" (defScope s__law_mean) f cdv A outer s H E).nox ["_law_k","_law_weights","_law_face"] _ cl0 C0 fp0 s0 H0)) (N' := ["_law_weight","_law_corner","_law_k"]) (map := [none,none,some 0]) (by rfl) (by rfl) (by decide +kernel) (by rfl) ⟨⟨rfl,rfl,rfl,by walk_at "o"⟩,True.intro⟩ (gkeep_seq (js := [0,1]) (by decide)) fun cl1 C1 fp1 s1 H1 => ⟨(PG.or (pg_tupK (n := 2) K (by rfl) (by rfl) (pgs_cons (pg_name (i := 0) (nodupS ["_law_weight","_law_corner","_law_k"] (by decide +kernel)) rfl (by walk_at "o")) (pgs_cons (pg_name (i := 1) (nodupS ["_law_weight","_law_corner","_law_k"] (by decide +kernel)) rfl (by walk_at "o")) pgs_nil))) (pg_lstK (n := 2) K (by rfl) (by rfl) (pgs_cons (pg_name (i := 0) (nodupS ["_law_weight","_law_corner","_law_k"] (by decide +kernel)) rfl (by walk_at "o")) (pgs_cons (pg_name (i := 1) (nodupS ["_law_weight","_law_corner","_law_k"] (by decide +kernel)) rfl (by walk_at "o")) pgs_nil)))),jdif_nil,(jde_op (X := (cxComp (cxComp (cxOf CX0 P w K mg base ["_law_face","_law_weights","_law_sums"] "_law_mean" (defScope s__law_mean) f cdv A outer s H E).nox ["_law_k","_law_weights","_law_face"] _ cl0 C0 fp0 s0 H0) ["_law_weight","_law_corner","_law_k"] _ cl1 C1 fp1 s1 H1)) op_mulB od_I (jdv 0) (jde_ix (ix_any K (by rfl)) od_ix (jdv 1) (jdv 2) (fun _ _ => rfl)))⟩) (jdi_zip (by rfl) false true rfl Z.zip_ (jda_cons (jdv 1) (jda_cons (jdv 2) jda_nil)) (pi_zip2 K (by rfl) false true rfl Z.zip_ (JA.h (jda_cons (jdv 1) (jda_cons (jdv 2) jda_nil)))))) jda_nil))⟩) (jdi_range1 rfl Z.range_ (jda_cons jde_int jda_nil)))
      (jdss_one (jds_ret (jde_own G._law_spot_ (hr.mono (by decide)) rfl (jda_cons (jde_ix (ix_any K (by rfl)) od_ix (jdv 2) jde_int (fun _ _ => rfl)) (jda_cons (jde_ix (ix_any K (by rfl)) od_ix (jdv 2) jde_int (fun _ _ => rfl)) (jda_cons (jde_ix (ix_any K (by rfl)) od_ix (jdv 2) jde_int (fun _ _ => rfl)) (jda_cons (jde_ix (ix_any K (by rfl)) od_ix (jdv 2) jde_int (fun _ _ => rfl)) jda_nil)))))))),?_⟩
    have bx := w3 fo.a.x fo.b.x fo.c.x ha hb hc
    have b_y := w3 fo.a.y fo.b.y fo.c.y ha hb hc
    have bz := w3 fo.a.z fo.b.z fo.c.z ha hb hc
    have bw := w3 fo.a.w fo.b.w fo.c.w ha hb hc
    have o1 := fo.a
    have o2 := fo.b
    have o3 := fo.c
    obtain ⟨p1,p2,p3,p4⟩ := o1
    obtain ⟨q1,q2,q3,q4⟩ := o2
    obtain ⟨r1,r2,r3,r4⟩ := o3
    have b3a : Bd 3 wa := Bd.of (by omega) (by omega)
    have b3b : Bd 3 wb := Bd.of (by omega) (by omega)
    have b3c : Bd 3 wc := Bd.of (by omega) (by omega)
    have wpos : 0 < [wa * f_.a.w,wb * f_.b.w,wc * f_.c.w].sum := by
      have pa := fo.pa
      have pb := fo.pb
      have pc := fo.pc
      have m1 := Int.mul_le_mul_of_nonneg_left (show 1 <= f_.a.w by omega) ha.1
      have m2 := Int.mul_le_mul_of_nonneg_left (show 1 <= f_.b.w by omega) hb.1
      have m3 := Int.mul_le_mul_of_nonneg_left (show 1 <= f_.c.w by omega) hc.1
      simp only [List.sum_cons,List.sum_nil]
      omega
    walk_at "go"
    walk_at "gc"
    repeat (walk_at "gc")
    refine ⟨⟨_,_,_,_⟩,n + 5,rfl,wpos,⟨bx,b_y,bz,bw⟩,by omega,fun d od dw hg => ?_⟩
    obtain ⟨g,g0,e1,e2,e3⟩ := hg
    replace e1 : [wa * f_.a.x,wb * f_.b.x,wc * f_.c.x].sum = g * d.x := e1
    replace e2 : [wa * f_.a.y,wb * f_.b.y,wc * f_.c.y].sum = g * d.y := e2
    replace e3 : [wa * f_.a.w,wb * f_.b.w,wc * f_.c.w].sum = g * d.w := e3
    rw [sum3] at e1 e2 e3
    walk_at "go"
    exact hP d ⟨dw,g,g0,by omega,by omega,by omega⟩ od
theorem fine_rows (rows : List (List Int)) : finesD 2 (rows.map rowD) = true := by
  induction rows with
  | nil => rfl
  | cons r rows ih =>
    rw [List.map_cons]
    unfold finesD
    rw [ih]
    have : fineD 2 (rowD r) = true := by
      unfold rowD fineD
      induction r with
      | nil => rfl
      | cons a r ih => rw [List.map_cons]; unfold finesD; rw [ih]; rfl
    rw [this]; rfl
theorem eqvAll_ints : ∀ s r : List Int,PyData.eqvAll (s.map PyData.int) (r.map PyData.int) = decide (s = r)
  | [],[] => by simp [PyData.eqvAll]
  | [],_ :: _ => by simp [PyData.eqvAll]
  | _ :: _,[] => by simp [PyData.eqvAll]
  | a :: s,b :: r => by
    simp only [List.map_cons]
    unfold PyData.eqvAll
    rw [eqvAll_ints s r]
    have : PyData.eqv (.int a) (.int b) = decide (a = b) := by simp only [PyData.eqv]; rfl
    rw [this]
    by_cases h1 : a = b <;> by_cases h2 : s = r <;> simp [h1,h2]
theorem any_rows (L : List (List Int))(r : List Int) : ((L.map fun s => PyData.tuple (s.map PyData.int)).any fun y => PyData.eqv y (.tuple (r.map PyData.int))) = decide (r ∈ L) := by
  induction L with
  | nil => rfl
  | cons s L ih =>
    rw [List.map_cons,List.any_cons,ih]
    have : PyData.eqv (.tuple (s.map PyData.int)) (.tuple (r.map PyData.int)) = decide (s = r) := by rw [<- eqvAll_ints]; unfold PyData.eqv; rfl
    rw [this]
    by_cases z : r = s
    · simp [z]
    · have : ¬ s = r := fun y => z y.symm
      simp [z,this]
theorem pys_rows : ∀ L : List (List Int),pysOf (L.map rowD) = some (L.map fun s => PyData.tuple (s.map PyData.int))
  | [] => rfl
  | r :: L => by
    rw [List.map_cons]
    unfold pysOf
    rw [pys_rows L]
    have : pyOf (rowD r) = some (.tuple (r.map PyData.int)) := by unfold rowD pyOf; rw [pys_ints]; rfl
    rw [this]
    rfl
theorem inG_rowsT {neg : Bool}{r : List Int}{L : List (List Int)}{P : D -> Prop}(h : P (.bl (decide (r ∈ L) != neg))) : InG neg (rowD r) (.tup (L.map rowD)) P := by
  have e : pyOf (rowD r) = some (.tuple (r.map PyData.int)) := by unfold rowD pyOf; rw [pys_ints]; rfl
  have f : fineD 2 (rowD r) = true := by
    have := fine_rows [r]
    rw [List.map_cons] at this
    unfold finesD at this
    exact ((Bool.and_eq_true _ _).mp this).1
  obtain ⟨p,e1,d1,_⟩ := fine_py 2 (rowD r) f
  rw [e] at e1
  cases e1
  exact ⟨_,_,_,e,by unfold pyOf; rw [pys_rows]; rfl,rfl,Nat.le_trans (Nat.min_le_right _ _) (Nat.le_trans d1 (by decide)),by rw [any_rows]; exact h⟩
def ed3 (f : Fa) : Int -> R4 × R4
  | 0 => (f.a,f.b)
  | 1 => (f.b,f.c)
  | _ => (f.c,f.a)
theorem ed_ne {f : Fa}{n : Nat}(h : f.ok n)(k : Int) : (ed3 f k).1.r ≠ (ed3 f k).2.r := by
  obtain ⟨n1,n2,n3⟩ := un_of h
  unfold ed3
  split
  · exact n1
  · exact n2
  · exact n3
theorem ed_1 (f : Fa){k : Int}(h0 : 0 <= k)(h2 : k <= 2) : atI [f.a.d,f.b.d,f.c.d] k = some (ed3 f k).1.d := by
  obtain rfl | rfl | rfl : k = 0 \/ k = 1 \/ k = 2 := by omega
  all_goals rfl
theorem ed_2 (f : Fa){k : Int}(h0 : 0 <= k)(h2 : k <= 2) : atI [f.a.d,f.b.d,f.c.d] (k - 2) = some (ed3 f k).2.d := by
  obtain rfl | rfl | rfl : k = 0 \/ k = 1 \/ k = 2 := by omega
  all_goals rfl
def hl3 (u v d : R4)(f : Fa) : List (List Fa) := [if sameB f.a.r f.b.r u.r v.r = true then [⟨f.a,d,f.c⟩,⟨d,f.b,f.c⟩] else [],if sameB f.b.r f.c.r u.r v.r = true then [⟨f.b,d,f.a⟩,⟨d,f.c,f.a⟩] else [],if sameB f.c.r f.a.r u.r v.r = true then [⟨f.c,d,f.b⟩,⟨d,f.a,f.b⟩] else []]
theorem hl3_all (u v d : R4)(f : Fa) : (hl3 u v d f).flatten = halves u v d f := by
  unfold hl3 halves
  simp only [List.flatten_cons,List.flatten_nil,List.append_nil,List.append_assoc]
theorem hl3_step {l : List (List Fa)}{n : Nat}{x : List Fa}(B : List Fa)(h : l[n]? = some x) : (B ++ (l.take (n + 1)).flatten).map Fa.d = (B ++ (l.take n).flatten).map Fa.d ++ x.map Fa.d := by
  rw [List.take_add_one,h,List.flatten_append,<- List.append_assoc,List.map_append]
  simp
theorem hl3_len (u v d : R4)(f : Fa)(n : Nat) : (((hl3 u v d f).take n).flatten).length <= 6 := by
  have two : ∀ l : List (List Fa),(∀ x ∈ l,x.length <= 2) -> l.flatten.length <= 2 * l.length := by
    intro l
    induction l with
    | nil => exact fun _ => Nat.le_refl _
    | cons x l ih =>
      intro h
      have h1 := h x (List.mem_cons_self ..)
      have h2 := ih fun y hy => h y (List.mem_cons_of_mem _ hy)
      rw [List.flatten_cons,List.length_append,List.length_cons]
      omega
  have := two ((hl3 u v d f).take n) fun x hx => by
    have hx := List.mem_of_mem_take hx
    unfold hl3 at hx
    simp only [List.mem_cons,List.not_mem_nil,or_false] at hx
    rcases hx with rfl | rfl | rfl <;> (split <;> simp)
  rw [List.length_take] at this
  have e : (hl3 u v d f).length = 3 := rfl
  omega
theorem cut_to {xs : List D}{k : Nat}(h : k <= xs.length) : L2.cutD xs none (some (k : Int)) = xs.take k := by
  unfold L2.cutD
  have e1 : HT.sIx xs.length 0 none = 0 := rfl
  have e2 : HT.sIx xs.length xs.length (some (k : Int)) = k := by rw [HT.sIx_nat,Nat.min_eq_left h]
  rw [e1,e2,List.drop_zero,Nat.sub_zero]
theorem cut_from {xs : List D}{k : Nat}(h : k <= xs.length) : L2.cutD xs (some (k : Int)) none = xs.drop k := by
  unfold L2.cutD
  have e1 : HT.sIx xs.length 0 (some (k : Int)) = k := by rw [HT.sIx_nat,Nat.min_eq_left h]
  have e2 : HT.sIx xs.length xs.length none = xs.length := rfl
  rw [e1,e2]
  exact List.take_of_length_le (by simp)
theorem get_of {α : Type}{g : α -> D}{l : List α}{i : Nat}{x : D}(h : (l.map g)[i]? = some x) : ∃ a,l[i]? = some a /\ x = g a := by
  rw [List.getElem?_map] at h
  obtain ⟨a,e,rfl⟩ := Option.map_eq_some_iff.mp h
  exact ⟨a,e,rfl⟩
theorem take_filter {α : Type}{p : α -> Bool}{l : List α}{i : Nat}{x : α}(e : l[i]? = some x) : (l.take (i + 1)).filter p = (l.take i).filter p ++ if p x then [x] else [] := by
  rw [List.take_add_one,e,Option.toList_some,List.filter_append]
  cases h : p x <;> simp [h]
abbrev s__law_parted : Stmt := top 18
theorem sc__law_parted : FnScope ["_law_faces","_law_number","_law_d","_law_edge","_law_a","_law_b","_law_c","_law_rest","_law_first","_law_second","_law_found","_law_one","_law_k"] ["_law_faces","_law_number","_law_d","_law_edge"] (defScope s__law_parted) := ⟨rfl,rfl,rfl,by decide +kernel,rfl,by decide +kernel,by decide +kernel⟩
def S_parted : DSO := fun ds P _ => ∃ (xs ys : List Fa) (f : Fa) (d : R4) (e : D) (n m : Nat),ds = [.lst ((xs ++ f :: ys).map Fa.d),.int xs.length,d.d,e] /\ (xs ++ f :: ys).length <= 256 /\ (∀ p ∈ xs ++ f :: ys,p.ok n) /\ d.ok m /\ n <= m /\ ((e = .non /\ P ((xs ++ ys ++ [(⟨f.a,f.b,d⟩ : Fa),⟨f.b,f.c,d⟩,⟨f.c,f.a,d⟩]).map Fa.d)) \/ ∃ k : Int,e = .int k /\ 0 <= k /\ k <= 2 /\ Btw (ed3 f k).1 (ed3 f k).2 d /\ P ((((xs ++ ys).filter fun p => !both (ed3 f k).1 (ed3 f k).2 p) ++ (xs ++ f :: ys).flatMap (halves (ed3 f k).1 (ed3 f k).2 d)).map Fa.d))
theorem ok__law_parted {P : Program}{w : World}{K : PySem.W.Frag}{mg : Str -> Option Value}{base : Heap}{f : Addr}{fd : FuncData}(F : Fun K "_law_parted" "_law_parted" s__law_parted f fd) (Z : Bi mg) : FnOk P w K mg base CX0 1 f fd ["_law_faces","_law_number","_law_d","_law_edge"] (liftSpO K BT S_parted) := by
  refine F.okDO sc__law_parted (fun ds PP Ed h => ?_) (fun cdv A outer s H E M bg ds PP Ed hr hS_ => ?_)
  · obtain ⟨xs,ys,f_,d,e,n,m,rfl,hl,ho,od,hnm,hP⟩ := h
    rfl
  · obtain ⟨xs,ys,f_,d,e,n,m,rfl,hl,ho,od,hnm,hP⟩ := hS_
    refine ⟨_,(jdss_cons (jds_asg (gd_seq [4,5,6]) (jde_ix (ix_any K (by rfl)) od_ix (jdv 0) (jdv 1) (fun _ _ => rfl)) (PG.or (pg_tupK (n := 3) K (by rfl) (by rfl) (pgs_cons (pg_name (i := 4) sc__law_parted.nd rfl (by walk_at "o")) (pgs_cons (pg_name (i := 5) sc__law_parted.nd rfl (by walk_at "o")) (pgs_cons (pg_name (i := 6) sc__law_parted.nd rfl (by walk_at "o")) pgs_nil)))) (pg_lstK (n := 3) K (by rfl) (by rfl) (pgs_cons (pg_name (i := 4) sc__law_parted.nd rfl (by walk_at "o")) (pgs_cons (pg_name (i := 5) sc__law_parted.nd rfl (by walk_at "o")) (pgs_cons (pg_name (i := 6) sc__law_parted.nd rfl (by walk_at "o")) pgs_nil))))))
      (jdss_cons (jds_set (i := 7) sc__law_parted.nd rfl (by walk_at "o") (jde_op op_cat od_cat (jde_slice (sl_any K (by rfl)) (jdv 0) jdo_none (jdo_some (jdv 1))) (jde_slice (sl_any K (by rfl)) (jdv 0) (jdo_some (jde_op op_add od_I0 (jdv 1) jde_int)) jdo_none)))
      (jdss_cons (jds_if (jdt_cmp op_isN od_isN (jdv 3) jde_non (nomark _)) (jdss_one (jds_retCat (jdv 7) (jde_lst (jda_cons (jde_tup (jda_cons (jdv 4) (jda_cons (jdv 5) (jda_cons (jdv 2) jda_nil)))) (jda_cons (jde_tup (jda_cons (jdv 5) (jda_cons (jdv 6) (jda_cons (jdv 2) jda_nil)))) (jda_cons (jde_tup (jda_cons (jdv 6) (jda_cons (jdv 4) (jda_cons (jdv 2) jda_nil)))) jda_nil)))) (pe_op op_cat (JE.h (jdv 7)) (JE.h (jde_lst (jda_cons (jde_tup (jda_cons (jdv 4) (jda_cons (jdv 5) (jda_cons (jdv 2) jda_nil)))) (jda_cons (jde_tup (jda_cons (jdv 5) (jda_cons (jdv 6) (jda_cons (jdv 2) jda_nil)))) (jda_cons (jde_tup (jda_cons (jdv 6) (jda_cons (jdv 4) (jda_cons (jdv 2) jda_nil)))) jda_nil)))))))) jdss_nil)
      (jdss_cons (jds_set (i := 8) sc__law_parted.nd rfl (by walk_at "o") (jde_ix (ix_any K (by rfl)) od_ix (jde_ix (ix_any K (by rfl)) od_ix (jdv 0) (jdv 1) (fun _ _ => rfl)) (jdv 3) (fun _ _ => rfl)))
      (jdss_cons (jds_set (i := 9) sc__law_parted.nd rfl (by walk_at "o") (jde_ix (ix_any K (by rfl)) od_ix (jde_ix (ix_any K (by rfl)) od_ix (jdv 0) (jdv 1) (fun _ _ => rfl)) (jde_op op_sub od_I0 (jdv 3) jde_int) (fun _ _ => rfl)))
      (jdss_cons (jds_ownL (i := 10) sc__law_parted.nd rfl (by walk_at "o") jda_nil)
      (jdss_cons (jds_for (gd_name 11) PassesOwn.never rfl (jdi_seq (by rfl) (jdv 0)) (pg_name (i := 11) sc__law_parted.nd rfl (by walk_at "o")) (jdss_one (jds_for (gd_name 12) PassesOwn.never rfl (jdi_range1 rfl Z.range_ (jda_cons jde_int jda_nil)) (pg_name (i := 12) sc__law_parted.nd rfl (by walk_at "o")) (jdss_one (jds_if (jdt_setEq (pt_cmpR (op_eqSet K (by rfl) hr.units) (pe_callTy (call_setL K (by rfl) (by rfl) (Nat.lt_of_le_of_lt (Nat.add_le_add_left (by decide) _) hr.units)) rfl Z.set_ bt_set (JA.h (jda_cons (jde_lst (jda_cons (jde_ix (ix_any K (by rfl)) od_ix (jdv 11) (jdv 12) (fun _ _ => rfl)) (jda_cons (jde_ix (ix_any K (by rfl)) od_ix (jdv 11) (jde_op op_sub od_I0 (jdv 12) jde_int) (fun _ _ => rfl)) jda_nil))) jda_nil))) (pe_callTy (call_setL K (by rfl) (by rfl) (Nat.lt_of_le_of_lt (Nat.add_le_add_left (by decide) _) hr.units)) rfl Z.set_ bt_set (JA.h (jda_cons (jde_lst (jda_cons (jdv 8) (jda_cons (jdv 9) jda_nil))) jda_nil))) (nomark _))) (jdss_cons (jds_append (i := 10) (by rfl) rfl (by walk_at "v") (jda_cons (jde_tup (jda_cons (jde_ix (ix_any K (by rfl)) od_ix (jdv 11) (jdv 12) (fun _ _ => rfl)) (jda_cons (jdv 2) (jda_cons (jde_ix (ix_any K (by rfl)) od_ix (jdv 11) (jde_op op_sub od_I0 (jdv 12) jde_int) (fun _ _ => rfl)) jda_nil)))) jda_nil) (pe_bm PySem.F.plainAttrs_list PySem.F.slot_list_append PySem.F.type_list_append mt_append (pv 10) (JA.h (jda_cons (jde_tup (jda_cons (jde_ix (ix_any K (by rfl)) od_ix (jdv 11) (jdv 12) (fun _ _ => rfl)) (jda_cons (jdv 2) (jda_cons (jde_ix (ix_any K (by rfl)) od_ix (jdv 11) (jde_op op_sub od_I0 (jdv 12) jde_int) (fun _ _ => rfl)) jda_nil)))) jda_nil))))
      (jdss_one (jds_append (i := 10) (by rfl) rfl (by walk_at "v") (jda_cons (jde_tup (jda_cons (jdv 2) (jda_cons (jde_ix (ix_any K (by rfl)) od_ix (jdv 11) (jde_op op_sub od_I0 (jdv 12) jde_int) (fun _ _ => rfl)) (jda_cons (jde_ix (ix_any K (by rfl)) od_ix (jdv 11) (jde_op op_sub od_I0 (jdv 12) jde_int) (fun _ _ => rfl)) jda_nil)))) jda_nil) (pe_bm PySem.F.plainAttrs_list PySem.F.slot_list_append PySem.F.type_list_append mt_append (pv 10) (JA.h (jda_cons (jde_tup (jda_cons (jdv 2) (jda_cons (jde_ix (ix_any K (by rfl)) od_ix (jdv 11) (jde_op op_sub od_I0 (jdv 12) jde_int) (fun _ _ => rfl)) (jda_cons (jde_ix (ix_any K (by rfl)) od_ix (jdv 11) (jde_op op_sub od_I0 (jdv 12) jde_int) (fun _ _ => rfl)) jda_nil)))) jda_nil)))))) jdss_nil)))))
      (jdss_frz 10 (jdss_one (jds_retCat (jde_comp (X := (cxOf CX0 P w K mg base ["_law_faces","_law_number","_law_d","_law_edge","_law_a","_law_b","_law_c","_law_rest","_law_first","_law_second","_law_found","_law_one","_law_k"] "_law_parted" (defScope s__law_parted) f cdv A outer s H E).nox) (gd_name 0) (blkJ (X := (cxOf CX0 P w K mg base ["_law_faces","_law_number","_law_d","_law_edge","_law_a","_law_b","_law_c","_law_rest","_law_first","_law_second","_law_found","_law_one","_law_k"] "_law_parted" (defScope s__law_parted) f cdv A outer s H E).nox) (N' := ["_law_one","_law_first","_law_second"]) (map := [none,some 8,some 9]) (by rfl) (by rfl) (by decide +kernel) (by rfl) ⟨⟨rfl,rfl,rfl,by walk_at "o"⟩,⟨⟨rfl,rfl,rfl,by walk_at "o"⟩,True.intro⟩⟩ (gkeep_name rfl) fun cl0 C0 fp0 s0 H0 => ⟨(pg_name (X := (cxComp (cxOf CX0 P w K mg base ["_law_faces","_law_number","_law_d","_law_edge","_law_a","_law_b","_law_c","_law_rest","_law_first","_law_second","_law_found","_law_one","_law_k"] "_law_parted" (defScope s__law_parted) f cdv A outer s H E).nox ["_law_one","_law_first","_law_second"] _ cl0 C0 fp0 s0 H0)) (i := 0) (nodupS ["_law_one","_law_first","_law_second"] (by decide +kernel)) rfl (by walk_at "o")),(jdif_one (jdt_or (jdt_cmp (op_notinG K (by rfl) hr.units) od_inG (jdv 1) (jdv 0) (by with_unfolding_all rfl)) (jdw_or1 (jdt_cmp (op_notinG K (by rfl) hr.units) od_inG (jdv 2) (jdv 0) (by with_unfolding_all rfl))))),(jdv (X := (cxComp (cxOf CX0 P w K mg base ["_law_faces","_law_number","_law_d","_law_edge","_law_a","_law_b","_law_c","_law_rest","_law_first","_law_second","_law_found","_law_one","_law_k"] "_law_parted" (defScope s__law_parted) f cdv A outer s H E).nox ["_law_one","_law_first","_law_second"] _ cl0 C0 fp0 s0 H0)) 0)⟩) (jdi_seq (by rfl) (jdv 7))) (jdv 10) (pe_op op_cat (JE.h (jde_comp (X := (cxOf CX0 P w K mg base ["_law_faces","_law_number","_law_d","_law_edge","_law_a","_law_b","_law_c","_law_rest","_law_first","_law_second","_law_found","_law_one","_law_k"] "_law_parted" (defScope s__law_parted) f cdv A outer s H E).nox) (gd_name 0) (blkJ (X := (cxOf CX0 P w K mg base ["_law_faces","_law_number","_law_d","_law_edge","_law_a","_law_b","_law_c","_law_rest","_law_first","_law_second","_law_found","_law_one","_law_k"] "_law_parted" (defScope s__law_parted) f cdv A outer s H E).nox) (N' := ["_law_one","_law_first","_law_second"]) (map := [none,some 8,some 9]) (by rfl) (by rfl) (by decide +kernel) (by rfl) ⟨⟨rfl,rfl,rfl,by walk_at "o"⟩,⟨⟨rfl,rfl,rfl,by walk_at "o"⟩,True.intro⟩⟩ (gkeep_name rfl) fun cl0 C0 fp0 s0 H0 => ⟨(pg_name (X := (cxComp (cxOf CX0 P w K mg base ["_law_faces","_law_number","_law_d","_law_edge","_law_a","_law_b","_law_c","_law_rest","_law_first","_law_second","_law_found","_law_one","_law_k"] "_law_parted" (defScope s__law_parted) f cdv A outer s H E).nox ["_law_one","_law_first","_law_second"] _ cl0 C0 fp0 s0 H0)) (i := 0) (nodupS ["_law_one","_law_first","_law_second"] (by decide +kernel)) rfl (by walk_at "o")),(jdif_one (jdt_or (jdt_cmp (op_notinG K (by rfl) hr.units) od_inG (jdv 1) (jdv 0) (by with_unfolding_all rfl)) (jdw_or1 (jdt_cmp (op_notinG K (by rfl) hr.units) od_inG (jdv 2) (jdv 0) (by with_unfolding_all rfl))))),(jdv (X := (cxComp (cxOf CX0 P w K mg base ["_law_faces","_law_number","_law_d","_law_edge","_law_a","_law_b","_law_c","_law_rest","_law_first","_law_second","_law_found","_law_one","_law_k"] "_law_parted" (defScope s__law_parted) f cdv A outer s H E).nox ["_law_one","_law_first","_law_second"] _ cl0 C0 fp0 s0 H0)) 0)⟩) (jdi_seq (by rfl) (jdv 7)))) (JE.h (jdv 10))))))))))))),?_⟩
    walk_at "go"
    have ex : atI ((xs ++ f_ :: ys).map Fa.d) (xs.length : Int) = some f_.d := atI_nat (j := xs.length) (by rw [List.getElem?_map,List.getElem?_append_right (Nat.le_refl _)]; simp)
    rw [ex]
    walk_at "go"
    have e1 : L2.cutD ((xs ++ f_ :: ys).map Fa.d) none (some (xs.length : Int)) = xs.map Fa.d := by
      rw [cut_to (by simp),<- List.map_take,List.take_left]
    have e2 : L2.cutD ((xs ++ f_ :: ys).map Fa.d) (some ((xs.length : Int) + 1)) none = ys.map Fa.d := by
      rw [show (xs.length : Int) + 1 = ((xs.length + 1 : Nat) : Int) by omega,cut_from (by simp),<- List.map_drop]
      rw [show xs ++ f_ :: ys = (xs ++ [f_]) ++ ys by simp,show xs.length + 1 = (xs ++ [f_]).length by simp,List.drop_left]
    rw [e1,e2]
    have l1 : xs.length + ys.length + 1 <= 256 := by rw [List.length_append,List.length_cons] at hl; omega
    refine And.intro (by rw [List.length_map,List.length_map]; omega) ?_
    rw [<- List.map_append]
    walk_at "go"
    rcases hP with ⟨rfl,hP⟩ | ⟨k,rfl,k0,k2,hb,hP⟩
    · walk_at "go"
      refine And.intro (by simp; omega) ?_
      rw [List.map_append] at hP
      exact hP
    · walk_at "go"
      rw [ex]
      walk_at "go"
      rw [ed_1 f_ k0 k2]
      walk_at "go"
      rw [ex]
      walk_at "go"
      rw [ed_2 f_ k0 k2]
      have ne := ed_ne (ho f_ (by simp)) k
      generalize (ed3 f_ k).1 = u at *
      generalize (ed3 f_ k).2 = v at *
      clear ex e1 e2
      generalize xs ++ f_ :: ys = F at *
      walk_at "go"
      refine ⟨fun i ρ => ∃ v11 v12,ρ = [some (.lst (F.map Fa.d)),some (.int xs.length),some d.d,some (.int k),some f_.a.d,some f_.b.d,some f_.c.d,some (.lst ((xs ++ ys).map Fa.d)),some u.d,some v.d,some (.own (((F.take i).flatMap (halves u v d)).map Fa.d)),v11,v12],⟨_,_,rfl⟩,?_,?_⟩
      · rintro i x ρ e ⟨v11,v12,rfl⟩
        obtain ⟨f,ef,rfl⟩ := get_of e
        clear e
        have bl : ((F.take i).flatMap (halves u v d)).length <= 512 := by
          have := (parted_sum hb ne od hnm (F.take i) fun p hp => ho p (List.mem_of_mem_take hp)).2.1
          rw [List.length_take] at this
          omega
        have tk : (F.take (i + 1)).flatMap (halves u v d) = (F.take i).flatMap (halves u v d) ++ halves u v d f := by
          rw [List.take_add_one,ef,Option.toList_some,List.flatMap_append]
          simp
        rw [tk]
        generalize (F.take i).flatMap (halves u v d) = B at *
        walk_at "go"
        refine ⟨fun n ρ => ∃ v12,ρ = [some (.lst (F.map Fa.d)),some (.int xs.length),some d.d,some (.int k),some f_.a.d,some f_.b.d,some f_.c.d,some (.lst ((xs ++ ys).map Fa.d)),some u.d,some v.d,some (.own ((B ++ ((hl3 u v d f).take n).flatten).map Fa.d)),some f.d,v12] /\ n <= 3,⟨v12,by simp,Nat.zero_le _⟩,?_,?_⟩
        · rintro n x ρ e ⟨v12,rfl,hn⟩
          obtain ⟨rfl,hi⟩ := rangeD_get e
          clear e
          rw [Int.zero_add]
          have hn3 : n = 0 \/ n = 1 \/ n = 2 := by simp at hi; omega
          rcases hn3 with rfl | rfl | rfl
          · have st := hl3_step (n := 0) B (show (hl3 u v d f)[0]? = some _ from rfl)
            have ol : ((B ++ ((hl3 u v d f).take 0).flatten).map Fa.d).length <= 518 := by rw [List.length_map,List.length_append]; have := hl3_len u v d f 0; omega
            generalize (B ++ ((hl3 u v d f).take 0).flatten).map Fa.d = O at *
            walk_at "go"
            refine ⟨[f.a.r,f.b.r],rfl,Nat.le_of_ble_eq_true rfl,?_⟩
            walk_at "go"
            refine ⟨[u.r,v.r],rfl,Nat.le_of_ble_eq_true rfl,fun e he => ?_⟩
            rw [same_iff ne] at he
            by_cases z : (f.a.r = u.r /\ f.b.r = v.r) \/ (f.a.r = v.r /\ f.b.r = u.r)
            · cases he.mpr z
              rw [if_pos (show sameB _ _ _ _ = true from decide_eq_true z)] at st
              walk_at "go"
              refine And.intro (by simp [L2.plain]; omega) ?_
              walk_at "go"
              refine And.intro (by simp [L2.plain]; omega) ?_
              refine ⟨some (.int ((0 : Nat) : Int)),?_,by decide⟩
              rw [st]
              simp
            · have e0 : e = false := by
                cases e
                · rfl
                · exact absurd (he.mp rfl) z
              cases e0
              rw [if_neg (show ¬ sameB _ _ _ _ = true from fun y => z (of_decide_eq_true y))] at st
              walk_at "go"
              refine ⟨some (.int ((0 : Nat) : Int)),?_,by decide⟩
              rw [st]
              simp
          · have st := hl3_step (n := 1) B (show (hl3 u v d f)[1]? = some _ from rfl)
            have ol : ((B ++ ((hl3 u v d f).take 1).flatten).map Fa.d).length <= 518 := by rw [List.length_map,List.length_append]; have := hl3_len u v d f 1; omega
            generalize (B ++ ((hl3 u v d f).take 1).flatten).map Fa.d = O at *
            walk_at "go"
            refine ⟨[f.b.r,f.c.r],rfl,Nat.le_of_ble_eq_true rfl,?_⟩
            walk_at "go"
            refine ⟨[u.r,v.r],rfl,Nat.le_of_ble_eq_true rfl,fun e he => ?_⟩
            rw [same_iff ne] at he
            by_cases z : (f.b.r = u.r /\ f.c.r = v.r) \/ (f.b.r = v.r /\ f.c.r = u.r)
            · cases he.mpr z
              rw [if_pos (show sameB _ _ _ _ = true from decide_eq_true z)] at st
              walk_at "go"
              refine And.intro (by simp [L2.plain]; omega) ?_
              walk_at "go"
              refine And.intro (by simp [L2.plain]; omega) ?_
              refine ⟨some (.int ((1 : Nat) : Int)),?_,by decide⟩
              rw [st]
              simp
            · have e0 : e = false := by
                cases e
                · rfl
                · exact absurd (he.mp rfl) z
              cases e0
              rw [if_neg (show ¬ sameB _ _ _ _ = true from fun y => z (of_decide_eq_true y))] at st
              walk_at "go"
              refine ⟨some (.int ((1 : Nat) : Int)),?_,by decide⟩
              rw [st]
              simp
          · have st := hl3_step (n := 2) B (show (hl3 u v d f)[2]? = some _ from rfl)
            have ol : ((B ++ ((hl3 u v d f).take 2).flatten).map Fa.d).length <= 518 := by rw [List.length_map,List.length_append]; have := hl3_len u v d f 2; omega
            generalize (B ++ ((hl3 u v d f).take 2).flatten).map Fa.d = O at *
            walk_at "go"
            refine ⟨[f.c.r,f.a.r],rfl,Nat.le_of_ble_eq_true rfl,?_⟩
            walk_at "go"
            refine ⟨[u.r,v.r],rfl,Nat.le_of_ble_eq_true rfl,fun e he => ?_⟩
            rw [same_iff ne] at he
            by_cases z : (f.c.r = u.r /\ f.a.r = v.r) \/ (f.c.r = v.r /\ f.a.r = u.r)
            · cases he.mpr z
              rw [if_pos (show sameB _ _ _ _ = true from decide_eq_true z)] at st
              walk_at "go"
              refine And.intro (by simp [L2.plain]; omega) ?_
              walk_at "go"
              refine And.intro (by simp [L2.plain]; omega) ?_
              refine ⟨some (.int ((2 : Nat) : Int)),?_,by decide⟩
              rw [st]
              simp
            · have e0 : e = false := by
                cases e
                · rfl
                · exact absurd (he.mp rfl) z
              cases e0
              rw [if_neg (show ¬ sameB _ _ _ _ = true from fun y => z (of_decide_eq_true y))] at st
              walk_at "go"
              refine ⟨some (.int ((2 : Nat) : Int)),?_,by decide⟩
              rw [st]
              simp
        · rintro ρ ⟨v12,rfl,hn⟩
          refine ⟨some f.d,v12,?_⟩
          rw [show (rangeD 0 (Int.toNat 3)).length = 3 from rfl,show (hl3 u v d f).take 3 = hl3 u v d f from rfl,hl3_all]
      · rintro ρ ⟨v11,v12,rfl⟩
        rw [List.length_map,List.take_length]
        walk_at "go"
        have PS := (parted_sum hb ne od hnm F ho).2.1
        refine And.intro (by rw [List.length_map,List.length_append]; omega) ?_
        refine ⟨fun i acc => acc = (((xs ++ ys).take i).filter fun p => !both u v p).map Fa.d,rfl,?_,?_⟩
        · rintro i x acc e rfl
          obtain ⟨f,ef,rfl⟩ := get_of e
          have tf := take_filter (p := fun p => !both u v p) ef
          generalize ((xs ++ ys).take i).filter (fun p => !both u v p) = acc at *
          walk_at "go"
          refine inG_rowsT (r := u.r) (L := f.rs) ?_
          by_cases z1 : u.r ∈ f.rs
          · refine IfP.f (by simp [z1]) ?_
            walk_at "go"
            refine inG_rowsT (r := v.r) (L := f.rs) ?_
            by_cases z2 : v.r ∈ f.rs
            · refine IfP.f (by simp [z2]) ?_
              rw [tf,if_neg (by simp [both,z1,z2]),List.append_nil]
            · refine IfP.t (by simp [z2]) ?_
              walk_at "go"
              rw [tf,if_pos (by simp [both,z2]),List.map_append]
              rfl
          · refine IfP.t (by simp [z1]) ?_
            walk_at "go"
            rw [tf,if_pos (by simp [both,z1]),List.map_append]
            rfl
        · rintro acc rfl
          rw [show ((xs ++ ys).map Fa.d).length = (xs ++ ys).length from List.length_map ..,List.take_length]
          have fl := List.length_filter_le (fun p => !both u v p) (xs ++ ys)
          rw [List.length_append] at fl
          walk_at "go"
          refine And.intro (by rw [List.length_map,List.length_map]; omega) ?_
          rw [List.map_append] at hP
          exact hP
theorem mean_btw {f : Fa}{wa wb wc : Int}{d : R4}{k : Int}(h : Mean f wa wb wc d)(ha : 0 <= wa)(hb : 0 <= wb)(hc : 0 <= wc)(hk : (k = 0 /\ 0 < wa /\ 0 < wb /\ wc = 0) \/ (k = 1 /\ 0 < wb /\ 0 < wc /\ wa = 0) \/ (k = 2 /\ 0 < wc /\ 0 < wa /\ wb = 0)) : Btw (ed3 f k).1 (ed3 f k).2 d := by
  obtain ⟨w,g,g0,e1,e2,e3⟩ := h
  rcases hk with ⟨rfl,h1,h2,rfl⟩ | ⟨rfl,h1,h2,rfl⟩ | ⟨rfl,h1,h2,rfl⟩
  · exact ⟨w,g,wa,wb,g0,h1,h2,by show wa * f.a.x + wb * f.b.x = _; omega,by show wa * f.a.y + wb * f.b.y = _; omega,by show wa * f.a.w + wb * f.b.w = _; omega⟩
  · exact ⟨w,g,wb,wc,g0,h1,h2,by show wb * f.b.x + wc * f.c.x = _; omega,by show wb * f.b.y + wc * f.c.y = _; omega,by show wb * f.b.w + wc * f.c.w = _; omega⟩
  · exact ⟨w,g,wc,wa,g0,h1,h2,by show wc * f.c.x + wa * f.a.x = _; omega,by show wc * f.c.y + wa * f.a.y = _; omega,by show wc * f.c.w + wa * f.a.w = _; omega⟩
theorem ed_both (f : Fa)(k : Int) : both (ed3 f k).1 (ed3 f k).2 f = true := by
  unfold ed3 both Fa.rs
  split <;> simp
theorem Flo.inn {xs ys : List Fa}{f : Fa}{n m : Nat}{W H wa wb wc : Int}{d : R4}(h : Flo (xs ++ f :: ys) n W H)(hm : Mean f wa wb wc d)(od : d.ok m)(hnm : n <= m)(ha : 0 < wa)(hb : 0 < wb)(hc : 0 < wc) : Flo (xs ++ ys ++ [(⟨f.a,f.b,d⟩ : Fa),⟨f.b,f.c,d⟩,⟨f.c,f.a,d⟩]) m W H := by
  obtain ⟨p1,p2⟩ := in_parts hm (h.ok f (by simp)) od hnm ha hb hc
  refine ⟨fun x hx => ?_,fun px py x0 x1 y0 y1 => ?_⟩
  · rcases List.mem_append.mp hx with hx | hx
    · exact (h.ok x (by rcases List.mem_append.mp hx with hx | hx <;> simp [hx])).mono hnm
    · exact p1 x hx
  · have e := h.one px py x0 x1 y0 y1
    have q := p2 px py
    rw [sgS_app,sgS_cons] at e
    rw [sgS_app,sgS_app]
    unfold sgS at e ⊢
    omega
theorem Flo.edge {xs ys : List Fa}{f : Fa}{n m : Nat}{W H k : Int}{d : R4}(h : Flo (xs ++ f :: ys) n W H)(hb : Btw (ed3 f k).1 (ed3 f k).2 d)(od : d.ok m)(hnm : n <= m) : Flo (((xs ++ ys).filter fun p => !both (ed3 f k).1 (ed3 f k).2 p) ++ (xs ++ f :: ys).flatMap (halves (ed3 f k).1 (ed3 f k).2 d)) m W H /\ (((xs ++ ys).filter fun p => !both (ed3 f k).1 (ed3 f k).2 p) ++ (xs ++ f :: ys).flatMap (halves (ed3 f k).1 (ed3 f k).2 d)).length <= 2 * (xs ++ f :: ys).length /\ 2 <= (((xs ++ ys).filter fun p => !both (ed3 f k).1 (ed3 f k).2 p) ++ (xs ++ f :: ys).flatMap (halves (ed3 f k).1 (ed3 f k).2 d)).length := by
  have ne := ed_ne (h.ok f (by simp)) k
  have bf := ed_both f k
  obtain ⟨p1,_,_,p4,p5⟩ := parted_sum hb ne od hnm (xs ++ f :: ys) h.ok
  have e : (xs ++ f :: ys).filter (fun p => !both (ed3 f k).1 (ed3 f k).2 p) = (xs ++ ys).filter fun p => !both (ed3 f k).1 (ed3 f k).2 p := by
    rw [List.filter_append,List.filter_cons,bf,List.filter_append]
    simp
  rw [e] at p4 p5
  refine ⟨⟨fun x hx => ?_,fun px py x0 x1 y0 y1 => ?_⟩,by rw [List.length_append]; omega,?_⟩
  · rcases List.mem_append.mp hx with hx | hx
    · have hx := (List.mem_filter.mp hx).1
      exact (h.ok x (by rcases List.mem_append.mp hx with hx | hx <;> simp [hx])).mono hnm
    · exact p1 x hx
  · have := h.one px py x0 x1 y0 y1
    rw [sgS_app,p5,this]
  · have t2 := (half_of hb ne (h.ok f (by simp)) od hnm).two bf
    rw [List.length_append,List.flatMap_append,List.length_append,List.flatMap_cons,List.length_append]
    omega
theorem Flo.mono {fs : List Fa}{n m : Nat}{W H : Int}(h : Flo fs n W H)(k : n <= m) : Flo fs m W H := ⟨fun f hf => (h.ok f hf).mono k,h.one⟩
theorem noLs_fa (fs : List Fa) : noLs (fs.map Fa.d) = true := noLs_all fun x hx => by
  obtain ⟨t,_,rfl⟩ := List.mem_map.mp hx
  rfl
theorem split_at {α : Type}{l : List α}{n : Nat}(h : n < l.length) : ∃ xs f ys,l = xs ++ f :: ys /\ xs.length = n := by
  refine ⟨l.take n,l[n],l.drop (n + 1),?_,by rw [List.length_take]; omega⟩
  have := (List.take_append_drop n l).symm
  rwa [List.drop_eq_getElem_cons h] at this
abbrev s__law_floor : Stmt := top 19
theorem sc__law_floor : FnScope ["_law_bag_here","_law_wide","_law_high","_law_a","_law_b","_law_c","_law_d","_law_faces","_law_again","_law_edge","_law_number","_law_weights"] ["_law_bag_here","_law_wide","_law_high"] (defScope s__law_floor) := ⟨rfl,rfl,rfl,by decide +kernel,rfl,by decide +kernel,by decide +kernel⟩
def S_floor : DSp := fun ds P _ => ∃ W H : Int,ds = [.bag,.int W,.int H] /\ (1 <= W /\ W <= 9) /\ (1 <= H /\ H <= 9) /\ ∀ fs : List Fa,Flo fs 45 W H -> fs.length <= 512 -> P (.lst (fs.map Fa.d))
structure C__law_floor (P : Program)(w : World)(K : PySem.W.Frag)(mg : Str -> Option Value)(base : Heap) : Prop where
  _law_digit_ : Callee P w K mg base CX0 "_law_digit" 2 ["_law_bag_here","_law_many"] (liftSp K BT S_digit)
  _law_parted_ : Callee P w K mg base CX0 "_law_parted" 1 ["_law_faces","_law_number","_law_d","_law_edge"] (liftSpO K BT S_parted)
  _law_mean_ : Callee P w K mg base CX0 "_law_mean" 3 ["_law_face","_law_weights"] (liftSp K BT S_mean)
theorem ok__law_floor {P : Program}{w : World}{K : PySem.W.Frag}{mg : Str -> Option Value}{base : Heap}{f : Addr}{fd : FuncData}(F : Fun K "_law_floor" "_law_floor" s__law_floor f fd) (Z : Bi mg) (G : C__law_floor P w K mg base) : FnOk P w K mg base CX0 4 f fd ["_law_bag_here","_law_wide","_law_high"] (liftSp K BT S_floor) := by
  refine F.okD sc__law_floor (fun ds PP Ed h => ?_) (fun cdv A outer s H E M bg ds PP Ed hr hS_ => ?_)
  · obtain ⟨W,Hh,rfl,hW,hH,hP⟩ := h
    rfl
  · obtain ⟨W,Hh,rfl,hW,hH,hP⟩ := hS_
    refine ⟨_,(jdss_cons (jds_set (i := 3) sc__law_floor.nd rfl (by walk_at "o") (jde_tup (jda_cons (jde_op op_sub od_I0 (jde_neg jde_int) (jde_own G._law_digit_ (hr.mono (by decide)) rfl (jda_cons (jdv 0) (jda_cons jde_int jda_nil)))) (jda_cons (jde_op op_sub od_I0 (jde_neg jde_int) (jde_own G._law_digit_ (hr.mono (by decide)) rfl (jda_cons (jdv 0) (jda_cons jde_int jda_nil)))) (jda_cons jde_int (jda_cons jde_int jda_nil))))))
      (jdss_cons (jds_set (i := 4) sc__law_floor.nd rfl (by walk_at "o") (jde_tup (jda_cons (jde_op op_add od_I0 (jde_op op_add od_I0 (jdv 1) jde_int) (jde_own G._law_digit_ (hr.mono (by decide)) rfl (jda_cons (jdv 0) (jda_cons jde_int jda_nil)))) (jda_cons (jde_op op_sub od_I0 (jde_neg jde_int) (jde_own G._law_digit_ (hr.mono (by decide)) rfl (jda_cons (jdv 0) (jda_cons jde_int jda_nil)))) (jda_cons jde_int (jda_cons jde_int jda_nil))))))
      (jdss_cons (jds_set (i := 5) sc__law_floor.nd rfl (by walk_at "o") (jde_tup (jda_cons (jde_op op_add od_I0 (jde_op op_add od_I0 (jdv 1) jde_int) (jde_own G._law_digit_ (hr.mono (by decide)) rfl (jda_cons (jdv 0) (jda_cons jde_int jda_nil)))) (jda_cons (jde_op op_add od_I0 (jde_op op_add od_I0 (jdv 2) jde_int) (jde_own G._law_digit_ (hr.mono (by decide)) rfl (jda_cons (jdv 0) (jda_cons jde_int jda_nil)))) (jda_cons jde_int (jda_cons jde_int jda_nil))))))
      (jdss_cons (jds_set (i := 6) sc__law_floor.nd rfl (by walk_at "o") (jde_tup (jda_cons (jde_op op_sub od_I0 (jde_neg jde_int) (jde_own G._law_digit_ (hr.mono (by decide)) rfl (jda_cons (jdv 0) (jda_cons jde_int jda_nil)))) (jda_cons (jde_op op_add od_I0 (jde_op op_add od_I0 (jdv 2) jde_int) (jde_own G._law_digit_ (hr.mono (by decide)) rfl (jda_cons (jdv 0) (jda_cons jde_int jda_nil)))) (jda_cons jde_int (jda_cons jde_int jda_nil))))))
      (jdss_cons (jds_set (i := 7) sc__law_floor.nd rfl (by walk_at "o") (jde_lst (jda_cons (jde_tup (jda_cons (jdv 3) (jda_cons (jdv 4) (jda_cons (jdv 5) jda_nil)))) (jda_cons (jde_tup (jda_cons (jdv 3) (jda_cons (jdv 5) (jda_cons (jdv 6) jda_nil)))) jda_nil))))
      (jdss_cons (jds_for (gd_name 8) PassesOwn.never rfl (jdi_range1 rfl Z.range_ (jda_cons (jde_own G._law_digit_ (hr.mono (by decide)) rfl (jda_cons (jdv 0) (jda_cons jde_int jda_nil))) jda_nil)) (pg_name (i := 8) sc__law_floor.nd rfl (by walk_at "o")) (jdss_cons (jds_set (i := 9) sc__law_floor.nd rfl (by walk_at "o") (jde_ix (ix_any K (by rfl)) od_ix (jde_lst (jda_cons jde_non (jda_cons jde_non (jda_cons jde_int (jda_cons jde_int (jda_cons jde_int jda_nil)))))) (jde_own G._law_digit_ (hr.mono (by decide)) rfl (jda_cons (jdv 0) (jda_cons jde_int jda_nil))) (fun _ _ => rfl)))
      (jdss_cons (jds_set (i := 10) sc__law_floor.nd rfl (by walk_at "o") (jde_own G._law_digit_ (hr.mono (by decide)) rfl (jda_cons (jdv 0) (jda_cons (jde_callB (call_len_seqK K (by rfl)) cd_len rfl Z.len_ bt_len (jda_cons (jdv 7) jda_nil)) jda_nil))))
      (jdss_cons (jds_ownL (i := 11) sc__law_floor.nd rfl (by walk_at "o") (jda_cons (jde_op op_add od_I0 jde_int (jde_own G._law_digit_ (hr.mono (by decide)) rfl (jda_cons (jdv 0) (jda_cons jde_int jda_nil)))) (jda_cons (jde_op op_add od_I0 jde_int (jde_own G._law_digit_ (hr.mono (by decide)) rfl (jda_cons (jdv 0) (jda_cons jde_int jda_nil)))) (jda_cons (jde_op op_add od_I0 jde_int (jde_own G._law_digit_ (hr.mono (by decide)) rfl (jda_cons (jdv 0) (jda_cons jde_int jda_nil)))) jda_nil))))
      (jdss_cut (jds_if (jdt_cmp op_notN od_notN (jdv 9) jde_non (nomark _)) (jdss_one (jds_setI (i := 11) rfl (by walk_at "v") jde_int (jde_op op_sub od_I0 (jdv 9) jde_int) (pg_sub (pv 11) (JE.h (jde_op op_sub od_I0 (jdv 9) jde_int)) set_list))) jdss_nil)
      (jdss_frz 11 (jdss_one (jds_set (i := 7) sc__law_floor.nd rfl (by walk_at "o") (jde_ownO G._law_parted_ (hr.mono (by decide)) rfl (jda_cons (jdv 7) (jda_cons (jdv 10) (jda_cons (jde_own G._law_mean_ (hr.mono (by decide)) rfl (jda_cons (jde_ix (ix_any K (by rfl)) od_ix (jdv 7) (jdv 10) (fun _ _ => rfl)) (jda_cons (jdv 11) jda_nil))) (jda_cons (jdv 9) jda_nil)))))))))))))
      (jdss_one (jds_ret (jdv 7))))))))),?_⟩
    walk_at "go"
    refine ⟨_,64,rfl,by decide,Bd.num _ (by decide),by decide,fun a a0 a1 => ?_⟩
    walk_at "go"
    refine ⟨_,64,rfl,by decide,Bd.num _ (by decide),by decide,fun b b0 b1 => ?_⟩
    walk_at "go"
    refine ⟨_,64,rfl,by decide,Bd.num _ (by decide),by decide,fun c c0 c1 => ?_⟩
    walk_at "go"
    refine ⟨_,64,rfl,by decide,Bd.num _ (by decide),by decide,fun d d0 d1 => ?_⟩
    walk_at "go"
    refine ⟨_,64,rfl,by decide,Bd.num _ (by decide),by decide,fun i i0 i1 => ?_⟩
    walk_at "go"
    refine ⟨_,64,rfl,by decide,Bd.num _ (by decide),by decide,fun j j0 j1 => ?_⟩
    walk_at "go"
    refine ⟨_,64,rfl,by decide,Bd.num _ (by decide),by decide,fun k k0 k1 => ?_⟩
    walk_at "go"
    refine ⟨_,64,rfl,by decide,Bd.num _ (by decide),by decide,fun l l0 l1 => ?_⟩
    walk_at "go"
    refine ⟨_,64,rfl,by decide,Bd.num _ (by decide),by decide,fun t t0 t1 => ?_⟩
    walk_at "go"
    refine And.intro ⟨by omega,by omega⟩ ?_
    have F0 := Fou.flo (W := W) (H := Hh) (ax := -1 - a) (ay := -1 - b) (bx := W + 1 + c) (b_y := -1 - d) (cx := W + 1 + i) (cy := Hh + 1 + j) (dx := -1 - k) (dy := Hh + 1 + l) ⟨hW,hH,by omega,by omega,by omega,by omega,by omega,by omega,by omega,by omega⟩
    refine ⟨fun q ρ => ∃ (fs : List Fa) (v3 v4 v5 v6 v8 v9 v10 v11 : Option D),ρ = [some .bag,some (.int W),some (.int Hh),v3,v4,v5,v6,some (.lst (fs.map Fa.d)),v8,v9,v10,v11] /\ Flo fs (5 + 5 * q) W Hh /\ 2 <= fs.length /\ fs.length <= 2 * 2 ^ q,⟨_,_,_,_,_,_,_,_,_,rfl,F0,Nat.le_refl 2,Nat.le_refl 2⟩,?_,?_⟩
    · clear F0
      rintro q x ρ e ⟨fs,v3,v4,v5,v6,v8,v9,v10,v11,rfl,fl,ge,le⟩
      obtain ⟨rfl,hq⟩ := rangeD_get e
      clear e
      rw [Int.zero_add]
      have q8 : 2 ^ q <= 2 ^ 7 := Nat.pow_le_pow_right (by decide) (by omega)
      have q7 : q <= 7 := by omega
      have l256 : fs.length <= 256 := by omega
      walk_at "go"
      refine ⟨_,64,rfl,by decide,Bd.num _ (by decide),by decide,fun y y0 y1 => ?_⟩
      walk_at "go"
      refine ixm y0 (by exact y1) fun de me => ?_
      simp only [List.mem_cons,List.not_mem_nil,or_false] at me
      have ee : de = .non \/ ∃ k : Int,de = .int k /\ 0 <= k /\ k <= 2 := by
        rcases me with rfl | rfl | rfl | rfl | rfl
        · exact .inl rfl
        · exact .inl rfl
        · exact .inr ⟨0,rfl,by decide,by decide⟩
        · exact .inr ⟨1,rfl,by decide,by decide⟩
        · exact .inr ⟨2,rfl,by decide,by decide⟩
      clear me y0 y1
      refine And.intro (by rcases ee with rfl | ⟨k,rfl,_⟩ <;> rfl) ?_
      walk_at "go"
      rw [show (fs.map Fa.d).length = fs.length from List.length_map ..]
      refine ⟨(fs.length : Int),64,rfl,by omega,Bd.of (by omega) (by omega),by decide,fun u u0 u1 => ?_⟩
      obtain ⟨nn,rfl⟩ : ∃ un : Nat,u = un := ⟨u.toNat,by omega⟩
      obtain ⟨xs,f,ys,rfl,rfl⟩ := split_at (l := fs) (n := nn) (by omega)
      clear u0 u1
      walk_at "go"
      refine ⟨_,64,rfl,by decide,Bd.num _ (by decide),by decide,fun wa a0 a1 => ?_⟩
      walk_at "go"
      refine ⟨_,64,rfl,by decide,Bd.num _ (by decide),by decide,fun wb b0' b1' => ?_⟩
      walk_at "go"
      refine ⟨_,64,rfl,by decide,Bd.num _ (by decide),by decide,fun wc c0 c1 => ?_⟩
      walk_at "go"
      refine ⟨fun ρ => ∃ (e : D) (wa wb wc : Int),ρ = [some .bag,some (.int W),some (.int Hh),v3,v4,v5,v6,some (.lst ((xs ++ f :: ys).map Fa.d)),some (.int q),some e,some (.int xs.length),some (.own [.int wa,.int wb,.int wc])] /\ (0 <= wa /\ wa <= 4) /\ (0 <= wb /\ wb <= 4) /\ (0 <= wc /\ wc <= 4) /\ ((e = .non /\ 0 < wa /\ 0 < wb /\ 0 < wc) \/ ∃ k : Int,e = .int k /\ 0 <= k /\ k <= 2 /\ ((k = 0 /\ 0 < wa /\ 0 < wb /\ wc = 0) \/ (k = 1 /\ 0 < wb /\ 0 < wc /\ wa = 0) \/ (k = 2 /\ 0 < wc /\ 0 < wa /\ wb = 0))),?_,?_⟩
      · walk_at "go"
        rcases ee with rfl | ⟨k,rfl,k0,k2⟩
        · walk_at "go"
          exact ⟨_,_,_,_,rfl,⟨by omega,by omega⟩,⟨by omega,by omega⟩,⟨by omega,by omega⟩,.inl ⟨rfl,by omega,by omega,by omega⟩⟩
        · obtain rfl | rfl | rfl : k = 0 \/ k = 1 \/ k = 2 := by omega
          · walk_at "go"
            exact ⟨_,_,_,_,rfl,⟨by omega,by omega⟩,⟨by omega,by omega⟩,⟨by omega,by omega⟩,.inr ⟨0,rfl,k0,k2,.inl ⟨rfl,by omega,by omega,rfl⟩⟩⟩
          · walk_at "go"
            exact ⟨_,_,_,_,rfl,⟨by omega,by omega⟩,⟨by omega,by omega⟩,⟨by omega,by omega⟩,.inr ⟨1,rfl,k0,k2,.inr (.inl ⟨rfl,by omega,by omega,rfl⟩)⟩⟩
          · walk_at "go"
            exact ⟨_,_,_,_,rfl,⟨by omega,by omega⟩,⟨by omega,by omega⟩,⟨by omega,by omega⟩,.inr ⟨2,rfl,k0,k2,.inr (.inr ⟨rfl,by omega,by omega,rfl⟩)⟩⟩
      · rintro ρ ⟨e,wa,wb,wc,rfl,h1,h2,h3,hh⟩
        clear ee
        have ex : atI ((xs ++ f :: ys).map Fa.d) (xs.length : Int) = some f.d := atI_nat (j := xs.length) (by rw [List.getElem?_map,List.getElem?_append_right (Nat.le_refl _)]; simp)
        have fo := fl.ok f (by simp)
        walk_at "go"
        rw [ex]
        walk_at "go"
        refine ⟨f,wa,wb,wc,5 + 5 * q,rfl,fo,by omega,h1,h2,h3,?_,fun d hm od => ?_⟩
        · rcases hh with ⟨_,z1,z2,z3⟩ | ⟨k,_,_,_,⟨_,z1,z2,_⟩ | ⟨_,z1,z2,_⟩ | ⟨_,z1,z2,_⟩⟩ <;> omega
        walk_at "go"
        rcases hh with ⟨rfl,z1,z2,z3⟩ | ⟨k,rfl,k0,k2,hk⟩
        · have F1 := fl.inn hm od (by omega) z1 z2 z3
          refine ⟨xs,ys,f,d,_,5 + 5 * q,5 + 5 * q + 5,rfl,l256,fl.ok,od,by omega,?_⟩
          refine .inl ⟨rfl,?_⟩
          walk_at "go"
          refine And.intro (noLs_fa _) (And.intro rfl ?_)
          walk_at "go"
          refine ⟨_,_,_,_,_,_,_,_,_,rfl,F1.mono (by omega),by simp only [List.length_append,List.length_cons,List.length_nil]; omega,?_⟩
          simp only [List.length_append,List.length_cons,List.length_nil] at le ge ⊢
          rw [Nat.pow_succ]
          omega
        · have hb := mean_btw hm h1.1 h2.1 h3.1 hk
          obtain ⟨F1,l1,l2⟩ := fl.edge hb od (show 5 + 5 * q <= 5 + 5 * q + 5 by omega)
          refine ⟨xs,ys,f,d,_,5 + 5 * q,5 + 5 * q + 5,rfl,l256,fl.ok,od,by omega,?_⟩
          refine .inr ⟨k,rfl,k0,k2,hb,?_⟩
          walk_at "go"
          refine And.intro (noLs_fa _) (And.intro rfl ?_)
          walk_at "go"
          refine ⟨_,_,_,_,_,_,_,_,_,rfl,F1.mono (by omega),l2,?_⟩
          rw [Nat.pow_succ]
          omega
    · rintro ρ ⟨fs,v3,v4,v5,v6,v8,v9,v10,v11,rfl,fl,ge,le⟩
      rw [rangeD_len] at fl le
      walk_at "go"
      have t8 : 2 ^ t.toNat <= 2 ^ 8 := Nat.pow_le_pow_right (by decide) (by omega)
      exact hP fs (fl.mono (by omega)) (by omega)
abbrev s_law : Stmt := top 20
theorem sc_law : FnScope ["_law_script","_law_bag_here","_law_wide","_law_high","_law_faces","_law_x","_law_y"] ["_law_script"] (defScope s_law) := ⟨rfl,rfl,rfl,by decide +kernel,rfl,by decide +kernel,by decide +kernel⟩
def sp_law (K : PySem.W.Frag) : Sp := fun vs H Q _ => ∃ (a : Addr) (ns : List Int),vs = [.ref a] /\ SqL K H a (ns.map V.int) /\ ns.length <= 63 /\ ∀ H',Q (.bl true) H'
structure C_law (P : Program)(w : World)(K : PySem.W.Frag)(mg : Str -> Option Value)(base : Heap) : Prop where
  _law_bag_ : Callee P w K mg base CX0 "_law_bag" 1 ["_law_cell_here","_law_place"] (bagSp K BT pre_bag)
  _law_floor_ : Callee P w K mg base CX0 "_law_floor" 4 ["_law_bag_here","_law_wide","_law_high"] (liftSp K BT S_floor)
  _law_cell_ : Callee P w K mg base CX0 "_law_cell" 1 ["_law_script","_law_k"] (liftSp K BT S_cell)
  _law_digit_ : Callee P w K mg base CX0 "_law_digit" 2 ["_law_bag_here","_law_many"] (liftSp K BT S_digit)
  has_dot_ : Callee P w K mg base CX0 "has_dot" 4 ["face","dot"] (liftSp K BT S_hasdot)
theorem ok_law {P : Program}{w : World}{K : PySem.W.Frag}{mg : Str -> Option Value}{base : Heap}{f : Addr}{fd : FuncData}(F : Fun K "law" "law" s_law f fd) (Z : Bi mg) (G : C_law P w K mg base) : FnOk P w K mg base CX0 5 f fd ["_law_script"] (sp_law K) := by
  refine F.okL BT sc_law (fun cdv A outer s H E ns hr hlen => ?_)
  · refine ⟨_,(jdss_cons (jds_bag (i := 1) rfl sc_law.nd rfl (by walk_at "o") G._law_bag_ (hr.mono (by decide)) rfl (jda_cons (jde_own G._law_cell_ (hr.mono (by decide)) rfl (jda_cons (jdv 0) (jda_cons jde_int jda_nil))) (jda_cons jde_int jda_nil)))
      (jdss_cons (jds_set (i := 2) sc_law.nd rfl (by walk_at "o") (jde_op op_add od_I0 jde_int (jde_own G._law_digit_ (hr.mono (by decide)) rfl (jda_cons (jdv 1) (jda_cons jde_int jda_nil)))))
      (jdss_cons (jds_set (i := 3) sc_law.nd rfl (by walk_at "o") (jde_op op_add od_I0 jde_int (jde_own G._law_digit_ (hr.mono (by decide)) rfl (jda_cons (jdv 1) (jda_cons jde_int jda_nil)))))
      (jdss_cons (jds_set (i := 4) sc_law.nd rfl (by walk_at "o") (jde_own G._law_floor_ (hr.mono (by decide)) rfl (jda_cons (jdv 1) (jda_cons (jdv 2) (jda_cons (jdv 3) jda_nil)))))
      (jdss_cons (jds_for (gd_name 5) PassesOwn.never rfl (jdi_range1 rfl Z.range_ (jda_cons (jdv 2) jda_nil)) (pg_name (i := 5) sc_law.nd rfl (by walk_at "o")) (jdss_one (jds_for (gd_name 6) PassesOwn.never rfl (jdi_range1 rfl Z.range_ (jda_cons (jdv 3) jda_nil)) (pg_name (i := 6) sc_law.nd rfl (by walk_at "o")) (jdss_one (jds_if (jdt_cmp op_ne od_neS (jde_callB (call_len_seqK K (by rfl)) cd_len rfl Z.len_ bt_len (jda_cons (jde_comp (X := (cxOf CX0 P w K mg base ["_law_script","_law_bag_here","_law_wide","_law_high","_law_faces","_law_x","_law_y"] "law" (defScope s_law) f cdv A outer s H E).nox) (gd_name 0) (blkJ (X := (cxOf CX0 P w K mg base ["_law_script","_law_bag_here","_law_wide","_law_high","_law_faces","_law_x","_law_y"] "law" (defScope s_law) f cdv A outer s H E).nox) (N' := ["_law_face","_law_x","_law_y"]) (map := [none,some 5,some 6]) (by rfl) (by rfl) (by decide +kernel) (by rfl) ⟨⟨rfl,rfl,rfl,by walk_at "o"⟩,⟨⟨rfl,rfl,rfl,by walk_at "o"⟩,True.intro⟩⟩ (gkeep_name rfl) fun cl0 C0 fp0 s0 H0 => ⟨(pg_name (X := (cxComp (cxOf CX0 P w K mg base ["_law_script","_law_bag_here","_law_wide","_law_high","_law_faces","_law_x","_law_y"] "law" (defScope s_law) f cdv A outer s H E).nox ["_law_face","_law_x","_law_y"] _ cl0 C0 fp0 s0 H0)) (i := 0) (nodupS ["_law_face","_law_x","_law_y"] (by decide +kernel)) rfl (by walk_at "o")),(jdif_one (jdt_truth (by rfl) (jde_own G.has_dot_ (hr.mono (by decide)) rfl (jda_cons (jdv 0) (jda_cons (jde_tup (jda_cons (jdv 1) (jda_cons (jdv 2) jda_nil))) jda_nil))) (fun _ => rfl))),(jdv (X := (cxComp (cxOf CX0 P w K mg base ["_law_script","_law_bag_here","_law_wide","_law_high","_law_faces","_law_x","_law_y"] "law" (defScope s_law) f cdv A outer s H E).nox ["_law_face","_law_x","_law_y"] _ cl0 C0 fp0 s0 H0)) 0)⟩) (jdi_seq (by rfl) (jdv 4))) jda_nil)) jde_int (nomark _)) (jdss_one (jds_ret jde_bl)) jdss_nil)))))
      (jdss_one (jds_ret jde_bl))))))),?_⟩
    walk_at "go"
    refine ⟨ns,0,rfl,fun n => ?_⟩
    walk_at "go"
    refine And.intro ⟨n,1,rfl,by omega⟩ ?_
    walk_at "go"
    refine ⟨_,64,rfl,by decide,Bd.num _ (by decide),by decide,fun w w0 w1 => ?_⟩
    walk_at "go"
    refine ⟨_,64,rfl,by decide,Bd.num _ (by decide),by decide,fun h h0 h1 => ?_⟩
    walk_at "go"
    refine ⟨1 + w,1 + h,rfl,⟨by omega,by omega⟩,⟨by omega,by omega⟩,fun fs fl l512 => ?_⟩
    walk_at "go"
    refine And.intro ⟨by omega,by omega⟩ ?_
    refine ⟨fun i ρ => ∃ v5 v6,ρ = [some (.scr ns),some .bag,some (.int (1 + w)),some (.int (1 + h)),some (.lst (fs.map Fa.d)),v5,v6],⟨_,_,rfl⟩,?_,?_⟩
    · rintro i x ρ e ⟨v5,v6,rfl⟩
      obtain ⟨rfl,hi⟩ := rangeD_get e
      clear e
      rw [Int.zero_add]
      walk_at "go"
      refine And.intro ⟨by omega,by omega⟩ ?_
      refine ⟨fun j ρ => ∃ v6,ρ = [some (.scr ns),some .bag,some (.int (1 + w)),some (.int (1 + h)),some (.lst (fs.map Fa.d)),some (.int i),v6],⟨_,rfl⟩,?_,?_⟩
      · rintro j x ρ e ⟨v6,rfl⟩
        obtain ⟨rfl,hj⟩ := rangeD_get e
        clear e
        rw [Int.zero_add]
        have one := fl.one i j (by omega) (by omega) (by omega) (by omega)
        rw [sg_count fs fl.ok] at one
        walk_at "go"
        refine And.intro (by rw [List.length_map]; omega) ?_
        refine ⟨fun n acc => acc = ((fs.take n).filter fun f => decide (f.t.has i j)).map Fa.d,rfl,?_,?_⟩
        · rintro n x acc e rfl
          obtain ⟨f,ef,rfl⟩ := get_of e
          have fo := fl.ok f (List.mem_of_getElem? ef)
          have tf := take_filter (p := fun f : Fa => decide (f.t.has i j)) ef
          generalize (fs.take n).filter (fun f => decide (f.t.has i j)) = acc at *
          walk_at "go"
          refine ⟨f.t,i,j,45,rfl,tri_ok fo.a fo.b fo.c,Bd.of (by omega) (by omega),Bd.of (by omega) (by omega),by decide,?_⟩
          by_cases z : f.t.has i j
          · refine IfP.t (by simp [z]) ?_
            walk_at "go"
            rw [tf,if_pos (by simp [z]),List.map_append]
            rfl
          · refine IfP.f (by simp [z]) ?_
            rw [tf,if_neg (by simp [z]),List.append_nil]
        · rintro acc rfl
          rw [show (fs.map Fa.d).length = fs.length from List.length_map ..,List.take_length]
          walk_at "go"
          refine IfP.f (by simp; omega) ?_
          walk_at "go"
          exact ⟨_,rfl⟩
      · rintro ρ ⟨v6,rfl⟩
        walk_at "go"
        exact ⟨_,_,rfl⟩
    · rintro ρ ⟨v5,v6,rfl⟩
      walk_at "go"
end K
set_option Elab.async false
set_option linter.all false
set_option maxRecDepth 100000
set_option maxHeartbeats 4000000
namespace K
open PySem L2
structure FnIn (K : PySem.W.Frag)(x : Str)(st : Stmt) : Prop where
  ex : ∃ (f : Addr) (fd : FuncData),PySem.W.nsIn K mainGlobals x = some (some (.ref f)) /\ Fun K x x st f fd
theorem fn_in {K : PySem.W.Frag}{x : Str}{st : Stmt}{f : Addr}{oc : Value}{od an : Option Addr}{osl : Array (Option Value)}{kV doc pm cdv ct : Value}(a : PySem.W.nsIn K mainGlobals x = some (some (.ref f)))(l : K.lookup f = some ⟨oc,od,.func (PySem.W.fnOf x x (defArgs st) (defBody st) (defScope st) .none kV doc pm an cdv ct),osl⟩)(c : PySem.W.codeIn K cdv x = true)(k : PySem.W.keepIn K (.ref f) = true) : FnIn K x st := ⟨⟨_,_,a,fun_mk l c k⟩⟩
local macro_rules | `(tactic| walk_at "b1") => `(tactic| exact fun _ _ _ _ _ _ us hl => match us,hl with | [_],_ => rfl)
local macro_rules | `(tactic| walk_at "b2") => `(tactic| exact fun _ _ _ _ _ _ us hl => match us,hl with | [_,_],_ => rfl)
local macro_rules | `(tactic| walk_at "b3") => `(tactic| exact fun _ _ _ _ _ _ us hl => match us,hl with | [_,_,_],_ => rfl)
local macro_rules | `(tactic| walk_at "b4") => `(tactic| exact fun _ _ _ _ _ _ us hl => match us,hl with | [_,_,_,_],_ => rfl)
theorem all_mk {l : PySem.W.OpenLaw}{w : World}{K : PySem.W.Frag}{h : Heap}{mg : Str -> Option Value}{fa : Addr}(X : K.In h)(G : h.Ns mainGlobals mg)(hfa : mg "law" = some (.ref fa))
    (h0 : FnIn K "_law_bag" s__law_bag)
    (h1 : FnIn K "_law_mixed" s__law_mixed)
    (h2 : FnIn K "_law_digit" s__law_digit)
    (h3 : FnIn K "_law_parted" s__law_parted)
    (h4 : FnIn K "_law_common" s__law_common)
    (h5 : FnIn K "_law_spot" s__law_spot)
    (h6 : FnIn K "_law_mean" s__law_mean)
    (h7 : FnIn K "_law_floor" s__law_floor)
    (h8 : FnIn K "_law_cell" s__law_cell)
    (h9 : FnIn K "determinant" s_determinant)
    (h10 : FnIn K "on_board" s_on_board)
    (h11 : FnIn K "side_number" s_side_number)
    (h12 : FnIn K "sign" s_sign)
    (h13 : FnIn K "growth" s_growth)
    (h14 : FnIn K "shifted_side" s_shifted_side)
    (h15 : FnIn K "has_dot" s_has_dot)
    (h16 : FnIn K "law" s_law)
    (z_abs : PySem.W.nsIn K mainGlobals "abs" = some none)
    (z_len : PySem.W.nsIn K mainGlobals "len" = some none)
    (z_range : PySem.W.nsIn K mainGlobals "range" = some none)
    (z_sum : PySem.W.nsIn K mainGlobals "sum" = some none)
    (z_set : PySem.W.nsIn K mainGlobals "set" = some none)
    (z_zip : PySem.W.nsIn K mainGlobals "zip" = some none)
    : ∃ fd : FuncData,(∀ (s : Shared) (v : Value),BindsTo s fd ⟨[v],[]⟩ [("_law_script",v)]) /\ ∀ base : Heap,K.In base -> base.Ns mainGlobals mg -> FnOk l.prog w K mg base CX0 5 fa fd ["_law_script"] (sp_law K) := by
  obtain ⟨f0,d0,a0,F0⟩ := h0.ex
  obtain ⟨f1,d1,a1,F1⟩ := h1.ex
  obtain ⟨f2,d2,a2,F2⟩ := h2.ex
  obtain ⟨f3,d3,a3,F3⟩ := h3.ex
  obtain ⟨f4,d4,a4,F4⟩ := h4.ex
  obtain ⟨f5,d5,a5,F5⟩ := h5.ex
  obtain ⟨f6,d6,a6,F6⟩ := h6.ex
  obtain ⟨f7,d7,a7,F7⟩ := h7.ex
  obtain ⟨f8,d8,a8,F8⟩ := h8.ex
  obtain ⟨f9,d9,a9,F9⟩ := h9.ex
  obtain ⟨f10,d10,a10,F10⟩ := h10.ex
  obtain ⟨f11,d11,a11,F11⟩ := h11.ex
  obtain ⟨f12,d12,a12,F12⟩ := h12.ex
  obtain ⟨f13,d13,a13,F13⟩ := h13.ex
  obtain ⟨f14,d14,a14,F14⟩ := h14.ex
  obtain ⟨f15,d15,a15,F15⟩ := h15.ex
  obtain ⟨f16,d16,a16,F16⟩ := h16.ex
  have e := hfa.symm.trans (PySem.W.mg_of X G a16)
  cases e
  have Z : Bi mg := ⟨PySem.W.mg_none_of X G z_abs,PySem.W.mg_none_of X G z_len,PySem.W.mg_none_of X G z_range,PySem.W.mg_none_of X G z_sum,PySem.W.mg_none_of X G z_set,PySem.W.mg_none_of X G z_zip⟩
  have bl := F16.binds (ps := ["_law_script"]) fun _ _ _ _ _ _ us hl => match us,hl with | [_],_ => rfl
  obtain ⟨oc,od,kV,doc,pm,an,cdv,ct,osl,el,lk,hcd⟩ := F16.ex
  refine ⟨d16,fun s v => by rw [el]; exact .of_eq rfl,fun base kb gb => ?_⟩
  have G0 := Callee.mk' F0 (ok__law_bag (P := l.prog) (w := w) (base := base) F0 Z) (PySem.W.mg_of X G a0) (F0.binds (by walk_at "b2"))
  have G1 := Callee.mk' F1 (ok__law_mixed (P := l.prog) (w := w) (base := base) F1 Z) (PySem.W.mg_of X G a1) (F1.binds (by walk_at "b1"))
  have G2 := Callee.mk' F2 (ok__law_digit (P := l.prog) (w := w) (base := base) F2 Z ⟨G1⟩) (PySem.W.mg_of X G a2) (F2.binds (by walk_at "b2"))
  have G3 := Callee.mk' F3 (ok__law_parted (P := l.prog) (w := w) (base := base) F3 Z) (PySem.W.mg_of X G a3) (F3.binds (by walk_at "b4"))
  have G4 := Callee.mk' F4 (ok__law_common (P := l.prog) (w := w) (base := base) F4 Z) (PySem.W.mg_of X G a4) (F4.binds (by walk_at "b2"))
  have G5 := Callee.mk' F5 (ok__law_spot (P := l.prog) (w := w) (base := base) F5 Z ⟨G4⟩) (PySem.W.mg_of X G a5) (F5.binds (by walk_at "b4"))
  have G6 := Callee.mk' F6 (ok__law_mean (P := l.prog) (w := w) (base := base) F6 Z ⟨G5⟩) (PySem.W.mg_of X G a6) (F6.binds (by walk_at "b2"))
  have G7 := Callee.mk' F7 (ok__law_floor (P := l.prog) (w := w) (base := base) F7 Z ⟨G2,G3,G6⟩) (PySem.W.mg_of X G a7) (F7.binds (by walk_at "b3"))
  have G8 := Callee.mk' F8 (ok__law_cell (P := l.prog) (w := w) (base := base) F8 Z) (PySem.W.mg_of X G a8) (F8.binds (by walk_at "b2"))
  have G9 := Callee.mk' F9 (ok_determinant (P := l.prog) (w := w) (base := base) F9 Z) (PySem.W.mg_of X G a9) (F9.binds (by walk_at "b3"))
  have G10 := Callee.mk' F10 (ok_on_board (P := l.prog) (w := w) (base := base) F10 Z) (PySem.W.mg_of X G a10) (F10.binds (by walk_at "b1"))
  have G11 := Callee.mk' F11 (ok_side_number (P := l.prog) (w := w) (base := base) F11 Z ⟨G9,G10⟩) (PySem.W.mg_of X G a11) (F11.binds (by walk_at "b3"))
  have G12 := Callee.mk' F12 (ok_sign (P := l.prog) (w := w) (base := base) F12 Z) (PySem.W.mg_of X G a12) (F12.binds (by walk_at "b1"))
  have G13 := Callee.mk' F13 (ok_growth (P := l.prog) (w := w) (base := base) F13 Z) (PySem.W.mg_of X G a13) (F13.binds (by walk_at "b2"))
  have G14 := Callee.mk' F14 (ok_shifted_side (P := l.prog) (w := w) (base := base) F14 Z ⟨G11,G12,G13⟩) (PySem.W.mg_of X G a14) (F14.binds (by walk_at "b3"))
  have G15 := Callee.mk' F15 (ok_has_dot (P := l.prog) (w := w) (base := base) F15 Z ⟨G14⟩) (PySem.W.mg_of X G a15) (F15.binds (by walk_at "b2"))
  exact ok_law (P := l.prog) (w := w) (base := base) F16 Z ⟨G0,G7,G8,G2,G15⟩
theorem walk {l : PySem.W.OpenLaw}{q : Program}{loose : List Str}{XP : (Str -> Option Value) -> Heap -> Prop}{YP : World -> Heap -> Prop}{d : DefRec}{K : Params -> PySem.W.Frag}(hn : l.most = some 63)(hdf : d.params.defaults = [])
    (hY : ∀ (w : World) (h : Heap),YP w h -> (K w.params).In h)
    (F : ∀ (w : World) (mg : Str -> Option Value) (fa : Addr) (h : Heap),(K w.params).In h -> h.Ns mainGlobals mg -> mg d.name = some (.ref fa) ->
      ∃ fd : FuncData,(∀ (s : Shared) (u : Value),BindsTo s fd ⟨[u],[]⟩ [("_law_script",u)]) /\ ∀ base : Heap,(K w.params).In base -> base.Ns mainGlobals mg -> FnOk l.prog w (K w.params) mg base CX0 5 fa fd ["_law_script"] (sp_law (K w.params))) :
    PySem.W.WalkO q loose XP YP l.row.toRowW d [] (fun f vs => PySem.call f vs) :=
  L2.walk_of (n := 63) (k := 5) (x := "_law_script") (CX := fun _ => CX0) (sp := fun w => sp_law (K w.params)) hn (by decide) hdf ⟨rfl,by decide,by decide⟩ hY F (fun _ _ a ns hl _ hS => ⟨a,ns,rfl,hS,hl,fun _ => rfl⟩) fun _ _ _ _ _ z => z
end K
open PySem PySem.W PyProof.Rows
theorem PySem.W.Fast.tw2938262179012284763 : True := trivial
theorem PySem.W.Fast.tw15952042095449059513 : True := trivial
theorem PySem.W.Fast.tw6097759830835828981 : True := trivial
theorem PySem.W.Fast.tw18090848021159731025 : True := trivial
theorem PySem.W.Fast.tw2800301464199794383 : True := trivial
theorem PySem.W.Fast.tw5013298515476401836 : True := trivial
theorem PySem.W.Fast.tw17671335951246180841 : True := trivial
theorem PySem.W.Fast.tw15884615724968300136 : True := trivial
theorem PySem.W.Fast.tw1550211663631420646 : True := trivial
theorem PySem.W.Fast.tw17304310690342982092 : True := trivial
local macro_rules | `(tactic| walk_at "fn") => `(tactic| (refine' _root_.K.fn_in ?a ?l ?c ?k; (case a => k_is); (case l => k_is); (case c => k_is); (case k => k_is)))
set_option maxRecDepth 100000 in
set_option maxHeartbeats 0 in
theorem PySem.Challenge.cw_onceshade_k30_floors_of_faces_holds : PySem.Challenge.rw_onceshade_k30_floors_of_faces.Holds := by
  w_on; o_law; k_head; (case hw => w_witness2)
  k_fill
  refine K.walk (l := PySem.Challenge.rw_onceshade_k30_floors_of_faces) rfl rfl (fun w h Y => PySem.W.kIn_of Y) ?F
  case F =>
    intro w mg fa h KX G hmg
    refine' K.all_mk KX G hmg ?h0 ?h1 ?h2 ?h3 ?h4 ?h5 ?h6 ?h7 ?h8 ?h9 ?h10 ?h11 ?h12 ?h13 ?h14 ?h15 ?h16 ?z_abs ?z_len ?z_range ?z_sum ?z_set ?z_zip
    (case h0 => walk_at "fn")
    (case h1 => walk_at "fn")
    (case h2 => walk_at "fn")
    (case h3 => walk_at "fn")
    (case h4 => walk_at "fn")
    (case h5 => walk_at "fn")
    (case h6 => walk_at "fn")
    (case h7 => walk_at "fn")
    (case h8 => walk_at "fn")
    (case h9 => walk_at "fn")
    (case h10 => walk_at "fn")
    (case h11 => walk_at "fn")
    (case h12 => walk_at "fn")
    (case h13 => walk_at "fn")
    (case h14 => walk_at "fn")
    (case h15 => walk_at "fn")
    (case h16 => walk_at "fn")
    (case z_abs => k_is)
    (case z_len => k_is)
    (case z_range => k_is)
    (case z_sum => k_is)
    (case z_set => k_is)
    (case z_zip => k_is)
