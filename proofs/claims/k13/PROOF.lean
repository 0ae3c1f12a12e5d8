import PyProof.Rows.All
import Wide.All
import OpenK.AllK
import Wide.FinOn
import Lean
import PyProof.EqAt
import PyProof.EqKinds
import PyProof.TupleCall
import PySem.Challenge.RW_onceshade_k13_whole_closed_bodies
set_option Elab.async false
set_option linter.all false
set_option maxRecDepth 100000
namespace L2
open PySem PySem.Spec PyProof.Rows
abbrev Key := Sum Int Str
def keyIs : Key -> Value -> Bool
  | .inl k,v => Value.isInt k v
  | .inr x,v => Value.isStrOf x v
def keyH (w : World) : Key -> Int
  | .inl k => hashInt k
  | .inr x => hashStr w x
theorem keyIs_shape : ∀ {k : Key} {v : Value},keyIs k v = true -> (∃ i t,k = Sum.inl i /\ v = Value.int i t) \/ (∃ x t,k = Sum.inr x /\ v = Value.str x t)
  | .inl i,v,h => by
    obtain ⟨t,e⟩ := Value.isInt_shape (k := i) (v := v) h
    exact .inl ⟨i,t,rfl,e⟩
  | .inr x,v,h => by
    obtain ⟨t,e⟩ := Value.isStrOf_shape (x := x) (v := v) h
    exact .inr ⟨x,t,rfl,e⟩
theorem key_ll (a b : Int) : decide ((Sum.inl a : Key) = Sum.inl b) = (a == b) := by
  by_cases e : a = b
  · subst e; simp
  · have h : ¬ (Sum.inl a : Key) = Sum.inl b := fun q => e (Sum.inl.inj q)
    rw [decide_eq_false h]
    exact (beq_eq_false_iff_ne.mpr e).symm
theorem key_rr (a b : Str) : decide ((Sum.inr a : Key) = Sum.inr b) = decide (a = b) := by
  by_cases e : a = b
  · subst e; simp
  · have h : ¬ (Sum.inr a : Key) = Sum.inr b := fun q => e (Sum.inr.inj q)
    rw [decide_eq_false h,decide_eq_false e]
theorem key_lr (a : Int)(b : Str) : decide ((Sum.inl a : Key) = Sum.inr b) = false := decide_eq_false (fun q => nomatch q)
theorem key_rl (a : Str)(b : Int) : decide ((Sum.inr a : Key) = Sum.inl b) = false := decide_eq_false (fun q => nomatch q)
def mixKind (prog : Program)(w : World) : PySem.KeyKind prog w Key where
  is := keyIs
  hash := keyH w
  inj := fun v a b ha hb => by
    rcases keyIs_shape ha with ⟨i,t,rfl,rfl⟩ | ⟨x,t,rfl,rfl⟩
    · rcases keyIs_shape hb with ⟨j,u,rfl,e⟩ | ⟨y,u,rfl,e⟩
      · injection e with e1 _; rw [e1]
      · exact nomatch e
    · rcases keyIs_shape hb with ⟨j,u,rfl,e⟩ | ⟨y,u,rfl,e⟩
      · exact nomatch e
      · injection e with e1 _; rw [e1]
  byValue := fun k v h => by
    rcases keyIs_shape h with ⟨i,t,rfl,rfl⟩ | ⟨x,t,rfl,rfl⟩ <;> rfl
  pyHash := fun hv h => by
    rcases keyIs_shape hv with ⟨i,t,rfl,rfl⟩ | ⟨x,t,rfl,rfl⟩
    · exact wpAny_pyHash_int h
    · exact wpAny_pyHash_str h
  eqBool := fun hu hv h => by
    rcases keyIs_shape hu with ⟨i,t,rfl,rfl⟩ | ⟨x,t,rfl,rfl⟩
    · rcases keyIs_shape hv with ⟨j,u,rfl,rfl⟩ | ⟨y,u,rfl,rfl⟩
      · rw [key_ll] at h; exact wpAny_eqBool_int h
      · rw [key_lr] at h; exact SeqAt.EqAt.int_str i t y u _ _ _ _ h
    · rcases keyIs_shape hv with ⟨j,u,rfl,rfl⟩ | ⟨y,u,rfl,rfl⟩
      · rw [key_rl] at h; exact SeqAt.EqAt.str_int x t j u _ _ _ _ h
      · rw [key_rr] at h; exact wpAny_eqBool_str h
  «strs» := fun k x t v h => by
    rcases keyIs_shape h with ⟨i,u,rfl,e⟩ | ⟨y,u,rfl,e⟩
    · exact nomatch e
    · injection e with e1 _
      subst e1
      cases v <;> rfl
end L2
namespace L2
open PySem PySem.Spec PyProof.Rows
inductive V where
  | non | bl (b : Bool) | int (i : Int) | str (x : Str) | byt (b : Array UInt8) | flt (b : UInt64) | ref (a : Addr) | ty (n : String)
  deriving DecidableEq
def RelV : V -> Value -> Prop
  | .non,u => u = Value.none
  | .bl b,u => u = Value.bool b
  | .int i,u => ∃ t,u = Value.int i t
  | .str x,u => ∃ t,u = Value.str x t
  | .byt b,u => ∃ t,u = Value.bytes b t
  | .flt b,u => ∃ t,u = Value.float b t
  | .ref a,u => u = Value.ref a
  | .ty n,u => u = Value.type n
abbrev Vals : List V -> List Value -> Prop := Paired RelV
theorem Vals.length {xs : List V}{us : List Value}(r : Vals xs us) : xs.length = us.length := Paired.length r
theorem Vals.get : ∀ {xs : List V} {us : List Value} {i : Nat} {x : V},Vals xs us -> xs[i]? = some x -> ∃ u,us[i]? = some u /\ RelV x u
  | _,_,_,_,.nil,e => by simp at e
  | _,_,0,_,.cons r _,e => by simp at e; subst e; exact ⟨_,rfl,r⟩
  | _,_,i + 1,x,.cons _ t,e => by
    obtain ⟨u,h1,h2⟩ := Vals.get (i := i) (x := x) t (by simpa using e)
    exact ⟨u,by simpa using h1,h2⟩
theorem Vals.set {x : V}{u : Value}(r : RelV x u) : ∀ {xs : List V} {us : List Value} (i : Nat),Vals xs us -> Vals (xs.set i x) (us.set i u)
  | _,_,_,.nil => .nil
  | _,_,0,.cons _ t => .cons r t
  | _,_,i + 1,.cons q t => .cons q (Vals.set r i t)
theorem Vals.append : ∀ {xs ys : List V} {us ws : List Value},Vals xs us -> Vals ys ws -> Vals (xs ++ ys) (us ++ ws)
  | _,_,_,_,.nil,s => s
  | _,_,_,_,.cons r t,s => .cons r (Vals.append t s)
theorem Vals.take : ∀ {xs : List V} {us : List Value} (n : Nat),Vals xs us -> Vals (xs.take n) (us.take n)
  | _,_,0,_ => .nil
  | _,_,_ + 1,.nil => .nil
  | _,_,n + 1,.cons r t => .cons r (Vals.take n t)
theorem Vals.drop : ∀ {xs : List V} {us : List Value} (n : Nat),Vals xs us -> Vals (xs.drop n) (us.drop n)
  | _,_,0,r => r
  | _,_,_ + 1,.nil => .nil
  | _,_,n + 1,.cons _ t => Vals.drop n t
def RelO : Option V -> Option Value -> Prop
  | some v,some u => RelV v u
  | none,none => True
  | _,_ => False
def KV {κ : Type} : List (κ × V) -> List (κ × Value) -> Prop := Paired fun (p : κ × V) (q : κ × Value) => p.1 = q.1 /\ RelV p.2 q.2
def kV : Key -> V
  | .inl i => .int i
  | .inr x => .str x
inductive HO where
  | lst (xs : List V)
  | tup (xs : List V)
  | dK (kvs : List (Key × V)) | dT (kvs : List (List Key × V))
  | set (S : Int -> Bool) (n : Nat)
  | ins (C dx : Addr) (fs : List (Str × V))
  | own (x : Addr)
  | xd (fs : List (Str × V))
  | met (f x : Addr)
  | rng (lo hi : Int)
  | frz (o : Obj) (u : HO)
  | tbl (ps : Array Value)
  | ext (φ : Heap -> Prop)
abbrev Hp := Addr -> Option HO
def upd (H : Hp)(a : Addr)(o : HO) : Hp := fun b => if b = a then some o else H b
theorem upd_same {H : Hp}{a : Addr}{o : HO} : upd H a o a = some o := by unfold upd; rw [if_pos rfl]
theorem upd_ne {H : Hp}{a b : Addr}{o : HO}(h : b ≠ a) : upd H a o b = H b := by unfold upd; rw [if_neg h]
theorem ne_of {H : Hp}{a b : Addr}{o u : HO}(h : H a = some o)(h' : H b = some u)(d : o ≠ u) : a ≠ b := by
  intro e; subst e; rw [h] at h'; exact d (Option.some.inj h')
theorem ne_of_none {H : Hp}{a b : Addr}{o : HO}(h : H a = some o)(h' : H b = none) : a ≠ b := by
  intro e; subst e; rw [h] at h'; cases h'
section
variable (P : Program)(w : World)
def ObjOk (H : Hp)(h : Heap)(a : Addr) : HO -> Prop
  | .lst xs => xs.length <= sizeLine /\ ∃ (its : List Value) (n : Nat),Vals xs its /\ h.get? a = some { cls := .type "list",data := .seq its.toArray n }
  | .tup xs => xs.length <= sizeLine /\ ∃ its : List Value,Vals xs its /\ IsTup h a its.toArray
  | .dK kvs => kvs.length <= sizeLine /\ (a == sysModules) = false /\ ∃ vs,KV kvs vs /\ h.DictOf (mixKind P w) a vs
  | .dT kvs => kvs.length <= sizeLine /\ (a == sysModules) = false /\ ∃ xs : List (List Key × Addr × Value),
      Paired (fun (p : List Key × V) (q : List Key × Addr × Value) => p.1 = q.1 /\ H q.2.1 = some (.tup (p.1.map kV)) /\ RelV p.2 q.2.2) kvs xs /\
      ∃ o es ep,h.get? a = some o /\ o.ExactDict /\ o.data = .dict es ep /\ es.toList = xs.map (entryOfKey (tupleKind (mixKind P w))) /\ (xs.map (·.1)).Nodup
  | .set S n => h.SetOf (intKind P w) a S n
  | .ins C dx fs => H dx = some (.own a) /\ fs.length <= 1000 /\ dx ≠ a /\ h.get? a = some (PySem.W.instObj C dx) /\
      ∃ mA,h.Ns1 dx mA /\ (∀ f,RelO (fs.lookup f) (mA f)) /\ PySem.Within mA (fs.map (·.1))
  | .own _ => ∃ o,h.get? a = some o
  | .xd fs => ∃ mA,h.Ns1 a mA /\ ∀ f,RelO (fs.lookup f) (mA f)
  | .rng lo hi => ∃ t u v,h.get? a = some { cls := .type "range",data := .fields #[.int lo t,.int hi u,.int 1 v] }
  | .frz o u => h.get? a = some o /\ ObjOk H h a u
  | .tbl ps => h.get? a = some { cls := .none,data := .fields ps }
  | .met f x => h.get? a = some (PySem.W.methodObj (.ref f) (.ref x))
  | .ext φ => φ h /\ (∃ o,h.get? a = some o) /\ ∀ h1 h2 : Heap,φ h1 -> (∀ o,h1.get? a = some o -> h2.get? a = some o) -> φ h2
def HOk (H : Hp)(h : Heap) : Prop := ∀ a o,H a = some o -> ObjOk P w H h a o
end
section
variable {P : Program}{w : World}{H H' : Hp}{h h' : Heap}{a : Addr}{o : HO}
theorem ObjOk.lt (x : ObjOk P w H h a o) : a < h.objs.size := by
  cases o with
  | lst xs => obtain ⟨_,_,_,_,e⟩ := x; exact Heap.lt_size e
  | tup xs => obtain ⟨_,_,_,p⟩ := x; exact p.lt
  | dK kvs => obtain ⟨_,_,_,_,o,_,_,e,_⟩ := x; exact Heap.lt_size e
  | dT kvs => obtain ⟨_,_,_,_,o,_,_,e,_⟩ := x; exact Heap.lt_size e
  | set S n => obtain ⟨o,_,_,_,e,_⟩ := x; exact Heap.lt_size e
  | ins C dx fs => obtain ⟨_,_,_,e,_⟩ := x; exact Heap.lt_size e
  | own y => obtain ⟨_,e⟩ := x; exact Heap.lt_size e
  | xd fs => obtain ⟨_,⟨_,_,_,e,_⟩,_⟩ := x; exact Heap.lt_size e
  | rng lo hi => obtain ⟨_,_,_,e⟩ := x; exact Heap.lt_size e
  | frz ob u => obtain ⟨e,_⟩ := x; exact Heap.lt_size e
  | tbl ps => exact Heap.lt_size (show h.get? a = some _ from x)
  | met f y => exact Heap.lt_size (show h.get? a = some _ from x)
  | ext φ => obtain ⟨_,⟨_,e⟩,_⟩ := x; exact Heap.lt_size e
theorem Paired.mapP {α β : Type}{F G : α -> β -> Prop} : ∀ {l₁ : List α} {l₂ : List β},Paired F l₁ l₂ -> (∀ a b,F a b -> G a b) -> Paired G l₁ l₂
  | _,_,.nil,_ => .nil
  | _,_,.cons r t,f => .cons (f _ _ r) (Paired.mapP t f)
theorem ObjOk.stay (x : ObjOk P w H h a o)(k : ∀ b u,(b = a \/ H b = some (.own a)) -> h.get? b = some u -> h'.get? b = some u)
    (ho : ∀ b,H b = some (.own a) -> H' b = some (.own a)) (ht : ∀ b xs,H b = some (.tup xs) -> H' b = some (.tup xs)) : ObjOk P w H' h' a o := by
  induction o with
  | lst xs => obtain ⟨z,its,n,r,e⟩ := x; exact ⟨z,its,n,r,k _ _ (.inl rfl) e⟩
  | tup xs => obtain ⟨z,its,r,ob,e,c⟩ := x; exact ⟨z,its,r,ob,k _ _ (.inl rfl) e,c⟩
  | dK kvs => obtain ⟨z,y,vs,r,ob,es,ep,e,c⟩ := x; exact ⟨z,y,vs,r,ob,es,ep,k _ _ (.inl rfl) e,c⟩
  | dT kvs =>
    obtain ⟨z,y,xs,r,ob,es,ep,e,c⟩ := x
    exact ⟨z,y,xs,Paired.mapP r fun p q z => ⟨z.1,ht _ _ z.2.1,z.2.2⟩,ob,es,ep,k _ _ (.inl rfl) e,c⟩
  | set S n => obtain ⟨ob,es,ep,t,e,c⟩ := x; exact ⟨ob,es,ep,t,k _ _ (.inl rfl) e,c⟩
  | ins C dx fs =>
    obtain ⟨d,z,ne,e,mA,⟨od,es,ep,e2,c⟩,r⟩ := x
    exact ⟨ho _ d,z,ne,k _ _ (.inl rfl) e,mA,⟨od,es,ep,k _ _ (.inr d) e2,c⟩,r⟩
  | own y => obtain ⟨ob,e⟩ := x; exact ⟨ob,k _ _ (.inl rfl) e⟩
  | xd fs => obtain ⟨mA,⟨od,es,ep,e,c⟩,r⟩ := x; exact ⟨mA,⟨od,es,ep,k _ _ (.inl rfl) e,c⟩,r⟩
  | rng lo hi => obtain ⟨t,u,v,e⟩ := x; exact ⟨t,u,v,k _ _ (.inl rfl) e⟩
  | frz ob u ih => obtain ⟨e,q⟩ := x; exact ⟨k _ _ (.inl rfl) e,ih q⟩
  | tbl ps =>
    have e : h.get? a = some { cls := .none,data := .fields ps } := x
    show h'.get? a = some { cls := .none,data := .fields ps }
    exact k a _ (.inl rfl) e
  | met f y =>
    have e : h.get? a = some (PySem.W.methodObj (.ref f) (.ref y)) := x
    show h'.get? a = some (PySem.W.methodObj (.ref f) (.ref y))
    exact k a _ (.inl rfl) e
  | ext φ => obtain ⟨p,⟨o,e⟩,st⟩ := x; exact ⟨st _ _ p fun o q => k _ _ (.inl rfl) q,⟨o,k _ _ (.inl rfl) e⟩,st⟩
theorem HOk.lt (x : HOk P w H h)(e : H a = some o) : a < h.objs.size := (x a o e).lt
theorem HOk.fresh (x : HOk P w H h)(e : h.objs.size <= a) : H a = none := by
  cases q : H a with
  | none => rfl
  | some u => exact absurd (Nat.lt_of_lt_of_le (x.lt q) e) (Nat.lt_irrefl _)
theorem HOk.kept (x : HOk P w H h)(k : ∀ b u,h.get? b = some u -> h'.get? b = some u) : HOk P w H h' := fun a o e =>
  (x a o e).stay (fun b u _ q => k b u q) (fun _ q => q) fun _ _ q => q
theorem HOk.laid (x : HOk P w H h)(k : ∀ b u,h.get? b = some u -> h'.get? b = some u)(hp : h.objs.size <= a)(new : ObjOk P w (upd H a o) h' a o) : HOk P w (upd H a o) h' := fun b u e => by
  have hn := x.fresh hp
  by_cases hb : b = a
  · subst hb; rw [upd_same] at e; cases e; exact new
  · rw [upd_ne hb] at e
    exact (x b u e).stay (fun c v _ q => k c v q) (fun c q => by rw [upd_ne (ne_of_none q hn)]; exact q) fun c xs q => by rw [upd_ne (ne_of_none q hn)]; exact q
end
def Rd (H : Hp)(a : Addr)(u : HO) : Prop := H a = some u \/ ∃ o,H a = some (.frz o u)
theorem Rd.of {H : Hp}{a : Addr}{u : HO}(h : H a = some u) : Rd H a u := .inl h
theorem Rd.ok {P : Program}{w : World}{H : Hp}{h : Heap}{a : Addr}{u : HO}(r : Rd H a u)(x : HOk P w H h) : ObjOk P w H h a u := by
  rcases r with r | ⟨o,r⟩
  · exact x a u r
  · obtain ⟨_,q⟩ := x a _ r
    exact q
def Mut : Option HO -> Prop
  | some (.lst _) => True
  | some (.dK _) => True
  | some (.dT _) => True
  | some (.set _ _) => True
  | some (.ins _ _ _) => True
  | some (.ext _) => True
  | _ => False
section
variable {P : Program}{w : World}{H : Hp}{h h' : Heap}{x e : Addr}{o' : HO}
theorem HOk.write (ok : HOk P w H h)(mu : Mut (H x))(he : e = x \/ H e = some (.own x))(k : ∀ b u,b ≠ e -> h.get? b = some u -> h'.get? b = some u)(heo : ∃ u,h'.get? e = some u)
    (new : ObjOk P w (upd H x o') h' x o') : HOk P w (upd H x o') h' := fun b u q => by
  have nown : ∀ c y,H c = some (.own y) -> c ≠ x := fun c y r z => by subst z; rw [r] at mu; exact mu
  have ntup : ∀ c xs,H c = some (.tup xs) -> c ≠ x := fun c xs r z => by subst z; rw [r] at mu; exact mu
  by_cases hb : b = x
  · subst hb; rw [upd_same] at q; cases q; exact new
  · rw [upd_ne hb] at q
    by_cases hbe : b = e
    · have q' : H b = some (.own x) := by
        rcases he with z | z
        · exact absurd (hbe.trans z) hb
        · rw [hbe]; exact z
      rw [q] at q'; cases q'
      obtain ⟨v,hv⟩ := heo
      exact ⟨v,by rw [hbe]; exact hv⟩
    · refine (ok b u q).stay (fun c v hc r => k c v ?_ r) (fun c r => by rw [upd_ne (nown c b r)]; exact r) fun c xs r => by rw [upd_ne (ntup c xs r)]; exact r
      rcases hc with rfl | hc
      · exact hbe
      · rintro rfl
        rcases he with z | z
        · exact nown c b hc z
        · rw [hc] at z; cases z; exact hb rfl
end
structure Un (fs ex : List Addr)(H H' : Hp)(h h' : Heap) : Prop where
  keep : ∀ b o,h.get? b = some o -> H b = none -> b ∉ fs -> b ∉ ex -> h'.get? b = some o
  slot : ∀ b o,h.get? b = some o -> H b = none -> b ∈ fs -> b ∉ ex -> ∃ sl,h'.get? b = some { o with slots := sl }
  free : ∀ b o,h.get? b = some o -> H b = none -> b ∉ ex -> H' b = none
  there : ∀ b o,h.get? b = some o -> b ∉ ex -> ∃ o',h'.get? b = some o'
  tups : ∀ b xs,H b = some (.tup xs) -> H' b = some (.tup xs)
  frzs : ∀ b o u,H b = some (.frz o u) -> H' b = some (.frz o u)
  tbls : ∀ b ps,H b = some (.tbl ps) -> ∃ more,H' b = some (.tbl (ps ++ more))
section
variable {fs fs' ex ex' : List Addr}{H H1 H2 : Hp}{h h1 h2 h' : Heap}{a x e : Addr}{o : HO}
theorem Un.any (u : Un fs ex H H1 h h1){b : Addr}{ob : Obj}(q : h.get? b = some ob)(n : H b = none)(hx : b ∉ ex) : ∃ sl,h1.get? b = some { ob with slots := sl } := by
  by_cases hb : b ∈ fs
  · exact u.slot b ob q n hb hx
  · exact ⟨ob.slots,u.keep b ob q n hb hx⟩
theorem Un.trans (a : Un fs ex H H1 h h1)(b : Un fs ex H1 H2 h1 h2) : Un fs ex H H2 h h2 where
  keep := fun c ob q n hc hx => b.keep c ob (a.keep c ob q n hc hx) (a.free c ob q n hx) hc hx
  slot := fun c ob q n hc hx => by
    obtain ⟨sl,e1⟩ := a.slot c ob q n hc hx
    obtain ⟨sl',e2⟩ := b.slot c _ e1 (a.free c ob q n hx) hc hx
    exact ⟨sl',e2⟩
  free := fun c ob q n hx => by
    obtain ⟨o',e1⟩ := a.there c ob q hx
    exact b.free c o' e1 (a.free c ob q n hx) hx
  there := fun c ob q hx => by
    obtain ⟨o',e1⟩ := a.there c ob q hx
    exact b.there c o' e1 hx
  tups := fun c xs q => b.tups c xs (a.tups c xs q)
  frzs := fun c ob xs q => b.frzs c ob xs (a.frzs c ob xs q)
  tbls := fun c ps q => by
    obtain ⟨m1,e1⟩ := a.tbls c ps q
    obtain ⟨m2,e2⟩ := b.tbls c _ e1
    exact ⟨m1 ++ m2,by rw [e2,Array.append_assoc]⟩
theorem Un.kept (k : ∀ b u,h.get? b = some u -> h'.get? b = some u) : Un fs ex H H h h' :=
  ⟨fun b ob q _ _ _ => k b ob q,fun b ob q _ _ _ => ⟨ob.slots,k b ob q⟩,fun _ _ _ n _ => n,fun b ob q _ => ⟨ob,k b ob q⟩,fun _ _ q => q,fun _ _ _ q => q,fun _ ps q => ⟨#[],by rw [q]; simp⟩⟩
theorem Un.refl : Un fs ex H H h h := Un.kept fun _ _ q => q
theorem Un.laid (k : ∀ b u,h.get? b = some u -> h'.get? b = some u)(hp : h.objs.size <= a)(hn : H a = none) : Un fs ex H (upd H a o) h h' where
  keep := fun b u q _ _ _ => k b u q
  slot := fun b u q _ _ _ => ⟨u.slots,k b u q⟩
  free := fun b u q n _ => by rw [upd_ne (Nat.ne_of_lt (Nat.lt_of_lt_of_le (Heap.lt_size q) hp))]; exact n
  there := fun b u q _ => ⟨u,k b u q⟩
  tups := fun b xs q => by rw [upd_ne (ne_of_none q hn)]; exact q
  frzs := fun b u xs q => by rw [upd_ne (ne_of_none q hn)]; exact q
  tbls := fun b ps q => ⟨#[],by rw [upd_ne (ne_of_none q hn),q]; simp⟩
theorem Un.write (mu : Mut (H x))(he : e = x \/ H e = some (.own x))(k : ∀ b u,b ≠ e -> h.get? b = some u -> h'.get? b = some u)(heo : ∃ u,h'.get? e = some u) : Un fs ex H (upd H x o) h h' := by
  have hx : ∀ b,H b = none -> b ≠ x := fun b n z => by subst z; rw [n] at mu; exact mu
  have hb : ∀ b,H b = none -> b ≠ e := fun b n z => by
    subst z
    rcases he with r | r
    · exact hx b n r
    · rw [n] at r; cases r
  have hm : ∀ b u,H b = some u -> ¬ Mut (some u) -> b ≠ x := fun b u q nm z => by subst z; rw [q] at mu; exact nm mu
  refine ⟨fun b u q n _ _ => k b u (hb b n) q,fun b u q n _ _ => ⟨u.slots,k b u (hb b n) q⟩,fun b u q n _ => by rw [upd_ne (hx b n)]; exact n,fun b u q _ => ?_,
    fun b xs q => by rw [upd_ne (hm b _ q fun z => z)]; exact q,fun b u xs q => by rw [upd_ne (hm b _ q fun z => z)]; exact q,fun b ps q => ⟨#[],by rw [upd_ne (hm b _ q fun z => z),q]; simp⟩⟩
  by_cases hbe : b = e
  · subst hbe; exact heo
  · exact ⟨u,k b u hbe q⟩
end
def trk (h : Heap)(H : Hp) : List Addr := (List.range h.objs.size).filter fun a => (H a).isSome
def hidT (h : Heap)(H : Hp) : Heap := PySem.W.hideAll h (trk h H)
theorem hidT_size (h : Heap)(H : Hp) : (hidT h H).objs.size = h.objs.size := PySem.W.hideAll_size _ _
theorem hidT_get {h : Heap}{H : Hp}{b : Addr}{o : Obj}(e : h.get? b = some o)(n : H b = none) : (hidT h H).get? b = some o :=
  PySem.W.hideAll_get _ e fun hm => by
    have q : (H b).isSome = true := (List.mem_filter.mp hm).2
    rw [n] at q; simp at q
theorem of_hidT {h : Heap}{H : Hp}{b : Addr}{o : Obj}(e : (hidT h H).get? b = some o) : h.get? b = some o /\ H b = none := by
  have e' : h.get? b = some o := PySem.W.of_hideAll (trk h H) e
  refine ⟨e',?_⟩
  cases q : H b with
  | none => rfl
  | some x =>
    have hm : b ∈ trk h H := List.mem_filter.mpr ⟨List.mem_range.mpr (Heap.lt_size e'),by simp [q]⟩
    have z : (hidT h H).get? b = none := PySem.W.hideAll_none (trk h H) hm
    rw [z] at e; cases e
def allNews (g h : Heap)(L : Addr) : List (Addr × Obj) := (List.range h.objs.size).filterMap fun a => if a = L \/ (g.get? a).isSome = true then none else (h.get? a).map fun o => (a,o)
def rest (g h : Heap)(L d : Addr) : List (Addr × Obj) := (allNews g h L).filter fun p => decide (p.1 ≠ d)
end L2
namespace L2
open PySem PySem.Spec PyProof.Rows
structure Mod (K : PySem.W.Frag)(mg : Str -> Option Value)(base : Heap) : Prop where
  kin : K.In base
  glob : base.Ns mainGlobals mg
  blt : ∃ mb,base.Ns builtinsNs mb /\ ∀ x : Str,x ≠ "__name__" -> mb x = bootBuiltins x
  nolimit : base.NoLimit
structure Cx where
  prog : Program
  w : World
  K : PySem.W.Frag
  mg : Str -> Option Value
  base : Heap
  A : Around
  N : List Str
  s₀ : Shared
  H₀ : Hp
  env : Env
  outer : List Env
  stack : List Env
  ex : List Addr
  fn : Str -> Bool
  calm : Bool
  pn : List (Addr × Obj)
  xe : Value -> Shared -> Prop
def frs (l : List Env) : List Addr := l.filterMap (·.frame)
abbrev Cx.fs (X : Cx) : List Addr := frs X.outer
def Vis (sc : Scope)(x : Str) : Prop := sc.names.lookup x = some .local \/ sc.names.lookup x = some .cell \/ sc.names.lookup x = some .free
def Loc (sc : Scope)(x : Str) : Prop := sc.names.lookup x = some .local \/ sc.names.lookup x = some .cell
def Look (env : Env)(h : Heap)(m : Str -> Option Value)(x : Str)(u : Value) : Prop :=
  (env.kindOf x = some .local /\ m x = some u) \/ ((env.kindOf x = some .cell \/ env.kindOf x = some .free) /\ ∃ c,env.cells.lookup x = some c /\ h.IsCell c (some u))
structure Cx.Ok (X : Cx) : Prop where
  mod : Mod X.K X.mg X.base
  kind : X.env.scope.kind = .function
  glob : X.env.globals = mainGlobals
  blt : X.env.builtins = builtinsNs
  above : X.s₀.heap.objs.size <= X.env.locals
  inj : ∀ x y c,X.env.cells.lookup x = some c -> X.env.cells.lookup y = some c -> x = y
  has : ∀ x,(X.env.kindOf x = some .cell \/ X.env.kindOf x = some .free) -> ∃ c,X.env.cells.lookup x = some c
  cab : ∀ x c,X.fn x = true -> X.env.cells.lookup x = some c -> X.s₀.heap.objs.size <= c
  hd : X.calm = true -> X.A.handled = none
  frames : X.A.frames = some X.stack
  stk : X.stack = X.outer \/ (X.stack = X.env :: X.outer /\ X.env.frame = some X.env.locals)
  exf : ∀ b ∈ X.ex,b ≠ X.env.locals /\ ∀ x c,X.env.cells.lookup x = some c -> c ≠ b
  bs : ∀ b o,X.base.get? b = some o -> X.s₀.heap.get? b = some o /\ X.H₀ b = none
  bsz : X.base.objs.size <= X.s₀.heap.objs.size
  noex : ∀ b o,X.base.get? b = some o -> b ∉ X.ex
  exfs : ∀ b ∈ X.ex,b ∉ X.fs
  funs : X.s₀.heap.FunFrames X.base X.outer
  frf : ∀ b ∈ X.fs,X.H₀ b = none
structure Inv (X : Cx)(pins : List (Addr × Obj))(σ : List (Option V))(H : Hp)(s : Shared) : Prop where
  ok : X.Ok
  os : s.os = X.s₀.os
  bare : AllBare s.gens
  base : Un X.fs X.ex X.H₀ H X.s₀.heap s.heap
  loc : ∃ m,s.heap.Ns X.env.locals m /\ ∀ (i : Nat) (x : Str) (v : V),X.N[i]? = some x -> σ[i]? = some (some v) -> Vis X.env.scope x -> ∃ u,RelV v u /\ Look X.env s.heap m x u
  cell : ∀ x c,X.env.cells.lookup x = some c -> ∃ v,s.heap.IsCell c v
  free : H X.env.locals = none
  freeC : ∀ x c,X.env.cells.lookup x = some c -> H c = none
  pin : ∀ p ∈ X.pn ++ pins,s.heap.get? p.1 = some p.2 /\ H p.1 = none /\ p.1 ≠ X.env.locals /\ p.1 ∉ X.fs /\ ∀ v,p.2.data ≠ .cell v
  hok : HOk X.prog X.w H s.heap
  len : σ.length = X.N.length
section
variable {X : Cx}{pins : List (Addr × Obj)}{σ : List (Option V)}{H H' : Hp}{s : Shared}{h' : Heap}
theorem Cx.Ok.nofr (ok : X.Ok){b : Addr}{o : Obj}(e : X.base.get? b = some o) : b ∉ X.fs := fun hb => by
  have := (ok.funs.mem hb).1
  rw [e] at this; cases this
theorem Inv.bs (I : Inv X pins σ H s) : ∀ b o,X.base.get? b = some o -> s.heap.get? b = some o /\ H b = none := fun b o e =>
  ⟨I.base.keep b o (I.ok.bs b o e).1 (I.ok.bs b o e).2 (I.ok.nofr e) (I.ok.noex b o e),I.base.free b o (I.ok.bs b o e).1 (I.ok.bs b o e).2 (I.ok.noex b o e)⟩
theorem Inv.bk (I : Inv X pins σ H s) : ∀ b o,X.base.get? b = some o -> s.heap.get? b = some o := fun b o e => (I.bs b o e).1
theorem Inv.mod (I : Inv X pins σ H s) : Mod X.K X.mg X.base := I.ok.mod
theorem Inv.kIn (I : Inv X pins σ H s) : X.K.In s.heap := I.ok.mod.kin.keeps I.bk
theorem Inv.lt (I : Inv X pins σ H s) : X.env.locals < s.heap.objs.size := let ⟨_,hn,_⟩ := I.loc; hn.lt
theorem Inv.sz (I : Inv X pins σ H s) : X.s₀.heap.objs.size <= s.heap.objs.size := Nat.le_trans I.ok.above (Nat.le_of_lt I.lt)
theorem Inv.nofs (I : Inv X pins σ H s){a : Addr}(h : s.heap.objs.size <= a) : a ∉ X.fs := fun hb => by
  obtain ⟨_,o,ho,_⟩ := I.ok.funs.mem hb
  exact absurd (Nat.lt_of_lt_of_le (Heap.lt_size ho) (Nat.le_trans I.sz h)) (Nat.lt_irrefl _)
theorem Inv.cne (I : Inv X pins σ H s) : ∀ x c,X.env.cells.lookup x = some c -> c ≠ X.env.locals := fun x c e z => by
  obtain ⟨v,o,ho,hd⟩ := I.cell x c e
  obtain ⟨m,⟨o',es,ep,ho',hd',_⟩,_⟩ := I.loc
  rw [z,ho'] at ho; cases ho; rw [hd'] at hd; cases hd
theorem Inv.funs (I : Inv X pins σ H s) : s.heap.FunFrames X.base X.outer := by
  have all : ∀ (l : List Env),(∀ b ∈ frs l,b ∈ X.fs) -> X.s₀.heap.FunFrames X.base l -> s.heap.FunFrames X.base l := by
    intro l
    induction l with
    | nil => intro _ _; trivial
    | cons env r ih =>
      intro hs hl
      obtain ⟨hk,⟨L,o,hf,hn,ho,hd⟩,hr⟩ := hl
      have hL : L ∈ X.fs := hs L (by unfold frs; rw [List.filterMap_cons,hf]; exact List.mem_cons_self)
      obtain ⟨sl,e⟩ := I.base.slot L o ho (I.ok.frf L hL) hL fun z => I.ok.exfs L z hL
      exact ⟨hk,⟨L,_,hf,hn,e,hd⟩,ih (fun b hb => hs b (by unfold frs; rw [List.filterMap_cons,hf]; exact List.mem_cons_of_mem _ hb)) hr⟩
  exact all X.outer (fun _ hb => hb) I.ok.funs
theorem Inv.stack (I : Inv X pins σ H s) : s.heap.FunFrames X.base X.stack := by
  rcases I.ok.stk with e | ⟨e,hf⟩
  · rw [e]; exact I.funs
  · rw [e]
    obtain ⟨m,hn,_⟩ := I.loc
    refine .cons (by rw [I.ok.kind]; decide) hf hn ?_ I.funs
    exact Heap.get?_none_of_le (Nat.le_trans I.ok.bsz I.ok.above)
theorem Inv.stkSub (I : Inv X pins σ H s) : ∀ b ∈ frs X.stack,b ∈ X.env.locals :: X.fs := fun b hb => by
  rcases I.ok.stk with e | ⟨e,hf⟩
  · rw [e] at hb; exact List.mem_cons_of_mem _ hb
  · rw [e] at hb
    unfold frs at hb
    rw [List.filterMap_cons,hf] at hb
    exact hb
theorem Inv.stkFree (I : Inv X pins σ H s) : ∀ b ∈ frs X.stack,H b = none := fun b hb => by
  rcases List.mem_cons.mp (I.stkSub b hb) with e | hb
  · rw [e]; exact I.free
  · obtain ⟨_,o,ho,_⟩ := I.ok.funs.mem hb
    exact I.base.free b o ho (I.ok.frf b hb) fun z => I.ok.exfs b z hb
theorem Inv.step {g' : Array GenState}{t' : Nat}{d' : Drawn}{ch : List Addr}(I : Inv X pins σ H s)
    (hch : ∀ b ∈ ch,(b ∈ X.ex \/ X.s₀.heap.objs.size <= b) /\ b ≠ X.env.locals /\ (∀ x c,X.env.cells.lookup x = some c -> c ≠ b) /\ ∀ p ∈ X.pn ++ pins,p.1 ≠ b)
    (keep : ∀ b o,b ≠ X.env.locals -> b ∉ X.fs -> b ∉ ch -> s.heap.get? b = some o -> H b = none -> h'.get? b = some o)
    (slot : ∀ b o,b ≠ X.env.locals -> b ∈ X.fs -> b ∉ ch -> s.heap.get? b = some o -> H b = none -> ∃ sl,h'.get? b = some { o with slots := sl }) (free : ∀ b o,b ∉ ch -> s.heap.get? b = some o -> H b = none -> H' b = none)
    (there : ∀ b o,b ∉ ch -> s.heap.get? b = some o -> ∃ o',h'.get? b = some o')
    (tups : ∀ b xs,H b = some (.tup xs) -> H' b = some (.tup xs)) (frzs : ∀ b o u,H b = some (.frz o u) -> H' b = some (.frz o u)) (tbls : ∀ b ps,H b = some (.tbl ps) -> ∃ more,H' b = some (.tbl (ps ++ more)))
    (ns : ∀ m,s.heap.Ns X.env.locals m -> h'.Ns X.env.locals m) (hok : HOk X.prog X.w H' h') (hg : AllBare g') :
    Inv X pins σ H' { s with heap := h',gens := g',drawn := d',toks := t' } := by
  have neL : ∀ b o,X.s₀.heap.get? b = some o -> b ≠ X.env.locals := fun b o e => Nat.ne_of_lt (Nat.lt_of_lt_of_le (Heap.lt_size e) I.ok.above)
  have neC : ∀ b o,X.s₀.heap.get? b = some o -> b ∉ X.ex -> b ∉ ch := fun b o e hx hb => by
    rcases (hch b hb).1 with z | z
    · exact hx z
    · exact absurd (Nat.lt_of_lt_of_le (Heap.lt_size e) z) (Nat.lt_irrefl _)
  have cellK : ∀ x c,X.env.cells.lookup x = some c -> ∀ v,s.heap.IsCell c v -> h'.IsCell c v := fun x c e v ⟨o,ho,hd⟩ => by
    have nch : c ∉ ch := fun z => (hch c z).2.2.1 x c e rfl
    by_cases hc : c ∈ X.fs
    · obtain ⟨sl,q⟩ := slot c o (I.cne x c e) hc nch ho (I.freeC x c e)
      exact ⟨_,q,hd⟩
    · exact ⟨o,keep c o (I.cne x c e) hc nch ho (I.freeC x c e),hd⟩
  refine ⟨I.ok,I.os,hg,⟨fun b o e n hb hx => ?_,fun b o e n hb hx => ?_,fun b o e n hx => ?_,fun b o e hx => ?_,fun b xs e => tups b xs (I.base.tups b xs e),fun b o xs e => frzs b o xs (I.base.frzs b o xs e),fun b ps e => ?_⟩,?_,fun x c e => ?_,?_,fun x c e => ?_,fun p hp => ?_,hok,I.len⟩
  · exact keep b o (neL b o e) hb (neC b o e hx) (I.base.keep b o e n hb hx) (I.base.free b o e n hx)
  · obtain ⟨sl,e1⟩ := I.base.slot b o e n hb hx
    obtain ⟨sl',e2⟩ := slot b _ (neL b o e) hb (neC b o e hx) e1 (I.base.free b o e n hx)
    exact ⟨sl',e2⟩
  · obtain ⟨o',e1⟩ := I.base.there b o e hx
    exact free b o' (neC b o e hx) e1 (I.base.free b o e n hx)
  · obtain ⟨o',e1⟩ := I.base.there b o e hx
    exact there b o' (neC b o e hx) e1
  · obtain ⟨m1,e1⟩ := I.base.tbls b ps e
    obtain ⟨m2,e2⟩ := tbls b _ e1
    exact ⟨m1 ++ m2,by rw [e2,Array.append_assoc]⟩
  · obtain ⟨m,hn,hl⟩ := I.loc
    refine ⟨m,ns m hn,fun i x v e1 e2 e3 => ?_⟩
    obtain ⟨u,r,l⟩ := hl i x v e1 e2 e3
    refine ⟨u,r,?_⟩
    rcases l with l | ⟨k,c,e,z⟩
    · exact .inl l
    · exact .inr ⟨k,c,e,cellK x c e _ z⟩
  · obtain ⟨v,z⟩ := I.cell x c e
    exact ⟨v,cellK x c e v z⟩
  · obtain ⟨m,⟨o,_,_,ho,_⟩,_⟩ := I.loc
    exact free _ o (fun z => (hch _ z).2.1 rfl) ho I.free
  · obtain ⟨v,o,ho,hd⟩ := I.cell x c e
    exact free c o (fun z => (hch c z).2.2.1 x c e rfl) ho (I.freeC x c e)
  · obtain ⟨e,n,ne,nf,d⟩ := I.pin p hp
    have nch : p.1 ∉ ch := fun z => (hch p.1 z).2.2.2 p hp rfl
    exact ⟨keep p.1 p.2 ne nf nch e n,free p.1 p.2 nch e n,ne,nf,d⟩
theorem Inv.un {t' : Nat}(I : Inv X pins σ H s)(u : Un X.fs [] H H' s.heap h')(hok : HOk X.prog X.w H' h') : Inv X pins σ H' { s with heap := h',toks := t' } := by
  obtain ⟨m,⟨o,es,ep,ho,r⟩,_⟩ := id I.loc
  obtain ⟨sl,hL⟩ := u.any ho I.free (by simp)
  exact I.step (g' := s.gens) (d' := s.drawn) (ch := []) (fun _ z => nomatch z) (fun b o _ hb _ e n => u.keep b o e n hb (by simp)) (fun b o _ hb _ e n => u.slot b o e n hb (by simp)) (fun b o _ e n => u.free b o e n (by simp)) (fun b o _ e => u.there b o e (by simp)) u.tups u.frzs u.tbls (fun m' hm => by
    obtain ⟨o',es',ep',ho',r'⟩ := hm
    rw [ho] at ho'; cases ho'
    exact ⟨_,es',ep',hL,r'⟩) hok I.bare
theorem Inv.call {g' : Array GenState}{t' : Nat}{d' : Drawn}{ch : List Addr}(I : Inv X pins σ H s)(u : Un (frs X.stack) ch H H' s.heap h')(hok : HOk X.prog X.w H' h')(hg : AllBare g')
    (hch : ∀ b ∈ ch,(b ∈ X.ex \/ X.s₀.heap.objs.size <= b) /\ b ≠ X.env.locals /\ (∀ x c,X.env.cells.lookup x = some c -> c ≠ b) /\ ∀ p ∈ X.pn ++ pins,p.1 ≠ b) :
    Inv X pins σ H' { s with heap := h',gens := g',drawn := d',toks := t' } := by
  obtain ⟨m,⟨o,es,ep,ho,r⟩,_⟩ := id I.loc
  obtain ⟨sl,hL⟩ := u.any ho I.free fun z => (hch _ z).2.1 rfl
  exact I.step (ch := ch) hch (fun b o hL hb hc e n => u.keep b o e n (fun z => (List.mem_cons.mp (I.stkSub b z)).elim hL hb) hc) (fun b o _ _ hc e n => u.any e n hc) (fun b o hc e n => u.free b o e n hc) (fun b o hc e => u.there b o e hc) u.tups u.frzs u.tbls (fun m' hm => by
    obtain ⟨o',es',ep',ho',r'⟩ := hm
    rw [ho] at ho'; cases ho'
    exact ⟨_,es',ep',hL,r'⟩) hok hg
theorem Inv.turned {t' : Nat}{it : Addr}(I : Inv X pins σ H s)(k : ∀ b o,b ≠ it -> s.heap.get? b = some o -> h'.get? b = some o)(hn : H it = none)(hL : it ≠ X.env.locals)
    (h1 : it ∈ X.ex \/ X.s₀.heap.objs.size <= it) (h2 : ∀ x c,X.env.cells.lookup x = some c -> c ≠ it) (h3 : ∀ p ∈ X.pn ++ pins,p.1 ≠ it) : Inv X pins σ H { s with heap := h',toks := t' } := by
  have nit : ∀ b u,H b = some u -> b ≠ it := fun b u e z => by rw [z,hn] at e; cases e
  refine I.step (g' := s.gens) (d' := s.drawn) (ch := [it]) (fun b hb => ?_) (fun b o _ _ hc e _ => k b o (fun z => hc (by simp [z])) e) (fun b o _ _ hc e _ => ⟨o.slots,k b o (fun z => hc (by simp [z])) e⟩) (fun _ _ _ _ n => n)
    (fun b o hc e => ⟨o,k b o (fun z => hc (by simp [z])) e⟩) (fun _ _ e => e) (fun _ _ _ e => e) (fun b ps e => ⟨#[],by rw [e]; simp⟩) (fun m hm => ?_) (fun b u e => ?_) I.bare
  · have e : b = it := by simpa using hb
    subst e
    exact ⟨h1,hL,h2,h3⟩
  · obtain ⟨o,es,ep,ho,r⟩ := hm
    exact ⟨o,es,ep,k _ o (Ne.symm hL) ho,r⟩
  · refine (I.hok b u e).stay (fun c v hc q => k c v ?_ q) (fun _ q => q) fun _ _ q => q
    rcases hc with z | z
    · rw [z]; exact nit b u e
    · exact nit c _ z
theorem Inv.tok (I : Inv X pins σ H s)(t : Nat) : Inv X pins σ H { s with toks := t } := I.un (h' := s.heap) (t' := t) Un.refl I.hok
theorem Inv.kept {t' : Nat}(I : Inv X pins σ H s)(k : ∀ b u,s.heap.get? b = some u -> h'.get? b = some u) : Inv X pins σ H { s with heap := h',toks := t' } := I.un (Un.kept k) (I.hok.kept k)
theorem Inv.laid {a : Addr}{o : HO}{t' : Nat}(I : Inv X pins σ H s)(k : ∀ b u,s.heap.get? b = some u -> h'.get? b = some u)(hp : s.heap.objs.size <= a)(new : ObjOk X.prog X.w (upd H a o) h' a o) :
    Inv X pins σ (upd H a o) { s with heap := h',toks := t' } := I.un (Un.laid k hp (I.hok.fresh hp)) (I.hok.laid k hp new)
theorem Inv.write {x e : Addr}{o : HO}{t' : Nat}(I : Inv X pins σ H s)(mu : Mut (H x))(he : e = x \/ H e = some (.own x))(k : ∀ b u,b ≠ e -> s.heap.get? b = some u -> h'.get? b = some u)(heo : ∃ u,h'.get? e = some u)
    (new : ObjOk X.prog X.w (upd H x o) h' x o) : Inv X pins σ (upd H x o) { s with heap := h',toks := t' } := I.un (Un.write mu he k heo) (I.hok.write mu he k heo new)
theorem Inv.weak {σ' : List (Option V)}(I : Inv X pins σ H s)(hl : σ'.length = σ.length)(w : ∀ (i : Nat) v,σ'[i]? = some (some v) -> σ[i]? = some (some v)) : Inv X pins σ' H s :=
  ⟨I.ok,I.os,I.bare,I.base,let ⟨m,hn,hl'⟩ := I.loc; ⟨m,hn,fun i x v e1 e2 e3 => hl' i x v e1 (w i v e2) e3⟩,I.cell,I.free,I.freeC,I.pin,I.hok,hl.trans I.len⟩
theorem Inv.pins_of {pins' : List (Addr × Obj)}(I : Inv X pins σ H s)(h : ∀ p ∈ pins',s.heap.get? p.1 = some p.2 /\ H p.1 = none /\ p.1 ≠ X.env.locals /\ p.1 ∉ X.fs /\ ∀ v,p.2.data ≠ .cell v) : Inv X pins' σ H s :=
  ⟨I.ok,I.os,I.bare,I.base,I.loc,I.cell,I.free,I.freeC,fun p hp => (List.mem_append.mp hp).elim (fun z => I.pin p (List.mem_append_left _ z)) (h p),I.hok,I.len⟩
theorem nodup_ix {N : List Str}(hN : N.Nodup){i j : Nat}{x : Str}(a : N[i]? = some x)(b : N[j]? = some x) : i = j := by
  obtain ⟨h1,e1⟩ := List.getElem?_eq_some_iff.mp a
  obtain ⟨h2,e2⟩ := List.getElem?_eq_some_iff.mp b
  exact (List.getElem_inj hN).mp (e1.trans e2.symm)
theorem store_ok2 {M : Model}{A : Around}{E : Value -> Shared -> Prop}{i : Nat}{x : Str}{v : V}{u : Value}{Q : Unit -> Shared -> Prop}(I : Inv X pins σ H s)(hN : X.N.Nodup)(hi : X.N[i]? = some x)(hx : Loc X.env.scope x)(r : RelV v u)
    (h : ∀ s',Inv X pins (σ.set i (some v)) H s' -> (∃ a,Heap.SameBut a s.heap s'.heap /\ (a = X.env.locals \/ X.env.cells.lookup x = some a)) -> Q () s') (hf : X.fn x = true \/ X.env.scope.names.lookup x = some .local := by first | exact .inl rfl | exact .inr rfl | assumption) : wpAny M A (storeName X.env x u) Q E s := by
  obtain ⟨m,hn,hl⟩ := id I.loc
  have hcls : (X.env.scope.kind == .class || (X.env.scope.kind == .module && X.env.locals != X.env.globals)) = false := by rw [I.ok.kind]; rfl
  have hiσ : i < σ.length := by rw [I.len]; exact (List.getElem?_eq_some_iff.mp hi).1
  have cne := I.cne
  have tracked : ∀ {a : Addr} {h' : Heap},(∃ o,s.heap.get? a = some o /\ H a = none) -> Heap.SameBut a s.heap h' -> HOk X.prog X.w H h' := fun {a h'} ha hs b ob e => by
    obtain ⟨_,_,hfree⟩ := ha
    refine (I.hok b ob e).stay (fun c w' hc q => (hs.2 c ?_).trans q) (fun _ q => q) fun _ _ q => q
    rintro rfl
    rcases hc with rfl | hc
    · rw [hfree] at e; cases e
    · rw [hfree] at hc; cases hc
  rcases hx with hk | hk
  · refine wpAny_storeName_local hk hn (fun h' hn' hs => ?_) hcls
    obtain ⟨oL,_,_,hoL,_⟩ := id hn
    refine h _ ⟨I.ok,I.os,I.bare,⟨fun b o e n hb hx => ?_,fun b o e n hb hx => ?_,I.base.free,fun b o e hx => ?_,I.base.tups,I.base.frzs,I.base.tbls⟩,⟨_,hn',fun j y v' e1 e2 e3 => ?_⟩,fun y c e => ?_,I.free,I.freeC,fun p hp => ?_,tracked ⟨oL,hoL,I.free⟩ hs,by simpa using I.len⟩ ⟨_,hs,.inl rfl⟩
    · exact (hs.2 b (Nat.ne_of_lt (Nat.lt_of_lt_of_le (Heap.lt_size e) I.ok.above))).trans (I.base.keep b o e n hb hx)
    · obtain ⟨sl,e1⟩ := I.base.slot b o e n hb hx
      exact ⟨sl,(hs.2 b (Nat.ne_of_lt (Nat.lt_of_lt_of_le (Heap.lt_size e) I.ok.above))).trans e1⟩
    · obtain ⟨o',e1⟩ := I.base.there b o e hx
      exact ⟨o',(hs.2 b (Nat.ne_of_lt (Nat.lt_of_lt_of_le (Heap.lt_size e) I.ok.above))).trans e1⟩
    · by_cases hj : j = i
      · subst hj
        rw [hi] at e1; cases e1
        rw [List.getElem?_set_self hiσ] at e2
        cases e2
        exact ⟨u,r,.inl ⟨hk,by simp⟩⟩
      · rw [List.getElem?_set_ne (Ne.symm hj)] at e2
        obtain ⟨u',r',q⟩ := hl j y v' e1 e2 e3
        refine ⟨u',r',?_⟩
        rcases q with ⟨k,e⟩ | ⟨k,c,e,z⟩
        · refine .inl ⟨k,?_⟩
          have : y ≠ x := fun e => hj (nodup_ix hN e1 (e ▸ hi))
          simp [this,e]
        · exact .inr ⟨k,c,e,z.sameBut hs (cne y c e)⟩
    · obtain ⟨w',z⟩ := I.cell y c e
      exact ⟨w',z.sameBut hs (cne y c e)⟩
    · obtain ⟨e,n,ne,nf,d⟩ := I.pin p hp
      exact ⟨(hs.2 p.1 ne).trans e,n,ne,nf,d⟩
  · have hfn : X.fn x = true := by
      rcases hf with z | z
      · exact z
      · rw [z] at hk; cases hk
    obtain ⟨c,hc⟩ := I.ok.has x (.inl hk)
    obtain ⟨w',z⟩ := I.cell x c hc
    refine wpAny_storeName_cell I.ok.kind hk hc z (fun h' hc' hs => ?_)
    obtain ⟨oc,hoc,hocd⟩ := id z
    refine h { s with heap := h' } ⟨I.ok,I.os,I.bare,⟨fun b o e n hb hx => ?_,fun b o e n hb hx => ?_,I.base.free,fun b o e hx => ?_,I.base.tups,I.base.frzs,I.base.tbls⟩,⟨m,hn.sameBut hs (Ne.symm (cne x c hc)),fun j y v' e1 e2 e3 => ?_⟩,fun y c' e => ?_,I.free,I.freeC,fun p hp => ?_,tracked ⟨oc,hoc,I.freeC x c hc⟩ hs,by simpa using I.len⟩ ⟨c,hs,.inr hc⟩
    · exact (hs.2 b (Nat.ne_of_lt (Nat.lt_of_lt_of_le (Heap.lt_size e) (I.ok.cab x c hfn hc)))).trans (I.base.keep b o e n hb hx)
    · obtain ⟨sl,e1⟩ := I.base.slot b o e n hb hx
      exact ⟨sl,(hs.2 b (Nat.ne_of_lt (Nat.lt_of_lt_of_le (Heap.lt_size e) (I.ok.cab x c hfn hc)))).trans e1⟩
    · obtain ⟨o',e1⟩ := I.base.there b o e hx
      exact ⟨o',(hs.2 b (Nat.ne_of_lt (Nat.lt_of_lt_of_le (Heap.lt_size e) (I.ok.cab x c hfn hc)))).trans e1⟩
    · by_cases hj : j = i
      · subst hj
        rw [hi] at e1; cases e1
        rw [List.getElem?_set_self hiσ] at e2
        cases e2
        exact ⟨u,r,.inr ⟨.inl hk,c,hc,hc'⟩⟩
      · rw [List.getElem?_set_ne (Ne.symm hj)] at e2
        obtain ⟨u',r',q⟩ := hl j y v' e1 e2 e3
        refine ⟨u',r',?_⟩
        rcases q with q | ⟨k,c',e,z'⟩
        · exact .inl q
        · refine .inr ⟨k,c',e,z'.sameBut hs ?_⟩
          rintro rfl
          exact hj (nodup_ix hN e1 (I.ok.inj _ _ _ e hc ▸ hi))
    · by_cases hcc : c' = c
      · subst hcc; exact ⟨_,hc'⟩
      · obtain ⟨w2,z2⟩ := I.cell y c' e
        exact ⟨w2,z2.sameBut hs hcc⟩
    · obtain ⟨e,n,ne,nf,d⟩ := I.pin p hp
      refine ⟨(hs.2 p.1 ?_).trans e,n,ne,nf,d⟩
      intro q
      rw [q,hoc] at e
      have q' : oc = p.2 := Option.some.inj e
      exact d w' (by rw [<- q']; exact hocd)
theorem store_ok {M : Model}{A : Around}{E : Value -> Shared -> Prop}{i : Nat}{x : Str}{v : V}{u : Value}{Q : Unit -> Shared -> Prop}(I : Inv X pins σ H s)(hN : X.N.Nodup)(hi : X.N[i]? = some x)(hx : Loc X.env.scope x)(r : RelV v u)
    (h : ∀ s',Inv X pins (σ.set i (some v)) H s' -> Q () s') (hf : X.fn x = true \/ X.env.scope.names.lookup x = some .local := by first | exact .inl rfl | exact .inr rfl | assumption) : wpAny M A (storeName X.env x u) Q E s :=
  store_ok2 I hN hi hx r (fun s' I' _ => h s' I') hf
theorem Inv.call' {s' : Shared}{ch : List Addr}(I : Inv X pins σ H s)(ho : s'.os = s.os)(u : Un (frs X.stack) ch H H' s.heap s'.heap)(hok : HOk X.prog X.w H' s'.heap)(hg : AllBare s'.gens)
    (hch : ∀ b ∈ ch,(b ∈ X.ex \/ X.s₀.heap.objs.size <= b) /\ b ≠ X.env.locals /\ (∀ x c,X.env.cells.lookup x = some c -> c ≠ b) /\ ∀ p ∈ X.pn ++ pins,p.1 ≠ b) : Inv X pins σ H' s' := by
  obtain ⟨h',g',d',t',o'⟩ := s'
  have e : o' = s.os := ho
  subst e
  exact I.call (g' := g') (t' := t') (d' := d') u hok hg hch
end
abbrev XK := Value -> Option Addr -> Hp -> Prop
abbrev St := List (Option V)
abbrev VK := V -> Hp -> Prop
abbrev TE := St -> Hp -> VK -> Prop
abbrev TT := St -> Hp -> (Bool -> Hp -> Prop) -> Prop
abbrev TA := St -> Hp -> (List V -> Hp -> Prop) -> Prop
structure Ends where
  nx : St -> Hp -> Prop
  rt : VK
  bk : St -> Hp -> Prop := fun _ _ => False
  ct : St -> Hp -> Prop := fun _ _ => False
abbrev TS := Ends -> St -> Hp -> Prop
def EP (X : Cx)(pins : List (Addr × Obj))(σ : St)(Q : VK)(u : Value)(s' : Shared) : Prop := ∃ v H',Inv X pins σ H' s' /\ RelV v u /\ Q v H'
def TP (X : Cx)(pins : List (Addr × Obj))(σ : St)(Q : Bool -> Hp -> Prop)(b : Bool)(s' : Shared) : Prop := ∃ H',Inv X pins σ H' s' /\ Q b H'
def AP (X : Cx)(pins : List (Addr × Obj))(σ : St)(Q : List V -> Hp -> Prop)(us : List Value)(s' : Shared) : Prop := ∃ vs H',Inv X pins σ H' s' /\ Vals vs us /\ Q vs H'
def SP (X : Cx)(pins : List (Addr × Obj))(D : Ends)(f : Flow)(s' : Shared) : Prop :=
  match f with
  | .next => ∃ σ' H',Inv X pins σ' H' s' /\ D.nx σ' H'
  | .brk => ∃ σ' H',Inv X pins σ' H' s' /\ D.bk σ' H'
  | .cont => ∃ σ' H',Inv X pins σ' H' s' /\ D.ct σ' H'
  | .ret u => ∃ v σ' H',Inv X pins σ' H' s' /\ RelV v u /\ D.rt v H'
def PE (X : Cx)(e : Expr)(t : TE) : Prop :=
  ∀ (pins : List (Addr × Obj)) (s : Shared) (σ : St) (H : Hp) (Q : VK),Inv X pins σ H s -> t σ H Q -> wpAny (model X.prog X.w) X.A (eval e X.env) (EP X pins σ Q) X.xe s
def PT (X : Cx)(e : Expr)(t : TT) : Prop :=
  ∀ (pins : List (Addr × Obj)) (s : Shared) (σ : St) (H : Hp) (Q : Bool -> Hp -> Prop),Inv X pins σ H s -> t σ H Q -> wpAny (model X.prog X.w) X.A (isTrue e X.env (eval e X.env)) (TP X pins σ Q) X.xe s
def PW (X : Cx)(e : Expr)(t : TT) : Prop :=
  ∀ (whole : Sem Value) (pins : List (Addr × Obj)) (s : Shared) (σ : St) (H : Hp) (Q : Bool -> Hp -> Prop),Inv X pins σ H s -> t σ H Q -> wpAny (model X.prog X.w) X.A (isTrue e X.env whole) (TP X pins σ Q) X.xe s
theorem PW.pt {X : Cx}{e : Expr}{t : TT}(h : PW X e t) : PT X e t := h _
def PA (X : Cx)(es : List Expr)(t : TA) : Prop :=
  ∀ (pos : Pos) (pins : List (Addr × Obj)) (s : Shared) (σ : St) (H : Hp) (Q : List V -> Hp -> Prop),Inv X pins σ H s -> t σ H Q -> wpAny (model X.prog X.w) X.A (spliced (backTo pos (starEach es X.env))) (AP X pins σ Q) X.xe s
def PS (X : Cx)(st : Stmt)(t : TS) : Prop :=
  ∀ (pins : List (Addr × Obj)) (s : Shared) (σ : St) (H : Hp) (D : Ends),Inv X pins σ H s -> t D σ H -> wpAny (model X.prog X.w) X.A (exec st X.env) (SP X pins D) X.xe s
def PSs (X : Cx)(st : List Stmt)(t : TS) : Prop :=
  ∀ (pins : List (Addr × Obj)) (s : Shared) (σ : St) (H : Hp) (D : Ends),Inv X pins σ H s -> t D σ H -> wpAny (model X.prog X.w) X.A (execs st X.env) (SP X pins D) X.xe s
theorem thn {α : Type}{t : Sem α}{Q Q' : α -> Shared -> Prop}{M : Model}{A : Around}{E : Value -> Shared -> Prop}{s : Shared}(h : wpAny M A t Q E s)(hQ : ∀ a s,Q a s -> Q' a s) : wpAny M A t Q' E s := wpAny_mono h hQ fun _ _ x => x
end L2
namespace L2
open PySem PySem.Spec PyProof.Rows
section
variable {X : Cx}
def tVar (i : Nat) : TE := fun σ H Q => ∃ v,σ[i]? = some (some v) /\ Q v H
def tC (v : V) : TE := fun _ H Q => Q v H
theorem pe_var {i : Nat}{x : Str}{pos : Pos}(hN : X.N[i]? = some x)(hv : Vis X.env.scope x)(hd : (x == ("__debug__" : Str)) = false := by decide) (hcd : (x == ("__classdict__" : Str)) = false := by decide) : PE X (.Name x pos) (tVar i) := by
  intro pins s σ H Q I h
  obtain ⟨v,e,h⟩ := h
  obtain ⟨m,hn,hl⟩ := I.loc
  obtain ⟨u,r,l⟩ := hl i x v hN e hv
  have fin : EP X pins σ Q u s := ⟨v,H,I,r,h⟩
  rcases l with ⟨hk,hm⟩ | ⟨hk,c,hc,hcell⟩
  · exact wpAny_Name (wpAny_loadName_local I.ok.kind hk hn hm fin) hd
  · rcases hk with hk | hk
    · exact wpAny_Name (wpAny_loadName_cell I.ok.kind hk hc hcell fin) hd
    · exact wpAny_Name (wpAny_loadName_free I.ok.kind hk hc hcell fin hcd) hd
theorem pe_int {i j pos} : PE X (.Constant (.int i) j pos) (tC (.int i)) := fun _ _ _ H _ I h => wpAny_Constant_int ⟨.int i,H,I.tok _,⟨_,rfl⟩,h⟩
theorem pe_bl {b j pos} : PE X (.Constant (.bool b) j pos) (tC (.bl b)) := fun _ _ _ H _ I h => Constant_bool ⟨.bl b,H,I,rfl,h⟩
theorem pe_non {j pos} : PE X (.Constant .none j pos) (tC .non) := fun _ _ _ H _ I h => Constant_none ⟨.non,H,I,rfl,h⟩
theorem pe_str {x j pos} : PE X (.Constant (.str x) j pos) (tC (.str x)) := fun _ _ _ H _ I h => Calls.Constant_str ⟨.str x,H,I.tok _,⟨_,rfl⟩,h⟩
def Gl (X : Cx)(x : Str) : Prop := X.env.kindOf x = some .globalImplicit
theorem ld_glob {E : Value -> Shared -> Prop}{pins : List (Addr × Obj)}{s : Shared}{σ : St}{H : Hp}{x : Str}{u : Value}{pos : Pos}{Q : Value -> Shared -> Prop}(I : Inv X pins σ H s)(hg : Gl X x)(hm : X.mg x = some u)(h : Q u s)
    (hd : (x == ("__debug__" : Str)) = false := by decide) : wpAny (model X.prog X.w) X.A (eval (.Name x pos) X.env) Q E s :=
  Calls.Name_function_global I.ok.kind hg (Calls.loadGlobal_global (by rw [I.ok.glob]; exact I.mod.glob.keeps I.bk) hm h) hd
theorem ld_blt {E : Value -> Shared -> Prop}{pins : List (Addr × Obj)}{s : Shared}{σ : St}{H : Hp}{x : Str}{u : Value}{pos : Pos}{Q : Value -> Shared -> Prop}(I : Inv X pins σ H s)(hg : Gl X x)(hm : X.mg x = none)(hv : bootBuiltins x = some u)(h : Q u s)
    (hn : x ≠ "__name__" := by decide) (hd : (x == ("__debug__" : Str)) = false := by decide) : wpAny (model X.prog X.w) X.A (eval (.Name x pos) X.env) Q E s := by
  obtain ⟨mb,h1,h2⟩ := I.mod.blt
  exact Calls.Name_function_global I.ok.kind hg (Calls.loadGlobal_builtin (by rw [I.ok.glob]; exact I.mod.glob.keeps I.bk) hm (by rw [I.ok.blt]; exact h1.keeps I.bk) ((h2 x hn).trans hv) h) hd
theorem pe_glob {x : Str}{v : V}{u : Value}{pos : Pos}(hg : Gl X x)(hm : X.mg x = some u)(r : RelV v u)(hd : (x == ("__debug__" : Str)) = false := by decide) : PE X (.Name x pos) (tC v) :=
  fun _ _ _ H _ I h => ld_glob I hg hm ⟨v,H,I,r,h⟩ hd
theorem pe_bltn {x : Str}{v : V}{u : Value}{pos : Pos}(hg : Gl X x)(hm : X.mg x = none)(hv : bootBuiltins x = some u)(r : RelV v u)(hn : x ≠ "__name__" := by decide) (hd : (x == ("__debug__" : Str)) = false := by decide) : PE X (.Name x pos) (tC v) :=
  fun _ _ _ H _ I h => ld_blt I hg hm hv ⟨v,H,I,r,h⟩ hn hd
variable {a b : Expr}{ta tb : TE}{pos : Pos}
variable {tA tB' : TT}{rest : List Expr}
def tAnd (t u : TT) : TT := fun σ H Q => t σ H fun c H1 => if c = true then u σ H1 Q else Q false H1
def tOr (t u : TT) : TT := fun σ H Q => t σ H fun c H1 => if c = true then Q true H1 else u σ H1 Q
def tNot (t : TT) : TT := fun σ H Q => t σ H fun c H1 => Q (!c) H1
theorem pw_and1 (ha : PT X a tA) : PW X (.BoolOp .And [a] pos) tA := by
  intro wh pins s σ H Q I h
  refine isTrue_and (thn (ha pins s σ H Q I h) fun c s1 e => ?_)
  cases c with
  | true => exact isTrue_and_nil e
  | false => exact e
theorem pw_or1 (ha : PT X a tA) : PW X (.BoolOp .Or [a] pos) tA := by
  intro wh pins s σ H Q I h
  refine isTrue_or (thn (ha pins s σ H Q I h) fun c s1 e => ?_)
  cases c with
  | false => exact isTrue_or_nil e
  | true => exact e
theorem pw_and (ha : PT X a tA)(hb : PW X (.BoolOp .And (b :: rest) pos) tB') : PW X (.BoolOp .And (a :: b :: rest) pos) (tAnd tA tB') := by
  intro wh pins s σ H Q I h
  refine isTrue_and (thn (ha pins s σ H _ I h) fun c s1 ⟨H1,I1,q1⟩ => ?_)
  cases c with
  | true => exact hb wh pins s1 σ H1 Q I1 q1
  | false => exact ⟨H1,I1,q1⟩
theorem pw_or (ha : PT X a tA)(hb : PW X (.BoolOp .Or (b :: rest) pos) tB') : PW X (.BoolOp .Or (a :: b :: rest) pos) (tOr tA tB') := by
  intro wh pins s σ H Q I h
  refine isTrue_or (thn (ha pins s σ H _ I h) fun c s1 ⟨H1,I1,q1⟩ => ?_)
  cases c with
  | true => exact ⟨H1,I1,q1⟩
  | false => exact hb wh pins s1 σ H1 Q I1 q1
theorem pt_not (ha : PT X a tA) : PT X (.UnaryOp .Not a pos) (tNot tA) := by
  intro pins s σ H Q I h
  exact isTrue_not (ha pins s σ H (fun c H1 => Q (!c) H1) I h)
def tAndV (ta tb : TE) : TE := fun σ H Q => ta σ H fun x H1 => ∃ c,x = .bl c /\ if c = true then tb σ H1 Q else Q (.bl false) H1
def tOrV (ta tb : TE) : TE := fun σ H Q => ta σ H fun x H1 => ∃ c,x = .bl c /\ if c = true then Q (.bl true) H1 else tb σ H1 Q
def tNotV (ta : TE) : TE := fun σ H Q => ta σ H fun x H1 => ∃ c,x = .bl c /\ Q (.bl (!c)) H1
theorem pe_one {op}{t : TE}(h : PE X a t) : PE X (.BoolOp op [a] pos) t := fun pins s σ H Q I hw => BoolOp_one (h pins s σ H Q I hw)
theorem pe_and (ha : PE X a ta)(hb : PE X (.BoolOp .And (b :: rest) pos) tb) : PE X (.BoolOp .And (a :: b :: rest) pos) (tAndV ta tb) := by
  intro pins s σ H Q I h
  refine BoolOp_and (thn (ha pins s σ H _ I h) fun v s1 ⟨x,H1,I1,r1,q1⟩ => ?_)
  obtain ⟨c,rfl,q1⟩ := q1
  cases r1
  refine wpAny_truthy_bool ?_
  cases c with
  | true => exact hb pins s1 σ H1 Q I1 q1
  | false => exact ⟨.bl false,H1,I1,rfl,q1⟩
theorem pe_or (ha : PE X a ta)(hb : PE X (.BoolOp .Or (b :: rest) pos) tb) : PE X (.BoolOp .Or (a :: b :: rest) pos) (tOrV ta tb) := by
  intro pins s σ H Q I h
  refine BoolOp_or (thn (ha pins s σ H _ I h) fun v s1 ⟨x,H1,I1,r1,q1⟩ => ?_)
  obtain ⟨c,rfl,q1⟩ := q1
  cases r1
  refine wpAny_truthy_bool ?_
  cases c with
  | false => exact hb pins s1 σ H1 Q I1 q1
  | true => exact ⟨.bl true,H1,I1,rfl,q1⟩
theorem pe_not (ha : PE X a ta) : PE X (.UnaryOp .Not a pos) (tNotV ta) := by
  intro pins s σ H Q I h
  refine UnaryOp_ (thn (ha pins s σ H _ I h) fun v s1 ⟨x,H1,I1,r1,q1⟩ => ?_)
  obtain ⟨c,rfl,q1⟩ := q1
  cases r1
  exact not_of (wpAny_truthy_bool ⟨.bl (!c),H1,I1,rfl,q1⟩)
end
end L2
namespace L2
open PySem PySem.Spec PyProof.Rows
def SqL (K : PySem.W.Frag)(H : Hp)(a : Addr)(xs : List V) : Prop :=
  Rd H a (.lst xs) \/
    ∃ (o : Obj) (its : Array Value) (n : Nat),K.lookup a = some o /\ o.cls = .type "list" /\ o.dict = none /\ o.data = .seq its n /\ its.size <= sizeLine /\ Vals xs its.toList
def SqT (K : PySem.W.Frag)(H : Hp)(a : Addr)(xs : List V) : Prop :=
  Rd H a (.tup xs) \/
    ∃ (o : Obj) (its : Array Value) (n : Nat),K.lookup a = some o /\ o.cls = .type "tuple" /\ o.data = .seq its n /\ its.size <= sizeLine /\ Vals xs its.toList
def absV : Value -> Option V
  | .none => some .non
  | .bool b => some (.bl b)
  | .int i _ => some (.int i)
  | .str x _ => some (.str x)
  | .bytes b _ => some (.byt b)
  | .float b _ => some (.flt b)
  | .ref a => some (.ref a)
  | .type n => some (.ty n)
  | _ => none
theorem RelV.abs {x : V}{u : Value}(r : RelV x u) : absV u = some x := by
  cases x with
  | non => cases r; rfl
  | bl _ => cases r; rfl
  | int _ => obtain ⟨t,rfl⟩ := r; rfl
  | str _ => obtain ⟨t,rfl⟩ := r; rfl
  | byt _ => obtain ⟨t,rfl⟩ := r; rfl
  | flt _ => obtain ⟨t,rfl⟩ := r; rfl
  | ref _ => cases r; rfl
  | ty _ => cases r; rfl
theorem RelV.inj {x y : V}{u : Value}(r : RelV x u)(q : RelV y u) : x = y := Option.some.inj (r.abs.symm.trans q.abs)
theorem Vals.inj : ∀ {xs ys : List V} {us : List Value},Vals xs us -> Vals ys us -> xs = ys
  | _,_,_,.nil,.nil => rfl
  | _,_,_,.cons r t,.cons r' t' => by rw [r.inj r',Vals.inj t t']
section
variable {X : Cx}{pins : List (Addr × Obj)}{σ : St}{H : Hp}{s : Shared}{a : Addr}{xs ys : List V}
theorem SqL.of {K : PySem.W.Frag}(h : H a = some (.lst xs)) : SqL K H a xs := .inl (.inl h)
theorem SqT.of {K : PySem.W.Frag}(h : H a = some (.tup xs)) : SqT K H a xs := .inl (.inl h)
theorem Inv.list (I : Inv X pins σ H s)(h : SqL X.K H a xs) : ∃ its : List Value,Vals xs its /\ PlainL s.heap a its.toArray /\ xs.length <= sizeLine := by
  rcases h with h | ⟨o,its,n,hk,hc,hd,hs,hz,r⟩
  · obtain ⟨z,its,n,r,e⟩ := h.ok I.hok
    exact ⟨its,r,⟨_,n,e,rfl,rfl,rfl⟩,z⟩
  · refine ⟨its.toList,r,⟨o,n,I.kIn a o hk,hc,hd,by simpa using hs⟩,?_⟩
    have e := r.length
    simp only [Array.length_toList] at e
    omega
theorem Inv.tuple (I : Inv X pins σ H s)(h : SqT X.K H a xs) : ∃ its : List Value,Vals xs its /\ IsTup s.heap a its.toArray /\ xs.length <= sizeLine := by
  rcases h with h | ⟨o,its,n,hk,hc,hs,hz,r⟩
  · obtain ⟨z,its,r,p⟩ := h.ok I.hok
    exact ⟨its,r,p,z⟩
  · refine ⟨its.toList,r,⟨o,I.kIn a o hk,hc,n,by simpa using hs⟩,?_⟩
    have e := r.length
    simp only [Array.length_toList] at e
    omega
theorem Inv.list_inj (I : Inv X pins σ H s)(h : SqL X.K H a xs)(h' : SqL X.K H a ys) : xs = ys := by
  obtain ⟨its,r,⟨o,n,e,_,_,d⟩,_⟩ := I.list h
  obtain ⟨its',r',⟨o',n',e',_,_,d'⟩,_⟩ := I.list h'
  rw [e] at e'; cases e'
  rw [d] at d'
  injection d' with d1 _
  have : its = its' := by simpa using congrArg Array.toList d1
  subst this
  exact r.inj r'
theorem Inv.tuple_inj (I : Inv X pins σ H s)(h : SqT X.K H a xs)(h' : SqT X.K H a ys) : xs = ys := by
  obtain ⟨its,r,⟨o,e,_,n,d⟩,_⟩ := I.tuple h
  obtain ⟨its',r',⟨o',e',_,n',d'⟩,_⟩ := I.tuple h'
  rw [e] at e'; cases e'
  rw [d] at d'
  injection d' with d1 _
  have : its = its' := by simpa using congrArg Array.toList d1
  subst this
  exact r.inj r'
end
abbrev Cx.wish (X : Cx)(E : Value -> Shared -> Prop) : Cx := { X with xe := E }
abbrev Cx.nox (X : Cx) : Cx := X.wish fun _ _ => False
theorem Cx.Ok.wish {X : Cx}(ok : X.Ok)(E : Value -> Shared -> Prop) : (X.wish E).Ok :=
  ⟨ok.mod,ok.kind,ok.glob,ok.blt,ok.above,ok.inj,ok.has,ok.cab,ok.hd,ok.frames,ok.stk,ok.exf,ok.bs,ok.bsz,ok.noex,ok.exfs,ok.funs,ok.frf⟩
theorem Cx.Ok.unwish {X : Cx}{E : Value -> Shared -> Prop}(ok : (X.wish E).Ok) : X.Ok :=
  ⟨ok.mod,ok.kind,ok.glob,ok.blt,ok.above,ok.inj,ok.has,ok.cab,ok.hd,ok.frames,ok.stk,ok.exf,ok.bs,ok.bsz,ok.noex,ok.exfs,ok.funs,ok.frf⟩
section
variable {X : Cx}{pins : List (Addr × Obj)}{σ : St}{H : Hp}{s : Shared}{E : Value -> Shared -> Prop}
theorem Inv.wish (I : Inv X pins σ H s)(E : Value -> Shared -> Prop) : Inv (X.wish E) pins σ H s := ⟨I.ok.wish E,I.os,I.bare,I.base,I.loc,I.cell,I.free,I.freeC,I.pin,I.hok,I.len⟩
theorem Inv.unwish (I : Inv (X.wish E) pins σ H s) : Inv X pins σ H s := ⟨I.ok.unwish,I.os,I.bare,I.base,I.loc,I.cell,I.free,I.freeC,I.pin,I.hok,I.len⟩
theorem SP.unwish {D : Ends}{f : Flow}{s' : Shared}(h : SP (X.wish E) pins D f s') : SP X pins D f s' := by
  cases f with
  | next => obtain ⟨σ',H',I,q⟩ := h; exact ⟨σ',H',I.unwish,q⟩
  | brk => obtain ⟨σ',H',I,q⟩ := h; exact ⟨σ',H',I.unwish,q⟩
  | cont => obtain ⟨σ',H',I,q⟩ := h; exact ⟨σ',H',I.unwish,q⟩
  | ret u => obtain ⟨v,σ',H',I,r,q⟩ := h; exact ⟨v,σ',H',I.unwish,r,q⟩
theorem PSs.nox {st : List Stmt}{t : TS}(h : PSs X.nox st t) : PSs X st t := fun pins s σ H D I hw =>
  wpAny_mono (h pins s σ H D (I.wish _) hw) (fun _ _ q => q.unwish) fun _ _ z => False.elim z
end
section
variable {X : Cx}{st : Stmt}{rest : List Stmt}{t u : TS}{e : Expr}{te : TE}{pos : Pos}
def tNext : TS := fun D σ H => D.nx σ H
def tSeq (t u : TS) : TS := fun D σ H => t { D with nx := u D } σ H
theorem pss_nil : PSs X [] tNext := fun _ _ σ H _ I h => wpAny_execs_nil ⟨σ,H,I,h⟩
theorem pss_cons (h1 : PS X st t)(h2 : PSs X rest u) : PSs X (st :: rest) (tSeq t u) := by
  intro pins s σ H D I h
  refine wpAny_execs_cons (thn (h1 pins s σ H { D with nx := u D } I h) fun f s1 q => ?_)
  cases f with
  | next =>
    obtain ⟨σ',H',I',q⟩ := q
    exact h2 pins s1 σ' H' D I' q
  | ret v => exact q
  | brk => exact q
  | cont => exact q
theorem pss_one (h1 : PS X st t) : PSs X [st] t := by
  intro pins s σ H D I h
  refine wpAny_execs_cons (thn (h1 pins s σ H D I h) fun f s1 q => ?_)
  cases f with
  | next => exact wpAny_execs_nil q
  | ret v => exact q
  | brk => exact q
  | cont => exact q
theorem Inv.quiet {pins : List (Addr × Obj)}{σ : St}{H : Hp}{s : Shared}(I : Inv X pins σ H s) : interactive X.env = false := by simp [interactive,I.ok.kind]
def tDrop (te : TE) : TS := fun D σ H => te σ H fun _ H1 => D.nx σ H1
theorem ps_expr (he : PE X e te)(hs : swapsWith e none pos.line X.env = pure false := by rfl) : PS X (.Expr e pos) (tDrop te) := by
  intro pins s σ H D I h
  exact wpAny_Expr_any (thn (he pins s σ H _ I h) fun v s1 ⟨x,H1,I1,r1,q1⟩ => ⟨σ,H1,I1,q1⟩) I.quiet hs
def tRet (te : TE) : TS := fun D σ H => te σ H D.rt
theorem ps_ret (he : PE X e te) : PS X (.Return (some e) pos) (tRet te) := by
  intro pins s σ H D I h
  exact wpAny_Return_some (thn (he pins s σ H _ I h) fun v s1 ⟨x,H1,I1,r1,q1⟩ => ⟨x,σ,H1,I1,r1,q1⟩)
def tIfS (c : TT)(t u : TS) : TS := fun D σ H => c σ H fun b H1 => if b = true then t D σ H1 else u D σ H1
theorem ps_if {c : Expr}{a b : List Stmt}{tc : TT}(hc : PT X c tc)(ha : PSs X a t)(hb : PSs X b u) : PS X (.If c a b pos) (tIfS tc t u) := by
  intro pins s σ H D I h
  refine wpAny_If (thn (hc pins s σ H _ I h) fun d s1 ⟨H1,I1,q1⟩ => ?_)
  cases d with
  | true => exact ha pins s1 σ H1 D I1 q1
  | false => exact hb pins s1 σ H1 D I1 q1
end
abbrev TG := V -> St -> Hp -> (St -> Hp -> Prop) -> Prop
abbrev TGs := List V -> St -> Hp -> (St -> Hp -> Prop) -> Prop
def PG (X : Cx)(target : Expr)(t : TG) : Prop :=
  ∀ (pins : List (Addr × Obj)) (s : Shared) (σ : St) (H : Hp) (v : V) (u : Value) (Q : St -> Hp -> Prop),Inv X pins σ H s -> RelV v u -> t v σ H Q ->
    wpAny (model X.prog X.w) X.A (assign target X.env u) (fun _ s' => ∃ σ' H',Inv X pins σ' H' s' /\ Q σ' H') X.xe s
def PGs (X : Cx)(ts : List Expr)(t : TGs) : Prop :=
  ∀ (pins : List (Addr × Obj)) (s : Shared) (σ : St) (H : Hp) (vs : List V) (us : List Value) (Q : St -> Hp -> Prop),Inv X pins σ H s -> Vals vs us -> t vs σ H Q ->
    wpAny (model X.prog X.w) X.A (assignInOrder ((assignEach ts X.env).map (·.2)) us) (fun _ s' => ∃ σ' H',Inv X pins σ' H' s' /\ Q σ' H') X.xe s
abbrev TSet := V -> V -> V -> Hp -> (Hp -> Prop) -> Prop
def PSet (X : Cx)(t : TSet) : Prop :=
  ∀ (pins : List (Addr × Obj)) (s : Shared) (σ : St) (H : Hp) (o i v : V) (ov iv u : Value) (Q : Hp -> Prop),Inv X pins σ H s -> RelV o ov -> RelV i iv -> RelV v u -> t o i v H Q ->
    wpAny (model X.prog X.w) X.A (setItem ov iv u) (fun _ s' => ∃ H',Inv X pins σ H' s' /\ Q H') X.xe s
abbrev TIp := V -> V -> Hp -> VK -> Prop
def PIp (X : Cx)(op : Operator)(t : TIp) : Prop :=
  ∀ (pins : List (Addr × Obj)) (s : Shared) (σ : St) (H : Hp) (x y : V) (v u : Value) (Q : VK),Inv X pins σ H s -> RelV x v -> RelV y u -> t x y H Q ->
    wpAny (model X.prog X.w) X.A (inplaceOp op v u) (EP X pins σ Q) X.xe s
section
variable {X : Cx}{pos : Pos}
def gName (i : Nat) : TG := fun v σ H Q => Q (σ.set i (some v)) H
theorem pg_name {i : Nat} {x : Str} (hN : X.N.Nodup) (hi : X.N[i]? = some x) (hx : Loc X.env.scope x) (hf : X.fn x = true \/ X.env.scope.names.lookup x = some .local := by first | exact .inl rfl | exact .inr rfl | assumption) : PG X (.Name x pos) (gName i) := by
  intro pins s σ H v u Q I r h
  exact wpAny_assign_Name (store_ok I hN hi hx r (fun s' I' => ⟨_,H,I',h⟩) hf)
def gNil : TGs := fun vs σ H Q => vs = [] /\ Q σ H
def gCons (t : TG)(u : TGs) : TGs := fun vs σ H Q => ∃ v r,vs = v :: r /\ t v σ H fun σ' H' => u r σ' H' Q
theorem pgs_nil : PGs X [] gNil := by
  intro pins s σ H vs us Q I r h
  obtain ⟨e,h⟩ := h
  subst e
  cases r
  exact assignInOrder_nil ⟨σ,H,I,h⟩
theorem pgs_cons {e : Expr}{es : List Expr}{t : TG}{u : TGs}(h1 : PG X e t)(h2 : PGs X es u)
    (hs : (assignEach (e :: es) X.env).map (·.2) = assign e X.env :: (assignEach es X.env).map (·.2) := by rfl) : PGs X (e :: es) (gCons t u) := by
  intro pins s σ H vs us Q I r h
  obtain ⟨v,vr,e1,h⟩ := h
  subst e1
  cases r with
  | cons r rr =>
    rw [hs]
    refine assignInOrder_cons (thn (h1 pins s σ H _ _ _ I r h) fun _ s1 ⟨σ1,H1,I1,q1⟩ => ?_)
    exact h2 pins s1 σ1 H1 _ _ Q I1 rr q1
def gTup (K : PySem.W.Frag)(n : Nat)(t : TGs) : TG := fun v σ H Q => ∃ a xs,v = .ref a /\ SqT K H a xs /\ xs.length = n /\ t xs σ H Q
theorem pg_tup {es : List Expr}{k : Nat}{t : TGs}{n : Nat}(hc : X.calm = true)(h : PGs X es t)
    (hn : (assignEach es X.env).length = n := by rfl) (hst : (assignEach es X.env).findIdx? (·.1) = none := by rfl) : PG X (.Tuple es k pos) (gTup X.K n t) := by
  intro pins s σ H v u Q I r hw
  obtain ⟨a,xs,e1,hq,hl,hw⟩ := hw
  subst e1
  cases r
  obtain ⟨its,rv,ht,hz⟩ := I.tuple hq
  refine assign_Tuple_tuple (I.ok.hd hc) ht (by simp [hn,<- hl,rv.length]) hst fun h' hx => ?_
  have I1 : Inv X pins σ H { s with heap := h' } := I.kept (t' := s.toks) fun b o e => hx b o (Nat.ne_of_lt (Heap.lt_size e)) e
  exact h pins _ σ H xs _ Q I1 (by simpa using rv) hw
def gSub (to ti : TE)(t : TSet) : TG := fun v σ H Q => to σ H fun o H1 => ti σ H1 fun i H2 => t o i v H2 fun H3 => Q σ H3
theorem pg_sub {o i : Expr}{to ti : TE}{t : TSet}(ho : PE X o to)(hi : PE X i ti)(hs : PSet X t)
    (ha : ∀ v,assign (.Subscript o i pos) X.env v = (do
      let ov <- holding [v] (eval o X.env)
      let iv <- holding [v,ov] (eval i X.env)
      standAt pos
      holding [v,ov,iv] (setItem ov iv v)
      release [v,ov,iv] []) := by intro _; rfl) : PG X (.Subscript o i pos) (gSub to ti t) := by
  intro pins s σ H v u Q I r h
  rw [ha]
  refine wpAny_bind (wpAny_holding (thn (ho pins s σ H _ I h) fun ov s1 ⟨x,H1,I1,r1,q1⟩ => ?_))
  refine wpAny_bind (wpAny_holding (thn (hi pins s1 σ H1 _ I1 q1) fun iv s2 ⟨y,H2,I2,r2,q2⟩ => ?_))
  refine wpAny_bind (wpAny_standAt (wpAny_bind (wpAny_holding (thn (hs pins s2 σ H2 x y v ov iv u _ I2 r1 r2 r q2) fun _ s3 ⟨H3,I3,q3⟩ => ?_))))
  exact wpAny_release ⟨σ,H3,I3,q3⟩
def tAsg (te : TE)(g : TG) : TS := fun D σ H => te σ H fun x H1 => g x σ H1 D.nx
theorem ps_asg {tg e : Expr}{te : TE}{g : TG}(he : PE X e te)(hg : PG X tg g)(hs : swapsWithSole [tg] e pos.line X.env = pure false := by rfl)(hw : swappedStores [tg] e X.env = pure none := by rfl)
    (h1 : (assignEach [tg] X.env).map (·.2) = [assign tg X.env] := by rfl) : PS X (.Assign [tg] e pos) (tAsg te g) := by
  intro pins s σ H D I h
  refine wpAny_Assign_stores (thn (he pins s σ H _ I h) fun v s1 ⟨x,H1,I1,r1,q1⟩ => ?_) hs hw
  rw [h1]
  exact thn (hg pins s1 σ H1 x v _ I1 r1 q1) fun _ s2 q => q
theorem ps_set {i : Nat} {x : Str} {e : Expr} {te : TE} {pos' : Pos} (hN : X.N.Nodup) (hi : X.N[i]? = some x) (hx : Loc X.env.scope x) (he : PE X e te) (hs : swapsWith e (some (.Name x pos')) pos.line X.env = pure false := by rfl) (hf : X.fn x = true \/ X.env.scope.names.lookup x = some .local := by first | exact .inl rfl | exact .inr rfl | assumption) :
    PS X (.Assign [.Name x pos'] e pos) (tAsg te (gName i)) := by
  intro pins s σ H D I h
  refine wpAny_Assign_Name (thn (he pins s σ H _ I h) fun v s1 ⟨y,H1,I1,r1,q1⟩ => ?_) hs
  exact store_ok I1 hN hi hx r1 (fun s2 I2 => ⟨_,H1,I2,q1⟩) hf
def tAug (i : Nat)(te : TE)(ti : TIp) : TS := fun D σ H => ∃ x,σ[i]? = some (some x) /\ te σ H fun y H1 => ti x y H1 fun z H2 => D.nx (σ.set i (some z)) H2
theorem ps_aug {i : Nat} {x : Str} {e : Expr} {te : TE} {op : Operator} {ti : TIp} {pos' : Pos} (hN : X.N.Nodup) (hi : X.N[i]? = some x) (hx : Loc X.env.scope x) (he : PE X e te) (ho : PIp X op ti) (hf : X.fn x = true \/ X.env.scope.names.lookup x = some .local := by first | exact .inl rfl | exact .inr rfl | assumption) :
    PS X (.AugAssign (.Name x pos') op e pos) (tAug i te ti) := by
  intro pins s σ H D I h
  obtain ⟨v,e1,h⟩ := h
  obtain ⟨m,hn,hl⟩ := I.loc
  have vis : Vis X.env.scope x := by rcases hx with k | k; exact .inl k; exact .inr (.inl k)
  obtain ⟨u,r,l⟩ := hl i x v hi e1 vis
  refine wpAny_AugAssign_Name ?_
  have go : wpAny (model X.prog X.w) X.A (eval e X.env) (fun w s₂ => wpAny (model X.prog X.w) X.A (inplaceOp op u w) (fun r s₃ => wpAny (model X.prog X.w) X.A (storeName X.env x r) (fun _ => SP X pins D .next) X.xe s₃) X.xe s₂) X.xe s := by
    refine thn (he pins s σ H _ I h) fun w s1 ⟨y,H1,I1,r1,q1⟩ => ?_
    refine thn (ho pins s1 σ H1 v y u w _ I1 r r1 q1) fun z s2 ⟨zv,H2,I2,r2,q2⟩ => ?_
    exact store_ok I2 hN hi hx r2 (fun s3 I3 => ⟨_,H2,I3,q2⟩) hf
  rcases l with ⟨hk,hm⟩ | ⟨hk,c,hc,hcell⟩
  · exact wpAny_loadName_local I.ok.kind hk hn hm go
  · rcases hk with hk | hk
    · exact wpAny_loadName_cell I.ok.kind hk hc hcell go
    · rcases hx with k | k
      · have : X.env.scope.names.lookup x = some .free := hk
        rw [k] at this; cases this
      · have : X.env.scope.names.lookup x = some .free := hk
        rw [k] at this; cases this
def ipI (f : Int -> Int -> Int) : TIp := fun x y H Q => ∃ i j,x = .int i /\ y = .int j /\ Q (.int (f i j)) H
theorem ip_add : PIp X .Add (ipI fun i j => i + j) := by
  intro pins s σ H x y v u Q I r1 r2 h
  obtain ⟨i,j,e1,e2,q⟩ := h
  subst e1; subst e2
  obtain ⟨t,rfl⟩ := r1
  obtain ⟨t',rfl⟩ := r2
  exact iadd_int ⟨.int _,H,I.tok _,⟨_,rfl⟩,q⟩
end
section
variable {X : Cx}{pos : Pos}
def tWhile (c : TT)(tb : TS) : TS := fun D σ H => ∃ W : Nat -> St -> Hp -> Prop,(∃ m,W m σ H) /\ ∀ m σ H,W m σ H ->
  c σ H fun b H1 => if b = true then ∃ N : St -> Hp -> Prop,(∀ σ' H',N σ' H' -> ∃ m',m' < m /\ W m' σ' H') /\ tb { D with nx := N,ct := N,bk := D.nx } σ H1 else D.nx σ H1
theorem ps_while {c : Expr}{body : List Stmt}{tc : TT}{tb : TS}(hp : PassesOwn (model X.prog X.w) X.A X.env X.xe)(hc : PT X c tc)(hb : PSs X body tb) : PS X (.While c body [] pos) (tWhile tc tb) := by
  intro pins s σ H D I h
  obtain ⟨W,⟨m0,w0⟩,turn⟩ := h
  refine wpAny_While (codeAny_whileLoop (fun n s' => ∃ σ' H',Inv X pins σ' H' s' /\ W n σ' H') ?_ m0 ⟨σ,H,I,w0⟩)
  rintro n s1 ⟨σ1,H1,I1,w1⟩
  refine wpAny_passesOwn hp (thn (hc pins s1 σ1 H1 _ I1 (turn n σ1 H1 w1)) fun b s2 ⟨H2,I2,q2⟩ => ?_)
  cases b with
  | true =>
    obtain ⟨N,hN,q2⟩ := q2
    rw [if_pos rfl]
    refine wpAny_passesOwn hp (thn (hb pins s2 σ1 H2 _ I2 q2) fun f s3 q3 => ?_)
    cases f with
    | next =>
      obtain ⟨σ3,H3,I3,n3⟩ := q3
      obtain ⟨m',hm,w3⟩ := hN σ3 H3 n3
      exact ⟨m',hm,σ3,H3,I3,w3⟩
    | cont =>
      obtain ⟨σ3,H3,I3,n3⟩ := q3
      obtain ⟨m',hm,w3⟩ := hN σ3 H3 n3
      exact ⟨m',hm,σ3,H3,I3,w3⟩
    | brk => exact q3
    | ret v => exact q3
  | false =>
    rw [if_neg Bool.false_ne_true]
    exact wpAny_execs_nil ⟨σ1,H2,I2,q2⟩
end
structure It where
  go : Nat -> Hp -> Prop
  yld : Nat -> Hp -> V -> Hp -> Prop
  stop : Nat -> Hp -> Prop
def FpOk (X : Cx)(pins : List (Addr × Obj))(H : Hp)(b : Addr) : Prop :=
  H b = none /\ b ≠ X.env.locals /\ b ∉ X.fs /\ (b ∈ X.ex \/ X.s₀.heap.objs.size <= b) /\ (∀ x c,X.env.cells.lookup x = some c -> c ≠ b) /\ ∀ p ∈ X.pn ++ pins,p.1 ≠ b
theorem Inv.fpOk {X : Cx}{pins : List (Addr × Obj)}{σ : St}{H H' : Hp}{s : Shared}{b : Addr}(I : Inv X pins σ H s)(hb : s.heap.objs.size <= b)(hn : H' b = none) : FpOk X pins H' b := by
  refine ⟨hn,Nat.ne_of_gt (Nat.lt_of_lt_of_le I.lt hb),I.nofs hb,.inr (Nat.le_trans I.sz hb),fun x c e z => ?_,fun p hp z => ?_⟩
  · obtain ⟨v,q⟩ := I.cell x c e
    exact absurd (Nat.lt_of_lt_of_le q.lt (by rw [z]; exact hb)) (Nat.lt_irrefl _)
  · exact absurd (Nat.lt_of_lt_of_le (Heap.lt_size (I.pin p hp).1) (by rw [z]; exact hb)) (Nat.lt_irrefl _)
structure Turn (P : Program)(w : World)(K : PySem.W.Frag)(tg : Expr)(J : It)(fp : List Addr)(it : Addr)(tn : Nat -> Heap -> Prop) : Prop where
  mem : it ∈ fp
  obj : ∀ i h,tn i h -> ∀ b ∈ fp,∃ o,h.get? b = some o /\ ∀ v,o.data ≠ .cell v
  keep : ∀ i h h',tn i h -> (∀ b ∈ fp,∀ o,h.get? b = some o -> h'.get? b = some o) -> tn i h'
  item : ∀ (X : Cx),X.prog = P -> X.w = w -> X.K = K -> X.calm = true -> ∀ (i : Nat) (pins : List (Addr × Obj)) (s : Shared) (σ : St) (H : Hp) (E : Value -> Shared -> Prop),Inv X pins σ H s -> (∀ b ∈ fp,FpOk X pins H b) -> tn i s.heap -> J.go i H ->
    wpAny (model P w) X.A (pyNext (.ref it)) (fun r s1 => ∃ u,r = some u /\
      wpAny (model P w) X.A (letOwnedTupleGo tg (.ref it) u) (fun _ s2 => ∃ x H',Inv X pins σ H' s2 /\ RelV x u /\ J.yld i H x H' /\ tn (i + 1) s2.heap /\ ∀ b ∈ fp,H' b = none) E s1) E s
  done : ∀ (X : Cx),X.prog = P -> X.w = w -> X.K = K -> X.calm = true -> ∀ (i : Nat) (pins : List (Addr × Obj)) (s : Shared) (σ : St) (H : Hp) (E : Value -> Shared -> Prop),Inv X pins σ H s -> (∀ b ∈ fp,FpOk X pins H b) -> tn i s.heap -> J.stop i H ->
    wpAny (model P w) X.A (pyNext (.ref it)) (fun r s1 => r = none /\ Inv X pins σ H s1) E s
  self : ∀ (A : Around) (i : Nat) (s : Shared) (Q : Value -> Shared -> Prop) (E : Value -> Shared -> Prop),tn i s.heap -> Q (.ref it) s -> wpAny (model P w) A (pyIter (.ref it)) Q E s
abbrev TI := St -> Hp -> (It -> Hp -> Prop) -> Prop
def PIE (X : Cx)(pins : List (Addr × Obj))(σ : St)(tg : Expr)(R : It -> Hp -> Prop)(itv : Value)(s2 : Shared) : Prop :=
  ∃ (it : Addr) (fp : List Addr) (tn : Nat -> Heap -> Prop) (J : It) (H' : Hp),itv = .ref it /\ Inv X pins σ H' s2 /\ Turn X.prog X.w X.K tg J fp it tn /\ tn 0 s2.heap /\ (∀ b ∈ fp,FpOk X pins H' b) /\ R J H'
def PI (X : Cx)(tg iter : Expr)(wi : TI) : Prop :=
  ∀ (pins : List (Addr × Obj)) (s : Shared) (σ : St) (H : Hp) (R : It -> Hp -> Prop),Inv X pins σ H s -> wi σ H R ->
    wpAny (model X.prog X.w) X.A (eval iter X.env) (fun v s1 => wpAny (model X.prog X.w) X.A (pyIter v) (PIE X pins σ tg R) X.xe s1) X.xe s
theorem go_of {M : Model}{A : Around}{E : Value -> Shared -> Prop}{s : Shared}{tg : Expr}{it : Addr}{u : Value}{o : Obj}{n : String}{vs : Array Value}{Q : Unit -> Shared -> Prop}(ho : s.heap.get? it = some o)(hc : o.cls = .type n)(hd : o.data = .fields vs)
    (hn : ["enumerate","zip","dict_itemiterator","dict_reverseitemiterator","odict_iterator","itertools.zip_longest","itertools.pairwise"].contains n = false) (hQ : Q () s) : wpAny M A (letOwnedTupleGo tg (.ref it) u) Q E s := by
  unfold letOwnedTupleGo
  cases tg <;> first
    | exact wpAny_pure hQ
    | (cases u <;> first
        | exact wpAny_pure hQ
        | (refine wpAny_bind (wpAny_load ho ?_)
           rw [hc,hd]
           show wpAny M A (if (["enumerate","zip","dict_itemiterator","dict_reverseitemiterator","odict_iterator","itertools.zip_longest","itertools.pairwise"].contains n && vs[0]? == some (rawInt _)) = true then _ else _) Q E s
           rw [if_neg (by intro h; rw [hn,Bool.false_and] at h; cases h)]
           exact wpAny_pure hQ))
def Itl (K : PySem.W.Frag)(a : Addr) : It :=
  ⟨fun i H => ∃ xs x,SqL K H a xs /\ xs[i]? = some x,fun i H x H' => H' = H /\ ∀ xs,SqL K H a xs -> xs[i]? = some x,fun i H => ∃ xs,SqL K H a xs /\ xs.length <= i⟩
def Itt (K : PySem.W.Frag)(a : Addr) : It :=
  ⟨fun i H => ∃ xs x,SqT K H a xs /\ xs[i]? = some x,fun i H x H' => H' = H /\ ∀ xs,SqT K H a xs -> xs[i]? = some x,fun i H => ∃ xs,SqT K H a xs /\ xs.length <= i⟩
def Itr (lo : Int)(n : Nat) : It := ⟨fun i _ => i < n,fun i H x H' => H' = H /\ x = .int (lo + i),fun i _ => n <= i⟩
theorem turn_list {P : Program}{w : World}{K : PySem.W.Frag}{tg : Expr}(a it : Addr) : Turn P w K tg (Itl K a) [it] it (fun i h => h.IsListIter it a i) where
  mem := by simp
  obj := fun i h st b hb => by
    have e : b = it := by simpa using hb
    subst e
    obtain ⟨o,e,c,d⟩ := st
    exact ⟨o,e,fun v z => by rw [d] at z; cases z⟩
  keep := fun i h h' st k => st.at fun o e => k it (by simp) o e
  item := by
    intro X hP hw hK hc i pins s σ H E I hf st hg
    subst hP hw hK
    obtain ⟨xs,x,hq,hx⟩ := hg
    obtain ⟨its,rv,p,hz⟩ := I.list hq
    obtain ⟨u,hu,ru⟩ := rv.get hx
    obtain ⟨f0,f1,f2,f3,f4,f5⟩ := hf it (by simp)
    refine wpAny_pyNext_list_item st p.isList (x := u) (by simpa using hu) fun h' st' sb => ?_
    have I1 : Inv X pins σ H { s with heap := h' } := I.turned (t' := s.toks) (fun b o hb e => (sb.2 b hb).trans e) f0 f1 f3 f4 f5
    obtain ⟨o,e,c,d⟩ := id st'
    exact ⟨u,rfl,go_of (s := { s with heap := h' }) e c d (by decide) ⟨x,H,I1,ru,⟨rfl,fun ys hy => by rw [I.list_inj hy hq]; exact hx⟩,st',fun b hb => (hf b hb).1⟩⟩
  done := by
    intro X hP hw hK hc i pins s σ H E I hf st hg
    subst hP hw hK
    obtain ⟨xs,hq,hx⟩ := hg
    obtain ⟨its,rv,p,hz⟩ := I.list hq
    obtain ⟨f0,f1,f2,f3,f4,f5⟩ := hf it (by simp)
    have hl := rv.length
    exact wpAny_pyNext_list_end (I.ok.hd hc) st p.isList (by simp; omega) fun h' eb => ⟨rfl,I.turned (t' := s.toks) (fun b o hb e => eb b o hb e) f0 f1 f3 f4 f5⟩
  self := fun _ _ _ _ _ st h => wpAny_pyIter_listiter st h
theorem turn_tuple {P : Program}{w : World}{K : PySem.W.Frag}{tg : Expr}(a it : Addr) : Turn P w K tg (Itt K a) [it] it (fun i h => h.IsTupleIter it a i) where
  mem := by simp
  obj := fun i h st b hb => by
    have e : b = it := by simpa using hb
    subst e
    obtain ⟨o,e,c,d⟩ := st
    exact ⟨o,e,fun v z => by rw [d] at z; cases z⟩
  keep := fun i h h' st k => st.at fun o e => k it (by simp) o e
  item := by
    intro X hP hw hK hc i pins s σ H E I hf st hg
    subst hP hw hK
    obtain ⟨xs,x,hq,hx⟩ := hg
    obtain ⟨its,rv,p,hz⟩ := I.tuple hq
    obtain ⟨u,hu,ru⟩ := rv.get hx
    obtain ⟨f0,f1,f2,f3,f4,f5⟩ := hf it (by simp)
    refine wpAny_pyNext_tuple_item st (show s.heap.IsTuple a its.toArray from p) (x := u) (by simpa using hu) fun h' st' sb => ?_
    have I1 : Inv X pins σ H { s with heap := h' } := I.turned (t' := s.toks) (fun b o hb e => (sb.2 b hb).trans e) f0 f1 f3 f4 f5
    obtain ⟨o,e,c,d⟩ := id st'
    exact ⟨u,rfl,go_of (s := { s with heap := h' }) e c d (by decide) ⟨x,H,I1,ru,⟨rfl,fun ys hy => by rw [I.tuple_inj hy hq]; exact hx⟩,st',fun b hb => (hf b hb).1⟩⟩
  done := by
    intro X hP hw hK hc i pins s σ H E I hf st hg
    subst hP hw hK
    obtain ⟨xs,hq,hx⟩ := hg
    obtain ⟨its,rv,p,hz⟩ := I.tuple hq
    obtain ⟨f0,f1,f2,f3,f4,f5⟩ := hf it (by simp)
    have hl := rv.length
    exact wpAny_pyNext_tuple_end (I.ok.hd hc) st (show s.heap.IsTuple a its.toArray from p) (by simp; omega) fun h' eb => ⟨rfl,I.turned (t' := s.toks) (fun b o hb e => eb b o hb e) f0 f1 f3 f4 f5⟩
  self := fun _ _ _ _ _ st h => wpAny_pyIter_tupleiter st h
theorem turn_range {P : Program}{w : World}{K : PySem.W.Frag}{tg : Expr}(it : Addr)(lo : Int)(n : Nat) : Turn P w K tg (Itr lo n) [it] it (fun i h => IsRangeIter h it (lo + (i : Nat) * 1) ((n : Int) - (i : Nat)) 1) where
  mem := by simp
  obj := fun i h st b hb => by
    have e : b = it := by simpa using hb
    subst e
    exact ⟨_,st,fun v z => by
      have z' : Data.fields _ = Data.cell v := z
      cases z'⟩
  keep := fun i h h' st k => k it (by simp) _ st
  item := by
    intro X hP hw hK hc i pins s σ H E I hf st hg
    subst hP hw hK
    obtain ⟨f0,f1,f2,f3,f4,f5⟩ := hf it (by simp)
    have W := Walks.range (prog := X.prog) (w := X.w) (I.ok.hd hc) it lo 1 n
    refine W.item i s _ _ hg st fun v h' tk hv st' kk => ?_
    obtain ⟨t,rfl⟩ := hv
    have I1 : Inv X pins σ H { s with heap := h',toks := tk } := I.turned (fun b o hb e => kk b o (by simpa using hb) e) f0 f1 f3 f4 f5
    refine ⟨_,rfl,go_of (s := { s with heap := h',toks := tk }) (n := "range_iterator") st' rfl rfl (by decide) ⟨.int (lo + i),H,I1,⟨t,?_⟩,⟨rfl,rfl⟩,st',fun b hb => (hf b hb).1⟩⟩
    rw [Int.mul_one]
  done := by
    intro X hP hw hK hc i pins s σ H E I hf st hg
    subst hP hw hK
    obtain ⟨f0,f1,f2,f3,f4,f5⟩ := hf it (by simp)
    exact wpAny_pyNext_range_end (I.ok.hd hc) st (by have : n <= i := hg; omega) fun h' eb => ⟨rfl,I.turned (t' := s.toks) (fun b o hb e => eb b o hb e) f0 f1 f3 f4 f5⟩
  self := fun _ _ _ _ _ st h => wpAny_pyIter_rangeiter st h
end L2
namespace L2
open PySem PySem.Spec PyProof.Rows
section
variable {X : Cx}{tg : Expr}
theorem range_it {pins : List (Addr × Obj)}{σ : St}{H : Hp}{s : Shared}{R : It -> Hp -> Prop}{E : Value -> Shared -> Prop}{lo hi : Int}{t u v : Tok}{tk : Nat}(I : Inv X pins σ H s)(h1 : -(2 ^ 62) <= lo)(h2 : lo < 2 ^ 62)(h3 : -(2 ^ 62) <= hi)(h4 : hi < 2 ^ 62)
    (q : R (Itr lo (hi - lo).toNat) H) : wpAny (model X.prog X.w) X.A (pyIter (.ref s.heap.objs.size)) (PIE X pins σ tg R) E { s with heap := s.heap.push { cls := .type "range",data := .fields #[.int lo t,.int hi u,.int 1 v] },toks := tk } := by
  refine wpAny_pyIter_range (IsRange.new ..) (small_one h1 h2 h3 h4) ?_
  have I1 : Inv X pins σ H { s with heap := s.heap.push { cls := .type "range",data := .fields #[.int lo t,.int hi u,.int 1 v] },toks := tk } := I.kept fun b o e => Heap.get?_push_of_some _ e
  refine ⟨(s.heap.push { cls := .type "range",data := .fields #[.int lo t,.int hi u,.int 1 v] }).objs.size,[(s.heap.push { cls := .type "range",data := .fields #[.int lo t,.int hi u,.int 1 v] }).objs.size],_,_,H,rfl,
    I1.kept (t' := tk) fun b o e => Heap.get?_push_of_some _ e,turn_range _ lo (hi - lo).toNat,?_,fun b hb => ?_,q⟩
  · have e1 : lo + ((0 : Nat) : Int) * 1 = lo := by simp
    have e2 : (((hi - lo).toNat : Nat) : Int) - ((0 : Nat) : Int) = Builtin.Range.rangeSize lo hi 1 := by rw [rangeSize_one]; split <;> omega
    show IsRangeIter _ _ (lo + ((0 : Nat) : Int) * 1) ((((hi - lo).toNat : Nat) : Int) - ((0 : Nat) : Int)) 1
    rw [e1,e2]
    exact Heap.get?_push_size _ rfl
  · have e : b = (s.heap.push { cls := .type "range",data := .fields #[.int lo t,.int hi u,.int 1 v] }).objs.size := by simpa using hb
    subst e
    exact I1.fpOk (Nat.le_refl _) (I1.hok.fresh (Nat.le_refl _))
def iRng1 (ta : TA) : TI := fun σ H R => ta σ H fun vs H1 => ∃ j : Int,vs = [.int j] /\ -(2 ^ 62) <= j /\ j < 2 ^ 62 /\ R (Itr 0 j.toNat) H1
theorem pi_range1 {a : Expr}{ta : TA}{p pos : Pos}(hg : Gl X "range") (hm : X.mg "range" = none) (ha : PA X [a] ta) (hs : starEach [a] X.env = [(false,eval a X.env)] := by rfl) : PI X tg (.Call (.Name "range" p) [a] [] pos) (iRng1 ta) := by
  intro pins s σ H R I h
  refine Call_ (ld_blt I hg hm boot_range (PyProof.Rows.callWith_type1 (thn (ha pos pins s σ H _ I h) fun us s1 ⟨vs,H1,I1,r1,q1⟩ => ?_) hs rfl))
  obtain ⟨j,e,q1,q2,q⟩ := q1
  subst e
  cases r1 with
  | cons r rr =>
    cases rr
    obtain ⟨t,rfl⟩ := r
    exact call_range_1 (range_it I1 (by omega) (by omega) q1 q2 (by simpa using q))
def tFor (wi : TI)(g : TG)(tb : TS) : TS := fun D σ H => wi σ H fun J H1 => ∃ W : Nat -> Nat -> St -> Hp -> Prop,(∃ m,W 0 m σ H1) /\ ∀ i m σ H,W i m σ H ->
  (J.stop i H /\ D.nx σ H) \/ (J.go i H /\ ∃ N : St -> Hp -> Prop,(∀ σ' H',N σ' H' -> ∃ m',m' < m /\ W (i + 1) m' σ' H') /\ ∀ x H',J.yld i H x H' -> g x σ H' fun σ2 H2 => tb { D with nx := N,ct := N,bk := D.nx } σ2 H2)
def pinsAt (fp : List Addr)(h : Heap) : List (Addr × Obj) := fp.filterMap fun b => (h.get? b).map fun o => (b,o)
theorem mem_pinsAt {fp : List Addr}{h : Heap}{b : Addr}{o : Obj}(hb : b ∈ fp)(e : h.get? b = some o) : (b,o) ∈ pinsAt fp h := List.mem_filterMap.mpr ⟨b,hb,by rw [e]; rfl⟩
theorem of_pinsAt {fp : List Addr}{h : Heap}{p : Addr × Obj}(hp : p ∈ pinsAt fp h) : p.1 ∈ fp /\ h.get? p.1 = some p.2 := by
  obtain ⟨b,hb,e⟩ := List.mem_filterMap.mp hp
  cases q : h.get? b with
  | none => rw [q] at e; cases e
  | some o =>
    rw [q] at e
    have e' : (b,o) = p := Option.some.inj e
    subst e'
    exact ⟨hb,q⟩
theorem Inv.pinned {pins : List (Addr × Obj)}{σ : St}{H : Hp}{s : Shared}{fp : List Addr}(I : Inv X pins σ H s)(hf : ∀ b ∈ fp,FpOk X pins H b)(ho : ∀ b ∈ fp,∃ o,s.heap.get? b = some o /\ ∀ v,o.data ≠ .cell v) : Inv X (pins ++ pinsAt fp s.heap) σ H s :=
  I.pins_of fun p hp => (List.mem_append.mp hp).elim (fun z => I.pin p (List.mem_append_right _ z)) fun z => by
    obtain ⟨hb,e⟩ := of_pinsAt z
    obtain ⟨f0,f1,f2,_⟩ := hf p.1 hb
    obtain ⟨o,e',d⟩ := ho p.1 hb
    rw [e] at e'; cases e'
    exact ⟨e,f0,f1,f2,d⟩
theorem Inv.unpinned {pins pl : List (Addr × Obj)}{σ : St}{H : Hp}{s : Shared}(I : Inv X (pins ++ pl) σ H s) : Inv X pins σ H s := I.pins_of fun p hp => I.pin p (List.mem_append_right _ (List.mem_append_left _ hp))
theorem ps_for {iter : Expr}{body : List Stmt}{wi : TI}{g : TG}{tb : TS}{pos : Pos}(hp : PassesOwn (model X.prog X.w) X.A X.env X.xe)(hc : X.calm = true)(hi : PI X tg iter wi)(hg : PG X tg g)(hb : PSs X body tb)
    (hs : ∀ x,foldedSetIterable iter X.env x = pure x := by intro _; rfl) : PS X (.For tg iter body [] pos) (tFor wi g tb) := by
  intro pins s σ H D I h
  refine wpAny_For (thn (hi pins s σ H _ I h) fun v s1 h1 => thn h1 fun itv s2 h2 => ?_) hs
  obtain ⟨it,fp,tn,J,H2,e,I2,T,st2,f2,W,⟨m0,w0⟩,turn⟩ := h2
  subst e
  have stat : ∀ {H' : Hp},(∀ b ∈ fp,H' b = none) -> ∀ b ∈ fp,FpOk X pins H' b := fun hn b hb => ⟨hn b hb,(f2 b hb).2⟩
  refine codeAny_forLoop_any (fun n s' => ∃ i σ' H',Inv X pins σ' H' s' /\ tn i s'.heap /\ (∀ b ∈ fp,H' b = none) /\ W i n σ' H') ?_ m0 ⟨0,σ,H2,I2,st2,fun b hb => (f2 b hb).1,w0⟩
  rintro n s3 ⟨i,σ3,H3,I3,st3,fr3,w3⟩
  rcases turn i n σ3 H3 w3 with ⟨stop,qn⟩ | ⟨go,N,hN,step⟩
  · refine wpAny_passesOwn hp (thn (T.done X rfl rfl rfl hc i pins s3 σ3 H3 X.xe I3 (stat fr3) st3 stop) fun r s4 ⟨hr,I4⟩ => ?_)
    subst hr
    exact wpAny_execs_nil ⟨σ3,H3,I4,qn⟩
  · refine wpAny_passesOwn hp (thn (T.item X rfl rfl rfl hc i pins s3 σ3 H3 X.xe I3 (stat fr3) st3 go) fun r s4 ⟨u,hr,h4⟩ => ?_)
    subst hr
    refine wpAny_passesOwn hp (thn h4 fun _ s5 ⟨x,H5,I5,r5,y5,st5,fr5⟩ => ?_)
    have I5' := I5.pinned (stat fr5) (T.obj _ _ st5)
    refine wpAny_passesOwn hp (thn (hg _ s5 σ3 H5 x u _ I5' r5 (step x H5 y5)) fun _ s6 ⟨σ6,H6,I6,q6⟩ => ?_)
    refine wpAny_passesOwn hp (thn (hb _ s6 σ6 H6 _ I6 q6) fun f s7 q7 => ?_)
    have again : ∀ {σ7 : St} {H7 : Hp},Inv X (pins ++ pinsAt fp s5.heap) σ7 H7 s7 -> N σ7 H7 -> ∃ m,m < n /\ ∃ i σ' H',Inv X pins σ' H' s7 /\ tn i s7.heap /\ (∀ b ∈ fp,H' b = none) /\ W i m σ' H' := fun {σ7 H7} I7 n7 => by
      obtain ⟨m',hm,w7⟩ := hN σ7 H7 n7
      refine ⟨m',hm,i + 1,σ7,H7,I7.unpinned,T.keep _ _ _ st5 fun b hb o e => (I7.pin (b,o) (List.mem_append_right _ (List.mem_append_right _ (mem_pinsAt hb e)))).1,fun b hb => ?_,w7⟩
      obtain ⟨o,e,d⟩ := T.obj _ _ st5 b hb
      exact (I7.pin (b,o) (List.mem_append_right _ (List.mem_append_right _ (mem_pinsAt hb e)))).2.1
    cases f with
    | next => obtain ⟨σ7,H7,I7,n7⟩ := q7; exact again I7 n7
    | cont => obtain ⟨σ7,H7,I7,n7⟩ := q7; exact again I7 n7
    | brk => obtain ⟨σ7,H7,I7,q7⟩ := q7; exact ⟨σ7,H7,I7.unpinned,q7⟩
    | ret v => obtain ⟨x7,σ7,H7,I7,r7,q7⟩ := q7; exact ⟨x7,σ7,H7,I7.unpinned,r7,q7⟩
end
end L2
namespace L2
open PySem PySem.Spec PyProof.Rows
abbrev R2 := V -> V -> Hp -> VK -> Prop
def OpR (X : Cx)(f : Value -> Value -> Sem Value)(r : R2) : Prop :=
  ∀ (pins : List (Addr × Obj)) (s : Shared) (σ : St) (H : Hp) (x y : V) (v u : Value) (Q : VK),Inv X pins σ H s -> RelV x v -> RelV y u -> r x y H Q ->
    wpAny (model X.prog X.w) X.A (f v u) (EP X pins σ Q) X.xe s
def CallR (X : Cx)(f : Value)(r : List V -> Hp -> VK -> Prop) : Prop :=
  ∀ (pins : List (Addr × Obj)) (s : Shared) (σ : St) (H : Hp) (xs : List V) (us : List Value) (Q : VK),Inv X pins σ H s -> Vals xs us -> r xs H Q ->
    wpAny (model X.prog X.w) X.A (call f us) (EP X pins σ Q) X.xe s
def TruR (X : Cx)(r : V -> Hp -> (Bool -> Hp -> Prop) -> Prop) : Prop :=
  ∀ (pins : List (Addr × Obj)) (s : Shared) (σ : St) (H : Hp) (x : V) (v : Value) (Q : Bool -> Hp -> Prop),Inv X pins σ H s -> RelV x v -> r x H Q ->
    wpAny (model X.prog X.w) X.A (truthy v) (TP X pins σ Q) X.xe s
def tOp (r : R2)(ta tb : TE) : TE := fun σ H Q => ta σ H fun x H1 => tb σ H1 fun y H2 => r x y H2 Q
def rI (C : Int -> Int -> Prop)(g : Int -> Int -> V) : R2 := fun x y H Q => ∃ i j,x = .int i /\ y = .int j /\ C i j /\ Q (g i j) H
def rI0 (g : Int -> Int -> V) : R2 := fun x y H Q => ∃ i j,x = .int i /\ y = .int j /\ Q (g i j) H
section
variable {X : Cx}{a b c : Expr}{ta tb tc : TE}{pos : Pos}
theorem binT (ha : PE X a ta)(hb : PE X b tb){pins : List (Addr × Obj)}{s : Shared}{σ : St}{H : Hp}{R : V -> V -> Hp -> Prop}(I : Inv X pins σ H s)
    (h : ta σ H fun x H1 => tb σ H1 fun y H2 => R x y H2) {Q : Value -> Shared -> Prop} {f : Value -> Value -> Sem Value}
    (hf : ∀ v u s2 x y H2,Inv X pins σ H2 s2 -> RelV x v -> RelV y u -> R x y H2 -> wpAny (model X.prog X.w) X.A (f v u) Q X.xe s2) :
    wpAny (model X.prog X.w) X.A (eval a X.env) (fun v s₁ => wpAny (model X.prog X.w) X.A (eval b X.env) (fun u s₂ => wpAny (model X.prog X.w) X.A (f v u) Q X.xe s₂) X.xe s₁) X.xe s := by
  refine thn (ha pins s σ H _ I h) fun v s1 ⟨x,H1,I1,r1,q1⟩ => ?_
  refine thn (hb pins s1 σ H1 _ I1 q1) fun u s2 ⟨y,H2,I2,r2,q2⟩ => ?_
  exact hf v u s2 x y H2 I2 r1 r2 q2
theorem pe_op {op : Operator}{r : R2}(ho : OpR X (binaryOp op) r)(ha : PE X a ta)(hb : PE X b tb) : PE X (.BinOp a op b pos) (tOp r ta tb) := by
  intro pins s σ H Q I h
  exact wpAny_BinOp (binT ha hb I h fun v u s2 x y H2 I2 rx ry q => ho pins s2 σ H2 x y v u Q I2 rx ry q)
theorem opI {f : Value -> Value -> Sem Value}{C : Int -> Int -> Prop}{g : Int -> Int -> Int}
    (rule : ∀ (i j : Int) (t u : Tok) (s : Shared) (Q : Value -> Shared -> Prop) (E : Value -> Shared -> Prop),C i j -> Q (.int (g i j) s.toks) { s with toks := s.toks + 1 } -> wpAny (model X.prog X.w) X.A (f (.int i t) (.int j u)) Q E s) :
    OpR X f (rI C fun i j => .int (g i j)) := by
  intro pins s σ H x y v u Q I rx ry h
  obtain ⟨i,j,rfl,rfl,hc,q⟩ := h
  obtain ⟨t,rfl⟩ := rx
  obtain ⟨t',rfl⟩ := ry
  exact rule i j t t' s _ _ hc ⟨.int (g i j),H,I.tok _,⟨_,rfl⟩,q⟩
theorem opI0 {f : Value -> Value -> Sem Value}{g : Int -> Int -> Int}
    (rule : ∀ (i j : Int) (t u : Tok) (s : Shared) (Q : Value -> Shared -> Prop) (E : Value -> Shared -> Prop),Q (.int (g i j) s.toks) { s with toks := s.toks + 1 } -> wpAny (model X.prog X.w) X.A (f (.int i t) (.int j u)) Q E s) :
    OpR X f (rI0 fun i j => .int (g i j)) := by
  intro pins s σ H x y v u Q I rx ry h
  obtain ⟨i,j,rfl,rfl,q⟩ := h
  obtain ⟨t,rfl⟩ := rx
  obtain ⟨t',rfl⟩ := ry
  exact rule i j t t' s _ _ ⟨.int (g i j),H,I.tok _,⟨_,rfl⟩,q⟩
theorem opB0 {f : Value -> Value -> Sem Value}{g : Int -> Int -> Bool}
    (rule : ∀ (i j : Int) (t u : Tok) (s : Shared) (Q : Value -> Shared -> Prop) (E : Value -> Shared -> Prop),Q (.bool (g i j)) s -> wpAny (model X.prog X.w) X.A (f (.int i t) (.int j u)) Q E s) :
    OpR X f (rI0 fun i j => .bl (g i j)) := by
  intro pins s σ H x y v u Q I rx ry h
  obtain ⟨i,j,rfl,rfl,q⟩ := h
  obtain ⟨t,rfl⟩ := rx
  obtain ⟨t',rfl⟩ := ry
  exact rule i j t t' s _ _ ⟨.bl (g i j),H,I,rfl,q⟩
def CPow (i j : Int) : Prop := 0 <= j /\ j <= 1000000 /\ i.natAbs < 2 ^ 64
def CMul (i j : Int) : Prop := (-(2 ^ 64) < i /\ i < 2 ^ 64) \/ (-(2 ^ 64) < j /\ j < 2 ^ 64)
theorem CMul.ok {i j : Int}(h : CMul i j) : IntMulOk i j := by
  rcases h with ⟨h1,h2⟩ | ⟨h1,h2⟩
  · exact .of_left (intBits_le_64 h1 h2)
  · exact .of_right (intBits_le_64 h1 h2)
theorem op_add : OpR X (binaryOp .Add) (rI0 fun i j => .int (i + j)) := opI0 fun _ _ _ _ _ _ _ q => add_int q
theorem op_sub : OpR X (binaryOp .Sub) (rI0 fun i j => .int (i - j)) := opI0 fun _ _ _ _ _ _ _ q => sub_int q
theorem op_mod : OpR X (binaryOp .Mod) (rI (fun _ j => 0 < j) fun i j => .int (i % j)) := opI fun i j _ _ _ _ _ hc q => by
  have h1 : (0 : Int) < j := hc
  exact mod_int' (by omega) (by rw [Int.fmod_eq_emod_of_nonneg i (by omega)]; exact q)
theorem op_pow : OpR X (binaryOp .Pow) (rI CPow fun i j => .int (i ^ j.toNat)) := opI fun _ _ _ _ _ _ _ hc q => pow_int_small hc.1 hc.2.1 hc.2.2 q
end
def scal : V -> V -> Bool
  | .non,.non => true | .non,.int _ => true | .int _,.non => true | .non,.bl _ => true | .bl _,.non => true | .non,.str _ => true | .str _,.non => true
  | .int _,.int _ => true | .bl _,.bl _ => true | .str _,.str _ => true | .byt _,.byt _ => true
  | .int _,.str _ => true | .str _,.int _ => true | .bl _,.str _ => true | .str _,.bl _ => true
  | _,_ => false
def rEq : R2 := fun x y H Q => scal x y = true /\ Q (.bl (decide (x = y))) H
def rNe : R2 := fun x y H Q => scal x y = true /\ Q (.bl (!decide (x = y))) H
theorem dec_int {i j : Int} : decide (V.int i = V.int j) = (i == j) := by
  rw [Bool.eq_iff_iff]
  simp
theorem dec_bl {i j : Bool} : decide (V.bl i = V.bl j) = (i == j) := by
  rw [Bool.eq_iff_iff]
  simp
theorem dec_str {i j : Str} : decide (V.str i = V.str j) = (i == j) := by
  rw [Bool.eq_iff_iff]
  simp
theorem dec_byt {i j : Array UInt8} : decide (V.byt i = V.byt j) = (i.toList == j.toList) := by
  rw [Bool.eq_iff_iff]
  cases i
  cases j
  simp
section
variable {X : Cx}{a b c : Expr}{ta tb tc : TE}{pos : Pos}
theorem fin_bl {pins : List (Addr × Obj)}{σ : St}{H : Hp}{s : Shared}{Q : VK}{k k' : Bool}(I : Inv X pins σ H s)(q : Q (.bl k) H)(e : k = k') : EP X pins σ Q (.bool k') s := by
  subst e
  exact ⟨.bl k,H,I,rfl,q⟩
theorem op_eq : OpR X (compareOp .Eq) rEq := by
  intro pins s σ H x y v u Q I rx ry h
  obtain ⟨hs,q⟩ := h
  cases x with
  | non =>
    cases rx
    cases y with
    | non => cases ry; exact PySem.EqNone.eq_none_none (fin_bl I q (by simp))
    | bl j => cases ry; exact PySem.EqNone.eq_none_bool (fin_bl I q (by simp))
    | int j => obtain ⟨t',rfl⟩ := ry; exact PySem.EqNone.eq_none_int (fin_bl I q (by simp))
    | str j => obtain ⟨t',rfl⟩ := ry; exact PySem.EqNone.eq_none_str (fin_bl I q (by simp))
    | _ => exact absurd (show false = true from hs) Bool.false_ne_true
  | bl i =>
    cases rx
    cases y with
    | non => cases ry; exact PySem.EqNone.eq_bool_none (fin_bl I q (by simp))
    | bl j => cases ry; exact eq_bool (fin_bl I q dec_bl)
    | str j => obtain ⟨t',rfl⟩ := ry; exact PySem.EqMixed.eq_bool_str (fin_bl I q (by simp))
    | _ => exact absurd (show false = true from hs) Bool.false_ne_true
  | int i =>
    obtain ⟨t,rfl⟩ := rx
    cases y with
    | non => cases ry; exact PySem.EqNone.eq_int_none (fin_bl I q (by simp))
    | int j => obtain ⟨t',rfl⟩ := ry; exact eq_int (fin_bl I q dec_int)
    | str j => obtain ⟨t',rfl⟩ := ry; exact PySem.EqMixed.eq_int_str (fin_bl I q (by simp))
    | _ => exact absurd (show false = true from hs) Bool.false_ne_true
  | str i =>
    obtain ⟨t,rfl⟩ := rx
    cases y with
    | non => cases ry; exact PySem.EqNone.eq_str_none (fin_bl I q (by simp))
    | bl j => cases ry; exact PySem.EqMixed.eq_str_bool (fin_bl I q (by simp))
    | int j => obtain ⟨t',rfl⟩ := ry; exact PySem.EqMixed.eq_str_int (fin_bl I q (by simp))
    | str j => obtain ⟨t',rfl⟩ := ry; exact eq_str (fin_bl I q dec_str)
    | _ => exact absurd (show false = true from hs) Bool.false_ne_true
  | byt i =>
    obtain ⟨t,rfl⟩ := rx
    cases y with
    | byt j => obtain ⟨t',rfl⟩ := ry; exact PySem.W.eq_bytes (fin_bl I q dec_byt)
    | _ => exact absurd (show false = true from hs) Bool.false_ne_true
  | _ => cases y <;> exact absurd (show false = true from hs) Bool.false_ne_true
theorem op_ne : OpR X (compareOp .NotEq) rNe := by
  intro pins s σ H x y v u Q I rx ry h
  obtain ⟨hs,q⟩ := h
  cases x with
  | non =>
    cases rx
    cases y with
    | non => cases ry; exact PySem.EqNone.ne_none_none (fin_bl I q (by simp))
    | bl j => cases ry; exact PySem.EqNone.ne_none_bool (fin_bl I q (by simp))
    | int j => obtain ⟨t',rfl⟩ := ry; exact PySem.EqNone.ne_none_int (fin_bl I q (by simp))
    | str j => obtain ⟨t',rfl⟩ := ry; exact PySem.EqNone.ne_none_str (fin_bl I q (by simp))
    | _ => exact absurd (show false = true from hs) Bool.false_ne_true
  | bl i =>
    cases rx
    cases y with
    | non => cases ry; exact PySem.EqNone.ne_bool_none (fin_bl I q (by simp))
    | bl j => cases ry; exact ne_bool (fin_bl I q (congrArg not dec_bl))
    | str j => obtain ⟨t',rfl⟩ := ry; exact PySem.EqMixed.ne_bool_str (fin_bl I q (by simp))
    | _ => exact absurd (show false = true from hs) Bool.false_ne_true
  | int i =>
    obtain ⟨t,rfl⟩ := rx
    cases y with
    | non => cases ry; exact PySem.EqNone.ne_int_none (fin_bl I q (by simp))
    | int j => obtain ⟨t',rfl⟩ := ry; exact ne_int (fin_bl I q (congrArg not dec_int))
    | str j => obtain ⟨t',rfl⟩ := ry; exact PySem.EqMixed.ne_int_str (fin_bl I q (by simp))
    | _ => exact absurd (show false = true from hs) Bool.false_ne_true
  | str i =>
    obtain ⟨t,rfl⟩ := rx
    cases y with
    | non => cases ry; exact PySem.EqNone.ne_str_none (fin_bl I q (by simp))
    | bl j => cases ry; exact PySem.EqMixed.ne_str_bool (fin_bl I q (by simp))
    | int j => obtain ⟨t',rfl⟩ := ry; exact PySem.EqMixed.ne_str_int (fin_bl I q (by simp))
    | str j => obtain ⟨t',rfl⟩ := ry; exact ne_str (fin_bl I q (congrArg not dec_str))
    | _ => exact absurd (show false = true from hs) Bool.false_ne_true
  | byt i =>
    obtain ⟨t,rfl⟩ := rx
    cases y with
    | byt j => obtain ⟨t',rfl⟩ := ry; exact PySem.W.ne_bytes (fin_bl I q (congrArg not dec_byt))
    | _ => exact absurd (show false = true from hs) Bool.false_ne_true
  | _ => cases y <;> exact absurd (show false = true from hs) Bool.false_ne_true
theorem op_lt : OpR X (compareOp .Lt) (rI0 fun i j => .bl (decide (i < j))) := opB0 fun _ _ _ _ _ _ _ q => lt_int q
theorem op_le : OpR X (compareOp .LtE) (rI0 fun i j => .bl (decide (i <= j))) := opB0 fun _ _ _ _ _ _ _ q => le_int q
theorem op_gt : OpR X (compareOp .Gt) (rI0 fun i j => .bl (decide (j < i))) := opB0 fun _ _ _ _ _ _ _ q => gt_int q
theorem op_ge : OpR X (compareOp .GtE) (rI0 fun i j => .bl (decide (j <= i))) := opB0 fun _ _ _ _ _ _ _ q => ge_int q
theorem op_notN : OpR X (compareOp .IsNot) (fun x y H Q => y = .non /\ Q (.bl (!decide (x = .non))) H) := by
  intro pins s σ H x y v u Q I rx ry h
  obtain ⟨rfl,q⟩ := h
  cases ry
  refine isnot_none_gen (fin_bl I q ?_)
  cases x <;> first
    | (cases rx; rfl)
    | (obtain ⟨t,rfl⟩ := rx; rfl)
theorem nomark (b : Expr){op : CmpOp}(h : op ≠ .In := by decide)(h2 : op ≠ .NotIn := by decide) : behindInMarks op b = false := by
  have e1 : (op == CmpOp.In) = false := by cases op <;> first | rfl | exact absurd rfl h
  have e2 : (op == CmpOp.NotIn) = false := by cases op <;> first | rfl | exact absurd rfl h2
  cases b <;> simp [behindInMarks,e1,e2]
theorem pe_cmpR {op : CmpOp}{r : R2}(ho : OpR X (compareOp op) r)(ha : PE X a ta)(hb : PE X b tb)(hm : behindInMarks op b = false) : PE X (.Compare a [op] [b] pos) (tOp r ta tb) := by
  intro pins s σ H Q I h
  exact wpAny_Compare1 (binT ha hb I h fun v u s2 x y H2 I2 rx ry q => ho pins s2 σ H2 x y v u Q I2 rx ry q) hm
def tTest (t : TE) : TT := fun σ H Q => t σ H fun x H' => ∃ k,x = .bl k /\ Q k H'
theorem pt_cmpR {op : CmpOp}{r : R2}(ho : OpR X (compareOp op) r)(ha : PE X a ta)(hb : PE X b tb)(hm : behindInMarks op b = false) : PT X (.Compare a [op] [b] pos) (tTest (tOp r ta tb)) := by
  intro pins s σ H Q I h
  refine wpAny_isTrue_Compare1 (thn (ha pins s σ H _ I h) fun v s1 ⟨x,H1,I1,r1,q1⟩ => thn (hb pins s1 σ H1 _ I1 q1) fun u s2 ⟨y,H2,I2,r2,q2⟩ =>
    thn (ho pins s2 σ H2 x y v u _ I2 r1 r2 q2) fun c s3 ⟨z,H3,I3,r3,k,e,q3⟩ => ?_) hm
  subst e
  cases r3
  exact wpAny_truthy_bool ⟨H3,I3,q3⟩
def TruV (K : PySem.W.Frag)(x : V)(H : Hp)(k : Bool) : Prop :=
  match x with
  | .non => k = false
  | .bl b => k = b
  | .int i => k = (i != 0)
  | .str y => y.length <= sizeLine /\ k = ((y.length : Int) != 0)
  | .byt y => y.size <= sizeLine /\ k = ((y.size : Int) != 0)
  | .ref p => (∃ xs,SqL K H p xs /\ k = !xs.isEmpty) \/ (∃ xs,SqT K H p xs /\ k = !xs.isEmpty) \/ ∃ kvs,H p = some (.dK kvs) /\ k = !kvs.isEmpty
  | _ => False
theorem isEmpty_kv {κ : Type}{kvs : List (κ × V)}{vs : List (κ × Value)}(r : KV kvs vs) : (!vs.isEmpty) = !kvs.isEmpty := by
  cases r <;> rfl
theorem isEmpty_of {xs : List V}{its : List Value}(r : Vals xs its) : (!its.toArray.isEmpty) = !xs.isEmpty := by
  cases r <;> simp
theorem line63 : (sizeLine : Nat) < 2 ^ 63 := by rw [sizeLine_eq]; decide
theorem tru_ok : TruR X (fun x H Q => ∃ k,TruV X.K x H k /\ Q k H) := by
  intro pins s σ H x v Q I rx h
  obtain ⟨k,e,q⟩ := h
  have hl := line63
  have hs : sizeLine = 16777216 := sizeLine_eq
  cases x with
  | non =>
    cases rx
    have e' : k = false := e
    subst e'
    exact truthy_none ⟨H,I,q⟩
  | bl b =>
    cases rx
    have e' : k = b := e
    subst e'
    exact wpAny_truthy_bool ⟨H,I,q⟩
  | int i =>
    obtain ⟨t,rfl⟩ := rx
    have e' : k = (i != 0) := e
    subst e'
    exact PySem.P.truthy_int ⟨H,I,q⟩
  | str y =>
    obtain ⟨t,rfl⟩ := rx
    obtain ⟨hy,e'⟩ : y.length <= sizeLine /\ k = ((y.length : Int) != 0) := e
    subst e'
    exact PySem.P.truthy_str (by omega) ⟨H,I.tok _,q⟩
  | byt y =>
    obtain ⟨t,rfl⟩ := rx
    obtain ⟨hy,e'⟩ : y.size <= sizeLine /\ k = ((y.size : Int) != 0) := e
    subst e'
    exact PySem.W.truthy_bytes (by omega) ⟨H,I.tok _,q⟩
  | ref p =>
    cases rx
    have e' : (∃ xs,SqL X.K H p xs /\ k = !xs.isEmpty) \/ (∃ xs,SqT X.K H p xs /\ k = !xs.isEmpty) \/ ∃ kvs,H p = some (.dK kvs) /\ k = !kvs.isEmpty := e
    rcases e' with ⟨xs,hx,e'⟩ | ⟨xs,hx,e'⟩ | ⟨kvs,hx,e'⟩
    · subst e'
      obtain ⟨its,r,pl,hz⟩ := I.list hx
      have hlen := r.length
      exact wpAny_truthy_list pl.isList (by simp only [List.size_toArray]; omega) ⟨H,I.tok _,by rw [isEmpty_of r]; exact q⟩
    · subst e'
      obtain ⟨its,r,pl,hz⟩ := I.tuple hx
      have hlen := r.length
      exact truthy_tuple pl (by simp only [List.size_toArray]; omega) ⟨H,I.tok _,by rw [isEmpty_of r]; exact q⟩
    · subst e'
      obtain ⟨hz,hS,vs,r,m⟩ : kvs.length <= sizeLine /\ (p == sysModules) = false /\ ∃ vs,KV kvs vs /\ s.heap.DictOf (mixKind X.prog X.w) p vs := I.hok p _ hx
      have hlen : kvs.length = vs.length := Paired.length r
      exact wpAny_truthy_dict hS m (by omega) ⟨H,I.tok _,by rw [isEmpty_kv r]; exact q⟩
  | _ => exact (show False from e).elim
theorem pt_truth (ha : PE X a ta)(he : ∀ whole,isTrue a X.env whole = (do let v <- whole; standAt a.pos; holding [v] (truthy v))) :
    PT X a (fun σ H Q => ta σ H fun x H' => ∃ k,TruV X.K x H' k /\ Q k H') := by
  intro pins s σ H Q I h
  exact isTrue_plain (thn (ha pins s σ H _ I h) fun v s1 ⟨x,H1,I1,r1,q1⟩ => tru_ok pins s1 σ H1 x v Q I1 r1 q1) (he _)
theorem vals1 {x : V}{us : List Value}(r : Vals [x] us) : ∃ u,us = [u] /\ RelV x u := by
  cases r with
  | cons r1 r2 => cases r2; exact ⟨_,rfl,r1⟩
theorem vals2 {x y : V}{us : List Value}(r : Vals [x,y] us) : ∃ u w',us = [u,w'] /\ RelV x u /\ RelV y w' := by
  cases r with
  | cons r1 r2 =>
    cases r2 with
    | cons r3 r4 => cases r4; exact ⟨_,_,rfl,r1,r3⟩
theorem call_abs : CallR X (.builtin "abs") (fun xs H Q => ∃ i,xs = [.int i] /\ Q (.int (if i < 0 then -i else i)) H) := by
  intro pins s σ H xs us Q I r h
  obtain ⟨i,rfl,q⟩ := h
  obtain ⟨u,rfl,t,rfl⟩ := vals1 r
  exact call_abs_int fun u tk => ⟨.int (if i < 0 then -i else i),H,I.tok _,⟨_,rfl⟩,q⟩
theorem call_max2 (hc : X.calm = true) : CallR X (.builtin "max") (fun xs H Q => ∃ i j,xs = [.int i,.int j] /\ Q (.int (if j > i then j else i)) H) := by
  intro pins s σ H xs us Q I r h
  obtain ⟨i,j,rfl,q⟩ := h
  obtain ⟨u,w',rfl,⟨t,rfl⟩,⟨t',rfl⟩⟩ := vals2 r
  refine max_two_ints (I.ok.hd hc) fun h' tk k => ⟨_,H,I.kept k,?_,q⟩
  by_cases hj : j > i
  · rw [if_pos hj,if_pos hj]; exact ⟨_,rfl⟩
  · rw [if_neg hj,if_neg hj]; exact ⟨_,rfl⟩
theorem call_min2 (hc : X.calm = true) : CallR X (.builtin "min") (fun xs H Q => ∃ i j,xs = [.int i,.int j] /\ Q (.int (if j < i then j else i)) H) := by
  intro pins s σ H xs us Q I r h
  obtain ⟨i,j,rfl,q⟩ := h
  obtain ⟨u,w',rfl,⟨t,rfl⟩,⟨t',rfl⟩⟩ := vals2 r
  refine min_two_ints (I.ok.hd hc) fun h' tk k => ⟨_,H,I.kept k,?_,q⟩
  by_cases hj : j < i
  · rw [if_pos hj,if_pos hj]; exact ⟨_,rfl⟩
  · rw [if_neg hj,if_neg hj]; exact ⟨_,rfl⟩
end
end L2
namespace L2
open PySem PySem.Spec PyProof.Rows
structure ObjM (h : Heap)(x dx C : Addr)(mA : Str -> Option Value) : Prop where
  obj : h.get? x = some (PySem.W.instObj C dx)
  ns : h.Ns1 dx mA
  ne : dx ≠ x
theorem lookIn_ns {h : Heap}{dx : Addr}{mA : Str -> Option Value}(n : h.Ns1 dx mA) : ∃ od,h.get? dx = some od /\ ∀ name,PySem.W.lookIn name od = some (mA name) := by
  obtain ⟨o,es,ep,ho,hd,hk,_,hm⟩ := n
  refine ⟨o,ho,fun name => ?_⟩
  have e := hm name
  unfold nsFind findBy at e
  rw [<- Array.find?_toList] at e
  unfold PySem.W.lookIn
  rw [hd]
  dsimp only
  split
  · rename_i y q
    rw [q] at e
    exact congrArg some e
  · rename_i q
    rw [q] at e
    have a : es.toList.any (·.refKey) = false := by
      rw [List.any_eq_false]
      intro y hy
      obtain ⟨z,t,hkey⟩ := hk y (Array.mem_toList_iff.mp hy)
      simp [DictEntry.refKey,hkey]
    have a' : ¬ es.toList.any (·.refKey) = true := by rw [a]; exact Bool.false_ne_true
    rw [if_neg a']
    exact congrArg some e
theorem ObjM.look {h : Heap}{x dx C : Addr}{mA : Str -> Option Value}(I : ObjM h x dx C mA) : ∃ od,PySem.W.InstAt h x (PySem.W.instObj C dx) C (some od) /\ ∀ name,PySem.W.lookIn name od = some (mA name) :=
  let ⟨od,ho,hl⟩ := lookIn_ns I.ns
  ⟨od,⟨I.obj,rfl,rfl,ho⟩,hl⟩
section
variable {prog : Program}{w : World}{A : Around}{E : Value -> Shared -> Prop}{s : Shared}{K : PySem.W.Frag}{x dx C f : Addr}{mA : Str -> Option Value}{name : Str}{v : Value}
end
section
variable {P : Program}{w : World}{H H' : Hp}{h h' : Heap}{a C dx : Addr}{fs fs' : List (Str × V)}
theorem ins_get (hok : HOk P w H h)(e : H a = some (.ins C dx fs)) : ∃ mA,ObjM h a dx C mA /\ (∀ f,RelO (fs.lookup f) (mA f)) /\ PySem.Within mA (fs.map (·.1)) /\ fs.length <= 1000 /\ H dx = some (.own a) := by
  obtain ⟨d,z,ne,ob,mA,n,r,q⟩ := (show ObjOk P w H h a (.ins C dx fs) from hok a _ e)
  exact ⟨mA,⟨ob,n,ne⟩,r,q,z,d⟩
end
structure Cls (K : PySem.W.Frag)(C : Addr) : Prop where
  pg : PySem.W.plainGet K C Str.empty = true
  hd : PySem.W.hasDictIn K C = true
  po : PySem.W.plainOver K C = true
  sa : PySem.W.findIn K (.ref C) "__setattr__" = some (some (.builtin "object.__setattr__"))
theorem Cls.get {K : PySem.W.Frag}{C : Addr}(c : Cls K C)(f : Str) : PySem.W.plainGet K C f = true := c.pg
def NoAttr (K : PySem.W.Frag)(C : Addr)(f : Str) : Prop := PySem.W.findIn K (.ref C) f = some none
section
variable {X : Cx}{pins : List (Addr × Obj)}{σ : St}{H : Hp}{s : Shared}{a C dx : Addr}{fs : List (Str × V)}{f : Str}{v : V}{A : Around}{E : Value -> Shared -> Prop}
end
def tFld (K : PySem.W.Frag)(ta : TE)(f : Str) : TE := fun σ H Q => ta σ H fun x H1 => ∃ a C dx fs v,x = .ref a /\ H1 a = some (.ins C dx fs) /\ Cls K C /\ NoAttr K C f /\ fs.lookup f = some v /\ Q v H1
section
variable {X : Cx}{o e value : Expr}{f : Str}{pos pos' tpos : Pos}{ta tv : TE}
end
section
variable {X : Cx}{pins : List (Addr × Obj)}{σ : St}{H : Hp}{s : Shared}{A : Around}{E : Value -> Shared -> Prop}{Q : Value -> Shared -> Prop}{c : Value}{b : Bool}
inductive TyOf (K : PySem.W.Frag)(H : Hp) : V -> Value -> Prop where
  | non : TyOf K H .non (.type "NoneType")
  | bl (x : Bool) : TyOf K H (.bl x) (.type "bool")
  | int (i : Int) : TyOf K H (.int i) (.type "int")
  | str (x : Str) : TyOf K H (.str x) (.type "str")
  | flt (x : UInt64) : TyOf K H (.flt x) (.type "float")
  | lst {a : Addr} {xs : List V} (e : H a = some (.lst xs)) : TyOf K H (.ref a) (.type "list")
  | frz {a : Addr} {o : Obj} {xs : List V} (e : H a = some (.frz o (.lst xs))) : TyOf K H (.ref a) (.type "list")
  | tup {a : Addr} {xs : List V} (e : H a = some (.tup xs)) : TyOf K H (.ref a) (.type "tuple")
  | dK {a : Addr} {kvs : List (Key × V)} (e : H a = some (.dK kvs)) : TyOf K H (.ref a) (.type "dict")
  | dT {a : Addr} {kvs : List (List Key × V)} (e : H a = some (.dT kvs)) : TyOf K H (.ref a) (.type "dict")
  | ins {a C dx : Addr} {fs : List (Str × V)} (e : H a = some (.ins C dx fs)) (cl : Cls K C) (ha : PySem.W.findIn K (.ref C) "__class__" = some (some (.builtin "object.__class__")))
      (hn : PySem.W.specialIn K (.builtin "object.__class__") "__get__" = some (some (.builtin "getset_descriptor.__get__"))) (htk : PySem.W.takesIn K (.builtin "object.__class__") = some true)
      (hm : PySem.W.mroIn K C (.type "object") = some true) : TyOf K H (.ref a) (.ref C)
theorem isinst_ok {x : V}{u t : Value}(I : Inv X pins σ H s)(rx : RelV x u)(ty : TyOf X.K H x t)(e : PySem.W.kitOne X.K t c = some b)(h : ∀ tk,Q (.bool b) { s with toks := tk }) :
    wpAny (model X.prog X.w) A (call (.builtin "isinstance") [u,c]) Q E s := by
  cases ty with
  | non => cases (show u = Value.none from rx); exact PySem.W.kia_one PySem.W.kitx_none I.kIn True.intro e (fun z => nomatch z) h
  | bl y => cases (show u = Value.bool y from rx); exact PySem.W.kia_one PySem.W.kitx_bool I.kIn True.intro e (fun z => nomatch z) h
  | int i => obtain ⟨t,q⟩ := (show ∃ t,u = Value.int i t from rx); cases q; exact PySem.W.kia_one PySem.W.kitx_int I.kIn True.intro e (fun z => nomatch z) h
  | str y => obtain ⟨t,q⟩ := (show ∃ t,u = Value.str y t from rx); cases q; exact PySem.W.kia_one PySem.W.kitx_str I.kIn True.intro e (fun z => nomatch z) h
  | flt y => obtain ⟨t,q⟩ := (show ∃ t,u = Value.float y t from rx); cases q; exact PySem.W.kia_one PySem.W.kitx_float I.kIn True.intro e (fun z => nomatch z) h
  | @lst a xs ea =>
    cases (show u = Value.ref a from rx)
    obtain ⟨_,_,n,_,h1⟩ := (show ObjOk X.prog X.w H s.heap a (.lst xs) from I.hok a _ ea)
    exact PySem.W.kia_one PySem.W.kitx_list I.kIn ⟨_,h1,rfl⟩ e (fun z => nomatch z) h
  | @frz a ob xs ea =>
    cases (show u = Value.ref a from rx)
    obtain ⟨_,_,_,n,_,h1⟩ := (show ObjOk X.prog X.w H s.heap a (.frz ob (.lst xs)) from I.hok a _ ea)
    exact PySem.W.kia_one PySem.W.kitx_list I.kIn ⟨_,h1,rfl⟩ e (fun z => nomatch z) h
  | @tup a xs ea =>
    cases (show u = Value.ref a from rx)
    obtain ⟨_,_,_,p⟩ := (show ObjOk X.prog X.w H s.heap a (.tup xs) from I.hok a _ ea)
    obtain ⟨o,h1,h2,_⟩ := p
    exact PySem.W.kia_one PySem.W.kitx_tuple I.kIn ⟨o,h1,h2⟩ e (fun z => nomatch z) h
  | @dK a kvs ea =>
    cases (show u = Value.ref a from rx)
    obtain ⟨_,_,vs,_,p⟩ := (show ObjOk X.prog X.w H s.heap a (.dK kvs) from I.hok a _ ea)
    obtain ⟨o,es,ep,h1,h2,_⟩ := p
    exact PySem.W.kia_one PySem.W.kitx_dict I.kIn ⟨o,h1,h2.1⟩ e (fun z => nomatch z) h
  | @dT a kvs ea =>
    cases (show u = Value.ref a from rx)
    obtain ⟨_,_,xs,_,o,es,ep,h1,h2,_⟩ := (show ObjOk X.prog X.w H s.heap a (.dT kvs) from I.hok a _ ea)
    exact PySem.W.kia_one PySem.W.kitx_dict I.kIn ⟨o,h1,h2.1⟩ e (fun z => nomatch z) h
  | @ins a C dx fs ea cl ha hn htk hm =>
    cases (show u = Value.ref a from rx)
    obtain ⟨mA,O,_⟩ := ins_get I.hok ea
    obtain ⟨od,J,_⟩ := O.look
    exact PySem.W.kia_one (PySem.W.kitx_own (cl.get _) cl.hd ha hn htk hm) I.kIn J e (fun z => nomatch z) h
end
end L2
namespace L2
open PySem PySem.Spec PyProof.Rows
structure Room (k : Nat)(A : Around) : Prop where
  hd : A.handled = none
  dp : A.depth + 3 * k + 5 < recursionLimit
  un : A.units + 16 * k + 200 < cLine
theorem Room.mono {j k : Nat}{A : Around}(r : Room k A)(h : j <= k) : Room j A := ⟨r.hd,by have := r.dp; omega,by have := r.un; omega⟩
theorem Room.deeper {k : Nat}{A : Around}(r : Room (k + 1) A)(env : Env) : Room k (A.deeper env) :=
  ⟨r.hd,by have := r.dp; show A.depth + 1 + 3 * k + 5 < _; omega,by have := r.un; show A.units + 3 + 16 * k + 200 < _; omega⟩
theorem Room.in1 {k : Nat}{A : Around}(r : Room (k + 1) A) : Room k A.in1 :=
  ⟨r.hd,by have := r.dp; show A.depth + 3 * k + 5 < _; omega,by have := r.un; show A.units + 1 + 16 * k + 200 < _; omega⟩
theorem Room.depth {k : Nat}{A : Around}(r : Room k A) : A.depth < recursionLimit := by have := r.dp; omega
theorem Room.units {k : Nat}{A : Around}(r : Room k A) : A.units + 64 < cLine := by have := r.un; omega
def tNil : TA := fun _ H Q => Q [] H
def tCons (ta : TE)(tr : TA) : TA := fun σ H Q => ta σ H fun x H1 => tr σ H1 fun xs H2 => Q (x :: xs) H2
section
variable {X : Cx}{e : Expr}{es : List Expr}{te : TE}{t : TA}{pos : Pos}
theorem pa_nil : PA X [] tNil := fun _ _ _ _ H Q I h => Calls.spliced_nil ⟨[],H,I,.nil,h⟩
theorem pa_cons (ha : PE X e te)(hr : PA X es t)(hs : starEach (e :: es) X.env = (false,eval e X.env) :: starEach es X.env := by rfl) : PA X (e :: es) (tCons te t) := by
  intro pos pins s σ H Q I h
  rw [hs]
  show wpAny _ _ (spliced ((false,eval e X.env) :: backTo pos (starEach es X.env))) _ _ s
  refine Calls.spliced_cons (thn (ha pins s σ H _ I h) fun u s1 ⟨x,H1,I1,r1,q1⟩ => ?_)
  exact thn (hr pos pins s1 σ H1 _ I1 q1) fun us s2 ⟨xs,H2,I2,r2,q2⟩ => ⟨x :: xs,H2,I2,.cons r1 r2,q2⟩
def tTup (t : TA) : TE := fun σ H Q => t σ H fun xs H1 => xs.length <= sizeLine /\ ∀ p,H1 p = none -> Q (.ref p) (upd H1 p (.tup xs))
def tLst (t : TA) : TE := fun σ H Q => t σ H fun xs H1 => xs.length <= sizeLine /\ ∀ p,H1 p = none -> Q (.ref p) (upd H1 p (.lst xs))
theorem pe_tup {x1}(h : PA X es t) : PE X (.Tuple es x1 pos) (tTup t) := by
  intro pins s σ H Q I hq
  refine wpAny_Tuple_spliced (thn (h pos pins s σ H _ I hq) fun us s1 ⟨xs,H1,I1,r,z,q⟩ => ⟨by rw [<- r.length]; exact z,?_⟩)
  have hf : H1 s1.heap.objs.size = none := I1.hok.fresh (Nat.le_refl _)
  refine ⟨.ref s1.heap.objs.size,upd H1 s1.heap.objs.size (.tup xs),I1.laid (t' := s1.toks) (fun b u e => Heap.get?_push_of_some _ e) (Nat.le_refl _) ?_,rfl,q _ hf⟩
  exact ⟨z,us,r,⟨_,Heap.get?_push_size _ rfl,rfl,_,rfl⟩⟩
theorem pe_lst (h : PA X es t) : PE X (.List es pos) (tLst t) := by
  intro pins s σ H Q I hq
  refine wpAny_List_spliced (thn (h pos pins s σ H _ I hq) fun us s1 ⟨xs,H1,I1,r,z,q⟩ => ⟨by rw [<- r.length]; exact z,?_⟩)
  have hf : H1 s1.heap.objs.size = none := I1.hok.fresh (Nat.le_refl _)
  refine ⟨.ref s1.heap.objs.size,upd H1 s1.heap.objs.size (.lst xs),I1.laid (t' := s1.toks) (fun b u e => Heap.get?_push_of_some _ e) (Nat.le_refl _) ?_,rfl,q _ hf⟩
  exact ⟨z,us,0,r,Heap.get?_push_size _ rfl⟩
end
abbrev Sp := List V -> Hp -> VK -> XK -> Prop
abbrev CXT := List Env -> Hp -> Shared -> XK -> Value -> Shared -> Prop
structure Env0 (P : Program)(w : World)(K : PySem.W.Frag)(mg : Str -> Option Value)(base : Heap)(A : Around)(outer : List Env)(s : Shared)(H : Hp) : Prop where
  frames : A.frames = some outer
  mod : Mod K mg base
  bs : ∀ b o,base.get? b = some o -> s.heap.get? b = some o /\ H b = none
  bsz : base.objs.size <= s.heap.objs.size
  funs : s.heap.FunFrames base outer
  frf : ∀ b ∈ frs outer,H b = none
  hok : HOk P w H s.heap
  bare : AllBare s.gens
def CE (outer : List Env)(P : Program)(w : World)(H : Hp)(s : Shared)(Q : VK)(u : Value)(s' : Shared) : Prop :=
  ∃ v H',s'.os = s.os /\ AllBare s'.gens /\ Un (frs outer) [] H H' s.heap s'.heap /\ HOk P w H' s'.heap /\ RelV v u /\ Q v H'
def CR (CX : CXT)(outer : List Env)(P : Program)(w : World)(H : Hp)(s : Shared)(Q : VK)(E : XK)(r : Result)(s' : Shared) : Prop :=
  match r with
  | .ok (.ret u) => CE outer P w H s Q u s'
  | .ok _ => False
  | .error e => CX outer H s E e s'
structure FnOk (P : Program)(w : World)(K : PySem.W.Frag)(mg : Str -> Option Value)(base : Heap)(CX : CXT)(k : Nat)(f : Addr)(fd : FuncData)(ps : List Str)(sp : Sp) : Prop where
  len : ∀ vs H Q E,sp vs H Q E -> vs.length = ps.length
  run : ∀ (A : Around) (outer : List Env) (s : Shared) (H : Hp) (args : Args) (us : List Value) (vs : List V) (Q : VK) (E : XK),Room k A -> Env0 P w K mg base A outer s H -> BindsTo s fd args (ps.zip us) -> Vals vs us -> sp vs H Q E ->
    codeAny (model P w) A (.call (.ref f) args) (CR CX outer P w H s Q E) s
theorem FnOk.imp {P : Program}{w : World}{K : PySem.W.Frag}{mg : Str -> Option Value}{base : Heap}{CX : CXT}{k : Nat}{f : Addr}{fd : FuncData}{ps : List Str}{sp sp' : Sp}(F : FnOk P w K mg base CX k f fd ps sp)
    (h : ∀ vs H Q E,sp' vs H Q E -> sp vs H Q E) : FnOk P w K mg base CX k f fd ps sp' :=
  ⟨fun vs H Q E q => F.len vs H Q E (h _ _ _ _ q),fun A outer s H args us vs Q E hr he hb hv hs => F.run A outer s H args us vs Q E hr he hb hv (h _ _ _ _ hs)⟩
theorem Env0.in1 {P : Program}{w : World}{K : PySem.W.Frag}{mg : Str -> Option Value}{base : Heap}{A : Around}{outer : List Env}{s : Shared}{H : Hp}(e : Env0 P w K mg base A outer s H) :
    Env0 P w K mg base A.in1 outer s H := ⟨e.frames,e.mod,e.bs,e.bsz,e.funs,e.frf,e.hok,e.bare⟩
section
variable {X : Cx}{pins : List (Addr × Obj)}{σ : St}{H : Hp}{s s' : Shared}
theorem Inv.env0 (I : Inv X pins σ H s) : Env0 X.prog X.w X.K X.mg X.base X.A X.stack s H :=
  ⟨I.ok.frames,I.ok.mod,I.bs,Nat.le_trans I.ok.bsz I.sz,I.stack,I.stkFree,I.hok,I.bare⟩
theorem Inv.after {Q : VK}{u : Value}(I : Inv X pins σ H s)(h : CE X.stack X.prog X.w H s Q u s') : EP X pins σ Q u s' := by
  obtain ⟨v,H',os,bare,un,hok,r,q⟩ := h
  obtain ⟨hh,g,d,t,os'⟩ := s'
  obtain rfl : os' = s.os := os
  exact ⟨v,H',I.call (h' := hh) (g' := g) (d' := d) (t' := t) (ch := []) un hok bare (fun b z => absurd z (by simp)),r,q⟩
end
def tCall (sp : Sp)(dvs : List V)(E : XK)(t : TA) : TE := fun σ H Q => t σ H fun vs H1 => sp (vs ++ dvs) H1 Q E
def tMeth (C : Addr)(m : Str)(sp : Sp)(dvs : List V)(E : XK)(ta : TE)(t : TA) : TE := fun σ H Q => ta σ H fun x H1 => ∃ a dx fs,x = .ref a /\ H1 a = some (.ins C dx fs) /\ fs.lookup m = none /\
  t σ H1 fun vs H2 => sp (x :: (vs ++ dvs)) H2 Q E
def tMake (C : Addr)(sp : Sp)(dvs : List V)(E : XK)(t : TA) : TE := fun σ H Q => t σ H fun vs H1 => ∀ x dx,H1 x = none -> H1 dx = none -> dx ≠ x ->
  sp (.ref x :: (vs ++ dvs)) (upd (upd H1 dx (.own x)) x (.ins C dx [])) (fun v H2 => v = .non /\ Q (.ref x) H2) E
def Binds (K : PySem.W.Frag)(fd : FuncData)(ps : List Str)(ds : List Value) : Prop :=
  ∀ (s : Shared) (us : List Value),K.In s.heap -> (us ++ ds).length = ps.length -> BindsTo s fd ⟨us,[]⟩ (ps.zip (us ++ ds))
theorem Binds.all {K : PySem.W.Frag}{fd : FuncData}{ps : List Str}(h : ∀ us : List Value,us.length = ps.length -> bindArgs fd ⟨us,[]⟩ = pure (ps.zip us)) : Binds K fd ps [] := fun s us _ hl => by
  rw [List.append_nil] at hl ⊢
  exact .of_eq (h us hl)
def Passes (CX : CXT)(X : Cx)(E : XK) : Prop := ∀ (pins : List (Addr × Obj)) (σ : St) (H : Hp) (s : Shared) (e : Value) (s' : Shared),Inv X pins σ H s -> CX X.stack H s E e s' -> X.xe e s'
section
variable {X : Cx}{CX : CXT}{k : Nat}{f C : Addr}{fd : FuncData}{ps : List Str}{sp : Sp}{dvs : List V}{ds : List Value}{E : XK}{x m : Str}{p pos apos : Pos}{e o : Expr}{es : List Expr}{ta : TE}{t : TA}
theorem run_fn {pins : List (Addr × Obj)}{σ : St}{H : Hp}{s : Shared}{Q : VK}{us : List Value}{vs : List V}(F : FnOk X.prog X.w X.K X.mg X.base CX k f fd ps sp)(hr : Room k X.A)(hb : Binds X.K fd ps ds)(hd : Vals dvs ds)(hx : Passes CX X E)
    (I : Inv X pins σ H s) (r : Vals vs us) (h : sp (vs ++ dvs) H Q E) : wpAny (model X.prog X.w) X.A (call (.ref f) us) (EP X pins σ Q) X.xe s := by
  have r2 : Vals (vs ++ dvs) (us ++ ds) := r.append hd
  have hl : (us ++ ds).length = ps.length := by rw [<- r2.length]; exact F.len _ _ _ _ h
  refine wpAny_call (codeAny_mono (F.run X.A X.stack s H ⟨us,[]⟩ (us ++ ds) (vs ++ dvs) Q E hr I.env0 (hb s us I.kIn hl) r2 h) fun r s' hq => ?_)
  cases r with
  | error e => exact hx pins σ H s e s' I hq
  | ok fl =>
    cases fl with
    | ret u => exact I.after hq
    | next => exact False.elim hq
    | brk => exact False.elim hq
    | cont => exact False.elim hq
theorem pe_call (F : FnOk X.prog X.w X.K X.mg X.base CX k f fd ps sp)(hr : Room k X.A)(hg : Gl X x)(hm : X.mg x = some (.ref f))(hk : PySem.W.keepIn X.K (.ref f) = true)(hb : Binds X.K fd ps ds)(hd : Vals dvs ds)(hx : Passes CX X E)
    (ha : PA X (e :: es) t) (hdb : (x == ("__debug__" : Str)) = false := by decide) (he : starEach (e :: es) X.env = (false,eval e X.env) :: starEach es X.env := by rfl) (hpl : (backTo pos (starEach es X.env)).any (·.1) = false := by rfl) :
    PE X (.Call (.Name x p) (e :: es) [] pos) (tCall sp dvs E t) := by
  intro pins s σ H Q I h
  refine wpAny_Call_Name_kw (ld_glob I hg hm ?_ hdb)
  refine PySem.W.callWith_K (h₀ := X.base) I.ok.mod.kin hk (thn (ha pos pins s σ H _ I h) fun us s1 ⟨vs,H1,I1,r,q⟩ => ⟨I1.kIn,?_⟩) he hpl
  exact run_fn F hr hb hd hx I1 r q
end
section
variable {X : Cx}{CX : CXT}{k : Nat}{f C : Addr}{fd : FuncData}{ps ks : List Str}{sp : Sp}{E : XK}{x m : Str}{p pos apos kpos : Pos}{e o : Expr}{es : List Expr}{kws : List Keyword}{te ta : TE}{t tk : TA}{nm : Option Str}
variable {g : List Value -> List Value -> List Value}{gV : List V -> List V -> List V}
end
structure FnScope (N P : List Str)(sc : Scope) : Prop where
  kind : sc.kind = .function
  co : sc.isCoroutine = false
  gen : sc.isGenerator = false
  nd : N.Nodup
  pre : N.take P.length = P
  par : ∀ x ∈ P,sc.names.lookup x = some .local \/ sc.names.lookup x = some .cell
  nofree : ∀ y ∈ sc.names,y.2 ≠ .free
theorem bindL_out {kindOf : Str -> Option NameKind}{x : Str} : ∀ {binds : List (Str × Value)} {m : Str -> Option Value},(∀ v,(x,v) ∉ binds) -> bindL kindOf binds m x = m x
  | [],_,_ => rfl
  | (n,v) :: r,m,h => by
    unfold bindL
    rw [bindL_out fun w hw => h w (List.mem_cons_of_mem _ hw)]
    split
    · have : x ≠ n := by rintro rfl; exact h v List.mem_cons_self
      simp [this]
    · rfl
theorem bindC_out {kindOf : Str -> Option NameKind}{x : Str} : ∀ {binds : List (Str × Value)} {m : Str -> Option Value},(∀ v,(x,v) ∉ binds) -> bindC kindOf binds m x = m x
  | [],_,_ => rfl
  | (n,v) :: r,m,h => by
    unfold bindC
    rw [bindC_out fun w hw => h w (List.mem_cons_of_mem _ hw)]
    split
    · rfl
    · have : x ≠ n := by rintro rfl; exact h v List.mem_cons_self
      simp [this]
theorem bindL_get {kindOf : Str -> Option NameKind}{x : Str}{v : Value} : ∀ {P : List Str} {vs : List Value} {i : Nat} {m : Str -> Option Value},P.Nodup -> P[i]? = some x -> vs[i]? = some v -> kindOf x = some .local ->
    bindL kindOf (P.zip vs) m x = some v
  | [],_,_,_,_,h,_,_ => by simp at h
  | _ :: _,[],_,_,_,_,h,_ => by simp at h
  | p :: P,w :: vs,0,m,nd,h1,h2,hk => by
    simp at h1 h2; subst h1; subst h2
    show bindL kindOf ((p,w) :: P.zip vs) m p = _
    unfold bindL
    rw [bindL_out fun v hv => (List.nodup_cons.mp nd).1 (List.of_mem_zip hv).1,if_pos hk]
    simp
  | p :: P,w :: vs,i + 1,m,nd,h1,h2,hk => by
    show bindL kindOf ((p,w) :: P.zip vs) m x = _
    unfold bindL
    exact bindL_get (i := i) (List.nodup_cons.mp nd).2 (by simpa using h1) (by simpa using h2) hk
theorem bindC_get {kindOf : Str -> Option NameKind}{x : Str}{v : Value} : ∀ {P : List Str} {vs : List Value} {i : Nat} {m : Str -> Option Value},P.Nodup -> P[i]? = some x -> vs[i]? = some v -> kindOf x ≠ some .local ->
    bindC kindOf (P.zip vs) m x = some v
  | [],_,_,_,_,h,_,_ => by simp at h
  | _ :: _,[],_,_,_,_,h,_ => by simp at h
  | p :: P,w :: vs,0,m,nd,h1,h2,hk => by
    simp at h1 h2; subst h1; subst h2
    show bindC kindOf ((p,w) :: P.zip vs) m p = _
    unfold bindC
    rw [bindC_out fun v hv => (List.nodup_cons.mp nd).1 (List.of_mem_zip hv).1,if_neg hk]
    simp
  | p :: P,w :: vs,i + 1,m,nd,h1,h2,hk => by
    show bindC kindOf ((p,w) :: P.zip vs) m x = _
    unfold bindC
    exact bindC_get (i := i) (List.nodup_cons.mp nd).2 (by simpa using h1) (by simpa using h2) hk
def start (N : List Str)(vs : List V) : St := vs.map some ++ List.replicate (N.length - vs.length) none
def cxOf (CX : CXT)(P : Program)(w : World)(K : PySem.W.Frag)(mg : Str -> Option Value)(base : Heap)(N : List Str)(qual : Str)(scope : Scope)(f : Addr)(cd : Value)(A : Around)(outer : List Env)(s : Shared)(H : Hp)(E : XK) : Cx where
  prog := P
  w := w
  K := K
  mg := mg
  base := base
  A := A.deeper (envOfC qual scope s.heap.objs.size f cd)
  N := N
  s₀ := s
  H₀ := H
  env := envOfC qual scope s.heap.objs.size f cd
  outer := outer
  stack := envOfC qual scope s.heap.objs.size f cd :: outer
  ex := []
  calm := true
  fn := fun _ => true
  pn := []
  xe := fun e s' => wpAny (model P w) (A.deeper (envOfC qual scope s.heap.objs.size f cd)) (leaving (envOfC qual scope s.heap.objs.size f cd) e) (fun _ s'' => CX outer H s E e s'') (fun e' s'' => CX outer H s E e' s'') s'
theorem cell_has {sc : Scope}{n : Nat}{x : Str}(h : sc.names.lookup x = some .cell) : ∃ c,(cellsFrom n sc.names []).lookup x = some c := by
  have q := PySem.W.cellsFrom_some sc.names n [] (.inl h)
  exact Option.isSome_iff_exists.mp q
theorem inv_start {CX : CXT}{P : Program}{w : World}{K : PySem.W.Frag}{mg : Str -> Option Value}{base : Heap}{N ps : List Str}{qual : Str}{scope : Scope}{f : Addr}{cd : Value}{A : Around}{outer : List Env}{s s1 : Shared}{H : Hp}{E : XK}{us : List Value}{vs : List V}
    (S : FnScope N ps scope) (hd : A.handled = none) (e0 : Env0 P w K mg base A outer s H) (hl : vs.length = ps.length) (r : Vals vs us)
    (x : InCallC s s.heap.objs.size (bindL (envOfC qual scope s.heap.objs.size f cd).kindOf (ps.zip us) fun _ => none) (cellsFrom (s.heap.objs.size + 1) scope.names []) (bindC (envOfC qual scope s.heap.objs.size f cd).kindOf (ps.zip us) fun _ => none) s1) :
    Inv (cxOf CX P w K mg base N qual scope f cd A outer s H E) [] (start N vs) H s1 := by
  have hpl : ps.length <= N.length := by have := congrArg List.length S.pre; rw [List.length_take] at this; omega
  obtain ⟨h1,tk,rfl,hk⟩ := x.done
  have noA : ∀ b : Addr,b ∉ (cxOf CX P w K mg base N qual scope f cd A outer s H E).ex := fun b z => absurd (show b ∈ ([] : List Addr) from z) (by simp)
  refine ⟨⟨e0.mod,S.kind,rfl,rfl,Nat.le_refl _,fun y z c h1 h2 => ?_,fun y hy => ?_,fun y c _ h => ?_,fun _ => hd,Around.frames_deeper e0.frames,.inr ⟨rfl,rfl⟩,fun b z => absurd z (noA b),e0.bs,e0.bsz,fun b _ _ => noA b,fun b z => absurd z (noA b),e0.funs,e0.frf⟩,
    rfl,e0.bare,Un.kept hk,⟨_,x.toInCall.ns,fun i y v h1 h2 h3 => ?_⟩,fun y c h => ⟨_,x.cell y c h⟩,e0.hok.fresh (Nat.le_refl _),fun y c h => ?_,fun p hp => absurd (show p ∈ ([] : List (Addr × Obj)) from hp) (by simp),e0.hok.kept hk,?_⟩
  · exact name_of_addr x.apart (PySem.mem_of_lookup h1) (PySem.mem_of_lookup h2)
  · have hy : scope.names.lookup y = some .cell \/ scope.names.lookup y = some .free := hy
    rcases hy with hy | hy
    · exact cell_has hy
    · exact absurd rfl (S.nofree _ (PySem.mem_of_lookup hy))
  · exact Nat.le_of_lt (x.above y c (PySem.mem_of_lookup h))
  · have hi : i < vs.length := by
      unfold start at h2
      by_cases hi : i < vs.length
      · exact hi
      · rw [List.getElem?_append_right (by simpa using hi)] at h2
        rw [List.getElem?_replicate] at h2
        split at h2 <;> cases h2
    have ha : vs[i]? = some v := by
      unfold start at h2
      rw [List.getElem?_append_left (by simpa using hi),List.getElem?_map] at h2
      cases e : vs[i]? with
      | none => rw [e] at h2; cases h2
      | some a => rw [e] at h2; cases h2; rfl
    obtain ⟨u,hu,rv⟩ := r.get ha
    have hp : ps[i]? = some y := by
      rw [<- S.pre,List.getElem?_take_of_lt (by omega)]; exact h1
    have ndP : ps.Nodup := by rw [<- S.pre]; exact S.nd.sublist (List.take_sublist _ _)
    refine ⟨u,rv,?_⟩
    rcases S.par y (List.mem_of_getElem? hp) with k | k
    · exact .inl ⟨k,bindL_get ndP hp hu k⟩
    · obtain ⟨c,e⟩ := cell_has (n := s.heap.objs.size + 1) k
      refine .inr ⟨.inl k,c,e,?_⟩
      have q := x.cell y c e
      rw [bindC_get ndP hp hu (by show scope.names.lookup y ≠ _; rw [k]; decide)] at q
      exact q
  · exact e0.hok.fresh (Nat.le_of_lt (x.above y c (PySem.mem_of_lookup h)))
  · unfold start
    show _ = N.length
    rw [List.length_append,List.length_map,List.length_replicate]
    omega
theorem fn_of {CX : CXT}{P : Program}{w : World}{K : PySem.W.Frag}{mg : Str -> Option Value}{base : Heap}{k : Nat}{f : Addr}{name qual : Str}{params : Arguments}{body : List Stmt}{scope : Scope}{dV kV doc pm cdv ct oc : Value}{an od : Option Addr}
    {osl : Array (Option Value)} {N ps : List Str} {sp : Sp} (lk : K.lookup f = some ⟨oc,od,.func (PySem.W.fnOf name qual params body scope dV kV doc pm an cdv ct),osl⟩) (hcd : PySem.W.codeIn K cdv qual = true) (S : FnScope N ps scope)
    (len : ∀ vs H Q E,sp vs H Q E -> vs.length = ps.length)
    (hbody : ∀ (A : Around) (outer : List Env) (s : Shared) (H : Hp) (vs : List V) (Q : VK) (E : XK),Room k (A.deeper (envOfC qual scope s.heap.objs.size f cdv)) -> sp vs H Q E ->
      ∃ t,PSs (cxOf CX P w K mg base N qual scope f cdv A outer s H E) body t /\ t { nx := fun _ H' => Q .non H',rt := Q } (start N vs) H) :
    FnOk P w K mg base CX (k + 1) f (PySem.W.fnOf name qual params body scope dV kV doc pm an cdv ct) ps sp := by
  refine ⟨len,fun A outer s H args us vs Q E hr e0 hb r hsp => ?_⟩
  have hl := len _ _ _ _ hsp
  have KX : K.In s.heap := e0.mod.kin.keeps fun b o e => (e0.bs b o e).1
  have lim : s.heap.NoLimit := e0.mod.nolimit.keeps fun b o e => (e0.bs b o e).1
  have hkind : ∀ y ∈ ps.zip us,scope.names.lookup y.1 = some .local \/ (scope.names.lookup y.1 = some .cell /\ ((cellsFrom (s.heap.objs.size + 1) scope.names []).lookup y.1).isSome = true) := fun ⟨n,v⟩ hy => by
    rcases S.par n (List.of_mem_zip hy).1 with q | q
    · exact .inl q
    · exact .inr ⟨q,PySem.W.cellsFrom_some _ _ _ (.inl q)⟩
  refine codeAny_call_function hr.depth (KX _ _ lk) rfl S.co S.gen rfl (PySem.W.codeRec_of KX hcd) (hb _ _ _ _ ?_)
  refine wpAny_newFunctionEnv_cells S.kind hkind fun env he s1 x => ?_
  subst he
  refine ⟨lim.keeps x.toInCall.keep,codeAny_func ?_⟩
  obtain ⟨t,ht,hq⟩ := hbody A outer s H vs Q E (hr.deeper _) hsp
  have I : Inv (cxOf CX P w K mg base N qual scope f cdv A outer s H E) [] (start N vs) H s1 := inv_start S hr.hd e0 hl r x
  refine wpAny_mono (ht [] s1 (start N vs) H _ I hq) (fun fl s' hs => ?_) fun e s' hs => hs
  have fin : ∀ {σ' : St} {H' : Hp} {v : V} {u : Value},Inv (cxOf CX P w K mg base N qual scope f cdv A outer s H E) [] σ' H' s' -> RelV v u -> Q v H' -> CE outer P w H s Q u s' :=
    fun {σ' H' v u} J rv q => ⟨v,H',J.os,J.bare,J.base,J.hok,rv,q⟩
  cases fl with
  | ret u =>
    obtain ⟨v,σ',H',J,rv,q⟩ := hs
    exact fin J rv q
  | next =>
    obtain ⟨σ',H',J,q⟩ := hs
    exact fin (v := V.non) (u := Value.none) J rfl q
  | brk =>
    obtain ⟨_,_,_,q⟩ := hs
    exact False.elim q
  | cont =>
    obtain ⟨_,_,_,q⟩ := hs
    exact False.elim q
end L2
namespace L2
open PySem PySem.Spec PyProof.Rows
section
variable {X : Cx}{x : Str}{p pos : Pos}{e : Expr}{es : List Expr}{t : TA}{id T : String}{r : List V -> Hp -> VK -> Prop}
def tCB (r : List V -> Hp -> VK -> Prop)(t : TA) : TE := fun σ H Q => t σ H fun vs H1 => r vs H1 Q
theorem pe_callB (hc : CallR X (.builtin id) r)(hg : Gl X x)(hm : X.mg x = none)(hv : bootBuiltins x = some (.builtin id))(ha : PA X (e :: es) t)(hn : x ≠ "__name__" := by decide) (hdb : (x == ("__debug__" : Str)) = false := by decide)
    (he : starEach (e :: es) X.env = (false,eval e X.env) :: starEach es X.env := by rfl) (hpl : (backTo pos (starEach es X.env)).any (·.1) = false := by rfl) : PE X (.Call (.Name x p) (e :: es) [] pos) (tCB r t) := by
  intro pins s σ H Q I h
  refine wpAny_Call_Name_kw (ld_blt I hg hm hv ?_ hn hdb)
  exact PyProof.Rows.callWith_builtin1 (thn (ha pos pins s σ H _ I h) fun us s1 ⟨vs,H1,I1,r1,q1⟩ => hc pins s1 σ H1 vs us Q I1 r1 q1) he hpl
theorem pe_callTy (hc : CallR X (.type T) r)(hg : Gl X x)(hm : X.mg x = none)(hv : bootBuiltins x = some (.type T))(ha : PA X (e :: es) t)(hn : x ≠ "__name__" := by decide) (hdb : (x == ("__debug__" : Str)) = false := by decide)
    (he : starEach (e :: es) X.env = (false,eval e X.env) :: starEach es X.env := by rfl) (hpl : (backTo pos (starEach es X.env)).any (·.1) = false := by rfl) : PE X (.Call (.Name x p) (e :: es) [] pos) (tCB r t) := by
  intro pins s σ H Q I h
  refine wpAny_Call_Name_kw (ld_blt I hg hm hv ?_ hn hdb)
  exact PyProof.Rows.callWith_type1 (thn (ha pos pins s σ H _ I h) fun us s1 ⟨vs,H1,I1,r1,q1⟩ => hc pins s1 σ H1 vs us Q I1 r1 q1) he hpl
end
end L2
namespace HT
open PySem PyProof.Rows
section
open PySem.SeqAt
open PySem.AutoSeq1 (wpAny_loadPart')
open PySem.MeetsSeq PySem.MeetsSeq2 PySem.MeetsSeq3
end
section
variable {prog : Program}{w : World}{A : Around}{E : Value -> Shared -> Prop}{s : Shared}
def sIx (n d : Nat) : Option Int -> Nat
  | none => d
  | some v => if v < 0 then (v + (n : Int)).toNat else min v.toNat n
theorem sIx_nat (n d k : Nat) : sIx n d (some (k : Int)) = min k n := by
  show (if (k : Int) < 0 then ((k : Int) + (n : Int)).toNat else min (k : Int).toNat n) = min k n
  rw [if_neg (by omega),Int.toNat_natCast]
theorem sIx_le (n d : Nat)(hd : d <= n)(o : Option Int) : sIx n d o <= n := by
  cases o with
  | none => exact hd
  | some v =>
    show (if v < 0 then (v + (n : Int)).toNat else min v.toNat n) <= n
    by_cases hv : v < 0
    · rw [if_pos hv]; omega
    · rw [if_neg hv]; exact Nat.min_le_right _ _
theorem clip_eq (v : Int)(n d : Nat) : (if v < 0 then max (v + (n : Int)) 0 else min v (n : Int)) = ((sIx n d (some v) : Nat) : Int) := by
  show (if v < 0 then max (v + (n : Int)) 0 else min v (n : Int)) = (((if v < 0 then (v + (n : Int)).toNat else min v.toNat n) : Nat) : Int)
  by_cases hv : v < 0
  · simp only [if_pos hv]; omega
  · simp only [if_neg hv]; omega
theorem adjust_gen (lo hi : Option Int)(n : Nat) : Builtin.Slice.sliceAdjust lo hi 1 (n : Int) = (((sIx n 0 lo : Nat) : Int),((sIx n n hi : Nat) : Int)) := by
  have h1 : ¬ ((1 : Int) < 0) := by omega
  unfold Builtin.Slice.sliceAdjust
  simp only [h1,if_false]
  refine Prod.ext ?_ ?_
  · cases lo with
    | none => rfl
    | some v => exact clip_eq v n 0
  · cases hi with
    | none => rfl
    | some v => exact clip_eq v n n
theorem places_gen (i j : Nat) : Builtin.Slice.slicePlaces (i : Int) (j : Int) 1 = j - i := by
  unfold Builtin.Slice.slicePlaces
  have h1 : (1 : Int) > 0 := by omega
  simp only [h1,if_true,Int.ediv_one]
  split <;> omega
theorem slicePart_ {v : Value}{o : Option Int}{Q : Option Int -> Shared -> Prop}(p : IsPart v o)(h : Q o s) : wpAny (model prog w) A (Builtin.Slice.slicePartIndex v) Q E s := by
  cases p with
  | none => exact slicePart_none h
  | int i t => exact slicePart_int h
theorem sliceApplied_gen {sl : Addr}{vl vu : Value}{lo hi : Option Int}{n : Nat}{Q : Int × Int × Nat -> Shared -> Prop}(hs : s.heap.IsSliceOf sl vl vu .none)(pl : IsPart vl lo)(pu : IsPart vu hi)
    (h : Q (((sIx n 0 lo : Nat) : Int),1,sIx n n hi - sIx n 0 lo) s) : wpAny (model prog w) A (Builtin.Slice.sliceApplied (.ref sl) (pure (n : Int))) Q E s := by
  obtain ⟨os,hos,hcs,hds⟩ := id hs
  unfold Builtin.Slice.sliceApplied Builtin.Slice.sliceFields
  refine wpAny_bind (wpAny_bind (wpAny_field hos hds (x := vl) rfl (wpAny_bind (wpAny_field hos hds (x := vu) rfl (wpAny_bind (wpAny_field hos hds (x := .none) rfl (wpAny_pure ?_)))))))
  refine wpAny_bind (slicePart_none ?_)
  show wpAny _ _ (if ((1 : Int) == 0) = true then _ else _) _ _ s
  rw [if_neg (by decide)]
  refine wpAny_bind (slicePart_ pl (wpAny_bind (slicePart_ pu (wpAny_bind (wpAny_pure ?_)))))
  show wpAny _ _ (match Builtin.Slice.sliceAdjust lo hi 1 (n : Int) with | (lo,hi) => pure (lo,(1 : Int),Builtin.Slice.slicePlaces lo hi 1)) _ _ s
  rw [adjust_gen lo hi n]
  show wpAny _ _ (pure (((sIx n 0 lo : Nat) : Int),(1 : Int),Builtin.Slice.slicePlaces ((sIx n 0 lo : Nat) : Int) ((sIx n n hi : Nat) : Int) 1)) _ _ s
  rw [places_gen]
  exact wpAny_pure h
theorem pick_gen (xs : Array Value)(i k : Nat) : ((List.range k).filterMap fun (m : Nat) => xs[((i : Int) + (m : Int) * 1).toNat]?).toArray = ((xs.toList.drop i).take k).toArray := by
  have e : (fun (m : Nat) => xs[((i : Int) + (m : Int) * 1).toNat]?) = fun m => xs[i + m]? := by
    funext m
    have : ((i : Int) + (m : Int) * 1).toNat = i + m := by omega
    rw [this]
  rw [e]
  have := pick_run xs i k
  rw [List.filterMap_map] at this
  have e2 : ((fun x => xs[x]?) ∘ fun x => i + x) = fun m => xs[i + m]? := rfl
  rw [e2] at this
  rw [this]
theorem getItem_tuple_cut {t sl : Addr}{items : Array Value}{vl vu : Value}{lo hi : Option Int}{Q : Value -> Shared -> Prop}(ht : IsTup s.heap t items)(hs : s.heap.IsSliceOf sl vl vu .none)(pl : IsPart vl lo)(pu : IsPart vu hi)
    (hw : ¬ (sIx items.size 0 lo = 0 /\ sIx items.size items.size hi = items.size))
    (h : Q (.ref s.heap.objs.size) { s with heap := s.heap.push { cls := .type "tuple",data := .seq ((items.toList.drop (sIx items.size 0 lo)).take (sIx items.size items.size hi - sIx items.size 0 lo)).toArray } })
    (hsz : items.size <= sizeLine) : wpAny (model prog w) A (getItem (.ref t) (.ref sl)) Q E s := by
  have htake : sizeOk (.seq ((items.toList.drop (sIx items.size 0 lo)).take (sIx items.size items.size hi - sIx items.size 0 lo)).toArray) := by
    show ((items.toList.drop (sIx items.size 0 lo)).take (sIx items.size items.size hi - sIx items.size 0 lo)).toArray.size <= sizeLine
    rw [List.size_toArray,List.length_take,List.length_drop,Array.length_toList]
    omega
  have hj : sIx items.size items.size hi <= items.size := sIx_le _ _ (Nat.le_refl _) hi
  obtain ⟨os,hos,hcs,hds⟩ := id hs
  have hTs : s.TypeIs (.ref sl) "slice" := ⟨os,hos,hcs⟩
  unfold getItem
  try with_reducible refine wpAny_holding ?_
  first | refine wpAny_bind (wpAny_pure ?_) | skip
  refine wpAny_bind (wpAny_sequenceKey ht.typeIs (by decide) ?_)
  refine wpAny_bind (wpAny_callSpecial?_slot (name := Str.ofString "__getitem__") ht.typeIs PyProof.Rows.slot_tuple_getitem
    (wpAny_call_entry PyProof.Rows.slot_tuple_getitem ht.typeIs entry_tuple_getitem ?_ (args_tuple_getitem _ _)))
  show wpAny _ _ (Builtin.Tuple.tupleItemsOf (.ref t) >>= _) _ _ s
  refine wpAny_bind (tupleItemsOf_ ht ?_)
  refine wpAny_bind (wpAny_typeOf hTs ?_)
  rw [if_pos (by decide)]
  refine wpAny_bind (sliceApplied_gen hs pl pu ?_)
  have hno : ¬ ((((sIx items.size 0 lo : Nat) : Int) == 0 && (1 : Int) == 1 && (sIx items.size items.size hi - sIx items.size 0 lo) == items.size) = true) := by
    intro q
    rw [Bool.and_eq_true,Bool.and_eq_true] at q
    have q1 : ((sIx items.size 0 lo : Nat) : Int) = 0 := eq_of_beq q.1.1
    have q2 : sIx items.size items.size hi - sIx items.size 0 lo = items.size := eq_of_beq q.2
    exact hw ⟨by omega,by omega⟩
  show wpAny _ _ (if (((sIx items.size 0 lo : Nat) : Int) == 0 && (1 : Int) == 1 && (sIx items.size items.size hi - sIx items.size 0 lo) == items.size) = true then _ else _) _ _ s
  rw [if_neg hno,pick_gen]
  first
    | exact wpAny_bind (m := Builtin.Tuple.tupleExact _) (wpAny_newObj_type (wpAny_pure ⟨_,rfl,wpAny_pure h⟩) htake)
    | exact wpAny_bind (m := Builtin.Tuple.tupleExact _) (wpAny_newObj_type (wpAny_bind (wpAny_pure (wpAny_pure ⟨_,rfl,wpAny_pure h⟩))) htake)
    | exact wpAny_bind (wpAny_bind (m := Builtin.Tuple.tupleExact _) (wpAny_newObj_type (wpAny_pure (wpAny_pure ⟨_,rfl,wpAny_pure h⟩)) htake))
    | exact wpAny_bind (wpAny_bind (m := Builtin.Tuple.tupleExact _) (wpAny_newObj_type (wpAny_pure ⟨_,rfl,wpAny_pure h⟩) htake))
end
end HT
namespace L2
open PySem PySem.Spec PyProof.Rows
abbrev TO := St -> Hp -> (Option Int -> Hp -> Prop) -> Prop
def PO (X : Cx)(e : Option Expr)(t : TO) : Prop :=
  ∀ (pins : List (Addr × Obj)) (s : Shared) (σ : St) (H : Hp) (Q : Option Int -> Hp -> Prop),Inv X pins σ H s -> t σ H Q ->
    wpAny (model X.prog X.w) X.A (evalPart e X.env) (fun u s' => ∃ o H',Inv X pins σ H' s' /\ IsPart u o /\ Q o H') X.xe s
def tNoPart : TO := fun _ H Q => Q none H
def tPart (t : TE) : TO := fun σ H Q => t σ H fun x H1 => ∃ i,x = .int i /\ Q (some i) H1
section
variable {X : Cx}{e : Expr}{te : TE}{lo hi : Option Expr}{tl th : TO}{pos p2 : Pos}
theorem po_none : PO X none tNoPart := by
  intro pins s σ H Q I h
  rw [evalPart_none]
  exact wpAny_pure ⟨none,H,I,.none,h⟩
theorem po_some (h : PE X e te) : PO X (some e) (tPart te) := by
  intro pins s σ H Q I hw
  rw [evalPart_some]
  refine thn (h pins s σ H _ I hw) fun u s1 ⟨x,H1,I1,r1,q1⟩ => ?_
  obtain ⟨i,rfl,q⟩ := q1
  obtain ⟨t,rfl⟩ := r1
  exact ⟨some i,H1,I1,.int i t,q⟩
def SlR (X : Cx)(r : V -> Option Int -> Option Int -> Hp -> VK -> Prop) : Prop :=
  ∀ (pins : List (Addr × Obj)) (s : Shared) (σ : St) (H : Hp) (x : V) (v vl vu : Value) (lo hi : Option Int) (sl : Addr) (Q : VK),Inv X pins σ H s -> RelV x v -> s.heap.IsSliceOf sl vl vu .none -> IsPart vl lo -> IsPart vu hi -> r x lo hi H Q ->
    ∃ T id,typeLookup (.type T) "__getitem__" = pure (some (.builtin id)) /\ s.TypeIs v T /\ wpAny (model X.prog X.w) X.A (getItem v (.ref sl)) (EP X pins σ Q) X.xe s
theorem SlR.or {r r' : V -> Option Int -> Option Int -> Hp -> VK -> Prop}(h : SlR X r)(h' : SlR X r') : SlR X (fun x lo hi H Q => r x lo hi H Q \/ r' x lo hi H Q) := by
  intro pins s σ H x v vl vu lo hi sl Q I rx hs pl pu q
  rcases q with q | q
  · exact h pins s σ H x v vl vu lo hi sl Q I rx hs pl pu q
  · exact h' pins s σ H x v vl vu lo hi sl Q I rx hs pl pu q
def tSl (r : V -> Option Int -> Option Int -> Hp -> VK -> Prop)(te : TE)(tl th : TO) : TE := fun σ H Q => te σ H fun x H1 => tl σ H1 fun l H2 => th σ H2 fun u H3 => r x l u H3 Q
theorem pe_slice {r : V -> Option Int -> Option Int -> Hp -> VK -> Prop}(hr : SlR X r)(he : PE X e te)(hl : PO X lo tl)(hu : PO X hi th) : PE X (.Subscript e (.Slice lo hi none p2) pos) (tSl r te tl th) := by
  intro pins s σ H Q I h
  refine Subscript_ (thn (he pins s σ H _ I h) fun v s1 ⟨x,H1,I1,r1,q1⟩ => ?_)
  refine wpAny_Slice (thn (hl pins s1 σ H1 _ I1 q1) fun vl s2 ⟨l,H2,I2,pl,q2⟩ => thn (hu pins s2 σ H2 _ I2 q2) fun vu s3 ⟨u,H3,I3,pu,q3⟩ => ?_)
  rw [evalPart_none]
  refine wpAny_pure ?_
  have I4 : Inv X pins σ H3 { s3 with heap := s3.heap.push { cls := .type "slice",data := .fields #[vl,vu,.none] } } := I3.kept (t' := s3.toks) fun b ob q => Heap.get?_push_of_some _ q
  obtain ⟨T,id,hT,ht,hg⟩ := hr pins { s3 with heap := s3.heap.push { cls := .type "slice",data := .fields #[vl,vu,.none] } } σ H3 x v vl vu l u s3.heap.objs.size Q I4 r1 (Heap.IsSliceOf.new ..) pl pu q3
  show wpAny (model X.prog X.w) X.A (subscriptTail e (.Slice lo hi none p2) v (.ref s3.heap.objs.size)) (EP X pins σ Q) X.xe { s3 with heap := s3.heap.push { cls := .type "slice",data := .fields #[vl,vu,.none] } }
  exact tail_any (ops := [.ref s3.heap.objs.size,v]) ht hT hg (by with_unfolding_all rfl)
def cutV (xs : List V)(lo hi : Option Int) : List V := (xs.drop (HT.sIx xs.length 0 lo)).take (HT.sIx xs.length xs.length hi - HT.sIx xs.length 0 lo)
theorem cutV_length (xs : List V)(lo hi : Option Int) : (cutV xs lo hi).length <= xs.length := by
  unfold cutV
  rw [List.length_take,List.length_drop]
  omega
def rSlT (K : PySem.W.Frag) : V -> Option Int -> Option Int -> Hp -> VK -> Prop := fun x lo hi H Q => ∃ a xs,x = .ref a /\ SqT K H a xs /\
  ¬ (HT.sIx xs.length 0 lo = 0 /\ HT.sIx xs.length xs.length hi = xs.length) /\ ∀ p,H p = none -> Q (.ref p) (upd H p (.tup (cutV xs lo hi)))
theorem sl_tup : SlR X (rSlT X.K) := by
  intro pins s σ H x v vl vu lo hi sl Q I rx hs pl pu h
  obtain ⟨a,xs,rfl,hx,hw,q⟩ := h
  cases rx
  obtain ⟨its,r,ht,hz⟩ := I.tuple hx
  have hlen : its.toArray.size = xs.length := by rw [List.size_toArray]; exact r.length.symm
  refine ⟨"tuple",_,PyProof.Rows.slot_tuple_getitem.lookup,ht.typeIs,?_⟩
  refine HT.getItem_tuple_cut ht hs pl pu (by rw [hlen]; exact hw) ?_ (by rw [hlen]; exact hz)
  rw [hlen]
  refine ⟨.ref s.heap.objs.size,_,I.laid (t' := s.toks) (o := .tup (cutV xs lo hi)) (fun b ob q => Heap.get?_push_of_some _ q) (Nat.le_refl _) ?_,rfl,q _ (I.hok.fresh (Nat.le_refl _))⟩
  exact ⟨Nat.le_trans (cutV_length xs lo hi) hz,_,(r.drop (HT.sIx xs.length 0 lo)).take (HT.sIx xs.length xs.length hi - HT.sIx xs.length 0 lo),IsTup.new _ _⟩
end
end L2
namespace L2
open PySem PySem.Spec PyProof.Rows
def ixN (n : Nat)(i : Int) : Option Nat := if 0 <= i then (if i < n then some i.toNat else none) else if -(n : Int) <= i then some (i + n).toNat else none
def atI {α : Type}(xs : List α)(i : Int) : Option α := (ixN xs.length i).bind fun j => xs[j]?
theorem ixN_seq {n : Nat}{i : Int}{j : Nat}(h : ixN n i = some j) : seqIndex? i n = some j /\ j < n /\ -(n : Int) <= i /\ i < n := by
  unfold ixN at h
  by_cases h0 : 0 <= i
  · rw [if_pos h0] at h
    by_cases h1 : i < n
    · rw [if_pos h1] at h
      have e : i.toNat = j := Option.some.inj h
      exact ⟨by rw [seqIndex_of h0 h1,e],by omega,by omega,h1⟩
    · rw [if_neg h1] at h; cases h
  · rw [if_neg h0] at h
    by_cases h1 : -(n : Int) <= i
    · rw [if_pos h1] at h
      have e : (i + n).toNat = j := Option.some.inj h
      exact ⟨by rw [seqIndex_neg (by omega) h1,e],by omega,h1,by omega⟩
    · rw [if_neg h1] at h; cases h
theorem atI_get {α : Type}{xs : List α}{i : Int}{v : α}(h : atI xs i = some v) : ∃ j,seqIndex? i xs.length = some j /\ xs[j]? = some v /\ j < xs.length /\ -(xs.length : Int) <= i /\ i < xs.length := by
  unfold atI at h
  cases e : ixN xs.length i with
  | none => rw [e] at h; cases h
  | some j =>
    rw [e] at h
    obtain ⟨h1,h2,h3,h4⟩ := ixN_seq e
    exact ⟨j,h1,h,h2,h3,h4⟩
theorem atI_nat {α : Type}{xs : List α}{j : Nat}{v : α}(h : xs[j]? = some v) : atI xs (j : Int) = some v := by
  have hj : j < xs.length := (List.getElem?_eq_some_iff.mp h).1
  have e : ixN xs.length (j : Int) = some j := by
    unfold ixN
    rw [if_pos (by omega),if_pos (by omega)]; simp
  unfold atI; rw [e]; exact h
def PlainIx (b : Expr) : Prop := ∀ o i,subscripted b false o i = operate [o,i] (getItem o i)
def IxR (X : Cx)(r : R2) : Prop :=
  ∀ (value slice : Expr) (pins : List (Addr × Obj)) (s : Shared) (σ : St) (H : Hp) (x y : V) (v u : Value) (Q : VK),Inv X pins σ H s -> RelV x v -> RelV y u -> r x y H Q ->
    subscripted slice false v u = operate [v,u] (getItem v u) -> wpAny (model X.prog X.w) X.A (subscriptTail value slice v u) (EP X pins σ Q) X.xe s
def MtR (X : Cx)(id : String)(r : V -> List V -> Hp -> VK -> Prop) : Prop :=
  ∀ (pins : List (Addr × Obj)) (s : Shared) (σ : St) (H : Hp) (x : V) (xs : List V) (v : Value) (us : List Value) (Q : VK),Inv X pins σ H s -> RelV x v -> Vals xs us -> r x xs H Q ->
    wpAny (model X.prog X.w) X.A (call (.builtin id) (v :: us)) (EP X pins σ Q) X.xe s
section
variable {X : Cx}{a b : Expr}{ta tb : TE}{pos : Pos}
theorem IxR.or {r r' : R2}(h : IxR X r)(h' : IxR X r') : IxR X (fun x y H Q => r x y H Q \/ r' x y H Q) := by
  intro value slice pins s σ H x y v u Q I rx ry q hs
  rcases q with q | q
  · exact h value slice pins s σ H x y v u Q I rx ry q hs
  · exact h' value slice pins s σ H x y v u Q I rx ry q hs
theorem pe_ix {r : R2}(hr : IxR X r)(ha : PE X a ta)(hb : PE X b tb)(hs : PlainIx b) : PE X (.Subscript a b pos) (tOp r ta tb) := by
  intro pins s σ H Q I h
  exact Subscript_ (binT ha hb I h fun v u s2 x y H2 I2 rx ry q => hr a b pins s2 σ H2 x y v u Q I2 rx ry q (hs _ _))
def rIxL (K : PySem.W.Frag) : R2 := fun x y H Q => ∃ p xs i v,x = .ref p /\ y = .int i /\ SqL K H p xs /\ atI xs i = some v /\ Q v H
def rIxT (K : PySem.W.Frag) : R2 := fun x y H Q => ∃ p xs i v,x = .ref p /\ y = .int i /\ SqT K H p xs /\ atI xs i = some v /\ Q v H
theorem ix_list : IxR X (rIxL X.K) := by
  intro value slice pins s σ H x y v u Q I rx ry h hs
  obtain ⟨p,xs,i,z,rfl,rfl,hq,he,q⟩ := h
  cases rx
  obtain ⟨t,rfl⟩ := ry
  obtain ⟨its,r,pl,hz⟩ := I.list hq
  obtain ⟨j,h1,h2,h3,h4,h5⟩ := atI_get he
  obtain ⟨w,ew,rw'⟩ := r.get h2
  have hl := r.length
  have hn := line63
  have fin : EP X pins σ Q w s := ⟨z,H,I,rw',q⟩
  by_cases h0 : 0 <= i
  · have hj : i.toNat = j := by
      rw [seqIndex_of h0 h5] at h1
      exact Option.some.inj h1
    exact item_listR pl.isList h0 (by omega) (by rw [hj]; simpa using ew) fin hs
  · have hj : (i + (its.toArray.size : Int)).toNat = j := by
      rw [seqIndex_neg (by omega) h4] at h1
      rw [List.size_toArray,<- hl]
      exact Option.some.inj h1
    exact subscriptTail_builtinR (x := w) pl.isList.typeIs slot_list_getitem.lookup
      (wpAny_getItem_list_neg (Q := fun r s' => r = w /\ EP X pins σ Q r s') pl.isList (by omega) (by rw [List.size_toArray] <;> omega) (by omega) (by rw [hj]; simpa using ew) ⟨rfl,fin⟩) hs
theorem ix_tup : IxR X (rIxT X.K) := by
  intro value slice pins s σ H x y v u Q I rx ry h hs
  obtain ⟨p,xs,i,z,rfl,rfl,hq,he,q⟩ := h
  cases rx
  obtain ⟨t,rfl⟩ := ry
  obtain ⟨its,r,pl,hz⟩ := I.tuple hq
  obtain ⟨j,h1,h2,h3,h4,h5⟩ := atI_get he
  obtain ⟨w,ew,rw'⟩ := r.get h2
  have hl := r.length
  have hn := line63
  have fin : EP X pins σ Q w s := ⟨z,H,I,rw',q⟩
  exact subscriptTail_builtinR (x := w) pl.typeIs slot_tuple_getitem.lookup
    (getItem_tuple (j := j) (Q := fun r s' => r = w /\ EP X pins σ Q r s') pl (by omega) (by omega) (by rw [List.size_toArray,<- hl]; exact h1) (by simpa using ew) ⟨rfl,fin⟩) hs
theorem mapSeq_set (its : List Value)(n j : Nat)(u : Value) : Obj.mapSeq (·.setIfInBounds j u) { cls := .type "list",data := .seq its.toArray n } = { cls := .type "list",data := .seq (its.set j u).toArray n } := by
  simp [Obj.mapSeq]
theorem Inv.lst {pins : List (Addr × Obj)}{σ : St}{H : Hp}{s : Shared}{p : Addr}{xs : List V}(I : Inv X pins σ H s)(h : H p = some (.lst xs)) :
    ∃ (its : List Value) (n : Nat),Vals xs its /\ s.heap.get? p = some { cls := .type "list",data := .seq its.toArray n } /\ xs.length <= sizeLine := by
  obtain ⟨z,its,n,r,e⟩ := I.hok p _ h
  exact ⟨its,n,r,e,z⟩
theorem Inv.lstUpd {pins : List (Addr × Obj)}{σ : St}{H : Hp}{s : Shared}{p : Addr}{xs ys : List V}{its its' : List Value}{n n' : Nat}{f : Obj -> Obj}(I : Inv X pins σ H s)(h : H p = some (.lst xs))
    (ho : s.heap.get? p = some { cls := .type "list",data := .seq its.toArray n }) (hf : f { cls := .type "list",data := .seq its.toArray n } = { cls := .type "list",data := .seq its'.toArray n' }) (r : Vals ys its') (hz : ys.length <= sizeLine) (t : Nat) :
    Inv X pins σ (upd H p (.lst ys)) { s with heap := s.heap.update p f,toks := t } := by
  have e : (s.heap.update p f).get? p = some { cls := .type "list",data := .seq its'.toArray n' } := by
    rw [Heap.get?_update_self f ho (by rw [hf] <;> rfl),hf]
  refine I.write (x := p) (e := p) (by rw [h]; trivial) (.inl rfl) (fun b u hb q => (Heap.get?_update_other _ _ (Ne.symm hb)).trans q) ⟨_,e⟩ ?_
  exact ⟨hz,its',n',r,e⟩
def rSetL : V -> V -> V -> Hp -> (Hp -> Prop) -> Prop := fun o i v H Q => ∃ p xs k j,o = .ref p /\ i = .int k /\ H p = some (.lst xs) /\ ixN xs.length k = some j /\ Q (upd H p (.lst (xs.set j v)))
theorem set_list : PSet X rSetL := by
  intro pins s σ H o i v ov iv u Q I ro ri rv h
  obtain ⟨p,xs,k,j,rfl,rfl,hp,hj,q⟩ := h
  cases ro
  obtain ⟨t,rfl⟩ := ri
  obtain ⟨its,n,r,ho,hz⟩ := I.lst hp
  obtain ⟨h1,h2,h3,h4⟩ := ixN_seq hj
  have hl := r.length
  have hn := line63
  have I' : Inv X pins σ (upd H p (.lst (xs.set j v))) { s with heap := s.heap.update p (Obj.mapSeq (·.setIfInBounds j u)) } :=
    I.lstUpd hp ho (mapSeq_set its n j u) (r.set rv j) (by rw [List.length_set]; exact hz) s.toks
  by_cases h0 : 0 <= k
  · have hk : k.toNat = j := by
      rw [seqIndex_of h0 h4] at h1
      exact Option.some.inj h1
    exact PySem.W.ki_setAt ho h0 (by omega) (by rw [List.size_toArray,<- hl]; exact h4) (by rw [hk]; exact ⟨_,I',q⟩)
  · have hk : (k + (its.toArray.size : Int)).toNat = j := by
      rw [seqIndex_neg (by omega) h3] at h1
      rw [List.size_toArray,<- hl]
      exact Option.some.inj h1
    exact PySem.W.ki_setBack ho (by omega) (by rw [List.size_toArray,<- hl]; exact h3) (by omega) (by rw [hk]; exact ⟨_,I',q⟩)
theorem slice_bounds (lo hi : Option Int)(n : Nat) : (sliceBounds lo hi none n).1 = ((HT.sIx n 0 lo : Nat) : Int) /\ (sliceBounds lo hi none n).2.1 = ((HT.sIx n n hi : Nat) : Int) /\ (sliceBounds lo hi none n).2.2 = 1 := by
  refine ⟨?_,?_,rfl⟩
  · cases lo with
    | none => simp [sliceBounds,HT.sIx]
    | some i =>
      simp only [sliceBounds,HT.sIx,Option.getD_none,show (1 : Int) > 0 by decide,if_true]
      by_cases h : i < 0
      · simp only [h,if_true] <;> omega
      · simp only [h,if_false] <;> omega
  · cases hi with
    | none => simp [sliceBounds,HT.sIx]
    | some i =>
      simp only [sliceBounds,HT.sIx,Option.getD_none,show (1 : Int) > 0 by decide,if_true]
      by_cases h : i < 0
      · simp only [h,if_true] <;> omega
      · simp only [h,if_false] <;> omega
theorem slicePick_cut (its : List Value)(lo hi : Option Int) : slicePick its.toArray lo hi none = ((its.drop (HT.sIx its.length 0 lo)).take (HT.sIx its.length its.length hi - HT.sIx its.length 0 lo)).toArray := by
  obtain ⟨h1,h2,h3⟩ := slice_bounds lo hi its.toArray.size
  unfold slicePick
  rw [h1,h2,h3]
  simp only [sliceRange_one,pick_run,List.size_toArray] <;> rfl
def rSlL (K : PySem.W.Frag) : V -> Option Int -> Option Int -> Hp -> VK -> Prop := fun x lo hi H Q => ∃ a xs,x = .ref a /\ SqL K H a xs /\ ∀ p,H p = none -> Q (.ref p) (upd H p (.lst (cutV xs lo hi)))
theorem sl_list : SlR X (rSlL X.K) := by
  intro pins s σ H x v vl vu lo hi sl Q I rx hs pl pu h
  obtain ⟨a,xs,rfl,hx,q⟩ := h
  cases rx
  obtain ⟨its,r,ht,hz⟩ := I.list hx
  have hlen := r.length
  refine ⟨"list",_,slot_list_getitem.lookup,ht.isList.typeIs,?_⟩
  refine wpAny_getItem_list_slice ht.isList hs pl pu .none (by simp) ?_ (by rw [List.size_toArray] <;> omega)
  rw [slicePick_cut,<- hlen]
  refine ⟨.ref s.heap.objs.size,_,I.laid (t' := s.toks) (o := .lst (cutV xs lo hi)) (fun b ob q => Heap.get?_push_of_some _ q) (Nat.le_refl _) ?_,rfl,q _ (I.hok.fresh (Nat.le_refl _))⟩
  exact ⟨Nat.le_trans (cutV_length xs lo hi) hz,_,0,(r.drop (HT.sIx xs.length 0 lo)).take (HT.sIx xs.length xs.length hi - HT.sIx xs.length 0 lo),Heap.get?_push_size _ rfl⟩
theorem call_len_seq : CallR X (.builtin "len") (fun xs H Q => ∃ p ys,xs = [.ref p] /\ (SqL X.K H p ys \/ SqT X.K H p ys) /\ Q (.int ys.length) H) := by
  intro pins s σ H xs us Q I r h
  obtain ⟨p,ys,rfl,hq,q⟩ := h
  obtain ⟨u,rfl,rx⟩ := vals1 r
  cases rx
  have hn := line63
  rcases hq with hq | hq
  · obtain ⟨its,r',pl,hz⟩ := I.list hq
    have hlen := r'.length
    exact Calls.call_len_list pl.isList (by simp only [List.size_toArray] <;> omega) ⟨.int ys.length,H,I.tok _,⟨s.toks + 1,by rw [List.size_toArray,hlen]⟩,q⟩
  · obtain ⟨its,r',pl,hz⟩ := I.tuple hq
    have hlen := r'.length
    exact len_tuple pl (by simp only [List.size_toArray] <;> omega) ⟨.int ys.length,H,I.tok _,⟨s.toks + 1,by rw [List.size_toArray,hlen]⟩,q⟩
theorem call_list_of : CallR X (.type "list") (fun xs H Q => ∃ p ys,xs = [.ref p] /\ (SqL X.K H p ys \/ SqT X.K H p ys) /\ ∀ l,H l = none -> Q (.ref l) (upd H l (.lst ys))) := by
  intro pins s σ H xs us Q I r h
  obtain ⟨p,ys,rfl,hq,q⟩ := h
  obtain ⟨u,rfl,rx⟩ := vals1 r
  cases rx
  have fin : ∀ (its : List Value),Vals ys its -> ys.length <= sizeLine -> ∀ (h' : Heap) (c' : Nat),(∀ b o',s.heap.get? b = some o' -> h'.get? b = some o') ->
      h'.get? s.heap.objs.size = some { cls := .type "list",dict := none,data := .seq its.toArray c',slots := #[] } -> EP X pins σ Q (.ref s.heap.objs.size) { s with heap := h' } := fun its r' hz h' c' kp e =>
    ⟨.ref s.heap.objs.size,_,I.laid (t' := s.toks) kp (Nat.le_refl _) (show ObjOk X.prog X.w _ h' _ (.lst ys) from ⟨hz,its,c',r',e⟩),rfl,q _ (I.hok.fresh (Nat.le_refl _))⟩
  rcases hq with hq | hq
  · obtain ⟨its,r',pl,hz⟩ := I.list hq
    have hlen := r'.length
    obtain ⟨o,ho,hc,n,hd⟩ := pl.isList
    exact call_list_seq p (.inl rfl) ho hc hd (fun h' c' kp e => fin its r' hz h' c' kp e) (by simp only [List.size_toArray] <;> omega)
  · obtain ⟨its,r',pl,hz⟩ := I.tuple hq
    have hlen := r'.length
    obtain ⟨o,ho,hc,n,hd⟩ := pl
    exact call_list_seq p (.inr rfl) ho hc hd (fun h' c' kp e => fin its r' hz h' c' kp e) (by simp only [List.size_toArray] <;> omega)
theorem call_tuple_of : CallR X (.type "tuple") (fun xs H Q => ∃ p ys,xs = [.ref p] /\ ((SqL X.K H p ys /\ ∀ l,H l = none -> Q (.ref l) (upd H l (.tup ys))) \/ (SqT X.K H p ys /\ Q (.ref p) H))) := by
  intro pins s σ H xs us Q I r h
  obtain ⟨p,ys,rfl,h⟩ := h
  obtain ⟨u,rfl,rx⟩ := vals1 r
  cases rx
  rcases h with ⟨hq,q⟩ | ⟨hq,q⟩
  · obtain ⟨its,r',pl,hz⟩ := I.list hq
    have hlen := r'.length
    refine call_tuple_list pl.isList (fun h' kp => ?_) (by simp only [List.size_toArray] <;> omega)
    have I1 : Inv X pins σ H { s with heap := h' } := I.kept (t' := s.toks) kp
    have I2 : Inv X pins σ (upd H h'.objs.size (.tup ys)) { s with heap := h'.push { cls := .type "tuple",data := .seq its.toArray } } :=
      I1.laid (t' := s.toks) (fun b o e => Heap.get?_push_of_some _ e) (Nat.le_refl _) (show ObjOk X.prog X.w _ _ _ (.tup ys) from ⟨hz,its,r',IsTup.new _ _⟩)
    exact ⟨.ref h'.objs.size,_,I2,rfl,q _ (I1.hok.fresh (Nat.le_refl _))⟩
  · obtain ⟨its,r',pl,hz⟩ := I.tuple hq
    exact call_tuple_same pl ⟨.ref p,H,I,rfl,q⟩
def tyV (K : PySem.W.Frag)(T : String)(x : V)(H : Hp) : Prop := match x with
  | .str _ => T = "str"
  | .int _ => T = "int"
  | .ref p => (T = "list" /\ ∃ xs,SqL K H p xs) \/ (T = "tuple" /\ ∃ o,K.lookup p = some o /\ o.cls = .type "tuple" /\ o.dict = none) \/
      (T = "dict" /\ ((∃ kvs,H p = some (.dK kvs)) \/ ∃ kvs,H p = some (.dT kvs))) \/ (T = "set" /\ ∃ S n,H p = some (.set S n))
  | _ => False
theorem tyV_is {pins : List (Addr × Obj)}{σ : St}{H : Hp}{s : Shared}{T : String}{x : V}{v : Value}(I : Inv X pins σ H s)(r : RelV x v)(ty : tyV X.K T x H) :
    s.TypeIs v T /\ ∀ a,v = .ref a -> ∃ ob,s.heap.get? a = some ob /\ ob.dict = none := by
  cases x with
  | str z =>
    obtain ⟨t,rfl⟩ := r
    cases (show T = "str" from ty)
    exact ⟨typeIs_str s z t,fun _ e => nomatch e⟩
  | int i =>
    obtain ⟨t,rfl⟩ := r
    cases (show T = "int" from ty)
    exact ⟨typeIs_int s i t,fun _ e => nomatch e⟩
  | ref p =>
    cases r
    rcases ty with ⟨rfl,xs,hq⟩ | ⟨rfl,o,hk,hc,hd⟩ | ⟨rfl,hk⟩ | ⟨rfl,S,n,hk⟩
    · obtain ⟨its,_,pl,_⟩ := I.list hq
      refine ⟨pl.isList.typeIs,fun a e => ?_⟩
      cases e
      obtain ⟨o,n,e,c,hd,_⟩ := pl
      exact ⟨o,e,hd⟩
    · refine ⟨⟨o,I.kIn p o hk,hc⟩,fun a e => ?_⟩
      cases e
      exact ⟨o,I.kIn _ o hk,hd⟩
    · have z : ∃ o,s.heap.get? p = some o /\ o.ExactDict := by
        rcases hk with ⟨kvs,hk⟩ | ⟨kvs,hk⟩
        · obtain ⟨_,_,_,_,o,_,_,e,ex,_⟩ := I.hok p _ hk
          exact ⟨o,e,ex⟩
        · obtain ⟨_,_,_,_,o,_,_,e,ex,_⟩ := I.hok p _ hk
          exact ⟨o,e,ex⟩
      obtain ⟨o,e,ex⟩ := z
      refine ⟨⟨o,e,ex.1⟩,fun a e2 => ?_⟩
      cases e2
      exact ⟨o,e,ex.2.1⟩
    · obtain ⟨o,_,_,_,e,ex,_⟩ := I.hok p _ hk
      refine ⟨⟨o,e,ex.1⟩,fun a e2 => ?_⟩
      cases e2
      exact ⟨o,e,ex.2.1⟩
  | _ => exact False.elim ty
def tBM (K : PySem.W.Frag)(T : String)(r : V -> List V -> Hp -> VK -> Prop)(to : TE)(t : TA) : TE := fun σ H Q => to σ H fun x H1 => tyV K T x H1 /\ t σ H1 fun xs H2 => r x xs H2 Q
variable {o e : Expr}{es : List Expr}{to : TE}{t : TA}{name : Str}{apos cpos : Pos}{T id : String}{r : V -> List V -> Hp -> VK -> Prop}
theorem pe_bm (pa : PlainAttrs T)(slot : Slot T name id)(hty : typeOf (.builtin id) = pure (.type "method_descriptor")) (hm : MtR X id r) (ho : PE X o to) (ha : PA X (e :: es) t)
    (hbase : attributeBase o name X.env (eval o X.env) = eval o X.env := by rfl)
    (hfew : ((backTo cpos (starEach (e :: es) X.env)).all (fun x => !x.1) && (backToKw cpos (keywordEach [] X.env)).all (fun x => x.1.isSome)
      && decide ((e :: es).length + ([] : List Keyword).length + (if ([] : List Keyword).isEmpty then 0 else 1) < 30)) = true := by rfl)
    (hline : (apos.endLine == cpos.line) = true := by rfl) (hs : starEach (e :: es) X.env = (false,eval e X.env) :: starEach es X.env := by rfl) (hplain : (backTo cpos (starEach es X.env)).any (·.1) = false := by rfl) :
    PE X (.Call (.Attribute o name apos) (e :: es) [] cpos) (tBM X.K T r to t) := by
  intro pins s σ H Q I h
  refine wpAny_Call_method_late hbase hfew hline rfl (thn (ho pins s σ H _ I h) fun v s1 ⟨x,H1,I1,r1,ty,q1⟩ => ?_)
  obtain ⟨h1,h2⟩ := tyV_is I1 r1 ty
  refine ⟨T,id,pa,slot,hty,h1,h2,?_⟩
  have hA := ha cpos pins s1 σ H1 _ I1 q1
  rw [hs] at hA ⊢
  refine Calls.callWith_builtin (by show (false || (backTo cpos (starEach es X.env)).any (·.1)) = false; rw [hplain] <;> rfl) (Calls.evalArgs_plain ?_)
  exact thn hA fun us s2 ⟨vs,H2,I2,r2,q2⟩ => hm pins s2 σ H2 x vs v us Q I2 r1 r2 q2
end
end L2
namespace L2
open PySem PySem.Spec PyProof.Rows
def MtM (X : Cx)(id : String)(r : V -> List V -> Hp -> VK -> Prop) : Prop :=
  ∀ (pins : List (Addr × Obj)) (s : Shared) (σ : St) (H : Hp) (x : V) (xs : List V) (v : Value) (us : List Value) (Q : VK),Inv X pins σ H s -> RelV x v -> Vals xs us -> r x xs H Q ->
    wpAny (model X.prog X.w) X.A (call (.builtin id) (v :: us)) (EP X pins σ Q) X.xe s
theorem Vals.one : ∀ {x : V} {us : List Value},Vals [x] us -> ∃ u,us = [u] /\ RelV x u
  | _,_,.cons r .nil => ⟨_,rfl,r⟩
theorem Vals.two : ∀ {x y : V} {us : List Value},Vals [x,y] us -> ∃ u v,us = [u,v] /\ RelV x u /\ RelV y v
  | _,_,_,.cons r (.cons q .nil) => ⟨_,_,rfl,r,q⟩
theorem Vals.eraseIdx : ∀ {xs : List V} {us : List Value} (i : Nat),Vals xs us -> Vals (xs.eraseIdx i) (us.eraseIdx i)
  | _,_,_,.nil => .nil
  | _,_,0,.cons _ t => t
  | _,_,i + 1,.cons r t => .cons r (Vals.eraseIdx i t)
theorem Vals.rep {xs : List V}{us : List Value}(h : Vals xs us) : ∀ k : Nat,Vals (List.replicate k xs).flatten (List.replicate k us).flatten
  | 0 => .nil
  | k + 1 => by
    rw [List.replicate_succ,List.replicate_succ,List.flatten_cons,List.flatten_cons]
    exact Vals.append h (Vals.rep h k)
theorem len_erase {α : Type} : ∀ (l : List α) (i : Nat),(l.eraseIdx i).length <= l.length
  | [],_ => Nat.le_refl _
  | _ :: _,0 => Nat.le_succ _
  | _ :: r,i + 1 => Nat.succ_le_succ (len_erase r i)
theorem foldl_rep (its : List Value) : ∀ (k : Nat) (acc : List Value),
    List.foldl (fun x1 x2 => x1 ++ x2) acc.toArray (List.replicate k its.toArray) = (acc ++ (List.replicate k its).flatten).toArray
  | 0,acc => by simp
  | k + 1,acc => by
    have e : acc.toArray ++ its.toArray = (acc ++ its).toArray := by simp
    have e2 : (acc ++ its) ++ (List.replicate k its).flatten = acc ++ (List.replicate (k + 1) its).flatten := by
      rw [List.replicate_succ,List.flatten_cons,List.append_assoc]
    rw [<- e2,<- foldl_rep its k (acc ++ its),<- e,List.replicate_succ,List.foldl_cons]
section
variable {X : Cx}{pins : List (Addr × Obj)}{σ : St}{H : Hp}{s : Shared}{l b : Addr}{xs ys zs : List V}
theorem Inv.lset {its its' : List Value}{n : Nat}{f : Array Value -> Array Value}{t' : Nat}(I : Inv X pins σ H s)(hH : H l = some (.lst xs))
    (e : s.heap.get? l = some { cls := .type "list",data := .seq its.toArray n }) (hf : f its.toArray = its'.toArray) (hv : Vals ys its') (hz : ys.length <= sizeLine) :
    Inv X pins σ (upd H l (.lst ys)) { s with heap := s.heap.update l (Obj.mapSeq f),toks := t' } := by
  have q := PySem.IsL.update e f
  rw [hf] at q
  refine I.write (x := l) (e := l) (by rw [hH]; exact trivial) (.inl rfl) (fun b' u hb hu => (Heap.get?_update_other s.heap (Obj.mapSeq f) (Ne.symm hb)).trans hu) ⟨_,q⟩ ?_
  exact ⟨hz,its',_,hv,q⟩
theorem Inv.lnew {its : List Value}{t' : Nat}(I : Inv X pins σ H s)(hv : Vals ys its)(hz : ys.length <= sizeLine) :
    Inv X pins σ (upd H s.heap.objs.size (.lst ys)) { s with heap := s.heap.push { cls := .type "list",data := .seq its.toArray },toks := t' } :=
  I.laid (fun _ _ q => Heap.get?_push_of_some _ q) (Nat.le_refl _) ⟨hz,its,0,hv,Heap.get?_push_size _ rfl⟩
theorem Inv.fresh (I : Inv X pins σ H s) : H s.heap.objs.size = none := I.hok.fresh (Nat.le_refl _)
theorem Inv.lstM (I : Inv X pins σ H s)(hH : H l = some (.lst xs)) : xs.length <= sizeLine /\ ∃ (its : List Value) (n : Nat),Vals xs its /\ xs.length = its.length /\ s.heap.get? l = some { cls := .type "list",data := .seq its.toArray n } := by
  obtain ⟨z,its,n,r,e⟩ := I.hok l _ hH
  exact ⟨z,its,n,r,r.length,e⟩
theorem notLongL {n : Nat}(h : n <= sizeLine) : Builtin.List.listTooLong n = false := by
  unfold Builtin.List.listTooLong
  exact decide_eq_false (by omega)
end
section
variable {X : Cx}
def rAppend : V -> List V -> Hp -> VK -> Prop := fun x vs H Q => ∃ l xs y,x = .ref l /\ vs = [y] /\ H l = some (.lst xs) /\ xs.length < sizeLine /\ Q .non (upd H l (.lst (xs ++ [y])))
theorem mt_append : MtM X "list.append" rAppend := by
  intro pins s σ H x vs v us Q I rx rv h
  obtain ⟨l,xs,y,rfl,rfl,hH,hz,q⟩ := h
  cases rx
  obtain ⟨u,rfl,ru⟩ := rv.one
  obtain ⟨z,its,n,r,hl,e⟩ := I.lstM hH
  refine call_meets F.slot_list_append ⟨_,e,rfl⟩ F.entry_list_append (F.args_list_append_2 _ _) (PySem.list_append l its.toArray n u (by rw [List.size_toArray]; omega)) ⟨e,?_⟩
  refine ⟨.non,_,I.lset (its' := its ++ [u]) hH e (by simp) (r.append (.cons ru .nil)) ?_,rfl,q⟩
  rw [List.length_append,List.length_singleton]
  omega
def rExtend : V -> List V -> Hp -> VK -> Prop := fun x vs H Q => ∃ l b xs zs,x = .ref l /\ vs = [.ref b] /\ H l = some (.lst xs) /\ H b = some (.lst zs) /\ xs.length + zs.length <= sizeLine /\ Q .non (upd H l (.lst (xs ++ zs)))
theorem mt_extend : MtM X "list.extend" rExtend := by
  intro pins s σ H x vs v us Q I rx rv h
  obtain ⟨l,b,xs,zs,rfl,rfl,hH,hB,hz,q⟩ := h
  cases rx
  obtain ⟨u,rfl,ru⟩ := rv.one
  cases ru
  obtain ⟨z,its,n,r,hl,e⟩ := I.lstM hH
  obtain ⟨z2,its2,n2,r2,hl2,e2⟩ := I.lstM hB
  have hsz : its.toArray.size + its2.toArray.size <= sizeLine := by rw [List.size_toArray,List.size_toArray]; omega
  have hlong : ¬ (!its.toArray.isEmpty && Builtin.List.listTooLong (its.toArray.size + its2.toArray.size)) = true := by
    rw [notLongL hsz,Bool.and_false]
    exact Bool.false_ne_true
  refine call_meets F.slot_list_extend ⟨_,e,rfl⟩ F.entry_list_extend (F.args_list_extend_2 _ _)
    (AutoSeq1.list_extend_list_list_0 l its.toArray n b its2.toArray n2 hlong (by rw [List.size_toArray]; omega) (by omega)) ⟨e,e2,?_⟩
  refine ⟨.non,_,I.lset (its' := its ++ its2) hH e (by simp) (r.append r2) ?_,rfl,q⟩
  rw [List.length_append]
  omega
def rPopAt : V -> List V -> Hp -> VK -> Prop := fun x vs H Q => ∃ l xs i k y,x = .ref l /\ vs = [.int i] /\ H l = some (.lst xs) /\ -(2 ^ 63) <= i /\ i < 2 ^ 63 /\ seqIndex? i xs.length = some k /\ xs[k]? = some y /\ Q y (upd H l (.lst (xs.eraseIdx k)))
theorem mt_popAt : MtM X "list.pop" rPopAt := by
  intro pins s σ H x vs v us Q I rx rv h
  obtain ⟨l,xs,i,k,y,rfl,rfl,hH,h1,h2,hk,hy,q⟩ := h
  cases rx
  obtain ⟨u,rfl,ru⟩ := rv.one
  obtain ⟨t,rfl⟩ := ru
  obtain ⟨z,its,n,r,hl,e⟩ := I.lstM hH
  obtain ⟨w,hw,rw'⟩ := r.get hy
  refine call_meets F.slot_list_pop ⟨_,e,rfl⟩ F.entry_list_pop (F.args_list_pop_2 _ _)
    (MeetsSeq.list_pop_at l its.toArray n i t k w (fitsIndex_both h1 h2) (by rw [List.size_toArray,<- hl]; exact hk) (by rw [<- Array.getElem?_toList]; exact hw) (by rw [List.size_toArray]; omega)) ⟨e,?_⟩
  refine ⟨y,_,I.lset (its' := its.eraseIdx k) hH e ?_ (r.eraseIdx k) ?_,rw',q⟩
  · show its.toArray.eraseIdxIfInBounds k = (its.eraseIdx k).toArray
    rw [List.eraseIdxIfInBounds_toArray]
  · have := len_erase xs k
    omega
def rCat : R2 := fun x y H Q => ∃ l b xs zs,x = .ref l /\ y = .ref b /\ H l = some (.lst xs) /\ H b = some (.lst zs) /\ xs.length + zs.length <= sizeLine /\ ∀ p,H p = none -> Q (.ref p) (upd H p (.lst (xs ++ zs)))
theorem op_cat : OpR X (binaryOp .Add) rCat := by
  intro pins s σ H x y v u Q I rx ry h
  obtain ⟨l,b,xs,zs,rfl,rfl,hH,hB,hz,q⟩ := h
  cases rx
  cases ry
  obtain ⟨z,its,n,r,hl,e⟩ := I.lstM hH
  obtain ⟨z2,its2,n2,r2,hl2,e2⟩ := I.lstM hB
  refine PySem.P.add_list e e2 ?_ (by rw [List.size_toArray,List.size_toArray]; omega)
  have ea : its.toArray ++ its2.toArray = (its ++ its2).toArray := by simp
  rw [ea]
  exact ⟨.ref _,_,I.lnew (t' := s.toks) (r.append r2) (by rw [List.length_append]; omega),rfl,q _ I.fresh⟩
def rRep : R2 := fun x y H Q => ∃ l k xs,x = .ref l /\ y = .int k /\ H l = some (.lst xs) /\ -(2 ^ 63) <= k /\ k < 2 ^ 63 /\ xs.length * k.toNat <= sizeLine /\
  ∀ p,H p = none -> Q (.ref p) (upd H p (.lst (List.replicate k.toNat xs).flatten))
theorem len_rep {α : Type}(xs : List α)(k : Nat) : (List.replicate k xs).flatten.length = k * xs.length := by
  induction k with
  | zero => simp
  | succ k ih => rw [List.replicate_succ,List.flatten_cons,List.length_append,ih,Nat.succ_mul,Nat.add_comm]
theorem op_rep : OpR X (binaryOp .Mult) rRep := by
  intro pins s σ H x y v u Q I rx ry h
  obtain ⟨l,k,xs,rfl,rfl,hH,h1,h2,hz,q⟩ := h
  cases rx
  obtain ⟨t,rfl⟩ := ry
  obtain ⟨z,its,n,r,hl,e⟩ := I.lstM hH
  have hlen : its.toArray.size * k.toNat <= sizeLine := by rw [List.size_toArray,<- hl]; exact hz
  have hcap : ¬ its.toArray.size * k.toNat > (2 ^ 63 - 1) / 8 := by
    have : (sizeLine : Nat) <= (2 ^ 63 - 1) / 8 := by decide
    omega
  have hfit : ¬ (!Builtin.List.listFitsIndex k) = true := by
    rw [fitsIndex_both h1 h2]
    exact Bool.false_ne_true
  have hlong : ¬ Builtin.List.listTooLong (its.toArray.size * k.toNat) = true := by
    rw [notLongL hlen]
    exact Bool.false_ne_true
  have hnew : List.foldl (fun x1 x2 => x1 ++ x2) #[] (List.replicate (if its.toArray.isEmpty = true then 0 else k.toNat) its.toArray) = (List.replicate k.toNat its).flatten.toArray := by
    have f0 : ∀ m : Nat,List.foldl (fun x1 x2 => x1 ++ x2) #[] (List.replicate m its.toArray) = (List.replicate m its).flatten.toArray := fun m => by
      have := foldl_rep its m []
      rw [List.nil_append] at this
      exact this
    rw [f0]
    cases its with
    | nil => simp
    | cons a r' => rw [if_neg (by simp)]
  refine wpAny_binaryOp_repeat_ref (T := "list") (U := "int") (by decide) ⟨_,e,rfl⟩ (fun s' => typeIs_int s' k t) noFill_list_mul F.fills_int_mul F.slot_int_rmul repeat_list F.slot_int_index.lookup
    (call_meets F.slot_int_rmul (typeIs_int s k t) F.entry_int_rmul (F.args_int_rmul_2 _ _) (int___rmul___int_list k t l its.toArray n)
      ⟨e,rfl,⟨_,e,rfl⟩,call_meets F.slot_list_mul ⟨_,e,rfl⟩ F.entry_list_mul (F.args_list_mul_2 _ _) (AutoListH.list___mul___list_int_3 l its.toArray n k t hfit hcap hlong) ⟨e,?_⟩⟩)
  rw [hnew]
  exact ⟨.ref _,_,I.lnew (t' := s.toks) (r.rep k.toNat) (by rw [len_rep,Nat.mul_comm]; exact hz),rfl,q _ I.fresh⟩
end
section
variable {prog : Program}{w : World}{A : Around}{E : Value -> Shared -> Prop}{s : Shared}
end
section
variable {X : Cx}
end
end L2
namespace Att
open PySem PySem.W PySem.Calls PyProof.Rows
theorem ints_of_wellAll {P : Params}{h : Heap} : ∀ (ns : List Int) (vs : List Value),WellAll P h vs (ns.map WData.int) -> IntsAre vs ns := by
  intro ns
  induction ns with
  | nil =>
    intro vs w
    rw [List.map_nil] at w
    cases w
    exact .nil
  | cons n ns ih =>
    intro vs w
    rw [List.map_cons] at w
    cases w with
    | cons a b =>
      cases a
      exact .cons _ _ (ih _ b)
theorem script_of {l : OpenLaw}{n : Nat}(hn : l.most = some n){P : Params}{h : Heap}{args : List WData}{vals : List Value}
    (hpre : l.row.toRowW.claim.pre args = true) (hwl : WellAll P h vals args) :
    ∃ a vs ns,vals = [Value.ref a] /\ args = [WData.list (ns.map WData.int)] /\ h.get? a = some { cls := .type "list",data := .seq vs.toArray } /\ IntsAre vs ns /\ ns.length <= n := by
  have hsh : WShape.hasAll [] args [.list .int] = true := (pre_splitW hpre).1
  have hc : l.pre.holds [] { args := args } = true := (pre_splitW hpre).2
  obtain ⟨d,r,rfl,h1,h2⟩ := hasAllW_cons hsh
  obtain rfl := hasAllW_nil h2
  obtain ⟨xs,rfl,h3⟩ := hasW_list h1
  obtain ⟨ns,rfl⟩ := items_int h3
  have hlen : ns.length <= n := by
    unfold OpenLaw.pre at hc
    have h4 : (WTm.not (.lt (.lit (.int (n : Int))) (.len (.arg 0)))).holds [] { args := [.list (ns.map .int)] } = true := by
      have h4 := (holds_andW hc).1
      rw [hn] at h4
      exact h4
    have h5 := condW_of h4 (w_not (w_lt w_lit (w_len_list (w_arg rfl))))
    rw [List.length_map] at h5
    refine Nat.le_of_not_lt fun q => ?_
    have q' : (n : Int) < ((ns.length : Nat) : Int) := by omega
    first
      | (rw [decide_eq_true q'] at h5; exact absurd h5 (by decide))
      | (simp at h5; omega)
  cases hwl with
  | cons w1 w2 =>
    cases w2
    cases w1 with
    | list ho hall => exact ⟨_,_,ns,rfl,rfl,ho,ints_of_wellAll ns _ hall,hlen⟩
theorem post_true (l : OpenLaw)(args : List WData) : l.row.toRowW.claim.post args (.bool true) args = true :=
  postW_of (r := l.row.toRowW) (X := (true == true))
    (show WShape.has [] (.bool true) .bool = true by first | rfl | decide | simp [WShape.has,WShape.arms,WShape.armsAll])
    (show (WTm.eq .res (.lit (.bool true))).value [] { args := args,res := some (.bool true),after := args } = some (.bool (true == true)) from w_eq_bool (w_res rfl) w_lit) rfl
theorem attach_call {l : OpenLaw}{n : Nat}{q : Program}{loose : List Str}{XP : (Str -> Option Value) -> Heap -> Prop}{YP : World -> Heap -> Prop}{d : DefRec}
    (hn : l.most = some n) (hdf : d.params.defaults = [])
    (call : ∀ (w : World) (s₀ s₁ : Shared) (mg mb : Str -> Option Value) (fa : Addr) (o : Obj) (pm cd doc : Value) (a : Addr) (vs : List Value) (ns : List Int),
      Ground q loose [] XP w s₀ mg mb s₁.heap -> YP w s₁.heap ->
      s₁.heap.get? fa = some o -> o.data = .func (docDef d.name d.params d.body d.scope pm cd doc) -> s₁.heap.CodeRec cd d.name -> mg d.name = some (.ref fa) ->
      s₁.heap.get? a = some { cls := .type "list",data := .seq vs.toArray } -> IntsAre vs ns -> ns.length <= n -> s₁.gens = #[] ->
      codeAny (model l.prog w) callerA (.call (.ref fa) ⟨[.ref a],[]⟩) (fun r s' => r = .ok (.ret (.bool true)) /\ OldK s₁.heap s'.heap /\ s'.os = s₁.os /\ AllBare s'.gens) s₁) :
    WalkO q loose XP YP l.row.toRowW d [] (fun f vs => PySem.call f vs) := by
  intro w s₀ s₁ mg mb G Y fa o pm cd doc dV kV ho hd hcd hD hmg hg args vals as hpre hlay hrd hwl hlo
  obtain rfl : dV = .none := Dflts.none hD hdf
  obtain rfl : kV = .none := Dflts.noKw hD
  obtain ⟨a,vs,ns,rfl,rfl,hobj,hints,hlen⟩ := script_of hn hpre hwl
  refine enter_call (codeAny_mono (call w s₀ s₁ mg mb fa o pm cd doc a vs ns G Y ho (fd_plain hd) hcd hmg hobj hints hlen hg) fun r s' hq => ?_)
  obtain ⟨rfl,h2,h3,h4⟩ := hq
  exact ⟨.inl ⟨.bool true,.bool true,[],rfl,fun _ => rfl,.bool true,post_true l _,fun _ => ⟨List.Pairwise.nil,fun _ hm => (nomatch hm)⟩⟩,h2,h3,h4⟩
section
variable {prog : Program}{w : World}{A : Around}{E : Value -> Shared -> Prop}{s : Shared}{K : Frag}
def ledger (h : Heap)(L d : Addr) : List (Addr × Obj) := (List.range h.objs.size).filterMap fun a => if a = L \/ a = d then none else (h.get? a).map fun o => (a,o)
end
end Att
namespace L2
open PySem PySem.Spec PyProof.Rows
theorem vals_ints : ∀ {vs : List Value} {ns : List Int},IntsAre vs ns -> Vals (ns.map V.int) vs
  | _,_,.nil => .nil
  | _,_,.cons n t h => .cons ⟨t,rfl⟩ (vals_ints h)
def Only (H : Hp) : Prop := ∀ b,H b = none \/ ∃ o xs,H b = some (.frz o (.lst xs))
theorem law_call {P : Program}{w : World}{K : PySem.W.Frag}{mg mb : Str -> Option Value}{CX : CXT}{k : Nat}{fa a : Addr}{fd : FuncData}{x : Str}{sp : Sp}{s₁ : Shared}{vs : List Value}{ns : List Int}
    (KX : K.In s₁.heap) (hns : s₁.heap.Ns mainGlobals mg) (hb : s₁.heap.Ns builtinsNs mb) (hbb : ∀ x : Str,x ≠ "__name__" -> mb x = bootBuiltins x) (hlim : s₁.heap.NoLimit) (hg : s₁.gens = #[])
    (ha : s₁.heap.get? a = some { cls := .type "list",data := .seq vs.toArray }) (hi : IntsAre vs ns) (hl : ns.length <= sizeLine) (hr : Room k callerA)
    (F : ∀ base : Heap,K.In base -> base.Ns mainGlobals mg -> FnOk P w K mg base CX k fa fd [x] sp) (hbind : ∀ (s : Shared) (u : Value),BindsTo s fd ⟨[u],[]⟩ [(x,u)])
    (hsp : ∀ H : Hp,Only H -> SqL K H a (ns.map V.int) -> sp [.ref a] H (fun v _ => v = .bl true) fun _ _ _ => False)
    (hCX : ∀ H e s',CX [] H s₁ (fun _ _ _ => False) e s' -> False) :
    codeAny (model P w) callerA (.call (.ref fa) ⟨[.ref a],[]⟩) (fun r s' => r = .ok (.ret (.bool true)) /\ OldK s₁.heap s'.heap /\ s'.os = s₁.os /\ AllBare s'.gens) s₁ := by
  have rv := vals_ints hi
  have lenV := hi.length
  have core : ∀ H : Hp,Only H -> SqL K H a (ns.map V.int) -> HOk P w H s₁.heap -> (∀ b,H b ≠ none -> b = a) -> (H a ≠ none -> K.lookup a = none) ->
      codeAny (model P w) callerA (.call (.ref fa) ⟨[.ref a],[]⟩) (fun r s' => r = .ok (.ret (.bool true)) /\ OldK s₁.heap s'.heap /\ s'.os = s₁.os /\ AllBare s'.gens) s₁ := by
    intro H hO hS hok hA hK
    have base_of : ∀ {b : Addr} {o : Obj},s₁.heap.get? b = some o -> H b = none -> (hidT s₁.heap H).get? b = some o := fun e n => hidT_get e n
    have noA : ∀ {b : Addr} {o : Obj} {es : Array DictEntry} {ep : Nat},s₁.heap.get? b = some o -> o.data = .dict es ep -> H b = none := fun {b o es ep} e d => by
      cases q : H b with
      | none => rfl
      | some u =>
        have e' : b = a := hA b (by rw [q]; simp)
        subst e'
        rw [ha] at e; cases e
        have d' : Data.seq vs.toArray _ = Data.dict es ep := d
        cases d'
    have nsK : ∀ {b : Addr} {m : Str -> Option Value},s₁.heap.Ns b m -> (hidT s₁.heap H).Ns b m := fun {b m} ⟨o,es,ep,e,d,r⟩ => ⟨o,es,ep,base_of e (noA e d),d,r⟩
    have hKb : K.In (hidT s₁.heap H) := fun b o e => base_of (KX b o e) (by
      cases q : H b with
      | none => rfl
      | some u =>
        have e' : b = a := hA b (by rw [q]; simp)
        subst e'
        rw [hK (by rw [q]; simp)] at e; cases e)
    have hM : Mod K mg (hidT s₁.heap H) := ⟨hKb,nsK hns,⟨mb,nsK hb,hbb⟩,let ⟨mc,h1,h2⟩ := hlim; ⟨mc,nsK h1,h2⟩⟩
    have e0 : Env0 P w K mg (hidT s₁.heap H) callerA [] s₁ H := ⟨rfl,hM,fun b o e => of_hidT e,Nat.le_of_eq (hidT_size _ _),trivial,fun b hb => absurd (show b ∈ ([] : List Addr) from hb) (by simp),hok,.of_eq hg⟩
    refine codeAny_mono ((F _ hKb (nsK hns)).run callerA [] s₁ H ⟨[.ref a],[]⟩ [.ref a] [.ref a] _ _ hr e0 (hbind s₁ (.ref a)) (.cons rfl .nil) (hsp H hO hS)) fun r s' h => ?_
    cases r with
    | error e => exact (hCX H e s' h).elim
    | ok fl =>
      cases fl with
      | next => exact False.elim h
      | brk => exact False.elim h
      | cont => exact False.elim h
      | ret u =>
        obtain ⟨v,H',os,bare,un,hok',r',q⟩ := h
        have q' : v = .bl true := q
        subst q'
        obtain rfl : u = Value.bool true := r'
        refine ⟨rfl,OldK.of_keep fun b o e => ?_,os,bare⟩
        cases q : H b with
        | none => exact un.keep b o e q (by intro z; exact absurd (show b ∈ ([] : List Addr) from z) (by simp)) (by simp)
        | some u =>
          rcases hO b with z | ⟨ob,xs,z⟩
          · rw [q] at z; cases z
          · have z2 := un.frzs b ob _ z
            obtain ⟨e1,_⟩ := hok b _ z
            obtain ⟨e2,_⟩ := hok' b _ z2
            rw [e] at e1; cases e1
            exact e2
  cases hk : K.lookup a with
  | some o =>
    have e := KX a o hk
    rw [ha] at e
    cases e
    refine core (fun _ => none) (fun _ => .inl rfl) (.inr ⟨_,vs.toArray,_,hk,rfl,rfl,rfl,by rw [List.size_toArray,lenV]; exact hl,by simpa using rv⟩) (fun b u z => by have z' : (none : Option HO) = some u := z; cases z') (fun b z => absurd rfl z) fun z => absurd rfl z
  | none =>
    refine core (fun b => if b = a then some (.frz { cls := .type "list",data := .seq vs.toArray } (.lst (ns.map V.int))) else none) (fun b => ?_) (.inl (.inr ⟨{ cls := .type "list",data := .seq vs.toArray },if_pos rfl⟩)) (fun b u z => ?_) (fun b z => ?_) fun _ => hk
    · by_cases hb : b = a
      · exact .inr ⟨_,_,if_pos hb⟩
      · exact .inl (if_neg hb)
    · by_cases hb : b = a
      · have z' := (if_pos hb).symm.trans z
        cases z'
        subst hb
        exact ⟨ha,by rw [List.length_map]; exact hl,vs,_,rv,ha⟩
      · have z' := (if_neg hb).symm.trans z
        cases z'
    · by_cases hb : b = a
      · exact hb
      · exact absurd (if_neg hb) z
end L2
namespace L2
open PySem PySem.Spec PyProof.Rows
theorem walk_of {l : PySem.W.OpenLaw}{n k : Nat}{q : Program}{loose : List Str}{XP : (Str -> Option Value) -> Heap -> Prop}{YP : World -> Heap -> Prop}{d : DefRec}{K : Params -> PySem.W.Frag}{CX : World -> CXT}{sp : World -> Sp}{x : Str}
    (hn : l.most = some n) (hn2 : n <= sizeLine) (hdf : d.params.defaults = []) (hr : Room k callerA)
    (hY : ∀ (w : World) (h : Heap),YP w h -> (K w.params).In h)
    (F : ∀ (w : World) (mg : Str -> Option Value) (fa : Addr) (h : Heap),(K w.params).In h -> h.Ns mainGlobals mg -> mg d.name = some (.ref fa) ->
      ∃ fd : FuncData,(∀ (s : Shared) (u : Value),BindsTo s fd ⟨[u],[]⟩ [(x,u)]) /\
        ∀ base : Heap,(K w.params).In base -> base.Ns mainGlobals mg -> FnOk l.prog w (K w.params) mg base (CX w) k fa fd [x] (sp w))
    (hsp : ∀ (w : World) (H : Hp) (a : Addr) (ns : List Int),ns.length <= n -> Only H -> SqL (K w.params) H a (ns.map V.int) -> sp w [.ref a] H (fun v _ => v = .bl true) fun _ _ _ => False)
    (hCX : ∀ (w : World) (H : Hp) (s : Shared) (e : Value) (s' : Shared),CX w [] H s (fun _ _ _ => False) e s' -> False) :
    PySem.W.WalkO q loose XP YP l.row.toRowW d [] (fun f vs => PySem.call f vs) := by
  refine Att.attach_call hn hdf fun w s₀ s₁ mg mb fa o pm cd doc a vs ns G Y ho hd hcd hmg hobj hints hlen hg => ?_
  have KX := hY w _ Y
  obtain ⟨fd,hb,hF⟩ := F w mg fa _ KX G.T.g hmg
  exact law_call KX G.T.g G.T.b G.T.builtins G.T.nolimit hg hobj hints (Nat.le_trans hlen hn2) hr hF hb (fun H hO hS => hsp w H a ns hlen hO hS) fun H e s' => hCX w H s₁ e s'
end L2
namespace L2
open PySem PySem.Spec PyProof.Rows
def defArgs (s : Stmt) : Arguments := match s with
  | .FunctionDef _ a _ _ _ _ _ _ _ _ => a
  | _ => { posonlyargs := [],args := [],vararg := none,kwonlyargs := [],kw_defaults := [],kwarg := none,defaults := [] }
def defBody (s : Stmt) : List Stmt := match s with
  | .FunctionDef _ _ b _ _ _ _ _ _ _ => b
  | _ => []
def defScope (s : Stmt) : Scope := match s with
  | .FunctionDef _ _ _ _ _ _ sc _ _ _ => sc
  | _ => { kind := .function,names := [],isGenerator := false,isCoroutine := false }
abbrev CX0 : CXT := fun _ _ _ _ _ _ => False
abbrev E0 : XK := fun _ _ _ => False
theorem pass0 {X : Cx} : Passes CX0 X E0 := fun _ _ _ _ _ _ _ h => h.elim
structure Fun (K : PySem.W.Frag)(x qual : Str)(st : Stmt)(f : Addr)(fd : FuncData) : Prop where
  ex : ∃ (oc : Value) (od : Option Addr) (kV doc pm : Value) (an : Option Addr) (cdv ct : Value) (osl : Array (Option Value)),
    fd = PySem.W.fnOf x qual (defArgs st) (defBody st) (defScope st) .none kV doc pm an cdv ct /\ K.lookup f = some ⟨oc,od,.func fd,osl⟩ /\ PySem.W.codeIn K cdv qual = true
  kp : PySem.W.keepIn K (.ref f) = true
section
variable {P : Program}{w : World}{K : PySem.W.Frag}{mg : Str -> Option Value}{base : Heap}
theorem Fun.ok {x qual : Str}{st : Stmt}{f : Addr}{fd : FuncData}{N ps : List Str}{k : Nat}{sp : Sp}(F : Fun K x qual st f fd)(S : FnScope N ps (defScope st))(len : ∀ vs H Q E,sp vs H Q E -> vs.length = ps.length)
    (hbody : ∀ (cdv : Value) (A : Around) (outer : List Env) (s : Shared) (H : Hp) (vs : List V) (Q : VK) (E : XK),Room k (A.deeper (envOfC qual (defScope st) s.heap.objs.size f cdv)) -> sp vs H Q E ->
      ∃ t,PSs (cxOf CX0 P w K mg base N qual (defScope st) f cdv A outer s H E).nox (defBody st) t /\ t { nx := fun _ H' => Q .non H',rt := Q } (start N vs) H) : FnOk P w K mg base CX0 (k + 1) f fd ps sp := by
  obtain ⟨oc,od,kV,doc,pm,an,cdv,ct,osl,rfl,lk,hcd⟩ := F.ex
  refine fn_of lk hcd S len fun A outer s H vs Q E hr hsp => ?_
  obtain ⟨t,h,q⟩ := hbody cdv A outer s H vs Q E hr hsp
  exact ⟨t,h.nox,q⟩
theorem Fun.binds {x qual : Str}{st : Stmt}{f : Addr}{fd : FuncData}{ps : List Str}(F : Fun K x qual st f fd)
    (h : ∀ (kV doc pm : Value) (an : Option Addr) (cdv ct : Value) (us : List Value),us.length = ps.length -> bindArgs (PySem.W.fnOf x qual (defArgs st) (defBody st) (defScope st) .none kV doc pm an cdv ct) ⟨us,[]⟩ = pure (ps.zip us)) : Binds K fd ps [] := by
  obtain ⟨oc,od,kV,doc,pm,an,cdv,ct,osl,rfl,lk,hcd⟩ := F.ex
  exact .all (h kV doc pm an cdv ct)
theorem fun_mk {x qual : Str}{st : Stmt}{f : Addr}{oc : Value}{od an : Option Addr}{osl : Array (Option Value)}{kV doc pm cdv ct : Value}(l : K.lookup f = some ⟨oc,od,.func (PySem.W.fnOf x qual (defArgs st) (defBody st) (defScope st) .none kV doc pm an cdv ct),osl⟩)
    (c : PySem.W.codeIn K cdv qual = true) (k : PySem.W.keepIn K (.ref f) = true) : Fun K x qual st f (PySem.W.fnOf x qual (defArgs st) (defBody st) (defScope st) .none kV doc pm an cdv ct) := ⟨⟨oc,od,kV,doc,pm,an,cdv,ct,osl,rfl,l,c⟩,k⟩
end
section
variable {X : Cx}
theorem pv (i : Nat) {x : Str} {pos : Pos} (hN : X.N[i]? = some x := by rfl) (hv : Vis X.env.scope x := by first | exact Or.inl rfl | exact Or.inr (Or.inl rfl) | exact Or.inr (Or.inr rfl)) (hd : (x == ("__debug__" : Str)) = false := by decide)
    (hcd : (x == ("__classdict__" : Str)) = false := by decide) : PE X (.Name x pos) (tVar i) := pe_var hN hv hd hcd
end
theorem iteF {A B : Prop}(h : B) : if false = true then A else B := by
  rw [if_neg Bool.false_ne_true]
  exact h
theorem iteT {A B : Prop}(h : A) : if true = true then A else B := by
  rw [if_pos rfl]
  exact h
def Same (H H' : Hp) : Prop := ∀ b o,H b = some o -> H' b = some o
theorem Same.refl (H : Hp) : Same H H := fun _ _ h => h
theorem Same.trans {H H1 H2 : Hp}(a : Same H H1)(b : Same H1 H2) : Same H H2 := fun c o h => b c o (a c o h)
theorem Same.free {H H' : Hp}(e : Same H H'){l : Addr}(h : H' l = Option.none) : H l = Option.none := by
  cases q : H l with
  | none => rfl
  | some o =>
    rw [e l o q] at h
    cases h
end L2
set_option Elab.async false
set_option linter.all false
set_option maxRecDepth 100000
set_option maxHeartbeats 4000000
namespace L2
open PySem PySem.Spec PyProof.Rows
theorem cf_keep {x : Str}{lo : Nat} : ∀ (names : List (Str × NameKind)) (n : Nat) (acc : List (Str × Addr)),lo <= n -> (∀ c,acc.lookup x = some c -> lo <= c) -> ∀ c,(cellsFrom n names acc).lookup x = some c -> lo <= c
  | [],_,_,_,h,c,e => h c e
  | (y,k) :: r,n,acc,hn,h,c,e => by
    unfold cellsFrom at e
    split at e
    · refine cf_keep r (n + 1) ((y,n) :: acc) (by omega) (fun c' e' => ?_) c e
      rw [List.lookup_cons] at e'
      cases hb : x == y with
      | true => rw [hb] at e'; cases e'; exact hn
      | false => rw [hb] at e'; exact h c' e'
    · exact cf_keep r n acc hn h c e
theorem cf_own {x : Str}{lo : Nat} : ∀ (names : List (Str × NameKind)) (n : Nat) (acc : List (Str × Addr)),lo <= n -> (x,NameKind.cell) ∈ names -> ∀ c,(cellsFrom n names acc).lookup x = some c -> lo <= c
  | [],_,_,_,hm,_,_ => by cases hm
  | (y,k) :: r,n,acc,hn,hm,c,e => by
    unfold cellsFrom at e
    split at e
    · rcases List.mem_cons.mp hm with z | z
      · cases z
        refine cf_keep r (n + 1) ((x,n) :: acc) (by omega) (fun c' e' => ?_) c e
        rw [List.lookup_cons,beq_self_eq_true] at e'
        cases e'
        exact hn
      · exact cf_own r (n + 1) ((y,n) :: acc) (by omega) z c e
    · rename_i hk
      rcases List.mem_cons.mp hm with z | z
      · cases z
        exact absurd rfl hk
      · exact cf_own r n acc hn z c e
theorem cf_not {x : Str} : ∀ (names : List (Str × NameKind)) (n : Nat) (acc : List (Str × Addr)),¬ (x,NameKind.cell) ∈ names -> (cellsFrom n names acc).lookup x = acc.lookup x
  | [],_,_,_ => rfl
  | (y,k) :: r,n,acc,hm => by
    unfold cellsFrom
    have hr : ¬ (x,NameKind.cell) ∈ r := fun z => hm (List.mem_cons_of_mem _ z)
    split
    · rename_i hk
      rw [cf_not r (n + 1) _ hr,List.lookup_cons]
      have hxy : (x == y) = false := by
        cases hb : x == y with
        | false => rfl
        | true =>
          have e1 : x = y := beq_iff_eq.mp hb
          have e2 : k = NameKind.cell := beq_iff_eq.mp hk
          subst e1 e2
          exact absurd List.mem_cons_self hm
      rw [hxy]
    · exact cf_not r n acc hr
theorem cf_inj : ∀ (names : List (Str × NameKind)) (n : Nat) (acc : List (Str × Addr)),(∀ x c,acc.lookup x = some c -> c < n) -> (∀ x y c,acc.lookup x = some c -> acc.lookup y = some c -> x = y) ->
    ∀ x y c,(cellsFrom n names acc).lookup x = some c -> (cellsFrom n names acc).lookup y = some c -> x = y
  | [],_,_,_,h,x,y,c,e1,e2 => h x y c e1 e2
  | (z,k) :: r,n,acc,hb,h,x,y,c,e1,e2 => by
    unfold cellsFrom at e1 e2
    split at e1
    · rename_i hk
      rw [if_pos hk] at e2
      refine cf_inj r (n + 1) ((z,n) :: acc) (fun x' c' e' => ?_) (fun x' y' c' e1' e2' => ?_) x y c e1 e2
      · rw [List.lookup_cons] at e'
        cases q : x' == z with
        | true => rw [q] at e'; cases e'; exact Nat.lt_succ_self _
        | false => rw [q] at e'; exact Nat.lt_succ_of_lt (hb x' c' e')
      · rw [List.lookup_cons] at e1' e2'
        cases q1 : x' == z with
        | true =>
          rw [q1] at e1'
          cases e1'
          cases q2 : y' == z with
          | true => rw [beq_iff_eq.mp q1,beq_iff_eq.mp q2]
          | false =>
            rw [q2] at e2'
            exact absurd (hb y' _ e2') (Nat.lt_irrefl _)
        | false =>
          rw [q1] at e1'
          cases q2 : y' == z with
          | true =>
            rw [q2] at e2'
            cases e2'
            exact absurd (hb x' _ e1') (Nat.lt_irrefl _)
          | false =>
            rw [q2] at e2'
            exact h x' y' c' e1' e2'
    · rename_i hk
      rw [if_neg hk] at e2
      exact cf_inj r n acc hb h x y c e1 e2
theorem cf_of : ∀ (names : List (Str × NameKind)) (n : Nat) (acc : List (Str × Addr)) (x : Str) (c : Addr),(cellsFrom n names acc).lookup x = some c -> acc.lookup x = some c \/ n <= c
  | [],_,_,_,_,e => .inl e
  | (z,k) :: r,n,acc,x,c,e => by
    unfold cellsFrom at e
    split at e
    · rcases cf_of r (n + 1) ((z,n) :: acc) x c e with q | q
      · rw [List.lookup_cons] at q
        cases hb : x == z with
        | true => rw [hb] at q; cases q; exact .inr (Nat.le_refl _)
        | false => rw [hb] at q; exact .inl q
      · exact .inr (by omega)
    · exact cf_of r n acc x c e
theorem cf_cell : ∀ (names : List (Str × NameKind)) (h : Heap) (acc : List (Str × Addr)),(∀ x c,acc.lookup x = some c -> ∃ v,h.IsCell c v) ->
    ∀ x c,(cellsFrom h.objs.size names acc).lookup x = some c -> ∃ v,(pushCells h names).IsCell c v
  | [],_,_,hh,x,c,e => hh x c e
  | (z,k) :: r,h,acc,hh,x,c,e => by
    unfold cellsFrom at e
    unfold pushCells
    split at e
    · rename_i hk
      rw [if_pos hk]
      have e' : (cellsFrom (h.push { cls := .type "cell",data := .cell none }).objs.size r ((z,h.objs.size) :: acc)).lookup x = some c := by rw [Heap.size_push]; exact e
      refine cf_cell r _ _ (fun x' c' q => ?_) x c e'
      rw [List.lookup_cons] at q
      cases hb : x' == z with
      | true =>
        rw [hb] at q
        cases q
        exact ⟨none,_,Heap.get?_push_size _ rfl,rfl⟩
      | false =>
        rw [hb] at q
        obtain ⟨v,w⟩ := hh x' c' q
        exact ⟨v,w.keeps fun b o e => Heap.get?_push_of_some _ e⟩
    · rename_i hk
      rw [if_neg hk]
      exact cf_cell r h acc hh x c e
theorem clos_ok {env : Env}(f : Str × NameKind -> List (Str × Addr) -> Sem (ForInStep (List (Str × Addr))))
    (hf : ∀ name kind cs,f (name,kind) cs = if kind == .free then (do let a <- cellOf env name; pure (.yield ((name,a) :: cs))) else pure (.yield cs)) :
    ∀ (names : List (Str × NameKind)) (acc : List (Str × Addr)),(∀ x,(x,NameKind.free) ∈ names -> ∃ c,env.cells.lookup x = some c) -> (∀ x c,acc.lookup x = some c -> env.cells.lookup x = some c) ->
      ∃ cl,forIn names acc f = pure cl /\ (∀ x c,cl.lookup x = some c -> env.cells.lookup x = some c) /\ ∀ x,((acc.lookup x).isSome = true \/ (x,NameKind.free) ∈ names) -> (cl.lookup x).isSome = true
  | [],acc,_,ha => ⟨acc,by rw [List.forIn_nil],ha,fun x h => h.elim id fun z => by cases z⟩
  | (name,kind) :: r,acc,hn,ha => by
    have hr : ∀ x,(x,NameKind.free) ∈ r -> ∃ c,env.cells.lookup x = some c := fun x hx => hn x (List.mem_cons_of_mem _ hx)
    by_cases hk : (kind == NameKind.free) = true
    · have ek : kind = NameKind.free := beq_iff_eq.mp hk
      subst ek
      obtain ⟨c,hc⟩ := hn name List.mem_cons_self
      obtain ⟨cl,e1,e2,e3⟩ := clos_ok f hf r ((name,c) :: acc) hr (fun x c' e => by
        rw [List.lookup_cons] at e
        cases hb : x == name with
        | true => rw [hb] at e; cases e; rw [beq_iff_eq.mp hb]; exact hc
        | false => rw [hb] at e; exact ha x c' e)
      refine ⟨cl,?_,e2,fun x hx => e3 x ?_⟩
      · rw [List.forIn_cons,hf,if_pos hk]
        unfold cellOf
        rw [hc]
        simpa using e1
      · rcases hx with hx | hx
        · left
          rw [List.lookup_cons]
          cases hb : x == name with
          | true => rfl
          | false => exact hx
        · rcases List.mem_cons.mp hx with z | z
          · cases z
            left
            rw [List.lookup_cons,beq_self_eq_true]
            rfl
          · exact .inr z
    · obtain ⟨cl,e1,e2,e3⟩ := clos_ok f hf r acc hr ha
      refine ⟨cl,?_,e2,fun x hx => e3 x ?_⟩
      · rw [List.forIn_cons,hf,if_neg hk]
        simpa using e1
      · rcases hx with hx | hx
        · exact .inl hx
        · rcases List.mem_cons.mp hx with z | z
          · cases z
            exact absurd rfl hk
          · exact .inr z
theorem closureFor_ok {scope : Scope}{env : Env}(hn : ∀ x,(x,NameKind.free) ∈ scope.names -> ∃ c,env.cells.lookup x = some c) :
    ∃ cl,closureFor scope env = pure cl /\ (∀ x c,cl.lookup x = some c -> env.cells.lookup x = some c) /\ ∀ x,(x,NameKind.free) ∈ scope.names -> (cl.lookup x).isSome = true := by
  obtain ⟨cl,e1,e2,e3⟩ := clos_ok (env := env) (fun x cs => match x with
    | (name,kind) => if (kind == NameKind.free) = true then (do let a <- cellOf env name; pure (ForInStep.yield ((name,a) :: cs))) else pure (ForInStep.yield cs)) (fun name kind cs => rfl) scope.names [] hn (fun x c e => by cases e)
  refine ⟨cl,?_,e2,fun x hx => e3 x (.inr hx)⟩
  show (forIn scope.names [] _ >>= fun r => pure r) = _
  refine Eq.trans (congrArg (fun m => m >>= fun r => pure r) e1) ?_
  simp
def tries (ifs : List Expr)(env : Env) : Sem Bool := forIn ifs true fun c r => if r = true then do let ok <- isTrue c env (eval c env); pure (ForInStep.yield ok) else pure (ForInStep.yield r)
theorem compLoop_any {prog : Program}{w : World}{A : Around}{R : Result -> Shared -> Prop}{s : Shared}{elt target iter : Expr}{ifs : List Expr}{scope : Scope}{pos : Pos}{it acc : Value}{env : Env}(J : Nat -> Shared -> Prop)
    (turn : ∀ n s,J n s -> wpAny (model prog w) A (pyNext it) (fun r s₁ => match r with
      | none => R (.ok .next) s₁
      | some v => wpAny (model prog w) A (letOwnedTupleGo target it v) (fun _ s₁' => wpAny (model prog w) A (assign target env v) (fun _ s₂ => wpAny (model prog w) A (tries ifs env) (fun ok s₃ =>
            if ok = true then wpAny (model prog w) A (eval elt env) (fun x s₄ => wpAny (model prog w) A (call (.builtin "list.append") [acc,x]) (fun _ s₅ => ∃ m,m < n /\ J m s₅) (notedBy (model prog w) A env fun e s' => R (.error e) s') s₄)
                (notedBy (model prog w) A env fun e s' => R (.error e) s') s₃
            else ∃ m,m < n /\ J m s₃) (notedBy (model prog w) A env fun e s' => R (.error e) s') s₂) (notedBy (model prog w) A env fun e s' => R (.error e) s') s₁') (notedBy (model prog w) A env fun e s' => R (.error e) s') s₁)
        (notedBy (model prog w) A env fun e s' => R (.error e) s') s) (n : Nat) (h : J n s) :
    codeAny (model prog w) A (.compLoop (.ListComp elt [⟨target,iter,ifs,0⟩] scope pos) 0 it acc env) R s := by
  refine codeAny_loop rfl J (fun n s hJ => ?_) n h
  show wpAny _ _ (Sem.onRaise (compTurn (.ListComp elt [⟨target,iter,ifs,0⟩] scope pos) 0 it acc env) fun x => do noteFrame x env; theTreesLotGoes x) _ _ _
  refine wpAny_noted ?_
  rw [compTurn_list]
  refine wpAny_bind (wpAny_standAt (wpAny_bind (thn (turn n s hJ) fun r s₁ h₁ => ?_)))
  cases r with
  | none => exact wpAny_pure h₁
  | some v =>
    refine wpAny_bind (thn h₁ fun _ s₁' h₁' => wpAny_bind (thn h₁' fun _ s₂ h₂ => wpAny_bind (thn h₂ fun ok s₃ h₃ => ?_)))
    cases ok with
    | true => exact wpAny_bind (wpAny_bind (thn h₃ fun x s₄ h₄ => wpAny_bind (thn h₄ fun _ s₅ h₅ => wpAny_pure (wpAny_pure ⟨rfl,h₅⟩))))
    | false => exact wpAny_pure ⟨rfl,h₃⟩
def CErr (X : Cx)(C : Addr)(e : Value)(s' : Shared) : Prop :=
  ∃ m,s'.heap.Ns C m /\ ∀ h',Heap.SameBut C s'.heap h' -> ∀ cenv : Env,cenv.locals = C -> wpAny (model X.prog X.w) X.A (passOn "comprehension.variables-let-go" e cenv : Sem Value) (fun _ _ => False) X.xe { s' with heap := h' }
def cxComp (X : Cx)(N : List Str)(scope : Scope)(cells : List (Str × Addr))(C : Addr)(fp : List Addr)(s : Shared)(H : Hp) : Cx where
  prog := X.prog
  w := X.w
  K := X.K
  mg := X.mg
  base := X.base
  A := X.A
  N := N
  s₀ := s
  H₀ := H
  env := compEnvC scope cells C X.env
  outer := X.stack
  stack := X.stack
  ex := fp
  fn := fun x => decide (scope.names.lookup x = some NameKind.cell)
  calm := X.calm
  pn := []
  xe := notedBy (model X.prog X.w) X.A (compEnvC scope cells C X.env) (CErr X C)
def capt (σ : St)(map : List (Option Nat)) : St := map.map fun o => o.bind fun i => (σ[i]?).join
def CapOk (X : Cx)(scope : Scope) : List (Option Nat) -> List Str -> Prop
  | [],[] => True
  | none :: m,_ :: n => CapOk X scope m n
  | some i :: m,x :: n => (X.N[i]? = some x /\ scope.names.lookup x = some .free /\ (scope.names.all fun p => !(p.1 == x && p.2 == NameKind.cell)) = true /\ (X.env.kindOf x = some .cell \/ X.env.kindOf x = some .free)) /\ CapOk X scope m n
  | _,_ => False
theorem CapOk.length {X : Cx}{scope : Scope} : ∀ {m : List (Option Nat)} {n : List Str},CapOk X scope m n -> m.length = n.length
  | [],[],_ => rfl
  | none :: m,_ :: n,h => by simp [CapOk.length (m := m) (n := n) h]
  | some i :: m,x :: n,h => by simp [CapOk.length (m := m) (n := n) h.2]
  | [],_ :: _,h => h.elim
  | some _ :: _,[],h => h.elim
  | none :: _,[],h => h.elim
theorem CapOk.get {X : Cx}{scope : Scope} : ∀ {m : List (Option Nat)} {n : List Str} {j i : Nat} {x : Str},CapOk X scope m n -> m[j]? = some (some i) -> n[j]? = some x ->
    X.N[i]? = some x /\ scope.names.lookup x = some .free /\ ¬ (x,NameKind.cell) ∈ scope.names /\ (X.env.kindOf x = some .cell \/ X.env.kindOf x = some .free)
  | [],[],_,_,_,_,e,_ => by simp at e
  | none :: m,_ :: n,0,_,_,_,e,_ => by simp at e
  | none :: m,_ :: n,j + 1,i,x,h,e,e' => CapOk.get (m := m) (n := n) (j := j) h (by simpa using e) (by simpa using e')
  | some k :: m,y :: n,0,i,x,h,e,e' => by
    have e1 : k = i := by simpa using e
    have e2 : y = x := by simpa using e'
    subst e1 e2
    obtain ⟨⟨h1,h2,h3,h4⟩,_⟩ := h
    refine ⟨h1,h2,fun hm => ?_,h4⟩
    have q := List.all_eq_true.mp h3 _ hm
    simp at q
  | some k :: m,y :: n,j + 1,i,x,h,e,e' => CapOk.get (m := m) (n := n) (j := j) h.2 (by simpa using e) (by simpa using e')
  | [],_ :: _,_,_,_,h,_,_ => h.elim
  | some _ :: _,[],_,_,_,h,_,_ => h.elim
  | none :: _,[],_,_,_,h,_,_ => h.elim
def GKeep (g : TG)(map : List (Option Nat)) : Prop := ∀ v σ H Q,g v σ H Q -> g v σ H fun σ' H' => (σ'.length = σ.length /\ ∀ j i : Nat,map[j]? = some (some i) -> σ'[j]? = σ[j]?) /\ Q σ' H'
def PIf (X : Cx)(ifs : List Expr)(t : TT) : Prop :=
  ∀ (pins : List (Addr × Obj)) (s : Shared) (σ : St) (H : Hp) (Q : Bool -> Hp -> Prop),Inv X pins σ H s -> t σ H Q -> wpAny (model X.prog X.w) X.A (tries ifs X.env) (TP X pins σ Q) X.xe s
def tTrue : TT := fun _ H Q => Q true H
theorem pif_nil {X : Cx} : PIf X [] tTrue := fun _ _ _ H _ I h => wpAny_pure ⟨H,I,h⟩
theorem pif_one {X : Cx}{c : Expr}{t : TT}(hc : PT X c t) : PIf X [c] t := fun pins s σ H Q I h => by
  unfold tries
  simp only [List.forIn_cons,List.forIn_nil,if_true]
  exact wpAny_bind (wpAny_bind (thn (hc pins s σ H Q I h) fun b s' hb => wpAny_pure (wpAny_pure hb)))
theorem lookup_relabel {env : Env}{x : Str}{k : NameKind} : ∀ {names : List (Str × NameKind)},
    (names.map fun (p : Str × NameKind) => match p with | (n,k) => if (k == NameKind.free && env.scope.kind == .function && env.kindOf n == some .cell) then (n,NameKind.cell) else (n,k)).lookup x = some k ->
    ∃ k',names.lookup x = some k' /\ (k' = k \/ (k' = .free /\ k = .cell))
  | [],h => by simp at h
  | (n,k') :: r,h => by
    rw [List.map_cons] at h
    by_cases hc : (k' == NameKind.free && env.scope.kind == .function && env.kindOf n == some .cell) = true
    · simp only [if_pos hc,List.lookup_cons] at h
      rw [List.lookup_cons]
      cases hx : x == n with
      | true =>
        rw [hx] at h
        cases h
        refine ⟨k',rfl,.inr ⟨?_,rfl⟩⟩
        simp only [Bool.and_eq_true,beq_iff_eq] at hc
        exact hc.1.1
      | false =>
        rw [hx] at h
        exact lookup_relabel h
    · simp only [if_neg hc,List.lookup_cons] at h
      rw [List.lookup_cons]
      cases hx : x == n with
      | true =>
        rw [hx] at h
        cases h
        exact ⟨_,rfl,.inl rfl⟩
      | false =>
        rw [hx] at h
        exact lookup_relabel h
theorem relabel_free {env : Env}{x : Str} : ∀ {names : List (Str × NameKind)},names.lookup x = some .free ->
    (names.map fun (p : Str × NameKind) => match p with | (n,k) => if (k == NameKind.free && env.scope.kind == .function && env.kindOf n == some .cell) then (n,NameKind.cell) else (n,k)).lookup x = some .cell \/
    (names.map fun (p : Str × NameKind) => match p with | (n,k) => if (k == NameKind.free && env.scope.kind == .function && env.kindOf n == some .cell) then (n,NameKind.cell) else (n,k)).lookup x = some .free
  | [],h => by simp at h
  | (n,k') :: r,h => by
    rw [List.map_cons]
    rw [List.lookup_cons] at h
    by_cases hc : (k' == NameKind.free && env.scope.kind == .function && env.kindOf n == some .cell) = true
    · simp only [if_pos hc,List.lookup_cons]
      cases hx : x == n with
      | true => exact .inl rfl
      | false =>
        rw [hx] at h
        exact relabel_free h
    · simp only [if_neg hc,List.lookup_cons]
      cases hx : x == n with
      | true =>
        rw [hx] at h
        cases h
        exact .inr rfl
      | false =>
        rw [hx] at h
        exact relabel_free h
end L2
set_option Elab.async false
set_option linter.all false
set_option maxRecDepth 100000
set_option maxHeartbeats 4000000
namespace L2
open PySem PySem.Spec PyProof.Rows
section
variable {X : Cx}{elt iter tg : Expr}{ifs : List Expr}{scope : Scope}{pos : Pos}{N' : List Str}{map : List (Option Nat)}{wi : TI}{g : TG}{tt : TT}{te : TE}
def Turns (J : It)(g : TG)(tt : TT)(te : TE)(σc : St)(Fin : List V -> Hp -> Prop)(W : Nat -> Nat -> List V -> Hp -> Prop) : Prop :=
  ∀ i m acc H2,W i m acc H2 -> (J.stop i H2 /\ acc.length <= sizeLine /\ Fin acc H2) \/
    (J.go i H2 /\ acc.length < sizeLine /\ ∃ N : List V -> Hp -> Prop,(∀ acc' H',N acc' H' -> ∃ m',m' < m /\ W (i + 1) m' acc' H') /\ ∀ x H3,J.yld i H2 x H3 -> g x σc H3 fun σ4 H4 => tt σ4 H4 fun b H5 => if b = true then te σ4 H5 fun v H6 => N (acc ++ [v]) H6 else N acc H5)
structure TurnG (R : Cx -> Prop)(P : Program)(w : World)(K : PySem.W.Frag)(tg : Expr)(J : It)(fp : List Addr)(it : Addr)(tn : Nat -> Heap -> Prop) : Prop where
  mem : it ∈ fp
  obj : ∀ i h,tn i h -> ∀ b ∈ fp,∃ o,h.get? b = some o /\ ∀ v,o.data ≠ .cell v
  keep : ∀ i h h',tn i h -> (∀ b ∈ fp,∀ o,h.get? b = some o -> h'.get? b = some o) -> tn i h'
  item : ∀ (X : Cx),X.prog = P -> X.w = w -> X.K = K -> R X -> ∀ (i : Nat) (pins : List (Addr × Obj)) (s : Shared) (σ : St) (H : Hp) (E : Value -> Shared -> Prop),Inv X pins σ H s -> (∀ b ∈ fp,FpOk X pins H b) -> tn i s.heap -> J.go i H -> wpAny (model P w) X.A (pyNext (.ref it)) (fun r s1 => ∃ u,r = some u /\
      wpAny (model P w) X.A (letOwnedTupleGo tg (.ref it) u) (fun _ s2 => ∃ x H',Inv X pins σ H' s2 /\ RelV x u /\ J.yld i H x H' /\ tn (i + 1) s2.heap /\ ∀ b ∈ fp,H' b = none) E s1) E s
  done : ∀ (X : Cx),X.prog = P -> X.w = w -> X.K = K -> R X -> ∀ (i : Nat) (pins : List (Addr × Obj)) (s : Shared) (σ : St) (H : Hp) (E : Value -> Shared -> Prop),Inv X pins σ H s -> (∀ b ∈ fp,FpOk X pins H b) -> tn i s.heap -> J.stop i H -> wpAny (model P w) X.A (pyNext (.ref it)) (fun r s1 => r = none /\ Inv X pins σ H s1) E s
  self : ∀ (A : Around) (i : Nat) (s : Shared) (Q : Value -> Shared -> Prop) (E : Value -> Shared -> Prop),tn i s.heap -> Q (.ref it) s -> wpAny (model P w) A (pyIter (.ref it)) Q E s
theorem Turn.gen {P : Program}{w : World}{K : PySem.W.Frag}{tg : Expr}{J : It}{fp : List Addr}{it : Addr}{tn : Nat -> Heap -> Prop}(T : Turn P w K tg J fp it tn) : TurnG (fun X => X.calm = true) P w K tg J fp it tn := ⟨T.mem,T.obj,T.keep,T.item,T.done,T.self⟩
def CompIn (X : Cx)(C : Addr)(fp : List Addr)(s : Shared)(H : Hp) : Prop := ∃ pins σ,Inv X pins σ H s /\ (∀ b ∈ fp,FpOk X pins H b) /\ s.heap.objs.size <= C
structure BlkM (X : Cx)(N' : List Str)(scope : Scope)(map : List (Option Nat))(tg elt : Expr)(ifs : List Expr)(g : TG)(tt : TT)(te : TE) : Prop where
  kind : scope.kind = .function
  loc : ∀ x ∈ scope.names,x.2 = .local -> scope.names.lookup x.1 = some .local
  free : (scope.names.all fun p => !(p.2 == NameKind.free) || (X.env.kindOf p.1 == some .cell || X.env.kindOf p.1 == some .free)) = true
  cap : CapOk X scope map N'
  keep : GKeep g map
  run : ∀ cells C fp s H,CompIn X C fp s H -> PG (cxComp X N' scope cells C fp s H) tg g /\ PIf (cxComp X N' scope cells C fp s H) ifs tt /\ PE (cxComp X N' scope cells C fp s H) elt te
structure Blk (X : Cx)(N' : List Str)(scope : Scope)(map : List (Option Nat))(tg elt : Expr)(ifs : List Expr)(g : TG)(tt : TT)(te : TE) : Prop where
  calm : X.calm = true
  kind : scope.kind = .function
  loc : ∀ x ∈ scope.names,x.2 = .local -> scope.names.lookup x.1 = some .local
  free : (scope.names.all fun p => !(p.2 == NameKind.free) || (X.env.kindOf p.1 == some .cell || X.env.kindOf p.1 == some .free)) = true
  cap : CapOk X scope map N'
  keep : GKeep g map
  run : ∀ cells C fp s H,CompIn X C fp s H -> PG (cxComp X N' scope cells C fp s H) tg g /\ PIf (cxComp X N' scope cells C fp s H) ifs tt /\ PE (cxComp X N' scope cells C fp s H) elt te
theorem Blk.m (B : Blk X N' scope map tg elt ifs g tt te) : BlkM X N' scope map tg elt ifs g tt te := ⟨B.kind,B.loc,B.free,B.cap,B.keep,B.run⟩
theorem blk_inv {pins : List (Addr × Obj)}{σ : St}{H1 : Hp}{s2 : Shared}{cl : List (Str × Addr)}{fp : List Addr}(I : Inv X pins σ H1 s2)(B : BlkM X N' scope map tg elt ifs g tt te)
    (hsub : ∀ x c,cl.lookup x = some c -> X.env.cells.lookup x = some c) (hhas : ∀ x,(x,NameKind.free) ∈ scope.names -> (cl.lookup x).isSome = true)
    (hf : ∀ b ∈ fp,FpOk X pins H1 b) (hfo : ∀ b ∈ fp,∃ o,s2.heap.get? b = some o) (C : Addr) (h3 : Heap) (hC : s2.heap.objs.size <= C) (k3 : ∀ b o,s2.heap.get? b = some o -> h3.get? b = some o) (hCsz : C < h3.objs.size) (hns : h3.Ns C fun _ => none) (tk : Nat) :
    Inv (cxComp X N' scope (cellsFrom h3.objs.size scope.names cl) C fp s2 H1) [] (capt σ map) H1 { s2 with heap := pushCells h3 scope.names,toks := tk } := by
  have kk : ∀ b o,s2.heap.get? b = some o -> (pushCells h3 scope.names).get? b = some o := fun b o e => pushCells_keeps _ _ b o (k3 b o e)
  have fsz : ∀ b ∈ fp,b < s2.heap.objs.size := fun b hb => by obtain ⟨o,e⟩ := hfo b hb; exact Heap.lt_size e
  have clz : ∀ x c,cl.lookup x = some c -> c < s2.heap.objs.size := fun x c e => by
    obtain ⟨v,o,ho,_⟩ := I.cell x c (hsub x c e)
    exact Heap.lt_size ho
  have h3sz : s2.heap.objs.size < h3.objs.size := Nat.lt_of_le_of_lt hC hCsz
  have cof : ∀ x c,(cellsFrom h3.objs.size scope.names cl).lookup x = some c -> X.env.cells.lookup x = some c \/ h3.objs.size <= c := fun x c e => (cf_of _ _ _ x c e).imp (hsub x c) id
  have cnb : ∀ x c,(cellsFrom h3.objs.size scope.names cl).lookup x = some c -> ∀ b ∈ fp,c ≠ b := fun x c e b hb z => by
    rcases cof x c e with q | q
    · exact (hf b hb).2.2.2.2.1 x c q z
    · have h1 := fsz b hb
      rw [<- z] at h1
      exact absurd (Nat.lt_of_lt_of_le (Nat.lt_trans h1 h3sz) q) (Nat.lt_irrefl _)
  have fnf : ∀ b ∈ fp,b ∉ frs X.stack := fun b hb hm => by
    obtain ⟨_,f1,f2,_⟩ := hf b hb
    rcases List.mem_cons.mp (I.stkSub b hm) with z | z
    · exact f1 z
    · exact f2 z
  have cellI : ∀ x c,(cellsFrom h3.objs.size scope.names cl).lookup x = some c -> ∃ v,(pushCells h3 scope.names).IsCell c v := fun x c e =>
    cf_cell scope.names h3 cl (fun x' c' q => by
      obtain ⟨v,w⟩ := I.cell x' c' (hsub x' c' q)
      exact ⟨v,w.keeps k3⟩) x c e
  have hC0 : H1 C = none := I.hok.fresh hC
  have ok : (cxComp X N' scope (cellsFrom h3.objs.size scope.names cl) C fp s2 H1).Ok :=
    { mod := I.ok.mod
      kind := B.kind
      glob := I.ok.glob
      blt := I.ok.blt
      above := hC
      inj := cf_inj scope.names h3.objs.size cl (fun x c e => Nat.lt_trans (clz x c e) h3sz) fun x y c e1 e2 => I.ok.inj x y c (hsub x c e1) (hsub y c e2)
      has := fun x hx => by
        have hx : (relabel scope X.env).names.lookup x = some .cell \/ (relabel scope X.env).names.lookup x = some .free := hx
        have goal : (scope.names.lookup x = some .cell \/ (cl.lookup x).isSome = true) := by
          rcases hx with q | q
          · obtain ⟨k',e1,e2⟩ := lookup_relabel q
            rcases e2 with z | ⟨z,_⟩
            · exact .inl (by rw [e1,z])
            · exact .inr (hhas x (PySem.mem_of_lookup (by rw [e1,z])))
          · obtain ⟨k',e1,e2⟩ := lookup_relabel q
            rcases e2 with z | ⟨z,z'⟩
            · exact .inr (hhas x (PySem.mem_of_lookup (by rw [e1,z])))
            · cases z'
        exact Option.isSome_iff_exists.mp (PySem.W.cellsFrom_some scope.names h3.objs.size cl goal)
      cab := fun x c hx e => Nat.le_of_lt (Nat.lt_of_lt_of_le h3sz (cf_own scope.names h3.objs.size cl (Nat.le_refl _) (PySem.mem_of_lookup (of_decide_eq_true hx)) c e))
      hd := I.ok.hd
      frames := I.ok.frames
      stk := .inl rfl
      exf := fun b hb => ⟨fun z => absurd (fsz b hb) (by rw [z]; exact Nat.not_lt.mpr hC),fun x c e => cnb x c e b hb⟩
      bs := I.bs
      bsz := Nat.le_trans I.ok.bsz I.sz
      noex := fun b o e hb => by
        rcases (hf b hb).2.2.2.1 with z | z
        · exact I.ok.noex b o e z
        · exact absurd (Heap.lt_size (I.ok.bs b o e).1) (Nat.not_lt.mpr z)
      exfs := fnf
      funs := I.stack
      frf := I.stkFree }
  refine ⟨ok,rfl,I.bare,Un.kept kk,⟨fun _ => none,hns.keeps fun b o e => pushCells_keeps _ _ b o e,fun j x v e1 e2 e3 => ?_⟩,cellI,hC0,fun x c e => ?_,fun p hp => absurd (show p ∈ ([] : List (Addr × Obj)) from hp) (by simp),I.hok.kept kk,?_⟩
  · have e2' : (capt σ map)[j]? = some (some v) := e2
    unfold capt at e2'
    rw [List.getElem?_map] at e2'
    cases hm : map[j]? with
    | none => rw [hm] at e2'; cases e2'
    | some o =>
      rw [hm] at e2'
      cases o with
      | none => simp at e2'
      | some i =>
        have e2'' : (σ[i]?).join = some v := by simpa using e2'
        have hσ : σ[i]? = some (some v) := by
          cases q : σ[i]? with
          | none => rw [q] at e2''; cases e2''
          | some o' =>
            rw [q] at e2''
            have : o' = some v := by simpa using e2''
            rw [this]
        obtain ⟨c1,c2,c3,c4⟩ := B.cap.get hm e1
        obtain ⟨m,hn,hl⟩ := I.loc
        have vis : Vis X.env.scope x := by
          rcases c4 with z | z
          · exact .inr (.inl z)
          · exact .inr (.inr z)
        obtain ⟨u,r,l⟩ := hl i x v c1 hσ vis
        refine ⟨u,r,?_⟩
        rcases l with ⟨z,_⟩ | ⟨_,c,ec,hcell⟩
        · rcases c4 with q | q
          · rw [q] at z; cases z
          · rw [q] at z; cases z
        · right
          refine ⟨relabel_free c2,c,?_,hcell.keeps kk⟩
          show (cellsFrom h3.objs.size scope.names cl).lookup x = some c
          rw [cf_not _ _ _ c3]
          obtain ⟨c',hc'⟩ := Option.isSome_iff_exists.mp (hhas x (PySem.mem_of_lookup c2))
          have := hsub x c' hc'
          rw [ec] at this
          cases this
          exact hc'
  · rcases cof x c e with q | q
    · exact I.freeC x c q
    · exact I.hok.fresh (Nat.le_trans (Nat.le_of_lt h3sz) q)
  · show (capt σ map).length = N'.length
    unfold capt
    rw [List.length_map]
    exact B.cap.length
theorem blk_run {pins : List (Addr × Obj)}{σ : St}{H1 : Hp}{s2 : Shared}{cl : List (Str × Addr)}{fp : List Addr}{it : Addr}{tn : Nat -> Heap -> Prop}{J : It}{E : Value -> Shared -> Prop}(I : Inv X pins σ H1 s2)(B : BlkM X N' scope map tg elt ifs g tt te)
    (hsub : ∀ x c,cl.lookup x = some c -> X.env.cells.lookup x = some c) (hhas : ∀ x,(x,NameKind.free) ∈ scope.names -> (cl.lookup x).isSome = true)
    {R : Cx -> Prop} (hR : ∀ cells C fp s H,R (cxComp X N' scope cells C fp s H)) (T : TurnG R X.prog X.w X.K tg J fp it tn) (st : tn 0 s2.heap) (hf : ∀ b ∈ fp,FpOk X pins H1 b) {Fin : List V -> Hp -> Prop} {W : Nat -> Nat -> List V -> Hp -> Prop} {m0 : Nat} (w0 : W 0 m0 [] H1) (ht : Turns J g tt te (capt σ map) Fin W)
    {RR : Value -> Addr -> Result -> Shared -> Prop}
    (hOk : ∀ D C acc H' s' m,Inv X pins σ (upd H' D (.lst acc)) s' -> H' D = none -> s'.heap.Ns C m -> upd H' D (.lst acc) C = none -> C ≠ X.env.locals -> X.s₀.heap.objs.size <= C -> (∀ x c,X.env.cells.lookup x = some c -> c ≠ C) -> (∀ p ∈ X.pn ++ pins,p.1 ≠ C) -> Fin acc H' -> RR (.ref D) C (.ok .next) s')
    (hErr : ∀ D C e s',CErr X C e s' -> RR (.ref D) C (.error e) s') :
    wpAny (model X.prog X.w) X.A (newList []) (fun acc s3 => wpAny (model X.prog X.w) X.A (newFunctionEnv scope X.env.globals cl [] X.env.qual none .none (some X.env)) (fun cenv s4 =>
      codeAny (model X.prog X.w) X.A (.compStart (.ListComp elt [⟨tg,iter,ifs,0⟩] scope pos) 0 (.ref it) acc { cenv with scope := relabel scope X.env }) (RR acc cenv.locals) s4) E s3) E s2 := by
  have fo : ∀ b ∈ fp,∃ o,s2.heap.get? b = some o := fun b hb => by obtain ⟨o,e,_⟩ := T.obj 0 _ st b hb; exact ⟨o,e⟩
  refine wpAny_newObj_type ?_
  generalize hH2 : s2.heap.push { cls := .type "list",dict := none,data := .seq ([] : List Value).toArray } = H2
  have szD : H2.objs.size = s2.heap.objs.size + 1 := by rw [<- hH2,Heap.size_push]
  have kD : ∀ b o,s2.heap.get? b = some o -> H2.get? b = some o := fun b o e => hH2 ▸ Heap.get?_push_of_some _ e
  simp only [newFunctionEnv,Option.isSome_some,if_true]
  refine wpAny_bind (wpAny_alloc ?_)
  refine wpAny_bind (wpAny_layCells _ (fun name kind cells => by cases hkc : kind == NameKind.cell <;> simp [hkc]) _ _ _ _ ?_)
  dsimp only
  generalize hH3 : H2.push { cls := .type "dict",dict := none,data := .dict #[] } = h3
  have sz3 : h3.objs.size = H2.objs.size + 1 := by rw [<- hH3,Heap.size_push]
  have kC : ∀ b o,H2.get? b = some o -> h3.get? b = some o := fun b o e => hH3 ▸ Heap.get?_push_of_some _ e
  have nsC : h3.Ns H2.objs.size fun _ => none := hH3 ▸ Heap.Ns.new H2 (.type "dict")
  refine wpAny_bind (wpAny_pure (wpAny_pure ?_))
  show codeAny _ _ (.compStart (.ListComp elt [⟨tg,iter,ifs,0⟩] scope pos) 0 (.ref it) (.ref s2.heap.objs.size) (compEnvC scope (cellsFrom h3.objs.size scope.names cl) H2.objs.size X.env)) _ _
  generalize hX' : cxComp X N' scope (cellsFrom h3.objs.size scope.names cl) H2.objs.size fp s2 H1 = X'
  have I4 : Inv X' [] (capt σ map) H1 { s2 with heap := pushCells h3 scope.names } := hX' ▸ blk_inv I B hsub hhas hf fo H2.objs.size h3 (by rw [szD]; exact Nat.le_succ _) (fun b o e => kC b o (kD b o e)) (by rw [sz3]; exact Nat.lt_succ_self _) nsC s2.toks
  obtain ⟨pg,pif,pel⟩ := B.run (cellsFrom h3.objs.size scope.names cl) H2.objs.size fp s2 H1 ⟨pins,σ,I,hf,by rw [szD]; exact Nat.le_succ _⟩
  rw [hX'] at pg pif pel
  have eprog : X'.prog = X.prog := by rw [<- hX']; rfl
  have ew : X'.w = X.w := by rw [<- hX']; rfl
  have eK : X'.K = X.K := by rw [<- hX']; rfl
  have eA : X'.A = X.A := by rw [<- hX']; rfl
  have ecalm : R X' := by rw [<- hX']; exact hR _ _ _ _ _
  have eenv : X'.env = compEnvC scope (cellsFrom h3.objs.size scope.names cl) H2.objs.size X.env := by rw [<- hX']; rfl
  have exe : X'.xe = notedBy (model X.prog X.w) X.A (compEnvC scope (cellsFrom h3.objs.size scope.names cl) H2.objs.size X.env) (CErr X H2.objs.size) := by rw [<- hX']; rfl
  have es0 : X'.s₀ = s2 := by rw [<- hX']; rfl
  have eH0 : X'.H₀ = H1 := by rw [<- hX']; rfl
  have eex : X'.ex = fp := by rw [<- hX']; rfl
  have efs : X'.fs = frs X.stack := by rw [<- hX']; rfl
  have epn : X'.pn = [] := by rw [<- hX']; rfl
  have eL : X'.env.locals = H2.objs.size := by rw [eenv]; rfl
  generalize hDd : s2.heap.objs.size = D at *
  have fD : ∀ b ∈ fp,b ≠ D := fun b hb => by obtain ⟨o,e⟩ := fo b hb; exact Nat.ne_of_lt (hDd ▸ Heap.lt_size e)
  have nfsD : D ∉ X'.fs := fun hb => by
    rw [efs] at hb
    have h1 := I.stkSub D hb
    rcases List.mem_cons.mp h1 with z | z
    · have := I.lt; rw [hDd,<- z] at this; exact Nat.lt_irrefl _ this
    · exact I.nofs (by rw [hDd]; exact Nat.le_refl _) z
  have ncD : ∀ x c,X'.env.cells.lookup x = some c -> c ≠ D := fun x c e z => by
    rw [eenv] at e
    rcases cf_of _ _ _ x c e with q | q
    · obtain ⟨v,o,ho,_⟩ := I.cell x c (hsub x c q)
      have := Heap.lt_size ho
      rw [hDd,z] at this
      exact Nat.lt_irrefl _ this
    · rw [z,sz3,szD] at q
      exact absurd (Nat.lt_of_lt_of_le (Nat.lt_succ_of_lt (Nat.lt_succ_self D)) q) (Nat.lt_irrefl _)
  have f4 : ∀ {H' : Hp} {pl : List (Addr × Obj)},(∀ b ∈ fp,H' b = none) -> (∀ p ∈ pl,p.1 = D) -> ∀ b ∈ fp,FpOk X' pl H' b := fun {H' pl} hn hpl b hb => by
    have q := hf b hb
    refine ⟨hn b hb,?_,?_,.inl (by rw [eex]; exact hb),fun x c e => ?_,fun p hp => ?_⟩
    · rw [eL]
      obtain ⟨o,e⟩ := fo b hb
      have := Heap.lt_size e
      rw [hDd] at this
      intro z
      rw [z,szD] at this
      exact absurd (Nat.lt_of_succ_lt this) (Nat.lt_irrefl _)
    · have := I4.ok.exfs b (by rw [eex]; exact hb)
      exact this
    · exact (I4.ok.exf b (by rw [eex]; exact hb)).2 x c e
    · rw [epn] at hp
      have hp : p ∈ pl := by simpa using hp
      rw [hpl p hp]
      exact (fD b hb).symm
  have noCell : ∀ {its : Array Value} {n : Nat} (v : Option Value),({ cls := .type "list",data := .seq its n } : Obj).data ≠ .cell v := fun v z => by cases z
  have hD4 : (pushCells h3 scope.names).get? D = some { cls := .type "list",data := .seq ([] : List Value).toArray 0 } := pushCells_keeps _ _ _ _ (kC _ _ (by rw [<- hH2,<- hDd]; exact Heap.get?_push_size _ rfl))
  have loop : codeAny (model X.prog X.w) X.A (.compLoop (.ListComp elt [⟨tg,iter,ifs,0⟩] scope pos) 0 (.ref it) (.ref D) (compEnvC scope (cellsFrom h3.objs.size scope.names cl) H2.objs.size X.env)) (RR (.ref D) H2.objs.size) { s2 with heap := pushCells h3 scope.names } := by
    refine compLoop_any (fun n s' => ∃ i acc H' its k,Inv X' [] (capt σ map) H' s' /\ tn i s'.heap /\ (∀ b ∈ fp,H' b = none) /\ H' D = none /\ s'.heap.get? D = some { cls := .type "list",data := .seq (List.toArray its) k } /\ Vals acc its /\ W i n acc H') ?_ m0
      ⟨0,[],H1,[],0,I4,T.keep _ _ _ st fun b hb o e => pushCells_keeps _ _ _ _ (kC _ _ (kD _ _ e)),fun b hb => (hf b hb).1,I.hok.fresh (by rw [hDd]; exact Nat.le_refl _),hD4,.nil,w0⟩
    rintro n s5 ⟨i,acc,H5,its,k,I5,st5,fr5,hD5,oD5,rv5,w5⟩
    have pinD : Inv X' [(D,{ cls := .type "list",data := .seq (List.toArray its) k })] (capt σ map) H5 s5 := I5.pins_of fun p hp => by
      have e : p = (D,{ cls := .type "list",data := .seq (List.toArray its) k }) := by simpa using hp
      subst e
      refine ⟨oD5,hD5,?_,nfsD,fun v => noCell v⟩
      rw [eL,szD]
      exact Nat.ne_of_lt (Nat.lt_succ_self _)
    have plD : ∀ p ∈ [(D,({ cls := .type "list",data := .seq (List.toArray its) k } : Obj))],p.1 = D := fun p hp => by
      have e : p = (D,{ cls := .type "list",data := .seq (List.toArray its) k }) := by simpa using hp
      rw [e]
    have err : ∀ e s',X'.xe e s' -> notedBy (model X.prog X.w) X.A (compEnvC scope (cellsFrom h3.objs.size scope.names cl) H2.objs.size X.env) (fun e s' => RR (.ref D) H2.objs.size (.error e) s') e s' := fun e s' he => by
      rw [exe] at he
      exact wpAny_mono he (fun _ s'' q => hErr D _ e s'' q) fun e'' s'' q => hErr D _ e'' s'' q
    rcases ht i n acc H5 w5 with ⟨stop,hsz,fin⟩ | ⟨go,hsz,NN,hNN,step⟩
    · have dn := T.done X' eprog ew eK ecalm i _ s5 (capt σ map) H5 (notedBy (model X.prog X.w) X.A (compEnvC scope (cellsFrom h3.objs.size scope.names cl) H2.objs.size X.env) fun e s' => RR (.ref D) H2.objs.size (.error e) s') pinD (f4 fr5 plD) st5 stop
      rw [eA] at dn
      refine thn dn fun r s6 ⟨hr,I6⟩ => ?_
      subst hr
      obtain ⟨oD6,hD6,_⟩ := I6.pin (D,_) (by rw [epn]; exact List.mem_cons_self)
      obtain ⟨m,nsm,_⟩ := I6.loc
      rw [eL] at nsm
      have un := I6.base
      rw [efs,eex,eH0,es0] at un
      have hok := I6.hok
      rw [eprog,ew] at hok
      have os6 := I6.os
      rw [es0] at os6
      have fC : H5 H2.objs.size = none := by rw [<- eL]; exact I6.free
      have nDC : H2.objs.size ≠ D := by rw [szD]; exact Nat.ne_of_gt (Nat.lt_succ_self _)
      refine hOk D H2.objs.size acc H5 s6 m (I.call' (ch := fp) os6 ?_ ?_ I6.bare fun b hb => ?_) hD5 nsm (by rw [upd_ne nDC]; exact fC) ?_ ?_ ?_ ?_ fin
      · refine ⟨un.keep,un.slot,fun b o e n hx => ?_,un.there,fun b xs e => ?_,fun b o u e => ?_,fun b ps e => ?_⟩
        · rw [upd_ne (Nat.ne_of_lt (hDd ▸ Heap.lt_size e))]
          exact un.free b o e n hx
        · have := un.tups b xs e
          rw [upd_ne (ne_of_none this hD5)]
          exact this
        · have := un.frzs b o u e
          rw [upd_ne (ne_of_none this hD5)]
          exact this
        · obtain ⟨more,this⟩ := un.tbls b ps e
          exact ⟨more,by rw [upd_ne (ne_of_none this hD5)]; exact this⟩
      · intro b o e
        by_cases hb : b = D
        · subst hb
          rw [upd_same] at e
          cases e
          exact ⟨hsz,its,k,rv5,oD6⟩
        · rw [upd_ne hb] at e
          exact (hok b o e).stay (fun _ _ _ q => q) (fun c q => by rw [upd_ne (ne_of_none q hD5)]; exact q) fun c xs q => by rw [upd_ne (ne_of_none q hD5)]; exact q
      · obtain ⟨f0,f1,f2,f3,f4',f5⟩ := hf b hb
        exact ⟨f3,f1,f4',f5⟩
      · have := I.lt
        rw [hDd] at this
        intro z
        rw [<- z,szD] at this
        exact absurd (Nat.lt_of_succ_lt this) (Nat.lt_irrefl _)
      · have := I.sz
        rw [hDd] at this
        omega
      · intro x c e z
        obtain ⟨v,o,ho,_⟩ := I.cell x c e
        have := Heap.lt_size ho
        rw [hDd,z,szD] at this
        exact absurd (Nat.lt_of_succ_lt this) (Nat.lt_irrefl _)
      · intro p hp z
        have := Heap.lt_size (I.pin p hp).1
        rw [hDd,z,szD] at this
        exact absurd (Nat.lt_of_succ_lt this) (Nat.lt_irrefl _)
    · have im := T.item X' eprog ew eK ecalm i _ s5 (capt σ map) H5 (notedBy (model X.prog X.w) X.A (compEnvC scope (cellsFrom h3.objs.size scope.names cl) H2.objs.size X.env) fun e s' => RR (.ref D) H2.objs.size (.error e) s') pinD (f4 fr5 plD) st5 go
      rw [eA] at im
      refine thn im fun r s6 ⟨u,hr,h6⟩ => ?_
      subst hr
      refine thn h6 fun _ s7 ⟨x,H7,I7,r7,y7,st7,fr7⟩ => ?_
      have I7' := I7.pinned (f4 fr7 plD) (T.obj _ _ st7)
      have stp := B.keep _ _ _ _ (step x H7 y7)
      have pgx := pg _ s7 (capt σ map) H7 x u _ I7' r7 stp
      rw [eprog,ew,eA,eenv] at pgx
      refine wpAny_mono pgx (fun _ s8 ⟨σ8,H8,I8,⟨kl,k8⟩,q8⟩ => ?_) err
      have pix := pif _ s8 σ8 H8 _ I8 q8
      rw [eprog,ew,eA,eenv] at pix
      refine wpAny_mono pix (fun b s9 ⟨H9,I9,q9⟩ => ?_) err
      have wk : ∀ {σa : St} {Ha : Hp} {sa : Shared},σa = σ8 -> Inv X' ([(D,({ cls := .type "list",data := .seq (List.toArray its) k } : Obj))] ++ pinsAt fp s7.heap) σa Ha sa ->
          Inv X' [] (capt σ map) Ha sa /\ tn (i + 1) sa.heap /\ (∀ b ∈ fp,Ha b = none) /\ Ha D = none /\ sa.heap.get? D = some { cls := .type "list",data := .seq (List.toArray its) k } := fun {σa Ha sa} ea Ia => by
        subst ea
        refine ⟨(Ia.pins_of (pins' := []) fun p hp => absurd hp (by simp)).weak kl.symm fun j v e => ?_,T.keep _ _ _ st7 fun b hb o e => (Ia.pin (b,o) (List.mem_append_right _ (List.mem_append_right _ (mem_pinsAt hb e)))).1,fun b hb => ?_,?_,?_⟩
        · have e' := e
          unfold capt at e'
          rw [List.getElem?_map] at e'
          cases hm : map[j]? with
          | none => rw [hm] at e'; cases e'
          | some o =>
            rw [hm] at e'
            cases o with
            | none => simp at e'
            | some i' => rw [k8 j i' hm]; exact e
        · obtain ⟨o,e,d⟩ := T.obj _ _ st7 b hb
          exact (Ia.pin (b,o) (List.mem_append_right _ (List.mem_append_right _ (mem_pinsAt hb e)))).2.1
        · exact (Ia.pin (D,_) (List.mem_append_right _ (List.mem_append_left _ List.mem_cons_self))).2.1
        · exact (Ia.pin (D,_) (List.mem_append_right _ (List.mem_append_left _ List.mem_cons_self))).1
      cases b with
      | false =>
        rw [if_neg Bool.false_ne_true] at q9 ⊢
        obtain ⟨m',hm',w9⟩ := hNN _ _ q9
        obtain ⟨a1,a2,a3,a4,a5⟩ := wk rfl I9
        exact ⟨m',hm',i + 1,acc,H9,its,k,a1,a2,a3,a4,a5,rv5,w9⟩
      | true =>
        rw [if_pos rfl] at q9 ⊢
        have pex := pel _ s9 σ8 H9 _ I9 q9
        rw [eprog,ew,eA,eenv] at pex
        refine wpAny_mono pex (fun v s10 ⟨y,H10,I10,r10,q10⟩ => ?_) err
        obtain ⟨m',hm',w10⟩ := hNN _ _ q10
        obtain ⟨a1,a2,a3,a4,a5⟩ := wk rfl I10
        have hl := rv5.length
        refine wpAny_list_append_plain (items := List.toArray its) ⟨k,a5⟩ (fun h11 pl11 sb11 => ?_) (by simp only [List.size_toArray]; omega)
        obtain ⟨k',e11⟩ := pl11
        refine ⟨m',hm',i + 1,acc ++ [y],H10,its ++ [v],k',a1.turned (t' := s10.toks) (it := D) (fun b o hb e => (sb11.2 b hb).trans e) a4 ?_ (.inr (by rw [es0,hDd]; exact Nat.le_refl _)) ncD (fun p hp => absurd hp (by rw [epn]; simp)),T.keep _ _ _ a2 fun b hb o e => (sb11.2 b (fD b hb)).trans e,a3,a4,?_,rv5.append (.cons r10 .nil),w10⟩
        · rw [eL,szD]
          exact Nat.ne_of_lt (Nat.lt_succ_self _)
        · rw [e11,List.push_toArray]
  exact codeAny_compStart_list loop (T.self _ 0 _ _ _ (T.keep _ _ _ st fun b hb o e => pushCells_keeps _ _ _ _ (kC _ _ (kD _ _ e))) loop)
theorem Blk.clos {pins : List (Addr × Obj)}{σ : St}{H : Hp}{s : Shared}(B : Blk X N' scope map tg elt ifs g tt te)(I : Inv X pins σ H s) :
    ∃ cl,closureFor scope X.env = pure cl /\ (∀ x c,cl.lookup x = some c -> X.env.cells.lookup x = some c) /\ ∀ x,(x,NameKind.free) ∈ scope.names -> (cl.lookup x).isSome = true :=
  closureFor_ok fun x hx => I.ok.has x (by
    have q := List.all_eq_true.mp B.free _ hx
    simpa using q)
def tComp (wi : TI)(map : List (Option Nat))(g : TG)(tt : TT)(te : TE) : TE := fun σ H Q => wi σ H fun J H1 => ∃ W : Nat -> Nat -> List V -> Hp -> Prop,(∃ m,W 0 m [] H1) /\
  Turns J g tt te (capt σ map) (fun acc H' => ∀ D,H' D = none -> Q (.ref D) (upd H' D (.lst acc))) W
theorem pe_comp (B : Blk X N' scope map tg elt ifs g tt te)(hi : PI X tg iter wi)(hs : ∀ x,foldedSetIterable iter X.env x = pure x := by intro _; rfl) : PE X (.ListComp elt [⟨tg,iter,ifs,0⟩] scope pos) (tComp wi map g tt te) := by
  intro pins s σ H Q I h
  obtain ⟨cl,hcl,hsub,hhas⟩ := B.clos I
  rw [eval_ListComp]
  refine wpAny_comprehension_free (use := none) rfl hs hcl B.kind B.loc (thn (hi pins s σ H _ I h) fun v s1 h1 => thn h1 fun itv s2 h2 => ?_)
  obtain ⟨it,fp,tn,J,H2,e,I2,T,st2,f2,W,⟨m0,w0⟩,turn⟩ := h2
  subst e
  refine blk_run (RR := fun acc C => compPost (model X.prog X.w) X.A X.xe none (EP X pins σ Q) acc C) I2 B.m hsub hhas (R := fun X => X.calm = true) (fun _ _ _ _ _ => B.calm) T.gen st2 f2 w0 turn (fun D C acc H' s' m I' hD nsm fC c1 c2 c3 c4 fin => ?_) fun D C e s' z => z
  refine ⟨m,nsm,fun h' sb => ⟨.ref D,_,?_,rfl,fin D hD⟩⟩
  exact I'.turned (t' := s'.toks) (fun b o hb e => (sb.2 b hb).trans e) fC c1 (.inr c2) c3 c4
def tSetComp (i : Nat)(wi : TI)(map : List (Option Nat))(g : TG)(tt : TT)(te : TE) : TS := fun D σ H => wi σ H fun J H1 => ∃ W : Nat -> Nat -> List V -> Hp -> Prop,(∃ m,W 0 m [] H1) /\
  Turns J g tt te (capt σ map) (fun acc H' => ∀ d,H' d = none -> D.nx (σ.set i (some (.ref d))) (upd H' d (.lst acc))) W
theorem ps_setComp {i : Nat}{y : Str}{py spos : Pos}(hN : X.N.Nodup)(hiN : X.N[i]? = some y)(hy : Loc X.env.scope y)(B : Blk X N' scope map tg elt ifs g tt te)(hi : PI X tg iter wi)
    (hsw : swapsWith (.ListComp elt [⟨tg,iter,ifs,0⟩] scope pos) (some (.Name y py)) spos.line X.env = pure true := by rfl) (hfn : X.fn y = true \/ X.env.scope.names.lookup y = some .local := by first | exact .inl rfl | exact .inr rfl)
    (hs : ∀ x,foldedSetIterable iter X.env x = pure x := by intro _; rfl) : PS X (.Assign [.Name y py] (.ListComp elt [⟨tg,iter,ifs,0⟩] scope pos) spos) (tSetComp i wi map g tt te) := by
  intro pins s σ H D I h
  obtain ⟨cl,hcl,hsub,hhas⟩ := B.clos I
  rw [exec_Assign_Name_used _ _ _ _ hsw]
  refine wpAny_bind (wpAny_standAt (wpAny_bind ?_))
  show wpAny _ _ (do let _ <- comprehension (.ListComp elt [⟨tg,iter,ifs,0⟩] scope pos) scope X.env _ (newList []) false (eval iter X.env) (some (assign (.Name y py) X.env))) _ _ _
  refine wpAny_bind (thn (wpAny_comprehension_free (use := some (assign (.Name y py) X.env)) (Q := fun _ s' => SP X pins D .next s') rfl hs hcl B.kind B.loc (thn (hi pins s σ H _ I h) fun v s1 h1 => thn h1 fun itv s2 h2 => ?_)) fun _ s' hq => wpAny_pure (wpAny_pure hq))
  obtain ⟨it,fp,tn,J,H2,e,I2,T,st2,f2,W,⟨m0,w0⟩,turn⟩ := h2
  subst e
  refine blk_run (RR := fun acc C => compPost (model X.prog X.w) X.A X.xe (some (assign (.Name y py) X.env)) (fun _ s' => SP X pins D .next s') acc C) I2 B.m hsub hhas (R := fun X => X.calm = true) (fun _ _ _ _ _ => B.calm) T.gen st2 f2 w0 turn (fun d C acc H' s' m I' hD nsm fC c1 c2 c3 c4 fin => ?_) fun D C e s' z => z
  refine wpAny_assign_Name (store_ok2 I' hN hiN hy (v := .ref d) rfl (fun s'' I'' ⟨a,sb,ha⟩ => ?_) hfn)
  have hCa : C ≠ a := by
    rcases ha with z | z
    · rw [z]; exact c1
    · exact (c3 y a z).symm
  refine ⟨m,nsm.sameBut sb hCa,fun h' sb' => ⟨_,_,?_,fin d hD⟩⟩
  exact I''.turned (t' := s''.toks) (fun b o hb e => (sb'.2 b hb).trans e) fC c1 (.inr c2) c3 c4
end
theorem gkeep_name {j : Nat}{map : List (Option Nat)}(h : map[j]? = some none) : GKeep (gName j) map := fun v σ H Q q => by
  refine ⟨⟨by simp,fun j' i hm => ?_⟩,q⟩
  have : j ≠ j' := fun z => by rw [z,hm] at h; cases h
  rw [List.getElem?_set_ne this]
end L2
set_option Elab.async false
set_option linter.all false
set_option maxRecDepth 100000
set_option maxHeartbeats 4000000
namespace L2
open PySem PySem.Spec PyProof.Rows
def Bd (n : Nat)(i : Int) : Prop := i.natAbs < 2 ^ n
theorem Bd.mono {m n : Nat}{i : Int}(h : Bd m i)(k : m <= n) : Bd n i := Nat.lt_of_lt_of_le h (Nat.pow_le_pow_right (by decide) k)
theorem Bd.of {n : Nat}{i : Int}(h1 : -(2 ^ n : Nat) < i)(h2 : i < (2 ^ n : Nat)) : Bd n i := by
  unfold Bd
  omega
theorem bits_of {n : Nat}{i : Int}(h : Bd n i) : Builtin.Int.intBits i <= n := by
  unfold Builtin.Int.intBits
  split
  · exact Nat.zero_le _
  · rename_i hz
    have h0 : i.natAbs ≠ 0 := fun z => hz (by have : i = 0 := Int.natAbs_eq_zero.mp z; simp [this])
    exact (Nat.log2_lt h0).mpr h
def CMulB (i j : Int) : Prop := (∃ m n,Bd m i /\ Bd n j /\ m + n <= 100000000) \/ Bd 64 j
def CDivB (i j : Int) : Prop := 0 < j /\ ∃ n,Bd n j /\ n <= 9000
section
variable {X : Cx}
theorem op_mulB : OpR X (binaryOp .Mult) (rI CMulB fun i j => .int (i * j)) := opI fun i j _ _ _ _ _ hc q => mul_int q (by
  rcases hc with ⟨m,n,h1,h2,h3⟩ | h1
  case inr => exact .of_right (bits_of h1)
  have e1 := bits_of h1
  have e2 := bits_of h2
  unfold IntMulOk
  have e3 : Builtin.Int.intTooBig (Builtin.Int.intBits i + Builtin.Int.intBits j) = false := by
    unfold Builtin.Int.intTooBig
    refine decide_eq_false ?_
    have : bitsLine = 134217728 := by unfold bitsLine; decide
    rw [this]
    omega
  rw [e3]
  simp)
theorem op_fdivB : OpR X (binaryOp .FloorDiv) (rI CDivB fun i j => .int (i / j)) := opI fun i j _ _ _ _ _ hc q => by
  obtain ⟨h1,n,h2,h3⟩ := hc
  refine floordiv_int (by omega) (by rw [Int.fdiv_eq_ediv_of_nonneg i (by omega)]; exact q) (.inl (PyProof.noPylong_of_log2 ?_))
  have h0 : j.natAbs ≠ 0 := by omega
  exact (Nat.log2_lt h0).mpr (h2.mono h3)
end
theorem Same.upd {H : Hp}{p : Addr}{o : HO}(h : H p = none) : Same H (upd H p o) := fun b u e => by rw [upd_ne (ne_of_none e h)]; exact e
def Keep (p : Addr)(H H' : Hp) : Prop := ∀ b o,b ≠ p -> H b = some o -> H' b = some o
theorem Keep.trans {p : Addr}{H H1 H2 : Hp}(a : Keep p H H1)(b : Keep p H1 H2) : Keep p H H2 := fun c o n e => b c o n (a c o n e)
theorem Keep.upd {p : Addr}{H : Hp}{o : HO} : Keep p H (upd H p o) := fun b u n e => by rw [upd_ne n]; exact e
theorem Same.keep {p : Addr}{H H' : Hp}(h : Same H H') : Keep p H H' := fun b o _ e => h b o e
theorem Keep.same {p : Addr}{H0 H H' : Hp}(a : Same H0 H)(n : H0 p = none)(k : Keep p H H') : Same H0 H' := fun b o e => k b o (ne_of_none e n) (a b o e)
structure Callee (P : Program)(w : World)(K : PySem.W.Frag)(mg : Str -> Option Value)(base : Heap)(CX : CXT)(x : Str)(k : Nat)(ps : List Str)(sp : Sp) : Prop where
  ex : ∃ f fd,FnOk P w K mg base CX k f fd ps sp /\ mg x = some (.ref f) /\ PySem.W.keepIn K (.ref f) = true /\ Binds K fd ps []
section
variable {X : Cx}{CX : CXT}{k : Nat}{ps : List Str}{sp : Sp}{E : XK}{x : Str}{p pos : Pos}{e : Expr}{es : List Expr}{t : TA}
theorem pe_own (G : Callee X.prog X.w X.K X.mg X.base CX0 x k ps sp)(hr : Room k X.A)(hg : Gl X x)(ha : PA X (e :: es) t)(hdb : (x == ("__debug__" : Str)) = false := by decide) (he : starEach (e :: es) X.env = (false,eval e X.env) :: starEach es X.env := by rfl) (hpl : (backTo pos (starEach es X.env)).any (·.1) = false := by rfl) :
    PE X (.Call (.Name x p) (e :: es) [] pos) (tCall sp [] E0 t) := by
  obtain ⟨f,fd,F,hm,hk,hb⟩ := G.ex
  exact pe_call F hr hg hm hk hb .nil pass0 ha hdb he hpl
theorem call_isinst : CallR X (.builtin "isinstance") (fun xs H Q => ∃ y c t b,xs = [y,.ty c] /\ TyOf X.K H y t /\ PySem.W.kitOne X.K t (.type c) = some b /\ Q (.bl b) H) := by
  intro pins s σ H xs us Q I r h
  obtain ⟨y,c,t,b,rfl,ty,e,q⟩ := h
  obtain ⟨u,w',rfl,r1,r2⟩ := vals2 r
  cases (show w' = Value.type c from r2)
  exact isinst_ok I r1 ty e fun tk => ⟨.bl b,H,I.tok _,rfl,q⟩
end
theorem Callee.mk' {P : Program}{w : World}{K : PySem.W.Frag}{mg : Str -> Option Value}{base : Heap}{CX : CXT}{x qual : Str}{st : Stmt}{f : Addr}{fd : FuncData}{k : Nat}{ps : List Str}{sp : Sp}(F : Fun K x qual st f fd)(G : FnOk P w K mg base CX k f fd ps sp)(hm : mg x = some (.ref f))(hb : Binds K fd ps []) :
    Callee P w K mg base CX x k ps sp := ⟨f,fd,G,hm,F.kp,hb⟩
theorem iteB {c : Bool}{A B : Prop}(h1 : c = true -> A)(h2 : c = false -> B) : if c = true then A else B := by
  cases c with
  | true => exact iteT (h1 rfl)
  | false => exact iteF (h2 rfl)
theorem bt_abs : bootBuiltins "abs" = some (.builtin "abs") := by decide +kernel
theorem bt_len : bootBuiltins "len" = some (.builtin "len") := by decide +kernel
theorem bt_isinstance : bootBuiltins "isinstance" = some (.builtin "isinstance") := by decide +kernel
theorem bt_max : bootBuiltins "max" = some (.builtin "max") := by decide +kernel
theorem bt_min : bootBuiltins "min" = some (.builtin "min") := by decide +kernel
theorem bt_all : bootBuiltins "all" = some (.builtin "all") := by decide +kernel
theorem bt_any : bootBuiltins "any" = some (.builtin "any") := by decide +kernel
theorem bt_sorted : bootBuiltins "sorted" = some (.builtin "sorted") := by decide +kernel
theorem bt_int : bootBuiltins "int" = some (.type "int") := by decide +kernel
theorem bt_bool : bootBuiltins "bool" = some (.type "bool") := by decide +kernel
theorem bt_tuple : bootBuiltins "tuple" = some (.type "tuple") := by decide +kernel
theorem bt_list : bootBuiltins "list" = some (.type "list") := by decide +kernel
theorem bt_enumerate : bootBuiltins "enumerate" = some (.type "enumerate") := by decide +kernel
theorem Same.get {H H' : Hp}{a : Addr}{o : HO}(S : Same H H')(h : H a = some o) : H' a = some o := S a o h
theorem Keep.get {p : Addr}{H H' : Hp}{a : Addr}{o : HO}(S : Keep p H H')(n : a ≠ p)(h : H a = some o) : H' a = some o := S a o n h
theorem Bd.num (i : Int)(h : i.natAbs < 18446744073709551616) : Bd 64 i := h
theorem le1000 : 1000 <= sizeLine := by decide
theorem dec_t {p : Prop}[Decidable p](h : decide p = true) : p := of_decide_eq_true h
def Bag (H : Hp)(p : Addr) : Prop := ∃ f m : Int,H p = some (.lst [.int f,.int m]) /\ 0 <= f /\ 0 <= m /\ m < 2147483647
theorem Bag.same {H H' : Hp}{p : Addr}(b : Bag H p)(S : Same H H') : Bag H' p := by
  obtain ⟨f,m,e,q⟩ := b
  exact ⟨f,m,S _ _ e,q⟩
theorem Bag.ne {H : Hp}{p a : Addr}{xs : List V}(b : Bag H p)(h : H a = some (.tup xs)) : a ≠ p := by
  obtain ⟨f,m,e,_⟩ := b
  exact ne_of h e (by intro z; cases z)
theorem CMulB.right {i j : Int}(h : Bd 64 j) : CMulB i j := .inr h
theorem Keep.tup {p : Addr}{H H' : Hp}{a : Addr}{xs : List V}(S : Keep p H H')(b : Bag H p)(h : H a = some (.tup xs)) : H' a = some (.tup xs) := S a _ (b.ne h) h
theorem atI_some {xs : List V}{i : Int}(h0 : 0 <= i)(h1 : i < xs.length) : ∃ v,atI xs i = some v /\ v ∈ xs := by
  obtain ⟨j,rfl⟩ : ∃ j : Nat,i = j := ⟨i.toNat,by omega⟩
  have hj : j < xs.length := by omega
  exact ⟨xs[j],atI_nat (List.getElem?_eq_getElem hj),List.getElem_mem hj⟩
end L2
set_option Elab.async false
set_option linter.all false
set_option maxRecDepth 100000
set_option maxHeartbeats 4000000
namespace L2
open PySem PySem.Spec PyProof.Rows
theorem nodupS (l : List Str)(h : l.Nodup) : l.Nodup := h
section
variable {X : Cx}{tg l : Expr}{tl : TE}
theorem ix_tupK (K : PySem.W.Frag)(h : X.K = K) : IxR X (rIxT K) := by subst h; exact ix_tup
theorem ix_listK (K : PySem.W.Frag)(h : X.K = K) : IxR X (rIxL K) := by subst h; exact ix_list
theorem pg_tupK {es : List Expr}{k : Nat}{t : TGs}{n : Nat}{pos : Pos}(K : PySem.W.Frag)(h : X.K = K)(hc : X.calm = true)(hs : PGs X es t)(hn : (assignEach es X.env).length = n := by rfl)(hst : (assignEach es X.env).findIdx? (·.1) = none := by rfl) : PG X (.Tuple es k pos) (gTup K n t) := by subst h; exact pg_tup hc hs hn hst
theorem call_len_seqK (K : PySem.W.Frag)(h : X.K = K) : CallR X (.builtin "len") (fun xs H Q => ∃ p ys,xs = [.ref p] /\ (SqL K H p ys \/ SqT K H p ys) /\ Q (.int ys.length) H) := by subst h; exact call_len_seq
theorem call_tuple_ofK (K : PySem.W.Frag)(h : X.K = K) : CallR X (.type "tuple") (fun xs H Q => ∃ p ys,xs = [.ref p] /\ ((SqL K H p ys /\ ∀ l,H l = none -> Q (.ref l) (upd H l (.tup ys))) \/ (SqT K H p ys /\ Q (.ref p) H))) := by subst h; exact call_tuple_of
theorem call_list_ofK (K : PySem.W.Frag)(h : X.K = K) : CallR X (.type "list") (fun xs H Q => ∃ p ys,xs = [.ref p] /\ (SqL K H p ys \/ SqT K H p ys) /\ ∀ l,H l = none -> Q (.ref l) (upd H l (.lst ys))) := by subst h; exact call_list_of
theorem pt_truthK {a : Expr}{ta : TE}(K : PySem.W.Frag)(h : X.K = K)(ha : PE X a ta)(he : ∀ whole,isTrue a X.env whole = (do let v <- whole; standAt a.pos; holding [v] (truthy v))) : PT X a (fun σ H Q => ta σ H fun x H' => ∃ k,TruV K x H' k /\ Q k H') := by subst h; exact pt_truth ha he
end
theorem ints_pairs : ∀ {ns : List Int} {us : List Value},Vals (ns.map V.int) us -> ∃ xs : List (Int × Tok),us = xs.map (fun p => Value.int p.1 p.2) /\ xs.map (·.1) = ns
  | [],us,r => by
    cases r
    exact ⟨[],rfl,rfl⟩
  | n :: ns,us,r => by
    cases r with
    | cons r1 r2 =>
      obtain ⟨t,rfl⟩ := r1
      obtain ⟨xs,e1,e2⟩ := ints_pairs r2
      exact ⟨(n,t) :: xs,by rw [e1]; rfl,by rw [<- e2]; rfl⟩
theorem intItems_toArray (xs : List (Int × Tok)) : intItems xs.toArray = (xs.map fun p => Value.int p.1 p.2).toArray := by simp [intItems]
theorem numAt_toArray (xs : List (Int × Tok))(i : Nat) : numAt xs.toArray i = ((xs.map (·.1))[i]?).getD 0 := by simp [numAt]
section
variable {X : Cx}
end
end L2
set_option Elab.async false
set_option linter.all false
set_option maxRecDepth 100000
set_option maxHeartbeats 4000000
namespace L2
open PySem PySem.Spec PyProof.Rows
section
variable {X : Cx}
theorem bools_are : ∀ {bs : List Bool} {us : List Value},Vals (bs.map V.bl) us -> us = bs.map Value.bool
  | [],us,r => by
    cases r
    rfl
  | b :: bs,us,r => by
    cases r with
    | cons r1 r2 =>
      cases r1
      rw [bools_are r2]
      rfl
theorem range_bools (bs : List Bool) : (List.range bs.length).map (fun i => bs[i]?.getD false) = bs := by
  apply List.ext_getElem
  · simp
  · intro i h1 h2
    simp at h1
    simp [h1]
theorem call_allL (K : PySem.W.Frag)(hK : X.K = K)(hc : X.calm = true) : CallR X (.builtin "all") (fun xs H Q => ∃ (p : Addr) (bs : List Bool),xs = [.ref p] /\ SqL K H p (bs.map V.bl) /\ Q (.bl (bs.all id)) H) := by
  subst hK
  intro pins s σ H xs us Q I r h
  obtain ⟨p,bs,rfl,hq,q⟩ := h
  obtain ⟨u,rfl,rx⟩ := vals1 r
  cases rx
  obtain ⟨its,rv,pl,hz⟩ := I.list hq
  have e1 := bools_are rv
  subst e1
  have hl := pl.isList
  have hlt : p < s.heap.objs.size := by obtain ⟨_,e,_⟩ := hl; exact Heap.lt_size e
  refine call_all_walk (wpAny_pyIter_list hl ?_)
  refine ⟨_,_,_,_,_,_,(fun i => bs[i]?.getD false),rfl,Walks.list (A := X.A.in1) (I.ok.hd hc) _ p (Nat.ne_of_lt hlt) (bs.map Value.bool).toArray,⟨⟨_,Heap.get?_push_size _ rfl,rfl,rfl⟩,hl.push _⟩,?_,fun h' tk hk => ?_⟩
  · intro i v s' Q' E' hv hq'
    have e : bs[i]?.map Value.bool = some v := by simpa using hv
    cases hb : bs[i]? with
    | none => rw [hb] at e; cases e
    | some b =>
      rw [hb] at e
      cases e
      have hq'' : Q' (bs[i]?.getD false) s' := hq'
      rw [hb] at hq''
      exact wpAny_truthy_bool hq''
  · have ea : (List.range (bs.map Value.bool).toArray.size).all (fun i => bs[i]?.getD false) = bs.all id := by
      have := congrArg (fun l : List Bool => l.all id) (range_bools bs)
      simpa [List.all_map] using this
    rw [ea]
    refine ⟨.bl (bs.all id),H,I.kept fun b o e => hk b o (fun hm => ?_) (Heap.get?_push_of_some _ e),rfl,q⟩
    have : b = s.heap.objs.size := by simpa using hm
    exact absurd (this ▸ Heap.lt_size e) (Nat.lt_irrefl _)
theorem call_anyL (K : PySem.W.Frag)(hK : X.K = K)(hc : X.calm = true) : CallR X (.builtin "any") (fun xs H Q => ∃ (p : Addr) (bs : List Bool),xs = [.ref p] /\ SqL K H p (bs.map V.bl) /\ Q (.bl (bs.any id)) H) := by
  subst hK
  intro pins s σ H xs us Q I r h
  obtain ⟨p,bs,rfl,hq,q⟩ := h
  obtain ⟨u,rfl,rx⟩ := vals1 r
  cases rx
  obtain ⟨its,rv,pl,hz⟩ := I.list hq
  have e1 := bools_are rv
  subst e1
  have hl := pl.isList
  have hlt : p < s.heap.objs.size := by obtain ⟨_,e,_⟩ := hl; exact Heap.lt_size e
  refine call_any_walk (wpAny_pyIter_list hl ?_)
  refine ⟨_,_,_,_,_,_,(fun i => bs[i]?.getD false),rfl,Walks.list (A := X.A.in1) (I.ok.hd hc) _ p (Nat.ne_of_lt hlt) (bs.map Value.bool).toArray,⟨⟨_,Heap.get?_push_size _ rfl,rfl,rfl⟩,hl.push _⟩,?_,fun h' tk hk => ?_⟩
  · intro i v s' Q' E' hv hq'
    have e : bs[i]?.map Value.bool = some v := by simpa using hv
    cases hb : bs[i]? with
    | none => rw [hb] at e; cases e
    | some b =>
      rw [hb] at e
      cases e
      have hq'' : Q' (bs[i]?.getD false) s' := hq'
      rw [hb] at hq''
      exact wpAny_truthy_bool hq''
  · have ea : (List.range (bs.map Value.bool).toArray.size).any (fun i => bs[i]?.getD false) = bs.any id := by
      have := congrArg (fun l : List Bool => l.any id) (range_bools bs)
      simpa [List.any_map] using this
    rw [ea]
    refine ⟨.bl (bs.any id),H,I.kept fun b o e => hk b o (fun hm => ?_) (Heap.get?_push_of_some _ e),rfl,q⟩
    have : b = s.heap.objs.size := by simpa using hm
    exact absurd (this ▸ Heap.lt_size e) (Nat.lt_irrefl _)
end
section
variable {X : Cx}
end
end L2
set_option Elab.async false
set_option linter.all false
set_option maxRecDepth 100000
set_option maxHeartbeats 4000000
namespace L2
open PySem PySem.Spec PyProof.Rows
section
variable {prog : Program}{w : World}{A : Around}{E : Value -> Shared -> Prop}{s : Shared}
def ItAt (b : Bool)(h : Heap)(u l : Addr)(j : Nat) : Prop := match b with | false => h.IsListIter u l j | true => h.IsTupleIter u l j
def SeqAt (b : Bool)(h : Heap)(l : Addr)(xs : Array Value) : Prop := match b with | false => h.IsList l xs | true => h.IsTuple l xs
theorem ItAt.at {b : Bool}{h h' : Heap}{u l : Addr}{j : Nat}(x : ItAt b h u l j)(k : ∀ o,h.get? u = some o -> h'.get? u = some o) : ItAt b h' u l j := by
  cases b with
  | false => exact Heap.IsListIter.at x k
  | true => exact Heap.IsTupleIter.at x k
theorem SeqAt.at {b : Bool}{h h' : Heap}{l : Addr}{xs : Array Value}(x : SeqAt b h l xs)(k : ∀ o,h.get? l = some o -> h'.get? l = some o) : SeqAt b h' l xs := by
  cases b with
  | false => obtain ⟨o,e,r⟩ := x; exact ⟨o,k o e,r⟩
  | true => obtain ⟨o,e,r⟩ := x; exact ⟨o,k o e,r⟩
theorem ItAt.obj {b : Bool}{h : Heap}{u l : Addr}{j : Nat}(x : ItAt b h u l j) : ∃ o,h.get? u = some o /\ ∀ v,o.data ≠ .cell v := by
  cases b with
  | false => obtain ⟨o,e,c,d⟩ := x; exact ⟨o,e,fun v z => by rw [d] at z; cases z⟩
  | true => obtain ⟨o,e,c,d⟩ := x; exact ⟨o,e,fun v z => by rw [d] at z; cases z⟩
end
section
variable {X : Cx}{pins : List (Addr × Obj)}{σ : St}{H : Hp}{s : Shared}{h' : Heap}
theorem Inv.zipped {fp : List Addr}{T : Addr}{o : HO}{t' : Nat}(I : Inv X pins σ H s)(hf : ∀ b ∈ fp,FpOk X pins H b)(k : ∀ b o,b ∉ fp -> s.heap.get? b = some o -> h'.get? b = some o)(hT : s.heap.objs.size <= T)
    (new : ObjOk X.prog X.w (upd H T o) h' T o) : Inv X pins σ (upd H T o) { s with heap := h',toks := t' } := by
  have hn : H T = none := I.hok.fresh hT
  have ne : ∀ b u,s.heap.get? b = some u -> b ≠ T := fun b u e z => absurd (Heap.lt_size e) (by rw [z]; exact Nat.not_lt.mpr hT)
  have nfp : ∀ b u,H b = some u -> b ∉ fp := fun b u e hb => by rw [(hf b hb).1] at e; cases e
  refine I.step (g' := s.gens) (d' := s.drawn) (ch := fp) (fun b hb => ?_) (fun b o _ _ hc e _ => k b o hc e) (fun b o _ _ hc e _ => ⟨o.slots,k b o hc e⟩) (fun b u _ e n => by rw [upd_ne (ne b u e)]; exact n)
    (fun b o hc e => ⟨o,k b o hc e⟩) (fun b xs e => by rw [upd_ne (ne_of_none e hn)]; exact e) (fun b o u e => by rw [upd_ne (ne_of_none e hn)]; exact e) (fun b ps e => ⟨#[],by rw [upd_ne (ne_of_none e hn),e]; simp⟩) (fun m hm => ?_) (fun b u e => ?_) I.bare
  · obtain ⟨_,f1,_,f3,f4,f5⟩ := hf b hb
    exact ⟨f3,f1,f4,f5⟩
  · obtain ⟨o,es,ep,ho,r⟩ := hm
    exact ⟨o,es,ep,k _ o (fun hb => (hf _ hb).2.1 rfl) ho,r⟩
  · by_cases hb : b = T
    · subst hb
      rw [upd_same] at e
      cases e
      exact new
    · rw [upd_ne hb] at e
      refine (I.hok b u e).stay (fun c v hc q => k c v ?_ q) (fun c q => by rw [upd_ne (ne_of_none q hn)]; exact q) fun c xs q => by rw [upd_ne (ne_of_none q hn)]; exact q
      rcases hc with z | z
      · rw [z]; exact nfp b u e
      · exact nfp c _ z
theorem Inv.turnedL {fp : List Addr}{t' : Nat}(I : Inv X pins σ H s)(hf : ∀ b ∈ fp,FpOk X pins H b)(k : ∀ b o,b ∉ fp -> s.heap.get? b = some o -> h'.get? b = some o) : Inv X pins σ H { s with heap := h',toks := t' } := by
  have nfp : ∀ b u,H b = some u -> b ∉ fp := fun b u e hb => by rw [(hf b hb).1] at e; cases e
  refine I.step (g' := s.gens) (d' := s.drawn) (ch := fp) (fun b hb => ?_) (fun b o _ _ hc e _ => k b o hc e) (fun b o _ _ hc e _ => ⟨o.slots,k b o hc e⟩) (fun b u _ e n => n)
    (fun b o hc e => ⟨o,k b o hc e⟩) (fun b xs e => e) (fun b o u e => e) (fun b ps e => ⟨#[],by rw [e]; simp⟩) (fun m hm => ?_) (fun b u e => ?_) I.bare
  · obtain ⟨_,f1,_,f3,f4,f5⟩ := hf b hb
    exact ⟨f3,f1,f4,f5⟩
  · obtain ⟨o,es,ep,ho,r⟩ := hm
    exact ⟨o,es,ep,k _ o (fun hb => (hf _ hb).2.1 rfl) ho,r⟩
  · refine (I.hok b u e).stay (fun c v hc q => k c v ?_ q) (fun c q => q) fun c xs q => q
    rcases hc with z | z
    · rw [z]; exact nfp b u e
    · exact nfp c _ z
def SqX (K : PySem.W.Frag)(b : Bool)(H : Hp)(a : Addr)(xs : List V) : Prop := match b with | false => SqL K H a xs | true => SqT K H a xs
end
section
variable {prog : Program}{w : World}{A : Around}{E : Value -> Shared -> Prop}{s : Shared}
end
section
variable {prog : Program}{w : World}{A : Around}{E : Value -> Shared -> Prop}{s : Shared}
end
end L2
set_option Elab.async false
set_option linter.all false
set_option maxRecDepth 100000
set_option maxHeartbeats 4000000
namespace L2
open PySem PySem.Spec PyProof.Rows
section
variable {prog : Program}{w : World}{A : Around}{E : Value -> Shared -> Prop}{s : Shared}
end
section
variable {prog : Program}{w : World}{A : Around}{E : Value -> Shared -> Prop}{s : Shared}
end
section
variable {prog : Program}{w : World}{A : Around}{E : Value -> Shared -> Prop}{s : Shared}
end
end L2
set_option Elab.async false
set_option linter.all false
set_option maxRecDepth 100000
set_option maxHeartbeats 4000000
namespace L2
open PySem PySem.Spec PyProof.Rows
end L2
set_option Elab.async false
set_option linter.all false
set_option maxRecDepth 100000
set_option maxHeartbeats 4000000
namespace L2
open PySem PySem.Spec PyProof.Rows
section
variable {X : Cx}
theorem pe_globI {x : Str}{n : Int}{pos : Pos}(hg : Gl X x)(hm : ∃ t,X.mg x = some (.int n t))(hd : (x == ("__debug__" : Str)) = false := by decide) : PE X (.Name x pos) (tC (.int n)) := by
  obtain ⟨t,e⟩ := hm
  exact pe_glob hg e ⟨t,rfl⟩ hd
theorem pa_ints : ∀ cs : List (Int × Nat × Pos),PA X (cs.map fun c => .Constant (.int c.1) c.2.1 c.2.2) (fun σ H Q => Q (cs.map fun c => V.int c.1) H)
  | [] => pa_nil
  | c :: cs => by
    intro pos pins s σ H Q I h
    exact pa_cons (e := .Constant (.int c.1) c.2.1 c.2.2) pe_int (pa_ints cs) (by rfl) pos pins s σ H Q I h
theorem pe_tupInts {es : List Expr}{x1}{pos : Pos}(cs : List (Int × Nat × Pos))(h : es = cs.map fun c => .Constant (.int c.1) c.2.1 c.2.2) : PE X (.Tuple es x1 pos) (tTup fun σ H Q => Q (cs.map fun c => V.int c.1) H) := by
  subst h
  exact pe_tup (pa_ints cs)
theorem pss_says {sts0 : List Stmt}{t : TS}(h : PSs X sts0 t) : ∀ {sts : List Stmt},PSs X sts (fun D σ H => sts = sts0 /\ t D σ H) := by
  intro sts pins s σ H D I q
  obtain ⟨e,q⟩ := q
  subst e
  exact h pins s σ H D I q
end
end L2
set_option Elab.async false
set_option linter.all false
set_option maxRecDepth 100000
set_option maxHeartbeats 4000000
namespace L2
open PySem PySem.Spec PyProof.Rows
section
variable {X : Cx}{pins : List (Addr × Obj)}{σ : St}{H : Hp}{s : Shared}
end
end L2
set_option Elab.async false
set_option linter.all false
set_option maxRecDepth 100000
set_option maxHeartbeats 4000000
namespace L2
open PySem PySem.Spec PyProof.Rows
section
variable {X : Cx}{pins : List (Addr × Obj)}{σ : St}{H : Hp}{s : Shared}
end
theorem sl_listK' {X : Cx}(K : PySem.W.Frag)(h : X.K = K) : SlR X (rSlL K) := by subst h; exact sl_list
end L2
set_option Elab.async false
set_option linter.all false
set_option maxRecDepth 100000
set_option maxHeartbeats 4000000
namespace L2
open PySem PySem.Spec PyProof.Rows
section
variable {X : Cx}{x : Str}{C : Addr}{bm bmN : List Value}{newId Bn inN B nid initId : String}{e0 : Expr}{rest : List Expr}{t : TA}{np cpos pos : Pos}
theorem ps_raise (O : OwnCls x C bm newId X.mg X.base)(Fn : ExcBaseFacts Bn newId inN bmN)(hBn : bm.contains (.type Bn) = true)(FB : ExcBaseFacts B nid initId bm)(hc : X.calm = true)(hg : Gl X x)(E : XK)
    (hx : ∀ (pins : List (Addr × Obj)) (σ : St) (H : Hp) (s : Shared) (h' : Heap) (e : Addr) (us : List Value),Inv X pins σ H s -> Heap.MadeExcOf s.heap h' e (.ref C) us -> E (.ref C) none H -> X.xe (.ref e) { s with heap := h' })
    (ha : PA X (e0 :: rest) t) (hz : ∀ σ H Q,t σ H Q -> t σ H fun vs H1 => vs.length <= sizeLine /\ Q vs H1)
    (he : starEach (e0 :: rest) X.env = (false,eval e0 X.env) :: starEach rest X.env := by rfl) (hpl : (backTo cpos (starEach rest X.env)).any (·.1) = false := by rfl) (hd : (x == ("__debug__" : Str)) = false := by decide) :
    PS X (.Raise (some (.Call (.Name x np) (e0 :: rest) [] cpos)) none pos) (fun _ σ H => t σ H fun _ H1 => E (.ref C) none H1) := by
  intro pins s σ H D I q
  obtain ⟨tl,N,nm,qn,bs,hdct,sn,sub,ab,col,dd,k0,k1,k2,k3,k5,mN,hC,hN,hni,T⟩ := O.obj
  refine wpAny_Raise_call_subU (C := C) (nm := nm) (q := qn) (N := N) (bs := bs) (bm := tl) (hdct := hdct) (sn := sn) (sub := sub) (ab := ab) (col := col) (dd := dd) (k0 := k0) (k1 := k1) (k2 := k2) (k3 := k3) (k5 := k5)
    Fn hBn FB (mN := mN) (T.hasType FB.hasBase) (I.ok.hd hc) (by rw [he]; show (false || (backTo cpos (starEach rest X.env)).any (·.1)) = false; rw [hpl]; rfl) hni (ld_glob I hg O.bound ⟨rfl,?_⟩ hd)
  have h1 := ha cpos pins s σ H _ I (hz _ _ _ q)
  rw [he] at h1 ⊢
  refine Calls.evalArgs_plain (wpAny_mono h1 (fun us s2 ⟨vs,H1,I1,r,z,w⟩ => ⟨rfl,by rw [<- r.length]; exact z,I1.bk _ _ hC,hN.keeps I1.bk,T.keeps I1.bk,fun h' e hm => hx pins σ H1 s2 h' e us I1 hm w⟩) fun _ _ y => y)
end
end L2
set_option Elab.async false
set_option linter.all false
set_option maxRecDepth 100000
set_option maxHeartbeats 4000000
namespace L2
open PySem PySem.Spec PyProof.Rows
section
variable {M : Model}{A : Around}{E : Value -> Shared -> Prop}{s : Shared}
structure Gone (fs : List Addr)(x : Addr)(ox : Obj)(old : List Addr)(h h' : Heap)(T : Addr) : Prop where
  keep : ∀ b o,b ∉ fs -> b ≠ x -> b ∉ old -> h.get? b = some o -> h'.get? b = some o
  slot : ∀ b o,b ∈ fs -> h.get? b = some o -> ∃ sl,h'.get? b = some { o with slots := sl }
  new : h.objs.size <= T
  exc : h'.get? x = some (ox.mapFields (·.setIfInBounds 1 (.ref T)))
  tr : ∃ oT ts,h'.get? T = some oT /\ oT.data = .fields ts /\ ts[3]? = some .none
theorem entry_gone {base : Heap}{env : Env}{outer : List Env}{L x : Addr}{ox : Obj}{vs : Array Value}{hd : Value}{nx : Bool}{Q : Unit -> Shared -> Prop}(f1 : A.frames = some (env :: outer))(f2 : s.heap.FunFrames base (env :: outer))(f3 : env.frame = some L)
    (x1 : s.heap.get? x = some ox) (x2 : ox.data = .fields vs) (x3 : 1 < vs.size) (q : ∀ h' T,Gone ((env :: outer).filterMap (·.frame)) x ox [] s.heap h' T -> Q () { s with heap := h' }) :
    wpAny M A (do let a <- frameOf env; let pl <- entryPlaceOf L nx; let b <- EntryCells.newEntry hd a .none (rawInt L) .none pl; setField (.ref x) 1 b) (fun _ s' => wpAny M A (setFlight (.ref x) none) Q E s') E s := by
  have xf : x ∉ (env :: outer).filterMap (·.frame) := fun hm => by
    obtain ⟨_,o,e1,e2⟩ := f2.mem hm
    rw [x1] at e1
    cases e1
    exact e2 vs x2
  refine wpAny_bind (wpAny_frameOf_fun f1 f2 f3 fun g1 m1 => wpAny_bind (wpAny_entryPlaceOf fun pl hpl => ?_))
  unfold EntryCells.newEntry newFields
  refine wpAny_bind (wpAny_newObj_type ?_ (hpl.sizeOk5 _ _ _ _ _))
  generalize hob : ({ cls := .type "traceback",dict := none,data := .fields ([hd,.ref L,.none,rawInt L,.none] ++ (if pl.isEmpty then List.replicate 6 Value.none else pl)).toArray } : Obj) = ob
  have dob : ob.data = .fields ([hd,.ref L,.none,rawInt L,.none] ++ (if pl.isEmpty then List.replicate 6 Value.none else pl)).toArray := by rw [<- hob]
  have lob : ob.isFreed = false := Obj.isFreed_of_fields dob
  have xg1 : g1.get? x = some ox := (m1.2.1 x xf).trans x1
  have xg2 := Heap.get?_push_of_some (h := g1) ob xg1
  refine wpAny_setField xg2 x2 x3 ?_
  have nTx : g1.objs.size ≠ x := Nat.ne_of_gt (Heap.lt_size xg1)
  have dx := Obj.data_mapFields x2 (·.setIfInBounds 1 (Value.ref g1.objs.size))
  have xg3 := Heap.get?_update_self (Obj.mapFields (·.setIfInBounds 1 (Value.ref g1.objs.size))) xg2 (Obj.isFreed_of_fields dx)
  have tg3 := (Heap.get?_update_other (g1.push ob) (Obj.mapFields (·.setIfInBounds 1 (Value.ref g1.objs.size))) (Ne.symm nTx)).trans (Heap.get?_push_size g1 lob)
  unfold setFlight
  refine wpAny_bind (wpAny_field xg3 dx (x := .ref g1.objs.size) (by simp [x3]) ?_)
  rw [if_pos (show (Value.ref g1.objs.size != Value.none) = true from by simp)]
  refine wpAny_setField tg3 dob (by simp only [List.size_toArray,List.length_append,List.length_cons,List.length_nil] <;> omega) (q _ g1.objs.size ⟨?_,?_,?_,?_,?_⟩)
  · intro b o nf nx' _ e
    have e1 : g1.get? b = some o := (m1.2.1 b nf).trans e
    rw [Heap.get?_update_other _ _ (Nat.ne_of_gt (Heap.lt_size e1)),Heap.get?_update_other _ _ (Ne.symm nx')]
    exact Heap.get?_push_of_some _ e1
  · intro b o hb e
    obtain ⟨sl,e1⟩ := m1.2.2 b o e
    refine ⟨sl,?_⟩
    have nbx : b ≠ x := fun z => xf (z ▸ hb)
    rw [Heap.get?_update_other _ _ (Nat.ne_of_gt (Heap.lt_size e1)),Heap.get?_update_other _ _ (Ne.symm nbx)]
    exact Heap.get?_push_of_some _ e1
  · rw [m1.1]
    exact Nat.le_refl _
  · rw [Heap.get?_update_other _ _ nTx]
    exact xg3
  · refine ⟨_,_,Heap.get?_update_self _ tg3 (Obj.isFreed_of_fields (Obj.data_mapFields dob _)),Obj.data_mapFields dob _,?_⟩
    first | (simp; done) | (rcases hpl with rfl | ⟨_,_,_,_,_,_,_,rfl⟩ <;> simp)
theorem leave_first {base : Heap}{env : Env}{outer : List Env}{L x : Addr}{ox : Obj}{vs : Array Value}{Q : Unit -> Shared -> Prop}(f1 : A.frames = some (env :: outer))(f2 : s.heap.FunFrames base (env :: outer))(f3 : env.frame = some L)
    (x1 : s.heap.get? x = some ox) (x2 : ox.data = .fields vs) (x3 : vs[1]? = some .none) (q : ∀ h' T,Gone ((env :: outer).filterMap (·.frame)) x ox [] s.heap h' T -> Q () { s with heap := h' }) : wpAny M A (leaving env (.ref x)) Q E s := by
  unfold leaving noteFrame; simp only [f3]
  refine wpAny_bind (wpAny_bind (wpAny_field x1 x2 x3 ?_)); rw [if_neg (by decide)]
  exact entry_gone f1 f2 f3 x1 x2 (Array.getElem?_eq_some_iff.mp x3).1 q
end
end L2
set_option Elab.async false
set_option linter.all false
set_option maxRecDepth 100000
set_option maxHeartbeats 4000000
namespace L2
open PySem PySem.Spec PyProof.Rows
theorem ObjOk.ex {P : Program}{w : World}{H : Hp}{h : Heap}{a : Addr}{o : HO}(x : ObjOk P w H h a o) : ∃ ob,h.get? a = some ob := by
  cases o with
  | lst xs => obtain ⟨_,_,_,_,e⟩ := x; exact ⟨_,e⟩
  | tup xs => obtain ⟨_,_,_,ob,e,_⟩ := x; exact ⟨_,e⟩
  | dK kvs => obtain ⟨_,_,_,_,o,_,_,e,_⟩ := x; exact ⟨_,e⟩
  | dT kvs => obtain ⟨_,_,_,_,o,_,_,e,_⟩ := x; exact ⟨_,e⟩
  | set S n => obtain ⟨o,_,_,_,e,_⟩ := x; exact ⟨_,e⟩
  | ins C dx fs => obtain ⟨_,_,_,e,_⟩ := x; exact ⟨_,e⟩
  | own y => exact x
  | xd fs => obtain ⟨_,⟨_,_,_,e,_⟩,_⟩ := x; exact ⟨_,e⟩
  | rng lo hi => obtain ⟨_,_,_,e⟩ := x; exact ⟨_,e⟩
  | frz ob u => obtain ⟨e,_⟩ := x; exact ⟨_,e⟩
  | tbl ps => exact ⟨_,(show h.get? a = some _ from x)⟩
  | met f y => exact ⟨_,(show h.get? a = some _ from x)⟩
  | ext φ => obtain ⟨_,e,_⟩ := x; exact e
def Exd (H : Hp)(base g h : Heap)(x C : Addr) : Prop := H x = none /\ base.get? x = none /\ g.get? x = none /\ ∃ ox vs T oT ts,h.get? x = some ox /\ ox.cls = .ref C /\ ox.dict = none /\ ox.data = .fields vs /\ vs[1]? = some (.ref T) /\ vs[2]? = some .none /\
  T ≠ x /\ H T = none /\ base.get? T = none /\ g.get? T = none /\ h.get? T = some oT /\ oT.data = .fields ts /\ ts[3]? = some .none
def CX1 (P : Program)(w : World)(base : Heap) : CXT := fun outer H s E e s' => ∃ (x C : Addr) (H' : Hp),e = .ref x /\ s'.os = s.os /\ AllBare s'.gens /\ Un (frs outer) [] H H' s.heap s'.heap /\ HOk P w H' s'.heap /\ Exd H' base s.heap s'.heap x C /\ E (.ref C) none H'
theorem xe_raise {P : Program}{w : World}{K : PySem.W.Frag}{mg : Str -> Option Value}{base : Heap}{N : List Str}{qual : Str}{scope : Scope}{f : Addr}{cd : Value}{A : Around}{outer : List Env}{s : Shared}{H : Hp}{E : XK}{C : Addr}
    (pins : List (Addr × Obj)) (σ : St) (H1 : Hp) (s1 : Shared) (h' : Heap) (e : Addr) (us : List Value) (I : Inv (cxOf (CX1 P w base) P w K mg base N qual scope f cd A outer s H E) pins σ H1 s1) (hm : Heap.MadeExcOf s1.heap h' e (.ref C) us) (q : E (.ref C) none H1) :
    (cxOf (CX1 P w base) P w K mg base N qual scope f cd A outer s H E).xe (.ref e) { s1 with heap := h' } := by
  obtain ⟨t,e1,e2,e3⟩ := hm.there
  have nH : ∀ b,s1.heap.get? b = none -> H1 b = none := fun b hb => by
    cases z : H1 b with
    | none => rfl
    | some o =>
      obtain ⟨ob,eo⟩ : ∃ ob,s1.heap.get? b = some ob := (I.hok b o z).ex
      rw [hb] at eo
      cases eo
  have hst : s1.heap.FunFrames base (envOfC qual scope s.heap.objs.size f cd :: outer) := I.stack
  have hfree : ∀ b ∈ frs (envOfC qual scope s.heap.objs.size f cd :: outer),H1 b = none := I.stkFree
  show wpAny (model P w) (A.deeper (envOfC qual scope s.heap.objs.size f cd)) (leaving (envOfC qual scope s.heap.objs.size f cd) (.ref e)) _ _ { s1 with heap := h' }
  refine leave_first (s := { s1 with heap := h' }) (base := base) I.ok.frames (hst.of_keeps fun b o eb _ => ⟨o,hm.keeps b o eb,rfl⟩) rfl e1 rfl rfl fun h2 T g => ?_
  have lt1 : ∀ b o,s1.heap.get? b = some o -> b < h'.objs.size := fun b o eb => Heap.lt_size (hm.keeps b o eb)
  have neE : ∀ b o,s1.heap.get? b = some o -> b ≠ e := fun b o eb z => by rw [z,hm.new] at eb; cases eb
  have kp : ∀ b o,b ∉ frs (envOfC qual scope s.heap.objs.size f cd :: outer) -> s1.heap.get? b = some o -> h2.get? b = some o := fun b o nf eb => g.keep b o nf (neE b o eb) (by simp) (hm.keeps b o eb)
  have sl : ∀ b o,b ∈ frs (envOfC qual scope s.heap.objs.size f cd :: outer) -> s1.heap.get? b = some o -> ∃ z,h2.get? b = some { o with slots := z } := fun b o hb eb => g.slot b o hb (hm.keeps b o eb)
  have nTo : ∀ b o,s1.heap.get? b = some o -> b ≠ T := fun b o eb z => by
    have h1 := lt1 b o eb
    rw [z] at h1
    exact absurd (Nat.lt_of_lt_of_le h1 g.new) (Nat.lt_irrefl _)
  have baseK : ∀ b o,base.get? b = some o -> s1.heap.get? b = some o := I.bk
  have nf : ∀ b o,s.heap.get? b = some o -> b ∉ frs outer -> b ∉ frs (envOfC qual scope s.heap.objs.size f cd :: outer) := fun b o eb nb hb => by
    rcases List.mem_cons.mp (show b ∈ s.heap.objs.size :: frs outer from hb) with z | z
    · exact absurd (Heap.lt_size eb) (by rw [z]; exact Nat.lt_irrefl _)
    · exact nb z
  have tH : H1 T = none := by
    cases z : H1 T with
    | none => rfl
    | some o =>
      obtain ⟨ob,eo⟩ := (I.hok T o z).ex
      exact absurd rfl (nTo T ob eo)
  have U : Un (frs outer) [] H H1 s.heap s1.heap := I.base
  refine ⟨e,C,H1,rfl,I.os,I.bare,⟨fun b o eb n hb hx => kp b o (nf b o eb hb) (U.keep b o eb n hb hx),fun b o eb n hb hx => ?_,U.free,fun b o eb hx => ?_,U.tups,U.frzs,U.tbls⟩,fun b o eb => ?_,⟨nH e hm.new,?_,?_,?_⟩,q⟩
  · obtain ⟨z,e4⟩ := U.slot b o eb n hb hx
    obtain ⟨z',e5⟩ := sl b _ (List.mem_cons_of_mem _ hb) e4
    exact ⟨z',e5⟩
  · obtain ⟨o',e4⟩ := U.there b o eb hx
    by_cases hb : b ∈ frs (envOfC qual scope s.heap.objs.size f cd :: outer)
    · obtain ⟨z,e5⟩ := sl b o' hb e4
      exact ⟨_,e5⟩
    · exact ⟨o',kp b o' hb e4⟩
  · refine (I.hok b o eb).stay (fun c v hc ev => kp c v (fun hb => ?_) ev) (fun _ z => z) fun _ _ z => z
    have := hfree c hb
    rcases hc with z | z
    · rw [z,eb] at this
      cases this
    · rw [z] at this
      cases this
  · cases z : base.get? e with
    | none => rfl
    | some o => exact absurd rfl (neE e o (baseK e o z))
  · cases z : s.heap.get? e with
    | none => rfl
    | some o =>
      obtain ⟨o',e4⟩ := U.there e o z (by simp)
      exact absurd rfl (neE e o' e4)
  · obtain ⟨oT,ts,g1,g2,g3⟩ := g.tr
    refine ⟨_,_,T,oT,ts,g.exc,rfl,rfl,rfl,rfl,rfl,?_,tH,?_,?_,g1,g2,g3⟩
    · intro z
      have := Heap.lt_size e1
      rw [<- z] at this
      exact absurd (Nat.lt_of_lt_of_le this g.new) (Nat.lt_irrefl _)
    · cases z : base.get? T with
      | none => rfl
      | some o => exact absurd rfl (nTo T o (baseK T o z))
    · cases z : s.heap.get? T with
      | none => rfl
      | some o =>
        obtain ⟨o',e4⟩ := U.there T o z (by simp)
        exact absurd rfl (nTo T o' e4)
end L2
set_option Elab.async false
set_option linter.all false
set_option maxRecDepth 100000
set_option maxHeartbeats 4000000
namespace L2
open PySem PySem.Spec PyProof.Rows
theorem Fun.okX {P : Program}{w : World}{K : PySem.W.Frag}{mg : Str -> Option Value}{base : Heap}{CX : CXT}{x qual : Str}{st : Stmt}{f : Addr}{fd : FuncData}{N ps : List Str}{k : Nat}{sp : Sp}(F : Fun K x qual st f fd)(S : FnScope N ps (defScope st))(len : ∀ vs H Q E,sp vs H Q E -> vs.length = ps.length)
    (hbody : ∀ (cdv : Value) (A : Around) (outer : List Env) (s : Shared) (H : Hp) (vs : List V) (Q : VK) (E : XK),Room k (A.deeper (envOfC qual (defScope st) s.heap.objs.size f cdv)) -> sp vs H Q E ->
      ∃ t,PSs (cxOf CX P w K mg base N qual (defScope st) f cdv A outer s H E) (defBody st) t /\ t { nx := fun _ H' => Q .non H',rt := Q } (start N vs) H) : FnOk P w K mg base CX (k + 1) f fd ps sp := by
  obtain ⟨oc,od,kV,doc,pm,an,cdv,ct,osl,rfl,lk,hcd⟩ := F.ex
  exact fn_of lk hcd S len fun A outer s H vs Q E hr hsp => hbody cdv A outer s H vs Q E hr hsp
theorem pe_ownX {X : Cx}{CX : CXT}{k : Nat}{ps : List Str}{sp : Sp}{E : XK}{x : Str}{p pos : Pos}{e : Expr}{es : List Expr}{t : TA}(hp : Passes CX X E)(G : Callee X.prog X.w X.K X.mg X.base CX x k ps sp)(hr : Room k X.A)(hg : Gl X x)(ha : PA X (e :: es) t)
    (hdb : (x == ("__debug__" : Str)) = false := by decide) (he : starEach (e :: es) X.env = (false,eval e X.env) :: starEach es X.env := by rfl) (hpl : (backTo pos (starEach es X.env)).any (·.1) = false := by rfl) : PE X (.Call (.Name x p) (e :: es) [] pos) (tCall sp [] E t) := by
  obtain ⟨f,fd,F,hm,hk,hb⟩ := G.ex
  exact pe_call F hr hg hm hk hb .nil hp ha hdb he hpl
end L2
set_option Elab.async false
set_option linter.all false
set_option maxRecDepth 100000
set_option maxHeartbeats 4000000
namespace L2
open PySem PySem.Spec PyProof.Rows
section
variable {prog : Program}{w : World}{A : Around}{E : Value -> Shared -> Prop}{s : Shared}
end
end L2
set_option Elab.async false
set_option linter.all false
set_option maxRecDepth 100000
set_option maxHeartbeats 4000000
namespace L2
open PySem PySem.Spec PyProof.Rows
def ExcO (x C : Addr) : HO := .ext fun h => ∃ (ox : Obj) (vs : Array Value),h.get? x = some ox /\ ox.cls = .ref C /\ ox.dict = none /\ ox.data = .fields vs /\ vs[2]? = some .none
theorem ExcO.ok {P : Program}{w : World}{H : Hp}{h : Heap}{x C : Addr}{ox : Obj}{vs : Array Value}(e : h.get? x = some ox)(c : ox.cls = .ref C)(d : ox.dict = none)(f : ox.data = .fields vs)(v : vs[2]? = some .none) : ObjOk P w H h x (ExcO x C) :=
  ⟨⟨ox,vs,e,c,d,f,v⟩,⟨ox,e⟩,fun h1 h2 ⟨ox',vs',e',c',d',f',v'⟩ k => ⟨ox',vs',k _ e',c',d',f',v'⟩⟩
section
variable {X : Cx}{tg : Expr}
end
section
variable {X : Cx}{elt iter tg : Expr}{ifs : List Expr}{scope : Scope}{pos : Pos}{N' : List Str}{map : List (Option Nat)}{wi : TI}{g : TG}{tt : TT}{te : TE}
end
end L2
set_option Elab.async false
set_option linter.all false
set_option maxRecDepth 100000
set_option maxHeartbeats 4000000
namespace L2
open PySem PySem.Spec PyProof.Rows
structure RoomM (k : Nat)(A : Around) : Prop where
  dp : A.depth + 3 * k + 5 < recursionLimit
  un : A.units + 16 * k + 200 < cLine
theorem RoomM.depth {k : Nat}{A : Around}(r : RoomM k A) : A.depth < recursionLimit := by have := r.dp; omega
theorem RoomM.units {k : Nat}{A : Around}(r : RoomM k A) : A.units + 64 < cLine := by have := r.un; omega
end L2
set_option Elab.async false
set_option linter.all false
set_option maxRecDepth 100000
set_option maxHeartbeats 4000000
namespace L2
open PySem PySem.Spec PyProof.Rows
structure XCls (K : PySem.W.Frag)(D : Addr) : Prop where
  get : PySem.W.findIn K (.ref D) "__getattribute__" = some (some (.builtin "BaseException.__getattribute__"))
  hook : PySem.W.findIn K (.ref D) "__getattr__" = some none
  fnd : PySem.W.findObj K D none "__class__" = some (.bind (.builtin "getset_descriptor.__get__") (.builtin "object.__class__"))
  mro : PySem.W.mroIn K D (.type "object") = some true
  cls : (PySem.W.clsIn K D).isSome = true
  exc : PySem.W.subIn K (.ref D) (.type "BaseException") = some true
section
variable {prog : Program}{w : World}{A : Around}{E : Value -> Shared -> Prop}{s : Shared}{K : PySem.W.Frag}{x C D : Addr}{ox : Obj}{T : String}{Q : Value -> Shared -> Prop}
end
section
variable {X : Cx}
end
end L2
set_option Elab.async false
set_option linter.all false
set_option maxRecDepth 100000
set_option maxHeartbeats 4000000
namespace L2
open PySem PySem.Spec PyProof.Rows
abbrev Cx.re (X : Cx)(E : Value -> Shared -> Prop)(pn : List (Addr × Obj)) : Cx := { X with xe := E,pn := pn }
section
variable {X : Cx}{pins pl : List (Addr × Obj)}{σ : St}{H : Hp}{s : Shared}{E : Value -> Shared -> Prop}{x : Addr}
end
structure XBase (K : PySem.W.Frag)(B : Addr) : Prop where
  cls : (PySem.W.clsIn K B).isSome = true
  typ : PySem.W.typeIn K (.ref B) = some (.type "type")
  exc : PySem.W.subIn K (.ref B) (.type "BaseException") = some true
end L2
set_option Elab.async false
set_option linter.all false
set_option maxRecDepth 100000
set_option maxHeartbeats 4000000
namespace L2
open PySem PySem.Spec PyProof.Rows
abbrev bmV : List Value := [.type "ValueError",.type "Exception",.type "BaseException",.type "object"]
theorem own_K {K : PySem.W.Frag}{base : Heap}{mg : Str -> Option Value}{x : Str}{C : Addr}{bmB : List Value}{newId : String}(X : K.In base)(G : base.Ns mainGlobals mg)(e : PySem.W.nsIn K mainGlobals x = some (some (.ref C)))(q : PySem.W.excIn K C bmB newId = true) : OwnCls x C bmB newId mg base := by
  refine ⟨PySem.W.mg_of X G e,?_⟩
  unfold PySem.W.excIn at q
  split at q
  · rename_i dd cd sl ho
    split at q
    · rename_i C' bm k0 k1 k2 k3 n k5 hm hs
      simp only [Bool.and_eq_true,beq_iff_eq,Bool.not_eq_true'] at q; obtain ⟨⟨⟨⟨⟨rfl,rfl⟩,hdel⟩,ht⟩,hok⟩,hni⟩ := q
      obtain ⟨nm,bs,mro,ns,qn,hd,sn,sub,ab,col,del⟩ := cd
      dsimp only at hm hdel hok hni; subst hm hdel
      have hsl : sl = #[k0,k1,k2,k3,some (.builtin n),k5] := by
        obtain ⟨l⟩ := sl
        simp only at hs; rw [hs]
      subst hsl
      refine ⟨bm,ns,nm,qn,bs,hd,sn,sub,ab,col,dd,k0,k1,k2,k3,k5,_,X _ _ ho,.of_isNs (PySem.W.isNs_of_in X hok),PySem.W.nsMap_none_of_in X hok hni,PySem.W.tail_of_in X ht⟩
    · cases q
  · cases q
theorem pass10 {P : Program}{w : World}{base : Heap}{X : Cx} : Passes (CX1 P w base) X E0 := fun _ _ _ _ _ _ _ h => by
  obtain ⟨_,_,_,_,_,_,_,_,_,q⟩ := h
  exact q.elim
theorem ps_raise1 {P : Program}{w : World}{K : PySem.W.Frag}{mg : Str -> Option Value}{base : Heap}{N : List Str}{qual : Str}{scope : Scope}{f : Addr}{cd : Value}{A : Around}{outer : List Env}{s : Shared}{H : Hp}{E : XK}{x m : Str}{C : Addr}{j}{mp np cpos pos : Pos}(O : OwnCls x C bmV "ValueError.__new__" mg base)
    (hg : Gl (cxOf (CX1 P w base) P w K mg base N qual scope f cd A outer s H E) x) (hd : (x == ("__debug__" : Str)) = false := by decide) :
    PS (cxOf (CX1 P w base) P w K mg base N qual scope f cd A outer s H E) (.Raise (some (.Call (.Name x np) [.Constant (.str m) j mp] [] cpos)) none pos) (fun _ _ H1 => E (.ref C) none H1) :=
  ps_raise (X := cxOf (CX1 P w base) P w K mg base N qual scope f cd A outer s H E) O PySem.F.excBase_ValueError (by decide) PySem.F.excBase_ValueError rfl hg E (fun pins σ H1 s1 h' e us I hm q => xe_raise pins σ H1 s1 h' e us I hm q) (pa_cons pe_str pa_nil) (fun σ H Q q => ⟨Nat.le_trans (Nat.le_of_ble_eq_true rfl) le1000,q⟩) rfl rfl hd
section
variable {X : Cx}
end
end L2
set_option Elab.async false
set_option linter.all false
set_option maxRecDepth 100000
set_option maxHeartbeats 4000000
namespace L2
open PySem PySem.Spec PyProof.Rows
section
variable {M : Model}{A : Around}{E : Value -> Shared -> Prop}{s : Shared}
end
section
variable {P : Program}{w : World}{K : PySem.W.Frag}{mg : Str -> Option Value}{base : Heap}{N : List Str}{qual : Str}{scope : Scope}{f : Addr}{cd : Value}{A : Around}{outer : List Env}{s : Shared}{H : Hp}{E : XK}
end
end L2
set_option Elab.async false
set_option linter.all false
set_option maxRecDepth 100000
set_option maxHeartbeats 4000000
namespace L2
open PySem PySem.Spec PyProof.Rows
abbrev met (ns : List Int)(k : Nat) : List Int := firstMet (fun i => ns.getD i 0) k
section
variable {prog : Program}{w : World}{A : Around}{E : Value -> Shared -> Prop}{s : Shared}
end
end L2
set_option Elab.async false
set_option linter.all false
set_option maxRecDepth 100000
set_option maxHeartbeats 4000000
namespace L2
open PySem PySem.Spec PyProof.Rows
def Asc (xs : Array Nat) : Prop := xs.toList.Pairwise (· < ·)
structure Tb (w : World)(t : SetTable) : Prop where
  dum : t.dummies = #[]
  led : w.params.followText "set-order" = false -> t.led = true
  asc : t.plain = true -> Asc t.place
end L2
set_option Elab.async false
set_option linter.all false
set_option maxRecDepth 100000
set_option maxHeartbeats 4000000
namespace L2
open PySem PySem.Spec PyProof.Rows
def iv : Value -> Int
  | .int n _ => n
  | _ => 0
abbrev nums (es : Array (Int × Value)) : List Int := es.toList.map fun e => iv e.2
structure ISo (prog : Program)(w : World)(ns : List Int)(o : Obj)(es : Array (Int × Value))(ep : Nat)(t : SetTable) : Prop where
  ex : o.ExactSet
  da : o.data = .set es ep t
  el : ElemsOf (intKind prog w) es.toList
  nd : (nums es).Nodup
  me : ∀ z,z ∈ nums es ↔ z ∈ ns
  sz : es.size <= ns.length
  ft : t.fits es.size = true
  tb : Tb w t
def ISet (prog : Program)(w : World)(ns : List Int)(a : Addr)(h : Heap) : Prop := ∃ o es ep t,h.get? a = some o /\ ISo prog w ns o es ep t
section
variable {prog : Program}{w : World}{A : Around}{E : Value -> Shared -> Prop}{s : Shared}{ns : List Int}{a : Addr}
theorem ISet.typeIs (h : ISet prog w ns a s.heap) : s.TypeIs (.ref a) "set" := by
  obtain ⟨o,es,ep,t,g,I⟩ := h
  exact ⟨o,g,I.ex.1⟩
end
end L2
set_option Elab.async false
set_option linter.all false
set_option maxRecDepth 100000
set_option maxHeartbeats 4000000
namespace L2
open PySem PySem.Spec PyProof.Rows
section
variable {prog : Program}{w : World}{A : Around}{E : Value -> Shared -> Prop}{s : Shared}
end
end L2
set_option Elab.async false
set_option linter.all false
set_option maxRecDepth 100000
set_option maxHeartbeats 4000000
namespace L2
open PySem PySem.Spec PyProof.Rows
abbrev byT (w : World) : Bool := w.params.followText "set-order"
inductive Way (w : World)(a : Addr)(es : Array (Int × Value))(ep : Nat)(t : SetTable)(ord : List (Int × Value))(fx : List Addr)(h : Heap)(i : Nat)(first : Value) : Prop
  | text (k : Nat) (b : byT w = true) (f : first = .int k 0) (o : ord = (pickOrder (w.params.setOrder a ep) es).toList)
  | place (k : Nat) (b : byT w = false) (d : (!t.plain && decide (es.size > 1)) = false) (c : Asc t.place) (f : first = .int k 0) (e : SetTable.below t.place k = i) (o : ord = es.toList)
  | drawn (p : Addr) (ps : List Nat) (b : byT w = false) (d : (!t.plain && decide (es.size > 1)) = true) (f : first = .ref p) (m : p ∈ fx) (q : h.get? p = some { cls := .type "tuple",data := .seq (ps.map fun x : Nat => Value.int (x : Int) 0).toArray 0 }) (o : ps.map (fun x => es[x]?) = ord.map some)
section
variable {prog : Program}{w : World}{A : Around}{E : Value -> Shared -> Prop}{s : Shared}{a it : Addr}{o : Obj}{es : Array (Int × Value)}{ep : Nat}{t : SetTable}{ns : List Int}{ord : List (Int × Value)}{fx : List Addr}{i : Nat}{first : Value}
end
end L2
set_option Elab.async false
set_option linter.all false
set_option maxRecDepth 100000
set_option maxHeartbeats 4000000
namespace L2
open PySem PySem.Spec PyProof.Rows
section
variable {prog : Program}{w : World}{A : Around}{E : Value -> Shared -> Prop}{s : Shared}{a it : Addr}{o : Obj}{es : Array (Int × Value)}{ep : Nat}{t : SetTable}{ns : List Int}{ord : List (Int × Value)}{i : Nat}{first : Value}
end
end L2
set_option Elab.async false
set_option linter.all false
set_option maxRecDepth 100000
set_option maxHeartbeats 4000000
namespace L2
open PySem PySem.Spec PyProof.Rows
section
variable {prog : Program}{w : World}{A : Around}{E : Value -> Shared -> Prop}{s : Shared}{a it : Addr}{o : Obj}{es : Array (Int × Value)}{ep : Nat}{t : SetTable}{ns : List Int}{ord : List (Int × Value)}{fx : List Addr}{i : Nat}{first : Value}
theorem Way.frame {h h' : Heap}(W : Way w a es ep t ord fx h i first)(k : ∀ b ∈ fx,∀ o,h.get? b = some o -> h'.get? b = some o) : Way w a es ep t ord fx h' i first := by
  cases W with
  | text k b f o => exact .text k b f o
  | place k b d c f e o => exact .place k b d c f e o
  | drawn p ps b d f m q o => exact .drawn p ps b d f m (k p m _ q) o
end
end L2
set_option Elab.async false
set_option linter.all false
set_option maxRecDepth 100000
set_option maxHeartbeats 4000000
namespace L2
open PySem PySem.Spec PyProof.Rows
section
variable {prog : Program}{w : World}{A : Around}{E : Value -> Shared -> Prop}{s : Shared}{a it : Addr}{o : Obj}{es : Array (Int × Value)}{ep : Nat}{t : SetTable}{ns : List Int}
end
end L2
set_option Elab.async false
set_option linter.all false
set_option maxRecDepth 100000
set_option maxHeartbeats 4000000
namespace L2
open PySem PySem.Spec PyProof.Rows
def kA (k : Keyed -> Int)(xs : Array Keyed)(i : Nat) : Int := match xs[i]? with
  | some p => k p
  | none => 0
def SrtR (k : Keyed -> Int)(xs : Array Keyed)(lo n : Nat) : Prop := ∀ i j,lo <= i -> i <= j -> j < lo + n -> kA k xs i <= kA k xs j
def FallR (k : Keyed -> Int)(xs : Array Keyed)(lo n : Nat) : Prop := ∀ i j,lo <= i -> i <= j -> j < lo + n -> kA k xs j <= kA k xs i
theorem kA_congr {k : Keyed -> Int}{xs ys : Array Keyed}{i j : Nat}(h : xs[i]? = ys[j]?) : kA k xs i = kA k ys j := by unfold kA; rw [h]
theorem kA_at {k : Keyed -> Int}{xs : Array Keyed}{i : Nat}(h : i < xs.size) : kA k xs i = k xs[i] := by unfold kA; rw [getElem?_pos xs i h]
theorem kA_bubble {k : Keyed -> Int}{xs : Array Keyed}{src d : Nat}(hs : src < xs.size)(hd : d <= src)(i : Nat) :
    kA k (bubble xs src d) i = if i = src - d then kA k xs src else if src - d < i /\ i <= src then kA k xs (i - 1) else kA k xs i := by
  have e := getElem?_bubble hs d hd i
  by_cases h1 : i = src - d
  · rw [if_pos h1] at e ⊢; exact kA_congr e
  · rw [if_neg h1] at e ⊢
    by_cases h2 : src - d < i /\ i <= src
    · rw [if_pos h2] at e ⊢; exact kA_congr e
    · rw [if_neg h2] at e ⊢; exact kA_congr e
theorem kA_mirror {k : Keyed -> Int}{xs : Array Keyed}{i j : Nat}(hj : j <= xs.size)(q : Nat) :
    kA k (mirror xs i j ((j - i) / 2)) q = if i <= q /\ q < j then kA k xs (i + j - 1 - q) else kA k xs q := by
  have e := getElem?_mirror_all (i := i) hj q
  by_cases h1 : i <= q /\ q < j
  · rw [if_pos h1] at e ⊢; exact kA_congr e
  · rw [if_neg h1] at e ⊢; exact kA_congr e
theorem kA_mirror_equal {k : Keyed -> Int}{xs : Array Keyed}{i j : Nat}(hj : j <= xs.size)(heq : ∀ q,i <= q -> q < j -> kA k xs q = kA k xs (j - 1))(q : Nat) :
    kA k (mirror xs i j ((j - i) / 2)) q = kA k xs q := by
  rw [kA_mirror hj]
  split
  · rw [heq _ (by omega) (by omega),heq q (by omega) (by omega)]
  · rfl
structure Cmp (prog : Program)(w : World)(A : Around)(s : Shared)(κ : SortKind)(a₀ : Array Keyed)(k : Keyed -> Int) : Prop where
  lt : ∀ x ∈ a₀.toList,∀ y ∈ a₀.toList,∀ (E : Value -> Shared -> Prop) (Q : Bool -> Shared -> Prop),Q (decide (k x < k y)) s -> wpAny (model prog w) A (keyLt' κ x.1 y.1) Q E s
structure TB (κ : SortKind)(a₀ : Array Keyed)(st : SortSt) : Prop where
  perm : (arrOf st).Perm a₀
  kind : kindOf st = κ
  ok : failedOf st = none
theorem TB.size {κ : SortKind}{a₀ : Array Keyed}{st : SortSt}(h : TB κ a₀ st) : (arrOf st).size = a₀.size := h.perm.size_eq
theorem TB.setArr {κ : SortKind}{a₀ : Array Keyed}{st : SortSt}(h : TB κ a₀ st){xs : Array Keyed}(hp : xs.Perm (arrOf st)) : TB κ a₀ (setArr st xs) := ⟨hp.trans h.perm,h.kind,h.ok⟩
theorem TB.mem {κ : SortKind}{a₀ : Array Keyed}{st : SortSt}(h : TB κ a₀ st){p : Keyed}(hp : p ∈ (arrOf st).toList) : p ∈ a₀.toList := (Array.perm_iff_toList_perm.mp h.perm).mem_iff.mp hp
structure Sam (lo hi : Nat)(st st' : SortSt) : Prop where
  pend : pendingOf st' = pendingOf st
  out : ∀ i,i < lo \/ hi <= i -> (arrOf st')[i]? = (arrOf st)[i]?
theorem Sam.refl (lo hi : Nat)(st : SortSt) : Sam lo hi st st := ⟨rfl,fun _ _ => rfl⟩
theorem Sam.trans {lo hi : Nat}{a b c : SortSt}(h : Sam lo hi a b)(h' : Sam lo hi b c) : Sam lo hi a c := ⟨h'.pend.trans h.pend,fun i hi => (h'.out i hi).trans (h.out i hi)⟩
theorem Sam.bubble {lo hi : Nat}{st : SortSt}{src d : Nat}(hs : src < (arrOf st).size)(hd : d <= src)(h1 : lo <= src - d)(h2 : src < hi) : Sam lo hi st (setArr st (bubble (arrOf st) src d)) := ⟨rfl,fun i h => by
  show (PyProof.Rows.bubble (arrOf st) src d)[i]? = _
  rw [getElem?_bubble hs d hd i,if_neg (by omega),if_neg (by omega)]⟩
theorem Sam.mirror {lo hi : Nat}{st : SortSt}{i j : Nat}(hj : j <= (arrOf st).size)(h1 : lo <= i)(h2 : j <= hi) : Sam lo hi st (setArr st (mirror (arrOf st) i j ((j - i) / 2))) := ⟨rfl,fun q h => by
  show (PyProof.Rows.mirror (arrOf st) i j ((j - i) / 2))[q]? = _
  rw [getElem?_mirror_all hj q,if_neg (by omega)]⟩
section
variable {prog : Program}{w : World}{A : Around}{E : Value -> Shared -> Prop}{s : Shared}{κ : SortKind}{a₀ : Array Keyed}{k : Keyed -> Int}
theorem wpS_lt {st : SortSt}{x y : Keyed}{Q : Option Bool -> SortSt -> Prop}(C : Cmp prog w A s κ a₀ k)(hk : kindOf st = κ)(hx : x ∈ a₀.toList)(hy : y ∈ a₀.toList)(h : Q (some (decide (k x < k y))) st) : wpS (model prog w) A E s (lt' x y) Q st := by
  rw [lt'_eq]
  refine wpS_bind (wpS_get ?_)
  rw [hk]
  refine wpS_bind (wpS_lift (wpAny_attempt (C.lt x hx y hy _ _ ⟨rfl,?_⟩)))
  exact wpS_pure h
theorem wpS_elem {st : SortSt}{arr : Array Keyed}{i : Nat}{Q : Keyed -> SortSt -> Prop}(hi : i < arr.size)(h : Q arr[i] st) : wpS (model prog w) A E s (elem' arr i) Q st := by
  rw [elem'_eq,getElem?_pos arr i hi]
  exact wpS_pure h
theorem wpS_ltG {st : SortSt}{i j : Nat}{Q : Option Bool -> SortSt -> Prop}(C : Cmp prog w A s κ a₀ k)(hB : TB κ a₀ st)(hi : i < a₀.size)(hj : j < a₀.size)
    (h : Q (some (decide (kA k (arrOf st) i < kA k (arrOf st) j))) st) : wpS (model prog w) A E s (ltAt' i j) Q st := by
  have hi' : i < (arrOf st).size := by rw [hB.size]; exact hi
  have hj' : j < (arrOf st).size := by rw [hB.size]; exact hj
  rw [kA_at hi',kA_at hj'] at h
  rw [ltAt'_eq]
  refine wpS_bind (wpS_get ?_)
  exact wpS_bind (wpS_elem hi' (wpS_bind (wpS_elem hj' (wpS_lt C hB.kind (hB.mem (by simp)) (hB.mem (by simp)) h))))
theorem wpS_binG {st : SortSt}{lo n ok : Nat}{Q : Bool -> SortSt -> Prop}(C : Cmp prog w A s κ a₀ k)(hn : lo + n <= a₀.size)(hok : ok <= n)(hB : TB κ a₀ st)(hs : SrtR k (arrOf st) lo ok)
    (h : ∀ st',TB κ a₀ st' -> Sam lo (lo + n) st st' -> SrtR k (arrOf st') lo n -> Q true st') : wpS (model prog w) A E s (binarySort' lo n ok) Q st := by
  rw [binarySort'_eq]
  refine wpS_bind (wpS_mono (wpS_forRange (I := fun q c st' => c = (none,()) /\ TB κ a₀ st' /\ Sam lo (lo + n) st st' /\ SrtR k (arrOf st') lo (min q n))
    (Q := fun c st' => c = (none,()) /\ TB κ a₀ st' /\ Sam lo (lo + n) st st' /\ SrtR k (arrOf st') lo n) ?step ?fin ?init) ?post)
  case post =>
    rintro c st' ⟨rfl,tb,d3,so⟩
    exact wpS_pure (h st' tb d3 so)
  case init =>
    refine ⟨rfl,hB,Sam.refl _ _ _,fun i j h0 hij hj => ?_⟩
    by_cases h1 : ok = 0
    · have : i = j := by omega
      subst this; exact Int.le_refl _
    · exact hs i j h0 hij (by omega)
  case fin =>
    rintro c st' ⟨hc,tb,d3,so⟩
    refine ⟨hc,tb,d3,?_⟩
    rwa [show min (max (max ok 1) n) n = n by omega] at so
  case step =>
    rintro q c st' hak hqn ⟨rfl,tb,hsm,so⟩
    rw [show min q n = q by omega] at so
    have hq : lo + q < a₀.size := by omega
    refine wpS_bind (wpS_mono (wpS_forRange (I := fun x c sx => sx = st' /\ ∃ l r,c = (none,l,r) /\ l <= r /\ r <= q /\ r - l <= q - x /\
        (∀ i,i < l -> kA k (arrOf st') (lo + i) <= kA k (arrOf st') (lo + q)) /\ (∀ i,r <= i -> i < q -> kA k (arrOf st') (lo + q) < kA k (arrOf st') (lo + i)))
      (Q := fun c sx => sx = st' /\ ∃ l r,c = (none,l,r) /\ l <= q /\
        (∀ i,i < l -> kA k (arrOf st') (lo + i) <= kA k (arrOf st') (lo + q)) /\ (∀ i,l <= i -> i < q -> kA k (arrOf st') (lo + q) < kA k (arrOf st') (lo + i))) ?istep ?ifin ?iinit) ?ipost)
    case iinit => exact ⟨rfl,0,q,rfl,by omega,by omega,by omega,fun i hi => by omega,fun i h1 h2 => by omega⟩
    case ifin =>
      rintro c sx ⟨rfl,l,r,rfl,d1,d2,d3,d4,d5⟩
      have : l = r := by omega
      subst this
      exact ⟨rfl,l,l,rfl,d2,d4,d5⟩
    case istep =>
      rintro x c sx _ q1 ⟨rfl,l,r,rfl,d1,d2,d3,d4,d5⟩
      dsimp only
      by_cases cmp : l >= r
      · rw [if_pos cmp]
        have : l = r := by omega
        subst this
        exact wpS_pure ⟨rfl,l,l,rfl,d2,d4,d5⟩
      · rw [if_neg cmp]
        refine wpS_bind (wpS_ltG C tb hq (by omega) ?_)
        by_cases les : kA k (arrOf sx) (lo + q) < kA k (arrOf sx) (lo + (l + r) / 2)
        · simp only [les,decide_true,if_true]
          refine wpS_pure ⟨rfl,l,(l + r) / 2,rfl,by omega,by omega,by omega,d4,fun i h1 h2 => ?_⟩
          exact Int.lt_of_lt_of_le les (so _ _ (by omega) (by omega) (by omega))
        · simp only [les,decide_false,Bool.false_eq_true,if_false]
          refine wpS_pure ⟨rfl,(l + r) / 2 + 1,r,rfl,by omega,by omega,by omega,fun i h1 => ?_,d5⟩
          exact Int.le_trans (so (lo + i) (lo + (l + r) / 2) (by omega) (by omega) (by omega)) (Int.not_lt.mp les)
    case ipost =>
      rintro c sx ⟨rfl,l,r,rfl,d6,d4,d5⟩
      show wpS _ _ _ _ (do moveDown' (lo + q) (lo + l); pure (ForInStep.yield (none,()))) _ _
      rw [moveDown'_eq]
      have kz : lo + q < (arrOf sx).size := by rw [tb.size]; exact hq
      refine wpS_bind (wpS_modify (wpS_pure ⟨rfl,tb.setArr (bubble_perm _ _ _),hsm.trans (Sam.bubble kz (by omega) (by omega) (by omega)),?_⟩))
      rw [show min (q + 1) n = q + 1 by omega]
      intro i j h0 hij hj
      show kA k (bubble (arrOf sx) (lo + q) (lo + q - (lo + l))) i <= kA k (bubble (arrOf sx) (lo + q) (lo + q - (lo + l))) j
      have lo' : ∀ i,lo <= i -> i < lo + l -> kA k (arrOf sx) i <= kA k (arrOf sx) (lo + q) := fun i h1 h2 => by
        have := d4 (i - lo) (by omega)
        rwa [show lo + (i - lo) = i by omega] at this
      have hi' : ∀ i,lo + l <= i -> i < lo + q -> kA k (arrOf sx) (lo + q) < kA k (arrOf sx) i := fun i h1 h2 => by
        have := d5 (i - lo) (by omega) (by omega)
        rwa [show lo + (i - lo) = i by omega] at this
      rw [kA_bubble kz (by omega),kA_bubble kz (by omega),show lo + q - (lo + q - (lo + l)) = lo + l by omega]
      repeat' split
      all_goals first
        | (exfalso; omega)
        | exact Int.le_refl _
        | exact lo' _ (by omega) (by omega)
        | exact Int.le_of_lt (hi' _ (by omega) (by omega))
        | exact so _ _ (by omega) (by omega) (by omega)
end
end L2
set_option Elab.async false
set_option linter.all false
set_option maxRecDepth 100000
set_option maxHeartbeats 4000000
namespace L2
open PySem PySem.Spec PyProof.Rows
local macro_rules | `(tactic| walk_at "un gallop") => do let n := Lean.mkIdent (Lean.mkPrivateNameCore `PySem.Builtin.List.W1All `PySem.Builtin.gallop); `(tactic| unfold $n)
def gallop' : Bool -> Keyed -> Array Keyed -> Nat -> Nat -> Nat -> StateT SortSt Sem (Option Nat) := sortPriv% PySem.Builtin.gallop
def BeyB (k : Keyed -> Int)(left : Bool)(key : Keyed)(x : Int) : Bool := if left = true then decide (x < k key) else !decide (k key < x)
theorem BeyB_mono {k : Keyed -> Int}{left : Bool}{key : Keyed}{x y : Int}(h : x <= y)(b : BeyB k left key y = true) : BeyB k left key x = true := by
  unfold BeyB at *
  cases left <;> simp at b ⊢ <;> omega
section
variable {prog : Program}{w : World}{A : Around}{E : Value -> Shared -> Prop}{s : Shared}{κ : SortKind}{a₀ : Array Keyed}{k : Keyed -> Int}
theorem wpS_bey {left : Bool}{key : Keyed}{arr : Array Keyed}{i : Nat}{st : SortSt}{Q : Option Bool -> SortSt -> Prop}(C : Cmp prog w A s κ a₀ k)(hk : kindOf st = κ)(hkey : key ∈ a₀.toList)(ha : ∀ p ∈ arr.toList,p ∈ a₀.toList)(hi : i < arr.size)(h : Q (some (BeyB k left key (kA k arr i))) st) :
    wpS (model prog w) A E s (do
      let x <- elem' arr i
      if left = true then lt' x key else do
        let c <- lt' key x
        pure (Option.map (fun z => !z) c)) Q st := by
  refine wpS_bind (wpS_elem hi ?_)
  have mx : arr[i] ∈ a₀.toList := ha _ (by simp)
  rw [kA_at hi] at h
  unfold BeyB at h
  cases left
  · simp only [Bool.false_eq_true,if_false] at h ⊢
    refine wpS_bind (wpS_lt C hk hkey mx ?_)
    exact wpS_pure h
  · simp only [if_true] at h ⊢
    exact wpS_lt C hk mx hkey h
theorem wpS_gallop {left : Bool}{key : Keyed}{arr : Array Keyed}{base n hint : Nat}{st : SortSt}{Q : Option Nat -> SortSt -> Prop}(C : Cmp prog w A s κ a₀ k)(hk : kindOf st = κ)(hkey : key ∈ a₀.toList)(ha : ∀ p ∈ arr.toList,p ∈ a₀.toList)(hn : base + n <= arr.size)(hh : hint < n)(hs : SrtR k arr base n)
    (h : ∀ m,m <= n -> (∀ i,i < m -> BeyB k left key (kA k arr (base + i)) = true) -> (∀ i,m <= i -> i < n -> BeyB k left key (kA k arr (base + i)) = false) -> Q (some m) st) : wpS (model prog w) A E s (gallop' left key arr base n hint) Q st := by
  have dn : ∀ {i j : Nat},i <= j -> j < n -> BeyB k left key (kA k arr (base + j)) = true -> BeyB k left key (kA k arr (base + i)) = true := fun {i j} hij hj b => BeyB_mono (hs _ _ (by omega) (by omega) (by omega)) b
  have up : ∀ {i j : Nat},i <= j -> j < n -> BeyB k left key (kA k arr (base + i)) = false -> BeyB k left key (kA k arr (base + j)) = false := fun {i j} hij hj b => by
    cases q : BeyB k left key (kA k arr (base + j)) with
    | false => rfl
    | true => rw [dn hij hj q] at b; cases b
  unfold gallop'
  walk_at "un gallop"
  dsimp only
  refine wpS_bind (wpS_bey C hk hkey ha (by omega) ?_)
  cases q0 : BeyB k left key (kA k arr (base + hint))
  case' true =>
    simp only [if_true]
    refine wpS_bind (wpS_mono (wpS_forRange (I := fun x c st' => st' = st /\ ∃ l o,c = (none,l,o) /\ l < o /\ x + 1 <= o /\ hint + l < n /\ BeyB k left key (kA k arr (base + (hint + l))) = true)
      (Q := fun c st' => st' = st /\ ∃ l o,c = (none,l,o) /\ l < o /\ hint + l < n /\ BeyB k left key (kA k arr (base + (hint + l))) = true /\ (o < n - hint -> BeyB k left key (kA k arr (base + (hint + o))) = false)) ?turn ?stop ⟨rfl,0,1,rfl,by omega,by omega,by omega,q0⟩) ?after)
    case stop =>
      rintro c st' ⟨rfl,l,o,rfl,b1,b2,b3,b4⟩
      exact ⟨rfl,l,o,rfl,b1,b3,b4,fun z => by omega⟩
    case turn =>
      rintro x c st' _ hx ⟨rfl,l,o,rfl,b1,b2,b3,b4⟩
      dsimp only
      by_cases q : o >= n - hint
      · rw [if_pos q]
        exact wpS_pure ⟨rfl,l,o,rfl,b1,b3,b4,fun z => by omega⟩
      · rw [if_neg q]
        refine wpS_bind (wpS_bey C hk hkey ha (by omega) ?_)
        cases z : BeyB k left key (kA k arr (base + (hint + o))) with
        | true =>
          simp only [Bool.not_true,Bool.false_eq_true,if_false]
          exact wpS_pure ⟨rfl,o,2 * o + 1,rfl,by omega,by omega,by omega,z⟩
        | false =>
          simp only [Bool.not_false,if_true]
          exact wpS_pure ⟨rfl,l,o,rfl,b1,b3,b4,fun _ => z⟩
    rintro c st' ⟨rfl,l,o,rfl,b1,b3,b4,b5⟩
    dsimp only
    have hlr : hint + l + 1 <= hint + min o (n - hint) := by omega
    have hrn : hint + min o (n - hint) <= n := by omega
    have hlo : ∀ i,i < hint + l + 1 -> BeyB k left key (kA k arr (base + i)) = true := fun i hi => dn (show i <= hint + l by omega) b3 b4
    have hhi : ∀ i,hint + min o (n - hint) <= i -> i < n -> BeyB k left key (kA k arr (base + i)) = false := fun i h1 h2 => up (show hint + o <= i by omega) h2 (b5 (by omega))
    clear b1 b3 b4 b5
    generalize hint + l + 1 = L,hint + min o (n - hint) = R at *
  case' false =>
    simp only [Bool.false_eq_true,if_false]
    refine wpS_bind (wpS_mono (wpS_forRange (I := fun x c st' => st' = st /\ ∃ l o,c = (none,l,o) /\ l < o /\ x + 1 <= o /\ l <= hint /\ BeyB k left key (kA k arr (base + (hint - l))) = false)
      (Q := fun c st' => st' = st /\ ∃ l o,c = (none,l,o) /\ l < o /\ l <= hint /\ BeyB k left key (kA k arr (base + (hint - l))) = false /\ (o < hint + 1 -> BeyB k left key (kA k arr (base + (hint - o))) = true)) ?turn ?stop ⟨rfl,0,1,rfl,by omega,by omega,by omega,q0⟩) ?after)
    case stop =>
      rintro c st' ⟨rfl,l,o,rfl,b1,b2,b3,b4⟩
      exact ⟨rfl,l,o,rfl,b1,b3,b4,fun z => by omega⟩
    case turn =>
      rintro x c st' _ hx ⟨rfl,l,o,rfl,b1,b2,b3,b4⟩
      dsimp only
      by_cases q : o >= hint + 1
      · rw [if_pos q]
        exact wpS_pure ⟨rfl,l,o,rfl,b1,b3,b4,fun z => by omega⟩
      · rw [if_neg q]
        refine wpS_bind (wpS_bey C hk hkey ha (by omega) ?_)
        cases z : BeyB k left key (kA k arr (base + (hint - o))) with
        | true =>
          simp only [if_true]
          exact wpS_pure ⟨rfl,l,o,rfl,b1,b3,b4,fun _ => z⟩
        | false =>
          simp only [Bool.false_eq_true,if_false]
          exact wpS_pure ⟨rfl,o,2 * o + 1,rfl,by omega,by omega,by omega,z⟩
    rintro c st' ⟨rfl,l,o,rfl,b1,b3,b4,b5⟩
    dsimp only
    have hlr : hint + 1 - min o (hint + 1) <= hint - l := by omega
    have hrn : hint - l <= n := by omega
    have hlo : ∀ i,i < hint + 1 - min o (hint + 1) -> BeyB k left key (kA k arr (base + i)) = true := fun i hi => dn (show i <= hint - o by omega) (by omega) (b5 (by omega))
    have hhi : ∀ i,hint - l <= i -> i < n -> BeyB k left key (kA k arr (base + i)) = false := fun i h1 h2 => up (show hint - l <= i by omega) h2 b4
    clear b1 b3 b4 b5
    generalize hint + 1 - min o (hint + 1) = L,hint - l = R at *
  all_goals
    refine wpS_bind (wpS_mono (wpS_forRange (I := fun x c st'' => st'' = st' /\ ∃ l r,c = (none,l,r) /\ l <= r /\ r <= n /\ r - l <= n - x /\ (∀ i,i < l -> BeyB k left key (kA k arr (base + i)) = true) /\ (∀ i,r <= i -> i < n -> BeyB k left key (kA k arr (base + i)) = false))
      (Q := fun c st'' => st'' = st' /\ ∃ l,c = (none,l,l) /\ l <= n /\ (∀ i,i < l -> BeyB k left key (kA k arr (base + i)) = true) /\ (∀ i,l <= i -> i < n -> BeyB k left key (kA k arr (base + i)) = false)) ?turn ?stop ⟨rfl,L,R,rfl,hlr,hrn,by omega,hlo,hhi⟩) ?after)
    case stop =>
      rintro c st'' ⟨rfl,l,r,rfl,b1,b2,b3,b4,b5⟩
      have : l = r := by omega
      subst this
      exact ⟨rfl,l,rfl,b2,b4,b5⟩
    case turn =>
      rintro x c st'' _ hx ⟨rfl,l,r,rfl,b1,b2,b3,b4,b5⟩
      dsimp only
      by_cases q : l >= r
      · rw [if_pos q]
        have : l = r := by omega
        subst this
        exact wpS_pure ⟨rfl,l,rfl,b2,b4,b5⟩
      · rw [if_neg q]
        refine wpS_bind (wpS_bey C hk hkey ha (by omega) ?_)
        cases z : BeyB k left key (kA k arr (base + (l + (r - l) / 2))) with
        | true =>
          simp only [if_true]
          exact wpS_pure ⟨rfl,_,r,rfl,by omega,b2,by omega,fun i hi => dn (show i <= l + (r - l) / 2 by omega) (by omega) z,b5⟩
        | false =>
          simp only [Bool.false_eq_true,if_false]
          exact wpS_pure ⟨rfl,l,_,rfl,by omega,by omega,by omega,b4,fun i h1 h2 => up h1 h2 z⟩
    case after =>
      rintro c st'' ⟨rfl,l,rfl,b1,b2,b3⟩
      exact wpS_pure (h l b1 b2 b3)
end
end L2
set_option Elab.async false
set_option linter.all false
set_option maxRecDepth 100000
set_option maxHeartbeats 4000000
namespace L2
open PySem PySem.Spec PyProof.Rows
local macro_rules | `(tactic| walk_at "un countRun") => do let n := Lean.mkIdent (Lean.mkPrivateNameCore `PySem.Builtin.List.W1All `PySem.Builtin.countRun); `(tactic| unfold $n)
def runOf' : Nat -> Nat -> StateT SortSt Sem (Option Nat) := sortPriv% PySem.Builtin.countRun
section
variable {prog : Program}{w : World}{A : Around}{E : Value -> Shared -> Prop}{s : Shared}{κ : SortKind}{a₀ : Array Keyed}{k : Keyed -> Int}
theorem wpS_turn {st : SortSt}{i j : Nat}{Q : Unit -> SortSt -> Prop}(h : Q () (setArr st (mirror (arrOf st) i j ((j - i) / 2)))) : wpS (model prog w) A E s (reverseSlice' i j) Q st := by
  rw [reverseSlice'_eq]; exact wpS_modify h
theorem srt_more {xs : Array Keyed}{lo x : Nat}(h : SrtR k xs lo x)(l : ¬ kA k xs (lo + x) < kA k xs (lo + x - 1)) : SrtR k xs lo (x + 1) := fun i j h0 hij hj => by
  by_cases e : j < lo + x
  · exact h i j h0 hij e
  · have ej : j = lo + x := by omega
    subst ej
    by_cases ei : i = lo + x
    · rw [ei]; exact Int.le_refl _
    · exact Int.le_trans (h i (lo + x - 1) h0 (by omega) (by omega)) (Int.not_lt.mp l)
theorem fall_more {xs : Array Keyed}{lo x : Nat}(h : FallR k xs lo x)(l : kA k xs (lo + x) <= kA k xs (lo + x - 1)) : FallR k xs lo (x + 1) := fun i j h0 hij hj => by
  by_cases e : j < lo + x
  · exact h i j h0 hij e
  · have ej : j = lo + x := by omega
    subst ej
    by_cases ei : i = lo + x
    · rw [ei]; exact Int.le_refl _
    · exact Int.le_trans l (h i (lo + x - 1) h0 (by omega) (by omega))
theorem fall_like {xs ys : Array Keyed}{lo x : Nat}(h : FallR k xs lo x)(e : ∀ i,kA k ys i = kA k xs i) : FallR k ys lo x := fun i j h0 hij hj => by
  rw [e,e]; exact h i j h0 hij hj
theorem wpS_runG {st : SortSt}{lo nrem : Nat}{Q : Option Nat -> SortSt -> Prop}(C : Cmp prog w A s κ a₀ k)(hn : lo + nrem <= a₀.size)(h1 : 1 <= nrem)(hB : TB κ a₀ st)
    (h : ∀ m st',TB κ a₀ st' -> Sam lo (lo + nrem) st st' -> 1 <= m -> m <= nrem -> SrtR k (arrOf st') lo m -> Q (some m) st') : wpS (model prog w) A E s (runOf' lo nrem) Q st := by
  unfold runOf'
  walk_at "un countRun"
  dsimp only
  refine wpS_bind (wpS_mono (wpS_forRange (I := fun x c st' => st' = st /\ c = (none,x) /\ SrtR k (arrOf st) lo x)
    (Q := fun c st' => st' = st /\ ∃ x,c = (none,x) /\ 1 <= x /\ x <= nrem /\ SrtR k (arrOf st) lo x /\ (x = nrem \/ kA k (arrOf st) (lo + x) < kA k (arrOf st) (lo + x - 1))) ?turn ?stop ⟨rfl,rfl,fun i j h0 hij hj => ?_⟩) ?after)
  case stop =>
    rintro c st' ⟨rfl,rfl,b1⟩
    rw [show max 1 nrem = nrem by omega] at b1 ⊢
    exact ⟨rfl,nrem,rfl,h1,Nat.le_refl _,b1,.inl rfl⟩
  case turn =>
    rintro x c st' hx1 hx ⟨rfl,rfl,b1⟩
    dsimp only
    refine wpS_bind (wpS_ltG C hB (by omega) (by omega) ?_)
    by_cases q : kA k (arrOf st') (lo + x) < kA k (arrOf st') (lo + x - 1)
    · simp only [q,decide_true,if_true]
      exact wpS_pure ⟨rfl,x,rfl,hx1,by omega,b1,.inr q⟩
    · simp only [q,decide_false,Bool.false_eq_true,if_false]
      exact wpS_pure ⟨rfl,rfl,srt_more b1 q⟩
  · have : i = j := by omega
    subst this; exact Int.le_refl _
  rintro c st' ⟨rfl,n,rfl,n1,n2,so,up⟩
  dsimp only
  by_cases q : n = nrem
  · rw [if_pos (by simpa using q)]
    exact wpS_pure (h n st' hB (Sam.refl _ _ _) n1 n2 so)
  rw [if_neg (by simpa using q)]
  have lt := up.resolve_left q
  have facts : n > 1 \/ ¬ n > 1 := Nat.lt_or_ge 1 n |>.imp id fun z => by omega
  rcases facts with g1 | g1
  case' inl =>
    rw [if_pos g1]
    refine wpS_bind (wpS_ltG C hB (by omega) (by omega) ?_)
    by_cases r : kA k (arrOf st') lo < kA k (arrOf st') (lo + n - 1)
    · simp only [r,decide_true,if_true]
      exact wpS_pure (h n st' hB (Sam.refl _ _ _) n1 n2 so)
    simp only [r,decide_false,Bool.false_eq_true,if_false]
    have sz : lo + n <= (arrOf st').size := by rw [hB.size]; omega
    have al : ∀ i,lo <= i -> i < lo + n -> kA k (arrOf st') i = kA k (arrOf st') (lo + n - 1) := fun i i1 i2 => by
      have a1 := so lo i (by omega) i1 i2
      have a2 := so i (lo + n - 1) i1 (by omega) (by omega)
      omega
    refine wpS_bind (wpS_turn ?_)
    have tb := hB.setArr (mirror_perm (arrOf st') lo (lo + n) ((lo + n - lo) / 2))
    have sm : Sam lo (lo + nrem) st' _ := Sam.mirror (st := st') (i := lo) (j := lo + n) sz (Nat.le_refl _) (by omega)
    have fl : FallR k (mirror (arrOf st') lo (lo + n) ((lo + n - lo) / 2)) lo (n + 1) := fall_like (xs := arrOf st') (fall_more (fun i j h0 hij hj => by rw [al i h0 (by omega),al j (by omega) hj]; exact Int.le_refl _) (Int.le_of_lt lt)) (kA_mirror_equal sz al)
    generalize hst : setArr st' (mirror (arrOf st') lo (lo + n) ((lo + n - lo) / 2)) = st2 at tb sm ⊢
    rw [show mirror (arrOf st') lo (lo + n) ((lo + n - lo) / 2) = arrOf st2 by rw [<- hst]] at fl
    clear hst al
  case' inr =>
    rw [if_neg g1]
    have fl : FallR k (arrOf st') lo (n + 1) := fall_more (fun i j h0 hij hj => by
      have : i = j := by omega
      subst this; exact Int.le_refl _) (Int.le_of_lt lt)
    obtain ⟨st2,hst⟩ : ∃ z,z = st' := ⟨_,rfl⟩
    have sm : Sam lo (lo + nrem) st' st2 := by rw [hst]; exact Sam.refl _ _ _
    have tb : TB κ a₀ st2 := by rw [hst]; exact hB
    rw [<- hst] at fl
    rw [<- hst]
    clear hst
  all_goals
    refine wpS_bind (wpS_lift (wpAny_rule ⟨rfl,?_⟩))
    refine wpS_bind (wpS_mono (wpS_forRange (I := fun x c st' => ∃ u,c = (none,x,u) /\ TB κ a₀ st' /\ Sam lo (lo + nrem) st2 st' /\ FallR k (arrOf st') lo x /\ u + 1 <= x /\ ∀ i,lo + x - (u + 1) <= i -> i < lo + x -> kA k (arrOf st') i = kA k (arrOf st') (lo + x - 1))
      (Q := fun c st' => ∃ x u,c = (none,x,u) /\ n + 1 <= x /\ x <= nrem /\ TB κ a₀ st' /\ Sam lo (lo + nrem) st2 st' /\ FallR k (arrOf st') lo x /\ u + 1 <= x /\ ∀ i,lo + x - (u + 1) <= i -> i < lo + x -> kA k (arrOf st') i = kA k (arrOf st') (lo + x - 1)) ?_ ?_ ⟨0,rfl,tb,Sam.refl _ _ _,fl,by omega,fun i i1 i2 => by congr 1; omega⟩) ?_)
    · rintro x c st3 hx1 hx ⟨u,rfl,b1,b2,b3,b4,b5⟩
      dsimp only
      have sz : lo + x <= (arrOf st3).size := by rw [b1.size]; omega
      refine wpS_bind (wpS_ltG C b1 (by omega) (by omega) ?_)
      by_cases q : kA k (arrOf st3) (lo + x) < kA k (arrOf st3) (lo + x - 1)
      · simp only [q,decide_true,if_true]
        by_cases z : u > 0
        · rw [if_pos z]
          refine wpS_bind (wpS_turn (wpS_pure ⟨0,rfl,b1.setArr (mirror_perm _ _ _ _),b2.trans (Sam.mirror sz (by omega) (by omega)),fall_like (xs := arrOf st3) (fall_more b3 (Int.le_of_lt q)) (kA_mirror_equal sz b5),by omega,fun i i1 i2 => by congr 1; omega⟩))
        · rw [if_neg z]
          exact wpS_pure ⟨0,rfl,b1,b2,fall_more b3 (Int.le_of_lt q),by omega,fun i i1 i2 => by congr 1; omega⟩
      · simp only [q,decide_false,Bool.false_eq_true,if_false]
        refine wpS_bind (wpS_ltG C b1 (by omega) (by omega) ?_)
        by_cases z : kA k (arrOf st3) (lo + x - 1) < kA k (arrOf st3) (lo + x)
        · simp only [z,decide_true,if_true]
          exact wpS_pure ⟨x,u,rfl,hx1,by omega,b1,b2,b3,b4,b5⟩
        · simp only [z,decide_false,Bool.false_eq_true,if_false]
          have eq : kA k (arrOf st3) (lo + x) = kA k (arrOf st3) (lo + x - 1) := by omega
          refine wpS_pure ⟨u + 1,rfl,b1,b2,fall_more b3 (Int.le_of_eq eq),by omega,fun i i1 i2 => ?_⟩
          rw [show lo + (x + 1) - 1 = lo + x by omega]
          by_cases ei : i = lo + x
          · rw [ei]
          · rw [eq]; exact b5 i (by omega) (by omega)
    · rintro c st3 ⟨u,rfl,b1,b2,b3,b4,b5⟩
      rw [show max (n + 1) nrem = nrem by omega] at b3 b4 b5 ⊢
      exact ⟨nrem,u,rfl,by omega,Nat.le_refl _,b1,b2,b3,b4,b5⟩
    rintro c st3 ⟨m,u,rfl,m1,m2,b1,b2,b3,b4,b5⟩
    dsimp only
    have sz : lo + m <= (arrOf st3).size := by rw [b1.size]; omega
    have fin : ∀ st4 : SortSt,TB κ a₀ st4 -> Sam lo (lo + nrem) st3 st4 -> FallR k (arrOf st4) lo m -> TB κ a₀ (setArr st4 (mirror (arrOf st4) lo (lo + m) ((lo + m - lo) / 2))) /\ Sam lo (lo + nrem) st' (setArr st4 (mirror (arrOf st4) lo (lo + m) ((lo + m - lo) / 2))) /\ SrtR k (mirror (arrOf st4) lo (lo + m) ((lo + m - lo) / 2)) lo m := fun st4 c1 c2 c3 => by
      have sz4 : lo + m <= (arrOf st4).size := by rw [c1.size]; omega
      refine ⟨c1.setArr (mirror_perm _ _ _ _),(sm.trans (b2.trans c2)).trans (Sam.mirror sz4 (Nat.le_refl _) (by omega)),fun i j h0 hij hj => ?_⟩
      rw [kA_mirror sz4,kA_mirror sz4,if_pos (by omega),if_pos (by omega)]
      exact c3 _ _ (by omega) (by omega) (by omega)
    have z : u > 0 \/ ¬ u > 0 := Nat.eq_zero_or_pos u |>.symm.imp id fun z => by omega
    rcases z with z | z
    case' inl =>
      rw [if_pos z]
      refine wpS_bind (wpS_turn ?_)
      refine wpS_bind (wpS_turn ?_)
      obtain ⟨d1,d2,d3⟩ := fin _ (b1.setArr (mirror_perm (arrOf st3) (lo + m - (u + 1)) (lo + m) ((lo + m - (lo + m - (u + 1))) / 2))) (Sam.mirror sz (by omega) (by omega)) (fall_like b3 (kA_mirror_equal sz b5))
    case' inr =>
      rw [if_neg z]
      refine wpS_bind (wpS_turn ?_)
      obtain ⟨d1,d2,d3⟩ := fin _ b1 (Sam.refl _ _ _) b3
    all_goals
      refine wpS_bind (wpS_mono (wpS_forRange (I := fun x c sx => c = (none,x) /\ TB κ a₀ sx /\ Sam lo (lo + nrem) st' sx /\ SrtR k (arrOf sx) lo x) (Q := fun c sx => ∃ x,c = (none,x) /\ 1 <= x /\ x <= nrem /\ TB κ a₀ sx /\ Sam lo (lo + nrem) st' sx /\ SrtR k (arrOf sx) lo x) ?_ ?_ ⟨rfl,d1,d2,d3⟩) ?_)
      · rintro x c st5 hx1 hx ⟨rfl,e1,e2,e3⟩
        dsimp only
        refine wpS_bind (wpS_ltG C e1 (by omega) (by omega) ?_)
        by_cases q : kA k (arrOf st5) (lo + x) < kA k (arrOf st5) (lo + x - 1)
        · simp only [q,decide_true,if_true]
          exact wpS_pure ⟨x,rfl,by omega,by omega,e1,e2,e3⟩
        · simp only [q,decide_false,Bool.false_eq_true,if_false]
          exact wpS_pure ⟨rfl,e1,e2,srt_more e3 q⟩
      · rintro c st5 ⟨rfl,e1,e2,e3⟩
        rw [show max m nrem = nrem by omega] at e3 ⊢
        exact ⟨nrem,rfl,h1,Nat.le_refl _,e1,e2,e3⟩
      rintro c st5 ⟨x,rfl,x1,x2,e1,e2,e3⟩
      exact wpS_pure (h x _ e1 e2 x1 x2 e3)
end
end L2
set_option Elab.async false
set_option linter.all false
set_option maxRecDepth 100000
set_option maxHeartbeats 4000000
namespace L2
open PySem PySem.Spec PyProof.Rows
def mergeLow' : Array Keyed -> Array Keyed -> StateT SortSt Sem (Array Keyed) := sortPriv% PySem.Builtin.mergeLo
def setGal' : Nat -> StateT SortSt Sem Unit := sortPriv% PySem.Builtin.setMinGallop
local macro_rules | `(tactic| walk_at "un mergeLo") => do let n := Lean.mkIdent (Lean.mkPrivateNameCore `PySem.Builtin.List.W1All `PySem.Builtin.mergeLo); `(tactic| unfold $n)
def SrtA (k : Keyed -> Int)(xs : Array Keyed) : Prop := SrtR k xs 0 xs.size
theorem SrtA.le {k : Keyed -> Int}{xs : Array Keyed}(h : SrtA k xs){i j : Nat}(hij : i <= j)(hj : j < xs.size) : kA k xs i <= kA k xs j := h i j (Nat.zero_le _) hij (by omega)
theorem kA_push {k : Keyed -> Int}{xs : Array Keyed}{p : Keyed}(i : Nat) : kA k (xs.push p) i = if i = xs.size then k p else kA k xs i := by
  unfold kA
  rw [Array.getElem?_push]
  by_cases e : i = xs.size
  · rw [if_pos e,if_pos e]
  · rw [if_neg e,if_neg e]
structure MLo (k : Keyed -> Int)(a b out : Array Keyed)(ia ib : Nat) : Prop where
  srt : SrtA k out
  la : ∀ i j,i < out.size -> ia <= j -> j < a.size -> kA k out i <= kA k a j
  lb : ∀ i j,i < out.size -> ib <= j -> j < b.size -> kA k out i <= kA k b j
  pm : (out.toList ++ a.toList.drop ia ++ b.toList.drop ib).Perm (a.toList ++ b.toList)
  sz : out.size = ia + ib
theorem srt_push {k : Keyed -> Int}{xs : Array Keyed}{p : Keyed}(h : SrtA k xs)(l : ∀ i,i < xs.size -> kA k xs i <= k p) : SrtA k (xs.push p) := fun i j _ hij hj => by
  rw [Array.size_push] at hj
  rw [kA_push,kA_push]
  by_cases ei : i = xs.size
  · rw [if_pos ei,if_pos (by omega)]; exact Int.le_refl _
  · rw [if_neg ei]
    by_cases ej : j = xs.size
    · rw [if_pos ej]; exact l i (by omega)
    · rw [if_neg ej]; exact h.le hij (by omega)
section
variable {k : Keyed -> Int}{a b out : Array Keyed}{ia ib : Nat}
theorem drop_at {xs : Array Keyed}{i : Nat}(h : i < xs.size) : xs.toList.drop i = xs[i] :: xs.toList.drop (i + 1) := by
  rw [List.drop_eq_getElem_cons (by simpa using h)]
  simp
theorem MLo.pushA (h : MLo k a b out ia ib)(sa : SrtA k a)(hi : ia < a.size)(l : ∀ j,ib <= j -> j < b.size -> kA k a ia <= kA k b j) : MLo k a b (out.push a[ia]) (ia + 1) ib := by
  refine ⟨srt_push h.srt fun i hi' => by rw [<- kA_at (k := k) hi]; exact h.la i ia hi' (Nat.le_refl _) hi,fun i j h1 h2 h3 => ?_,fun i j h1 h2 h3 => ?_,?_,by rw [Array.size_push,h.sz]; omega⟩
  · rw [Array.size_push] at h1
    rw [kA_push]
    split
    · rw [<- kA_at (k := k) hi]; exact sa.le (by omega) h3
    · exact h.la i j (by omega) (by omega) h3
  · rw [Array.size_push] at h1
    rw [kA_push]
    split
    · rw [<- kA_at (k := k) hi]; exact l j h2 h3
    · exact h.lb i j (by omega) h2 h3
  · have p := h.pm
    rw [drop_at hi] at p
    refine List.Perm.trans ?_ p
    rw [Array.toList_push,List.append_assoc,List.append_assoc,List.append_assoc]
    exact List.Perm.refl _
theorem MLo.pushB (h : MLo k a b out ia ib)(sb : SrtA k b)(hi : ib < b.size)(l : ∀ j,ia <= j -> j < a.size -> kA k b ib <= kA k a j) : MLo k a b (out.push b[ib]) ia (ib + 1) := by
  refine ⟨srt_push h.srt fun i hi' => by rw [<- kA_at (k := k) hi]; exact h.lb i ib hi' (Nat.le_refl _) hi,fun i j h1 h2 h3 => ?_,fun i j h1 h2 h3 => ?_,?_,by rw [Array.size_push,h.sz]; omega⟩
  · rw [Array.size_push] at h1
    rw [kA_push]
    split
    · rw [<- kA_at (k := k) hi]; exact l j h2 h3
    · exact h.la i j (by omega) h2 h3
  · rw [Array.size_push] at h1
    rw [kA_push]
    split
    · rw [<- kA_at (k := k) hi]; exact sb.le (by omega) h3
    · exact h.lb i j (by omega) (by omega) h3
  · have p := h.pm
    rw [drop_at hi] at p
    refine List.Perm.trans ?_ p
    rw [Array.toList_push,List.append_assoc,List.append_assoc,List.append_assoc]
    refine List.Perm.append_left _ ?_
    exact (List.perm_middle (a := b[ib]) (l₁ := a.toList.drop ia) (l₂ := b.toList.drop (ib + 1))).symm
theorem cat_more {xs ys : Array Keyed}{i m : Nat}(h : i + m < ys.size) : xs ++ ys.extract i (i + (m + 1)) = (xs ++ ys.extract i (i + m)).push ys[i + m] := by
  apply Array.ext'
  simp only [Array.toList_append,Array.toList_extract,Array.toList_push,List.append_assoc]
  congr 1
  rw [List.extract_eq_take_drop,List.extract_eq_take_drop,show i + (m + 1) - i = m + 1 by omega,show i + m - i = m by omega,List.take_succ]
  congr 1
  rw [List.getElem?_drop,List.getElem?_eq_getElem (by simpa using h)]
  simp
theorem cat_none {xs ys : Array Keyed}{i : Nat} : xs ++ ys.extract i (i + 0) = xs := by
  have : ys.extract i (i + 0) = #[] := by
    apply Array.ext'
    simp
  rw [this,Array.append_empty]
theorem MLo.takeA (h : MLo k a b out ia ib)(sa : SrtA k a) : ∀ m,ia + m <= a.size -> (∀ i,i < m -> ∀ j,ib <= j -> j < b.size -> kA k a (ia + i) <= kA k b j) -> MLo k a b (out ++ a.extract ia (ia + m)) (ia + m) ib
  | 0,_,_ => by rw [cat_none]; exact h
  | m + 1,hm,l => by
    rw [cat_more (by omega)]
    exact (MLo.takeA h sa m (by omega) fun i hi => l i (by omega)).pushA sa (by omega) (l m (by omega))
theorem MLo.takeB (h : MLo k a b out ia ib)(sb : SrtA k b) : ∀ m,ib + m <= b.size -> (∀ i,i < m -> ∀ j,ia <= j -> j < a.size -> kA k b (ib + i) <= kA k a j) -> MLo k a b (out ++ b.extract ib (ib + m)) ia (ib + m)
  | 0,_,_ => by rw [cat_none]; exact h
  | m + 1,hm,l => by
    rw [cat_more (by omega)]
    exact (MLo.takeB h sb m (by omega) fun i hi => l i (by omega)).pushB sb (by omega) (l m (by omega))
structure MEnd (k : Keyed -> Int)(a b out : Array Keyed) : Prop where
  srt : SrtA k out
  pm : out.toList.Perm (a.toList ++ b.toList)
theorem MLo.fin (h : MLo k a b out a.size b.size) : MEnd k a b out := ⟨h.srt,by
  have p := h.pm
  rw [List.drop_eq_nil_of_le (by simp),List.drop_eq_nil_of_le (by simp),List.append_nil,List.append_nil] at p
  exact p⟩
theorem MLo.done (h : MLo k a b out ia ib)(sa : SrtA k a)(ha : ia <= a.size)(hb : ib = b.size) : MEnd k a b (out ++ a.extract ia ++ b.extract ib) := by
  subst hb
  have t := h.takeA sa (a.size - ia) (by omega) fun i hi j h1 h2 => by omega
  rw [show ia + (a.size - ia) = a.size by omega] at t
  have e : b.extract b.size = #[] := by simp
  rw [e,Array.append_empty]
  exact t.fin
theorem MLo.last (h : MLo k a b out ia ib)(sa : SrtA k a)(sb : SrtA k b)(ha : ia + 1 = a.size)(hb : ib <= b.size)(l : ∀ i,i < b.size -> kA k b i <= kA k a (a.size - 1)) : MEnd k a b (out ++ b.extract ib ++ a.extract ia) := by
  have t := h.takeB sb (b.size - ib) (by omega) fun i hi j h1 h2 => by rw [show j = a.size - 1 by omega]; exact l _ (by omega)
  rw [show ib + (b.size - ib) = b.size by omega] at t
  have t2 := t.takeA sa 1 (by omega) fun i hi j h1 h2 => by omega
  rw [ha] at t2
  exact t2.fin
end
structure Sst (st st' : SortSt) : Prop where
  kind : kindOf st' = kindOf st
  arr : arrOf st' = arrOf st
  pend : pendingOf st' = pendingOf st
  ok : failedOf st' = failedOf st
theorem Sst.refl (st : SortSt) : Sst st st := ⟨rfl,rfl,rfl,rfl⟩
section
variable {prog : Program}{w : World}{A : Around}{E : Value -> Shared -> Prop}{s : Shared}{κ : SortKind}{a₀ : Array Keyed}{k : Keyed -> Int}
theorem wpS_setGal {st st0 : SortSt}{n : Nat}{Q : Unit -> SortSt -> Prop}(h0 : Sst st0 st)(h : ∀ st',Sst st0 st' -> Q () st') : wpS (model prog w) A E s (setGal' n) Q st := by
  show wpS _ _ _ _ (modify fun z => SortSt.mk' (kindOf z) (arrOf z) (pendingOf z) n (failedOf z)) Q st
  exact wpS_modify (h _ ⟨h0.kind,h0.arr,h0.pend,h0.ok⟩)
theorem wpS_mergeLow {a b : Array Keyed}{st : SortSt}{Q : Array Keyed -> SortSt -> Prop}(C : Cmp prog w A s κ a₀ k)(hk : kindOf st = κ)(ma : ∀ p ∈ a.toList,p ∈ a₀.toList)(mb : ∀ p ∈ b.toList,p ∈ a₀.toList)(sa : SrtA k a)(sb : SrtA k b)(na : 0 < a.size)(nb : 0 < b.size)
    (l0 : kA k b 0 <= kA k a 0) (ll : ∀ i,i < b.size -> kA k b i < kA k a (a.size - 1)) (h : ∀ out st',Sst st st' -> MEnd k a b out -> Q out st') : wpS (model prog w) A E s (mergeLow' a b) Q st := by
  unfold mergeLow'
  walk_at "un mergeLo"
  dsimp only
  refine wpS_bind (wpS_lift (wpAny_rule ⟨rfl,?_⟩))
  refine wpS_bind (wpS_elem nb ?_)
  have m0 : MLo k a b #[b[0]] 0 1 := by
    have e : MLo k a b #[] 0 0 := ⟨fun i j _ _ h => by simp at h,fun i j h => by simp at h,fun i j h => by simp at h,List.Perm.refl _,rfl⟩
    exact e.pushB sb nb fun j h1 h2 => Int.le_trans l0 (sa.le h1 h2)
  by_cases q1 : 1 = b.size
  · rw [if_pos (by simpa using q1)]
    exact wpS_pure (h _ st (Sst.refl _) (m0.done sa (Nat.zero_le _) q1))
  rw [if_neg (by simpa using q1)]
  by_cases q2 : 0 + 1 = a.size
  · rw [if_pos (by simpa using q2)]
    exact wpS_pure (h _ st (Sst.refl _) (m0.last sa sb q2 (by omega) fun i hi => Int.le_of_lt (ll i hi)))
  rw [if_neg (by simpa using q2)]
  refine wpS_bind (wpS_get ?_)
  refine wpS_bind (wpS_mono (wpS_forRange (I := fun x c st' => ∃ out ia ib g,c = (none,out,ia,ib,g) /\ Sst st st' /\ MLo k a b out ia ib /\ ia + 1 < a.size /\ ib < b.size /\ x < ia + ib)
    (Q := fun c st' => ∃ out z,c = (some out,z) /\ Sst st st' /\ MEnd k a b out) ?_ ?_ ⟨_,0,1,_,rfl,Sst.refl _,m0,by omega,by omega,by omega⟩) ?_)
  · rintro x c st' _ hx ⟨out,ia,ib,g,rfl,t,m,b1,b2,b3⟩
    dsimp only
    have hk' : kindOf st' = κ := t.kind.trans hk
    refine wpS_bind (wpS_mono (wpS_forRange (I := fun y c sx => ∃ out ia ib u v,c = (none,out,ia,ib,u,v) /\ sx = st' /\ MLo k a b out ia ib /\ ia + 1 < a.size /\ ib < b.size /\ x < ia + ib)
      (Q := fun c sx => sx = st' /\ ((∃ out z,c = (some out,z) /\ MEnd k a b out) \/ ∃ out ia ib u v,c = (none,out,ia,ib,u,v) /\ MLo k a b out ia ib /\ ia + 1 < a.size /\ ib < b.size /\ x < ia + ib)) ?_ ?_ ⟨_,ia,ib,_,_,rfl,rfl,m,b1,b2,b3⟩) ?_)
    · rintro y c sx _ hy ⟨out,ia,ib,u,v,rfl,rfl,m,b1,b2,b3⟩
      dsimp only
      have hia : ia < a.size := by omega
      refine wpS_bind (wpS_elem b2 (wpS_bind (wpS_elem hia (wpS_bind (wpS_lt C hk' (mb _ (by simp)) (ma _ (by simp)) ?_)))))
      by_cases q : k b[ib] < k a[ia]
      · simp only [q,decide_true,if_true]
        refine wpS_bind (wpS_elem b2 ?_)
        have m' := m.pushB sb b2 fun j h1 h2 => Int.le_trans (by rw [kA_at b2,kA_at hia]; exact Int.le_of_lt q) (sa.le h1 h2)
        by_cases z : ib + 1 = b.size
        · rw [if_pos (by simpa using z)]
          exact wpS_pure ⟨rfl,.inl ⟨_,_,rfl,m'.done sa (by omega) z⟩⟩
        · rw [if_neg (by simpa using z)]
          split
          · exact wpS_pure ⟨rfl,.inr ⟨_,_,_,_,_,rfl,m',b1,by omega,by omega⟩⟩
          · exact wpS_pure ⟨_,_,_,_,_,rfl,rfl,m',b1,by omega,by omega⟩
      · simp only [q,decide_false,Bool.false_eq_true,if_false]
        refine wpS_bind (wpS_elem hia ?_)
        have m' := m.pushA sa hia fun j h1 h2 => Int.le_trans (by rw [kA_at b2,kA_at hia]; omega : kA k a ia <= kA k b ib) (sb.le h1 h2)
        by_cases z : ia + 1 + 1 = a.size
        · rw [if_pos (by simpa using z)]
          exact wpS_pure ⟨rfl,.inl ⟨_,_,rfl,m'.last sa sb z (by omega) fun i hi => Int.le_of_lt (ll i hi)⟩⟩
        · rw [if_neg (by simpa using z)]
          split
          · exact wpS_pure ⟨rfl,.inr ⟨_,_,_,_,_,rfl,m',by omega,b2,by omega⟩⟩
          · exact wpS_pure ⟨_,_,_,_,_,rfl,rfl,m',by omega,b2,by omega⟩
    · rintro c sx ⟨out,ia,ib,u,v,rfl,rfl,m,b1,b2,b3⟩
      exact ⟨rfl,.inr ⟨_,_,_,_,_,rfl,m,b1,b2,b3⟩⟩
    rintro c sx ⟨rfl,⟨out,z,rfl,e⟩ | ⟨out,ia,ib,u,v,rfl,m,b1,b2,b3⟩⟩
    · exact wpS_pure ⟨out,_,rfl,t,e⟩
    dsimp only
    refine wpS_bind (wpS_lift (wpAny_rule ⟨rfl,?_⟩))
    refine wpS_bind (wpS_mono (wpS_forRange (I := fun y c sx => ∃ out ia ib g u v,c = (none,out,ia,ib,g,u,v) /\ Sst st sx /\ MLo k a b out ia ib /\ ia + 1 < a.size /\ ib < b.size /\ x + y < ia + ib)
      (Q := fun c sx => Sst st sx /\ ((∃ out z,c = (some out,z) /\ MEnd k a b out) \/ ∃ out ia ib g u v,c = (none,out,ia,ib,g,u,v) /\ MLo k a b out ia ib /\ ia + 1 < a.size /\ ib < b.size /\ x + 1 < ia + ib)) ?_ ?_ ⟨_,ia,ib,_,_,_,rfl,t,m,b1,b2,by omega⟩) ?_)
    · rintro y c sx _ hy ⟨out,ia,ib,g,u,v,rfl,t,m,b1,b2,b3⟩
      dsimp only
      have hia : ia < a.size := by omega
      have gz : g > 1 \/ ¬ g > 1 := Decidable.em _
      rcases gz with gz | gz
      case' inl => rw [if_pos gz]
      case' inr => rw [if_neg gz]
      all_goals
        refine wpS_bind (wpS_setGal t fun sy t => ?_)
        refine wpS_bind (wpS_elem b2 ?_)
        refine wpS_bind (wpS_gallop C (t.kind.trans hk) (mb _ (by simp)) ma (by omega) (by omega) (fun i j h0 hij hj => sa.le hij (by omega)) fun n1 e1 e2 e3 => ?_)
        have f2 : ∀ i,i < n1 -> kA k a (ia + i) <= kA k b ib := fun i hi => by
          have := e2 i hi
          unfold BeyB at this
          rw [kA_at b2]
          simpa using this
        have f3 : ∀ i,n1 <= i -> i < a.size - ia -> kA k b ib < kA k a (ia + i) := fun i h1 h2 => by
          have := e3 i h1 h2
          unfold BeyB at this
          rw [kA_at b2]
          simpa using this
        have n1l : n1 < a.size - ia := by
          apply Decidable.byContradiction
          intro z
          have x1 := f2 (a.size - 1 - ia) (by omega)
          rw [show ia + (a.size - 1 - ia) = a.size - 1 by omega] at x1
          have := ll ib b2
          omega
        have m1 := m.takeA sa n1 (by omega) fun i hi j h1 h2 => Int.le_trans (f2 i hi) (sb.le h1 h2)
        have f4 : ∀ j,ia + n1 <= j -> j < a.size -> kA k b ib < kA k a j := fun j h1 h2 => by
          have := f3 (j - ia) (by omega) (by omega)
          rwa [show ia + (j - ia) = j by omega] at this
        dsimp only
        clear e2 e3 f2 f3
        have nz : n1 > 0 \/ ¬ n1 > 0 := Decidable.em _
        rcases nz with nz | nz
        case' inl =>
          rw [if_pos nz]
          by_cases z1 : ia + n1 + 1 = a.size
          · rw [if_pos (by simpa using z1)]
            exact wpS_pure ⟨t,.inl ⟨_,_,rfl,m1.last sa sb z1 (by omega) fun i hi => Int.le_of_lt (ll i hi)⟩⟩
          rw [if_neg (by simpa using z1),if_neg (by simp; omega)]
          have z2 : ia + n1 + 1 < a.size := by omega
          have z3 : ia <= ia + n1 := by omega
          generalize out ++ a.extract ia (ia + n1) = out1 at *
          generalize ia + n1 = ja at *
        case' inr =>
          rw [if_neg nz]
          have e0 : n1 = 0 := by omega
          subst e0
          rw [cat_none] at m1
          rw [Nat.add_zero] at m1 f4
          have z2 : ia + 1 < a.size := b1
          have z3 : ia <= ia := Nat.le_refl _
          generalize hq : ia = ja at m1 f4 z2
          rw [hq] at z3
          have z3 : ia <= ja := by omega
          generalize out = out1 at m1
          try rw [hq]
        all_goals
          have hja : ja < a.size := by omega
          refine wpS_bind (wpS_elem b2 ?_)
          have m2 := m1.pushB sb b2 fun j h1 h2 => Int.le_of_lt (f4 j h1 h2)
          by_cases z4 : ib + 1 = b.size
          · rw [if_pos (by simpa using z4)]
            exact wpS_pure ⟨t,.inl ⟨_,_,rfl,m2.done sa (by omega) z4⟩⟩
          rw [if_neg (by simpa using z4)]
          refine wpS_bind (wpS_elem hja ?_)
          refine wpS_bind (wpS_gallop C (t.kind.trans hk) (ma _ (by simp)) mb (by omega) (by omega) (fun i j h0 hij hj => sb.le hij (by omega)) fun n2 e1 e2 e3 => ?_)
          have f2 : ∀ i,i < n2 -> kA k b (ib + 1 + i) < kA k a ja := fun i hi => by
            have := e2 i hi
            unfold BeyB at this
            rw [kA_at hja]
            simpa using this
          have f3 : ∀ i,n2 <= i -> i < b.size - (ib + 1) -> kA k a ja <= kA k b (ib + 1 + i) := fun i h1 h2 => by
            have := e3 i h1 h2
            unfold BeyB at this
            rw [kA_at hja]
            simpa using this
          have m3 := m2.takeB sb n2 (by omega) fun i hi j h1 h2 => Int.le_trans (Int.le_of_lt (f2 i hi)) (sa.le h1 h2)
          have f5 : ∀ j,ib + 1 + n2 <= j -> j < b.size -> kA k a ja <= kA k b j := fun j h1 h2 => by
            have := f3 (j - (ib + 1)) (by omega) (by omega)
            rwa [show ib + 1 + (j - (ib + 1)) = j by omega] at this
          dsimp only
          clear e2 e3 f2 f3
          have nz2 : n2 > 0 \/ ¬ n2 > 0 := Decidable.em _
          rcases nz2 with nz2 | nz2
          case' inl =>
            rw [if_pos nz2]
            by_cases z5 : ib + 1 + n2 = b.size
            · rw [if_pos (by simpa using z5)]
              exact wpS_pure ⟨t,.inl ⟨_,_,rfl,m3.done sa (by omega) z5⟩⟩
            rw [if_neg (by simpa using z5)]
            have z6 : ib + 1 + n2 < b.size := by omega
            have z7 : x + y < ia + (ib + 1 + n2) := by omega
          case' inr =>
            rw [if_neg nz2]
            have e0 : n2 = 0 := by omega
            subst e0
            rw [cat_none] at m3
            have z6 : ib + 1 < b.size := by omega
            have z7 : x + y < ia + (ib + 1) := by omega
          all_goals
            refine wpS_bind (wpS_elem hja ?_)
            have m4 := m3.pushA sa hja f5
            by_cases z8 : ja + 1 + 1 = a.size
            · rw [if_pos (by simpa using z8)]
              exact wpS_pure ⟨t,.inl ⟨_,_,rfl,m4.last sa sb z8 (by omega) fun i hi => Int.le_of_lt (ll i hi)⟩⟩
            rw [if_neg (by simpa using z8)]
            split
            · exact wpS_pure ⟨t,.inr ⟨_,_,_,_,_,_,rfl,m4,by omega,by omega,by omega⟩⟩
            · exact wpS_pure ⟨_,_,_,_,_,_,rfl,t,m4,by omega,by omega,by omega⟩
    · rintro c sx ⟨out,ia,ib,g,u,v,rfl,t,m,b1,b2,b3⟩
      exact ⟨t,.inr ⟨_,_,_,_,_,_,rfl,m,b1,b2,by omega⟩⟩
    rintro c sx ⟨t,⟨out,z,rfl,e⟩ | ⟨out,ia,ib,g,u,v,rfl,m,b1,b2,b3⟩⟩
    · exact wpS_pure ⟨out,_,rfl,t,e⟩
    dsimp only
    refine wpS_bind (wpS_setGal t fun sy t => wpS_pure ⟨_,ia,ib,_,rfl,t,m,b1,b2,b3⟩)
  · rintro c st' ⟨out,ia,ib,g,rfl,t,m,b1,b2,b3⟩
    omega
  rintro c st' ⟨out,z,rfl,t,e⟩
  exact wpS_pure (h out st' t e)
end
end L2
set_option Elab.async false
set_option linter.all false
set_option maxRecDepth 100000
set_option maxHeartbeats 4000000
namespace L2
open PySem PySem.Spec PyProof.Rows
def mergeTop' : Array Keyed -> Array Keyed -> StateT SortSt Sem (Array Keyed) := sortPriv% PySem.Builtin.mergeHi
local macro_rules | `(tactic| walk_at "un mergeHi") => do let n := Lean.mkIdent (Lean.mkPrivateNameCore `PySem.Builtin.List.W1All `PySem.Builtin.mergeHi); `(tactic| unfold $n)
structure MHi (k : Keyed -> Int)(a b out : Array Keyed)(na nb : Nat) : Prop where
  srt : ∀ i j,i <= j -> j < out.size -> kA k out j <= kA k out i
  la : ∀ i j,i < out.size -> j < na -> kA k a j <= kA k out i
  lb : ∀ i j,i < out.size -> j < nb -> kA k b j <= kA k out i
  pm : (a.toList.take na ++ b.toList.take nb ++ out.toList.reverse).Perm (a.toList ++ b.toList)
  sz : out.size + na + nb = a.size + b.size
section
variable {k : Keyed -> Int}{a b out : Array Keyed}{na nb : Nat}
theorem fall_push {xs : Array Keyed}{p : Keyed}(h : ∀ i j,i <= j -> j < xs.size -> kA k xs j <= kA k xs i)(l : ∀ i,i < xs.size -> k p <= kA k xs i) : ∀ i j,i <= j -> j < (xs.push p).size -> kA k (xs.push p) j <= kA k (xs.push p) i := fun i j hij hj => by
  rw [Array.size_push] at hj
  rw [kA_push,kA_push]
  by_cases ei : i = xs.size
  · rw [if_pos ei,if_pos (by omega)]; exact Int.le_refl _
  · rw [if_neg ei]
    by_cases ej : j = xs.size
    · rw [if_pos ej]; exact l i (by omega)
    · rw [if_neg ej]; exact h i j hij (by omega)
theorem take_at {xs : Array Keyed}{i : Nat}(h : i < xs.size) : xs.toList.take (i + 1) = xs.toList.take i ++ [xs[i]] := by
  rw [List.take_succ,List.getElem?_eq_getElem (by simpa using h)]
  simp
theorem MHi.pushA (h : MHi k a b out (na + 1) nb)(sa : SrtA k a)(hi : na < a.size)(l : ∀ j,j < nb -> kA k b j <= kA k a na) : MHi k a b (out.push a[na]) na nb := by
  refine ⟨fall_push h.srt fun i hi' => by rw [<- kA_at (k := k) hi]; exact h.la i na hi' (by omega),fun i j h1 h2 => ?_,fun i j h1 h2 => ?_,?_,by rw [Array.size_push]; have := h.sz; omega⟩
  · rw [Array.size_push] at h1
    rw [kA_push]
    split
    · rw [<- kA_at (k := k) hi]; exact sa.le (by omega) hi
    · exact h.la i j (by omega) (by omega)
  · rw [Array.size_push] at h1
    rw [kA_push]
    split
    · rw [<- kA_at (k := k) hi]; exact l j h2
    · exact h.lb i j (by omega) h2
  · have p := h.pm
    rw [take_at hi] at p
    refine List.Perm.trans ?_ p
    rw [Array.toList_push,List.reverse_append,List.append_assoc,List.append_assoc,List.append_assoc]
    refine List.Perm.append_left _ ?_
    exact (List.perm_middle (a := a[na]) (l₁ := b.toList.take nb) (l₂ := out.toList.reverse))
theorem MHi.pushB (h : MHi k a b out na (nb + 1))(sb : SrtA k b)(hi : nb < b.size)(l : ∀ j,j < na -> kA k a j <= kA k b nb) : MHi k a b (out.push b[nb]) na nb := by
  refine ⟨fall_push h.srt fun i hi' => by rw [<- kA_at (k := k) hi]; exact h.lb i nb hi' (by omega),fun i j h1 h2 => ?_,fun i j h1 h2 => ?_,?_,by rw [Array.size_push]; have := h.sz; omega⟩
  · rw [Array.size_push] at h1
    rw [kA_push]
    split
    · rw [<- kA_at (k := k) hi]; exact l j h2
    · exact h.la i j (by omega) h2
  · rw [Array.size_push] at h1
    rw [kA_push]
    split
    · rw [<- kA_at (k := k) hi]; exact sb.le (by omega) hi
    · exact h.lb i j (by omega) (by omega)
  · have p := h.pm
    rw [take_at hi] at p
    refine List.Perm.trans ?_ p
    rw [Array.toList_push,List.reverse_append,List.append_assoc,List.append_assoc,List.append_assoc]
    exact List.Perm.refl _
theorem rev_more {xs ys : Array Keyed}{i j : Nat}(h : i < j)(hj : j <= ys.size) : xs ++ (ys.extract i j).reverse = (xs ++ (ys.extract (i + 1) j).reverse).push ys[i] := by
  apply Array.ext'
  simp only [Array.toList_append,Array.toList_reverse,Array.toList_extract,Array.toList_push,List.append_assoc]
  congr 1
  rw [List.extract_eq_take_drop,List.extract_eq_take_drop,List.drop_eq_getElem_cons (by simp; omega),show j - i = (j - (i + 1)) + 1 by omega,List.take_succ_cons,List.reverse_cons]
  simp
theorem rev_none {xs ys : Array Keyed}{i : Nat} : xs ++ (ys.extract i i).reverse = xs := by
  have : ys.extract i i = #[] := by
    apply Array.ext'
    simp
  rw [this]
  simp
theorem MHi.takeA (h : MHi k a b out na nb)(sa : SrtA k a)(ha : na <= a.size) : ∀ m t,t + m = na -> (∀ i,t <= i -> i < na -> ∀ j,j < nb -> kA k b j <= kA k a i) -> MHi k a b (out ++ (a.extract t na).reverse) t nb
  | 0,t,e,_ => by rw [show t = na by omega,rev_none]; exact h
  | m + 1,t,e,l => by
    rw [rev_more (by omega) ha]
    exact (MHi.takeA h sa ha m (t + 1) (by omega) fun i h1 h2 => l i (by omega) h2).pushA sa (by omega) (l t (Nat.le_refl _) (by omega))
theorem MHi.takeB (h : MHi k a b out na nb)(sb : SrtA k b)(hb : nb <= b.size) : ∀ m t,t + m = nb -> (∀ i,t <= i -> i < nb -> ∀ j,j < na -> kA k a j <= kA k b i) -> MHi k a b (out ++ (b.extract t nb).reverse) na t
  | 0,t,e,_ => by rw [show t = nb by omega,rev_none]; exact h
  | m + 1,t,e,l => by
    rw [rev_more (by omega) hb]
    exact (MHi.takeB h sb hb m (t + 1) (by omega) fun i h1 h2 => l i (by omega) h2).pushB sb (by omega) (l t (Nat.le_refl _) (by omega))
theorem kA_rev {xs : Array Keyed}{i : Nat}(h : i < xs.size) : kA k xs.reverse i = kA k xs (xs.size - 1 - i) := by
  apply kA_congr
  rw [Array.getElem?_reverse h]
theorem MHi.fin (h : MHi k a b out 0 0) : MEnd k a b out.reverse := ⟨fun i j _ hij hj => by
  rw [Array.size_reverse] at hj
  rw [kA_rev (by omega),kA_rev (by omega)]
  exact h.srt _ _ (by omega) (by omega),by
  have p := h.pm
  rw [List.take_zero,List.take_zero,List.nil_append,List.nil_append] at p
  rw [Array.toList_reverse]
  exact p⟩
theorem ext0 {xs : Array Keyed} : xs.extract 0 0 = #[] := by
  apply Array.ext'
  simp
theorem rev_cat {xs ys : Array Keyed}{n : Nat} : (xs ++ (ys.extract 0 n).reverse).reverse = ys.extract 0 n ++ xs.reverse := by
  rw [Array.reverse_append,Array.reverse_reverse]
theorem MHi.done (h : MHi k a b out na nb)(sa : SrtA k a)(sb : SrtA k b)(ha : na <= a.size)(hb : nb <= b.size)(z : na = 0 \/ nb = 0) : MEnd k a b (a.extract 0 na ++ b.extract 0 nb ++ out.reverse) := by
  rcases z with rfl | rfl
  · have t := (h.takeB sb hb nb 0 (by omega) fun i _ _ j hj => by omega).fin
    rw [rev_cat] at t
    rw [ext0,Array.empty_append]
    exact t
  · have t := (h.takeA sa ha na 0 (by omega) fun i _ _ j hj => by omega).fin
    rw [rev_cat] at t
    rw [ext0,Array.append_empty]
    exact t
theorem MHi.last (h : MHi k a b out na nb)(sa : SrtA k a)(sb : SrtA k b)(ha : na <= a.size)(z : nb = 1)(hb : 0 < b.size)(l : ∀ i,i < a.size -> kA k b 0 <= kA k a i) : MEnd k a b (b.extract 0 nb ++ a.extract 0 na ++ out.reverse) := by
  subst z
  have t := ((h.takeA sa ha na 0 (by omega) fun i _ h2 j hj => by rw [show j = 0 by omega]; exact l i (by omega)).takeB sb (by omega) 1 0 (by omega) fun i _ _ j hj => by omega).fin
  rw [rev_cat,rev_cat,<- Array.append_assoc] at t
  exact t
end
section
variable {prog : Program}{w : World}{A : Around}{E : Value -> Shared -> Prop}{s : Shared}{κ : SortKind}{a₀ : Array Keyed}{k : Keyed -> Int}
theorem wpS_mergeTop {a b : Array Keyed}{st : SortSt}{Q : Array Keyed -> SortSt -> Prop}(C : Cmp prog w A s κ a₀ k)(hk : kindOf st = κ)(ma : ∀ p ∈ a.toList,p ∈ a₀.toList)(mb : ∀ p ∈ b.toList,p ∈ a₀.toList)(sa : SrtA k a)(sb : SrtA k b)(pa : 0 < a.size)(pb : 0 < b.size)
    (l0 : kA k b 0 <= kA k a 0) (ll : ∀ i,i < b.size -> kA k b i <= kA k a (a.size - 1)) (h : ∀ out st',Sst st st' -> MEnd k a b out -> Q out st') : wpS (model prog w) A E s (mergeTop' a b) Q st := by
  have first : ∀ i,i < a.size -> kA k b 0 <= kA k a i := fun i hi => Int.le_trans l0 (sa.le (Nat.zero_le _) hi)
  unfold mergeTop'
  walk_at "un mergeHi"
  dsimp only
  refine wpS_bind (wpS_lift (wpAny_rule ⟨rfl,?_⟩))
  have hl : a.size - 1 < a.size := by omega
  refine wpS_bind (wpS_elem hl ?_)
  have m0 : MHi k a b #[a[a.size - 1]] (a.size - 1) b.size := by
    have e : MHi k a b #[] (a.size - 1 + 1) b.size := ⟨fun i j _ h => by simp at h,fun i j h => by simp at h,fun i j h => by simp at h,by
      rw [show a.size - 1 + 1 = a.size by omega,List.take_of_length_le (by simp),List.take_of_length_le (by simp)]
      simp,by simp; omega⟩
    exact e.pushA sa hl fun j hj => ll j hj
  by_cases q1 : a.size - 1 = 0
  · rw [if_pos (by simpa using q1)]
    exact wpS_pure (h _ st (Sst.refl _) (m0.done sa sb (by omega) (Nat.le_refl _) (.inl q1)))
  rw [if_neg (by simpa using q1)]
  by_cases q2 : b.size = 1
  · rw [if_pos (by simpa using q2)]
    exact wpS_pure (h _ st (Sst.refl _) (m0.last sa sb (by omega) q2 pb first))
  rw [if_neg (by simpa using q2)]
  refine wpS_bind (wpS_get ?_)
  refine wpS_bind (wpS_mono (wpS_forRange (I := fun x c st' => ∃ na nb out g,c = (none,na,nb,out,g) /\ Sst st st' /\ MHi k a b out na nb /\ 0 < na /\ na < a.size /\ 1 < nb /\ nb <= b.size /\ x + na + nb < a.size + b.size)
    (Q := fun c st' => ∃ out z,c = (some out,z) /\ Sst st st' /\ MEnd k a b out) ?_ ?_ ⟨a.size - 1,b.size,_,_,rfl,Sst.refl _,m0,by omega,hl,by omega,Nat.le_refl _,by omega⟩) ?_)
  · rintro x c st' _ hx ⟨na,nb,out,g,rfl,t,m,b1,b2,b3,b4,b5⟩
    dsimp only
    have hk' : kindOf st' = κ := t.kind.trans hk
    refine wpS_bind (wpS_mono (wpS_forRange (I := fun y c sx => ∃ na nb out u v,c = (none,na,nb,out,u,v) /\ sx = st' /\ MHi k a b out na nb /\ 0 < na /\ na < a.size /\ 1 < nb /\ nb <= b.size /\ x + na + nb < a.size + b.size)
      (Q := fun c sx => sx = st' /\ ((∃ out z,c = (some out,z) /\ MEnd k a b out) \/ ∃ na nb out u v,c = (none,na,nb,out,u,v) /\ MHi k a b out na nb /\ 0 < na /\ na < a.size /\ 1 < nb /\ nb <= b.size /\ x + na + nb < a.size + b.size)) ?_ ?_ ⟨na,nb,_,_,_,rfl,rfl,m,b1,b2,b3,b4,b5⟩) ?_)
    · rintro y c sx _ hy ⟨na,nb,out,u,v,rfl,rfl,m,b1,b2,b3,b4,b5⟩
      dsimp only
      have hia : na - 1 < a.size := by omega
      have hib : nb - 1 < b.size := by omega
      refine wpS_bind (wpS_elem hib (wpS_bind (wpS_elem hia (wpS_bind (wpS_lt C hk' (mb _ (by simp)) (ma _ (by simp)) ?_)))))
      by_cases q : k b[nb - 1] < k a[na - 1]
      · simp only [q,decide_true,if_true]
        refine wpS_bind (wpS_elem hia ?_)
        have m' := MHi.pushA (na := na - 1) (by rw [show na - 1 + 1 = na by omega]; exact m) sa hia fun j hj => Int.le_trans (sb.le (show j <= nb - 1 by omega) hib) (by rw [kA_at hib,kA_at hia]; exact Int.le_of_lt q)
        by_cases z : na - 1 = 0
        · rw [if_pos (by simpa using z)]
          exact wpS_pure ⟨rfl,.inl ⟨_,_,rfl,m'.done sa sb (by omega) b4 (.inl z)⟩⟩
        · rw [if_neg (by simpa using z)]
          split
          · exact wpS_pure ⟨rfl,.inr ⟨_,_,_,_,_,rfl,m',by omega,by omega,b3,b4,by omega⟩⟩
          · exact wpS_pure ⟨_,_,_,_,_,rfl,rfl,m',by omega,by omega,b3,b4,by omega⟩
      · simp only [q,decide_false,Bool.false_eq_true,if_false]
        refine wpS_bind (wpS_elem hib ?_)
        have m' := MHi.pushB (nb := nb - 1) (by rw [show nb - 1 + 1 = nb by omega]; exact m) sb hib fun j hj => Int.le_trans (sa.le (show j <= na - 1 by omega) hia) (by rw [kA_at hib,kA_at hia]; omega)
        by_cases z : nb - 1 = 1
        · rw [if_pos (by simpa using z)]
          exact wpS_pure ⟨rfl,.inl ⟨_,_,rfl,m'.last sa sb (by omega) z pb first⟩⟩
        · rw [if_neg (by simpa using z)]
          split
          · exact wpS_pure ⟨rfl,.inr ⟨_,_,_,_,_,rfl,m',b1,b2,by omega,by omega,by omega⟩⟩
          · exact wpS_pure ⟨_,_,_,_,_,rfl,rfl,m',b1,b2,by omega,by omega,by omega⟩
    · rintro c sx ⟨na,nb,out,u,v,rfl,rfl,m,b1,b2,b3,b4,b5⟩
      exact ⟨rfl,.inr ⟨_,_,_,_,_,rfl,m,b1,b2,b3,b4,b5⟩⟩
    rintro c sx ⟨rfl,⟨out,z,rfl,e⟩ | ⟨na,nb,out,u,v,rfl,m,b1,b2,b3,b4,b5⟩⟩
    · exact wpS_pure ⟨out,_,rfl,t,e⟩
    dsimp only
    refine wpS_bind (wpS_lift (wpAny_rule ⟨rfl,?_⟩))
    refine wpS_bind (wpS_mono (wpS_forRange (I := fun y c sx => ∃ na nb out g u v,c = (none,na,nb,out,g,u,v) /\ Sst st sx /\ MHi k a b out na nb /\ 0 < na /\ na < a.size /\ 1 < nb /\ nb <= b.size /\ x + y + na + nb < a.size + b.size)
      (Q := fun c sx => Sst st sx /\ ((∃ out z,c = (some out,z) /\ MEnd k a b out) \/ ∃ na nb out g u v,c = (none,na,nb,out,g,u,v) /\ MHi k a b out na nb /\ 0 < na /\ na < a.size /\ 1 < nb /\ nb <= b.size /\ x + 1 + na + nb < a.size + b.size)) ?_ ?_ ⟨na,nb,_,_,_,_,rfl,t,m,b1,b2,b3,b4,by omega⟩) ?_)
    · rintro y c sx _ hy ⟨na,nb,out,g,u,v,rfl,t,m,b1,b2,b3,b4,b5⟩
      dsimp only
      have hib : nb - 1 < b.size := by omega
      have gz : g > 1 \/ ¬ g > 1 := Decidable.em _
      rcases gz with gz | gz
      case' inl => rw [if_pos gz]
      case' inr => rw [if_neg gz]
      all_goals
        refine wpS_bind (wpS_setGal t fun sy t => ?_)
        refine wpS_bind (wpS_elem hib ?_)
        refine wpS_bind (wpS_gallop C (t.kind.trans hk) (mb _ (by simp)) ma (by omega) (by omega) (fun i j h0 hij hj => sa.le hij (by omega)) fun n1 e1 e2 e3 => ?_)
        have f2 : ∀ i,i < n1 -> kA k a i <= kA k b (nb - 1) := fun i hi => by
          have := e2 i hi
          unfold BeyB at this
          rw [kA_at hib]
          simpa using this
        have f3 : ∀ i,n1 <= i -> i < na -> kA k b (nb - 1) < kA k a i := fun i h1 h2 => by
          have := e3 i h1 h2
          unfold BeyB at this
          rw [kA_at hib]
          simpa using this
        have m1 := m.takeA sa (by omega) (na - n1) n1 (by omega) fun i h1 h2 j hj => Int.le_trans (sb.le (show j <= nb - 1 by omega) hib) (Int.le_of_lt (f3 i h1 h2))
        dsimp only
        clear e2 e3 f3
        have nz : na - n1 > 0 \/ ¬ na - n1 > 0 := Decidable.em _
        rcases nz with nz | nz
        case' inl =>
          rw [if_pos nz]
          by_cases z1 : n1 = 0
          · rw [if_pos (by simpa using z1)]
            exact wpS_pure ⟨t,.inl ⟨_,_,rfl,m1.done sa sb (by omega) b4 (.inl z1)⟩⟩
          rw [if_neg (by simpa using z1)]
          have z2 : 0 < n1 /\ n1 < a.size /\ n1 <= na := by omega
          generalize out ++ (a.extract n1 na).reverse = out1 at *
        case' inr =>
          rw [if_neg nz]
          have e0 : n1 = na := by omega
          subst e0
          rw [rev_none] at m1
          have z2 : 0 < n1 /\ n1 < a.size /\ n1 <= n1 := by omega
          generalize out = out1 at *
        all_goals
          have hja : n1 - 1 < a.size := by omega
          refine wpS_bind (wpS_elem hib ?_)
          have m2 := MHi.pushB (nb := nb - 1) (by rw [show nb - 1 + 1 = nb by omega]; exact m1) sb hib fun j hj => f2 j hj
          by_cases z4 : nb - 1 = 1
          · rw [if_pos (by simpa using z4)]
            exact wpS_pure ⟨t,.inl ⟨_,_,rfl,m2.last sa sb (by omega) z4 pb first⟩⟩
          rw [if_neg (by simpa using z4)]
          refine wpS_bind (wpS_elem hja ?_)
          refine wpS_bind (wpS_gallop C (t.kind.trans hk) (ma _ (by simp)) mb (by omega) (by omega) (fun i j h0 hij hj => sb.le hij (by omega)) fun n2 e1 e2 e3 => ?_)
          have f2 : ∀ i,i < n2 -> kA k b i < kA k a (n1 - 1) := fun i hi => by
            have := e2 i hi
            unfold BeyB at this
            rw [kA_at hja]
            simpa using this
          have f3 : ∀ i,n2 <= i -> i < nb - 1 -> kA k a (n1 - 1) <= kA k b i := fun i h1 h2 => by
            have := e3 i h1 h2
            unfold BeyB at this
            rw [kA_at hja]
            simpa using this
          have m3 := m2.takeB sb (by omega) (nb - 1 - n2) n2 (by omega) fun i h1 h2 j hj => Int.le_trans (sa.le (show j <= n1 - 1 by omega) hja) (f3 i h1 h2)
          dsimp only
          clear e2 e3 f3
          have nz2 : nb - 1 - n2 > 0 \/ ¬ nb - 1 - n2 > 0 := Decidable.em _
          rcases nz2 with nz2 | nz2
          case' inl =>
            rw [if_pos nz2]
            by_cases z5 : n2 = 1
            · rw [if_pos (by simpa using z5)]
              exact wpS_pure ⟨t,.inl ⟨_,_,rfl,m3.last sa sb (by omega) z5 pb first⟩⟩
            rw [if_neg (by simpa using z5)]
            by_cases z6 : n2 = 0
            · rw [if_pos (by simpa using z6)]
              exact wpS_pure ⟨t,.inl ⟨_,_,rfl,m3.done sa sb (by omega) (by omega) (.inr z6)⟩⟩
            rw [if_neg (by simpa using z6)]
            have z7 : 1 < n2 /\ n2 <= nb - 1 := by omega
          case' inr =>
            rw [if_neg nz2]
            have e0 : n2 = nb - 1 := by omega
            subst e0
            rw [rev_none] at m3
            have z7 : 1 < nb - 1 /\ nb - 1 <= nb - 1 := by omega
          all_goals
            refine wpS_bind (wpS_elem hja ?_)
            have m4 := MHi.pushA (na := n1 - 1) (by rw [show n1 - 1 + 1 = n1 by omega]; exact m3) sa hja fun j hj => Int.le_of_lt (f2 j hj)
            by_cases z8 : n1 - 1 = 0
            · rw [if_pos (by simpa using z8)]
              exact wpS_pure ⟨t,.inl ⟨_,_,rfl,m4.done sa sb (by omega) (by omega) (.inl z8)⟩⟩
            rw [if_neg (by simpa using z8)]
            split
            · exact wpS_pure ⟨t,.inr ⟨_,_,_,_,_,_,rfl,m4,by omega,by omega,by omega,by omega,by omega⟩⟩
            · exact wpS_pure ⟨_,_,_,_,_,_,rfl,t,m4,by omega,by omega,by omega,by omega,by omega⟩
    · rintro c sx ⟨na,nb,out,g,u,v,rfl,t,m,b1,b2,b3,b4,b5⟩
      exact ⟨t,.inr ⟨_,_,_,_,_,_,rfl,m,b1,b2,b3,b4,by omega⟩⟩
    rintro c sx ⟨t,⟨out,z,rfl,e⟩ | ⟨na,nb,out,g,u,v,rfl,m,b1,b2,b3,b4,b5⟩⟩
    · exact wpS_pure ⟨out,_,rfl,t,e⟩
    dsimp only
    refine wpS_bind (wpS_setGal t fun sy t => wpS_pure ⟨na,nb,_,_,rfl,t,m,b1,b2,b3,b4,b5⟩)
  · rintro c st' ⟨na,nb,out,g,rfl,t,m,b1,b2,b3,b4,b5⟩
    omega
  rintro c st' ⟨out,z,rfl,t,e⟩
  exact wpS_pure (h out st' t e)
end
end L2
set_option Elab.async false
set_option linter.all false
set_option maxRecDepth 100000
set_option maxHeartbeats 4000000
namespace L2
open PySem PySem.Spec PyProof.Rows
local macro_rules | `(tactic| walk_at "un mergeAt") => do let n := Lean.mkIdent (Lean.mkPrivateNameCore `PySem.Builtin.List.W1All `PySem.Builtin.mergeAt); `(tactic| unfold $n)
section
variable {k : Keyed -> Int}
theorem kA_extract {xs : Array Keyed}{l r i : Nat}(h : i < r - l)(hr : r <= xs.size) : kA k (xs.extract l r) i = kA k xs (l + i) := by
  apply kA_congr
  rw [Array.getElem?_extract,if_pos (by omega)]
theorem putAll_get (sa : Nat) : ∀ (l : List Keyed) (n : Nat) (xs : Array Keyed),sa + n + l.length <= xs.size -> ∀ i : Nat,
    ((l.zipIdx n).foldl (fun a x => match x with | (p,j) => a.setIfInBounds (sa + j) p) xs)[i]? = if sa + n <= i /\ i < sa + n + l.length then l[i - (sa + n)]? else xs[i]?
  | [],n,xs,_,i => by
    rw [if_neg (fun z => by have : ([] : List Keyed).length = 0 := rfl; omega)]
    rfl
  | p :: l,n,xs,h,i => by
    rw [List.zipIdx_cons,List.foldl_cons]
    have ih := putAll_get sa l (n + 1) (xs.setIfInBounds (sa + n) p) (by rw [Array.size_setIfInBounds]; simp at h; omega) i
    rw [ih]
    have hl : (p :: l).length = l.length + 1 := rfl
    rw [hl] at h ⊢
    by_cases c1 : sa + (n + 1) <= i /\ i < sa + (n + 1) + l.length
    · rw [if_pos c1,if_pos (by omega),show i - (sa + n) = i - (sa + (n + 1)) + 1 by omega,List.getElem?_cons_succ]
    · rw [if_neg c1]
      by_cases c2 : i = sa + n
      · subst c2
        rw [if_pos (by omega),Nat.sub_self,List.getElem?_cons_zero,Array.getElem?_setIfInBounds,if_pos rfl,if_pos (by omega)]
      · rw [if_neg (by omega),Array.getElem?_setIfInBounds,if_neg (by omega)]
theorem putAll_list {sa : Nat}{l : List Keyed}{xs ys : Array Keyed}(h : sa + l.length <= xs.size)(e : ∀ i,ys[i]? = if sa <= i /\ i < sa + l.length then l[i - sa]? else xs[i]?) : ys.toList = xs.toList.take sa ++ l ++ xs.toList.drop (sa + l.length) := by
  apply List.ext_getElem?
  intro i
  rw [Array.getElem?_toList,e i,List.append_assoc]
  have ts : (xs.toList.take sa).length = sa := by rw [List.length_take,Array.length_toList]; omega
  by_cases c1 : i < sa
  · rw [if_neg (by omega),List.getElem?_append_left (by omega),List.getElem?_take,if_pos c1,Array.getElem?_toList]
  · rw [List.getElem?_append_right (by omega),ts]
    by_cases c2 : i < sa + l.length
    · rw [if_pos (by omega),List.getElem?_append_left (by omega)]
    · rw [if_neg (by omega),List.getElem?_append_right (by omega),List.getElem?_drop,show sa + l.length + (i - sa - l.length) = i by omega,Array.getElem?_toList]
theorem MEnd.size {x y out : Array Keyed}(h : MEnd k x y out) : out.size = x.size + y.size := by
  have := h.pm.length_eq
  simpa using this
theorem MEnd.all {x y out : Array Keyed}(h : MEnd k x y out){P : Int -> Prop}(hx : ∀ i,i < x.size -> P (kA k x i))(hy : ∀ i,i < y.size -> P (kA k y i)) : ∀ i,i < out.size -> P (kA k out i) := fun i hi => by
  have m : out[i] ∈ x.toList ++ y.toList := h.pm.mem_iff.mp (by simp)
  rw [kA_at hi]
  rcases List.mem_append.mp m with m | m
  · obtain ⟨j,hj,e⟩ := List.mem_iff_getElem.mp m
    have hj' : j < x.size := by simpa using hj
    have := hx j hj'
    rw [kA_at hj'] at this
    rw [<- e]; simpa using this
  · obtain ⟨j,hj,e⟩ := List.mem_iff_getElem.mp m
    have hj' : j < y.size := by simpa using hj
    have := hy j hj'
    rw [kA_at hj'] at this
    rw [<- e]; simpa using this
theorem merged_ok {xs ys x y out : Array Keyed}{sa n1 nb : Nat}(ex : x = xs.extract sa n1)(ey : y = xs.extract n1 (n1 + nb))(h1 : sa <= n1)(h2 : n1 + nb <= xs.size)(m : MEnd k x y out)(s1 : SrtR k xs 0 n1)(s2 : SrtR k xs n1 (xs.size - n1))
    (lo : ∀ i j,i < sa -> n1 <= j -> j < xs.size -> kA k xs i <= kA k xs j) (hi : ∀ i j,i < n1 -> n1 + nb <= j -> j < xs.size -> kA k xs i <= kA k xs j)
    (e : ∀ i : Nat,ys[i]? = if sa <= i /\ i < sa + out.toList.length then out.toList[i - sa]? else xs[i]?) : ys.Perm xs /\ SrtA k ys := by
  have zx : x.size = n1 - sa := by rw [ex,Array.size_extract]; omega
  have zy : y.size = nb := by rw [ey,Array.size_extract]; omega
  have zo : out.size = (n1 - sa) + nb := by rw [m.size,zx,zy]
  have zl : out.toList.length = out.size := by simp
  have tl := putAll_list (by omega) e
  have zz : ys.size = xs.size := by
    have := congrArg List.length tl
    simp at this
    omega
  refine ⟨?_,fun i j _ hij hj => ?_⟩
  · rw [Array.perm_iff_toList_perm,tl]
    have e1 : xs.toList = xs.toList.take sa ++ (x.toList ++ y.toList) ++ xs.toList.drop (sa + out.toList.length) := by
      apply List.ext_getElem?
      intro i
      rw [List.append_assoc,ex,ey,Array.toList_extract,Array.toList_extract,List.extract_eq_take_drop,List.extract_eq_take_drop]
      have ts : (xs.toList.take sa).length = sa := by rw [List.length_take,Array.length_toList]; omega
      have t1 : ((xs.toList.drop sa).take (n1 - sa)).length = n1 - sa := by rw [List.length_take,List.length_drop,Array.length_toList]; omega
      have t2 : ((xs.toList.drop n1).take (n1 + nb - n1)).length = nb := by rw [List.length_take,List.length_drop,Array.length_toList]; omega
      by_cases c1 : i < sa
      · rw [List.getElem?_append_left (by omega),List.getElem?_take,if_pos c1]
      · rw [List.getElem?_append_right (by omega),ts]
        by_cases c2 : i < n1
        · rw [List.append_assoc,List.getElem?_append_left (by omega),List.getElem?_take,if_pos (by omega),List.getElem?_drop,show sa + (i - sa) = i by omega]
        · rw [List.append_assoc,List.getElem?_append_right (by omega),t1]
          by_cases c3 : i < n1 + nb
          · rw [List.getElem?_append_left (by omega),List.getElem?_take,if_pos (by omega),List.getElem?_drop,show n1 + (i - sa - (n1 - sa)) = i by omega]
          · rw [List.getElem?_append_right (by omega),t2,List.getElem?_drop,show sa + out.toList.length + (i - sa - (n1 - sa) - nb) = i by omega]
    rw [List.append_assoc]
    conv => rhs; rw [e1,List.append_assoc]
    exact List.Perm.append_left _ (List.Perm.append_right _ m.pm)
  · have at_ : ∀ q,q < xs.size -> kA k ys q = if sa <= q /\ q < n1 + nb then kA k out (q - sa) else kA k xs q := fun q hq => by
      by_cases c : sa <= q /\ q < n1 + nb
      · rw [if_pos c]
        refine kA_congr ?_
        rw [e q,if_pos (by omega),Array.getElem?_toList]
      · rw [if_neg c]
        refine kA_congr ?_
        rw [e q,if_neg (by omega)]
    have xa : ∀ q,q < x.size -> kA k x q = kA k xs (sa + q) := fun q hq => by rw [ex]; exact kA_extract (by omega) (by omega)
    have ya : ∀ q,q < y.size -> kA k y q = kA k xs (n1 + q) := fun q hq => by rw [ey]; exact kA_extract (by omega) (by omega)
    rw [at_ i (by omega),at_ j (by omega)]
    by_cases c1 : sa <= i /\ i < n1 + nb
    · rw [if_pos c1]
      by_cases c2 : sa <= j /\ j < n1 + nb
      · rw [if_pos c2]; exact m.srt.le (by omega) (by omega)
      · rw [if_neg c2]
        exact m.all (P := fun v => v <= kA k xs j) (fun q hq => by rw [xa q hq]; exact hi _ _ (by omega) (by omega) (by omega)) (fun q hq => by rw [ya q hq]; exact s2 _ _ (by omega) (by omega) (by omega)) _ (by omega)
    · rw [if_neg c1]
      by_cases c2 : sa <= j /\ j < n1 + nb
      · rw [if_pos c2]
        exact m.all (P := fun v => kA k xs i <= v) (fun q hq => by rw [xa q hq]; exact s1 _ _ (by omega) (by omega) (by omega)) (fun q hq => by rw [ya q hq]; exact lo _ _ (by omega) (by omega) (by omega)) _ (by omega)
      · rw [if_neg c2]
        by_cases c3 : j < n1
        · exact s1 _ _ (by omega) hij (by omega)
        · by_cases c4 : i < n1
          · exact lo _ _ (by omega) (by omega) (by omega)
          · exact s2 _ _ (by omega) hij (by omega)
end
section
variable {prog : Program}{w : World}{A : Around}{E : Value -> Shared -> Prop}{s : Shared}{κ : SortKind}{a₀ : Array Keyed}{k : Keyed -> Int}
theorem wpS_set {M : Model}{σ : Type}{st st' : σ}{Q : PUnit -> σ -> Prop}(h : Q ⟨⟩ st') : wpS M A E s (set st' : StateT σ Sem PUnit) Q st := by
  unfold wpS; rw [StateT.run_set]; exact wpAny_pure ⟨rfl,h⟩
theorem wpS_joined {st : SortSt}{n1 n2 p q : Nat}{Q : Bool -> SortSt -> Prop}(C : Cmp prog w A s κ a₀ k)(hB : TB κ a₀ st)(hp : pendingOf st = #[(0,n1,p),(n1,n2,q)])(hz : n1 + n2 = a₀.size)(h1 : 0 < n1)(h2 : 0 < n2)(s1 : SrtR k (arrOf st) 0 n1)(s2 : SrtR k (arrOf st) n1 n2)
    (h : ∀ st',TB κ a₀ st' -> SrtA k (arrOf st') -> (pendingOf st').size <= 1 -> Q true st') : wpS (model prog w) A E s (mergeAt' 0) Q st := by
  have zz : (arrOf st).size = n1 + n2 := by rw [hB.size,hz]
  have whole : (∀ i j,i < n1 -> n1 <= j -> j < n1 + n2 -> kA k (arrOf st) i <= kA k (arrOf st) j) -> SrtA k (arrOf st) := fun l i j _ hij hj => by
    by_cases c1 : j < n1
    · exact s1 i j (Nat.zero_le _) hij (by omega)
    · by_cases c2 : i < n1
      · exact l i j c2 (by omega) (by omega)
      · exact s2 i j (by omega) hij (by omega)
  have mem : ∀ p ∈ (arrOf st).toList,p ∈ a₀.toList := fun p hp => hB.mem hp
  unfold mergeAt'
  walk_at "un mergeAt"
  dsimp only
  refine wpS_bind (wpS_get ?_)
  have e0 : (pendingOf st)[0]? = some (0,n1,p) := by rw [hp]; rfl
  have e1 : (pendingOf st)[0 + 1]? = some (n1,n2,q) := by rw [hp]; rfl
  rw [e0,e1]
  dsimp only
  have hps : (((pendingOf st).setIfInBounds 0 (0,n1 + n2,p)).eraseIdxIfInBounds (0 + 1)).size <= 1 := by
    rw [hp]
    simp [Array.eraseIdxIfInBounds]
  obtain ⟨sn,hsn⟩ : ∃ sn,sn = SortSt.mk' (kindOf st) (arrOf st) (((pendingOf st).setIfInBounds 0 (0,n1 + n2,p)).eraseIdxIfInBounds (0 + 1)) (gallopOf st) (failedOf st) := ⟨_,rfl⟩
  have tb : TB κ a₀ sn := by rw [hsn]; exact ⟨hB.perm,hB.kind,hB.ok⟩
  have ea : arrOf sn = arrOf st := by rw [hsn]
  have ep : (pendingOf sn).size <= 1 := by rw [hsn]; exact hps
  refine wpS_bind (wpS_set (st' := SortSt.mk' (kindOf st) (arrOf st) (((pendingOf st).setIfInBounds 0 (0,n1 + n2,p)).eraseIdxIfInBounds (0 + 1)) (gallopOf st) (failedOf st)) ?_)
  rw [<- hsn]
  clear hsn hps
  have i1 : n1 < (arrOf st).size := by omega
  have i2 : n1 - 1 < (arrOf st).size := by omega
  refine wpS_bind (wpS_elem i1 ?_)
  refine wpS_bind (wpS_gallop (arr := arrOf st) C tb.kind (mem _ (by simp)) mem (by omega) h1 s1 fun k0 g1 g2 g3 => ?_)
  have f2 : ∀ i,i < k0 -> kA k (arrOf st) i <= kA k (arrOf st) n1 := fun i hi => by
    have := g2 i hi
    unfold BeyB at this
    rw [kA_at i1]
    simpa using this
  have f3 : ∀ i,k0 <= i -> i < n1 -> kA k (arrOf st) n1 < kA k (arrOf st) i := fun i h1 h2 => by
    have := g3 i h1 h2
    unfold BeyB at this
    rw [kA_at i1]
    simpa using this
  clear g2 g3
  dsimp only
  by_cases z1 : n1 - k0 = 0
  · rw [if_pos (by simpa using z1)]
    refine wpS_pure (h sn tb (by rw [ea]; exact whole fun i j hi hj hj' => Int.le_trans (f2 i (by omega)) (s2 n1 j (Nat.le_refl _) hj (by omega))) ep)
  rw [if_neg (by simpa using z1)]
  rw [show 0 + k0 + (n1 - k0) - 1 = n1 - 1 by omega]
  refine wpS_bind (wpS_elem i2 ?_)
  refine wpS_bind (wpS_gallop (arr := arrOf st) C tb.kind (mem _ (by simp)) mem (by omega) (by omega) s2 fun nb g4 g2 g3 => ?_)
  have f4 : ∀ i,i < nb -> kA k (arrOf st) (n1 + i) < kA k (arrOf st) (n1 - 1) := fun i hi => by
    have := g2 i hi
    unfold BeyB at this
    rw [kA_at i2]
    simpa using this
  have f5 : ∀ i,nb <= i -> i < n2 -> kA k (arrOf st) (n1 - 1) <= kA k (arrOf st) (n1 + i) := fun i h1 h2 => by
    have := g3 i h1 h2
    unfold BeyB at this
    rw [kA_at i2]
    simpa using this
  clear g2 g3
  dsimp only
  have hiw : ∀ i j,i < n1 -> n1 + nb <= j -> j < n1 + n2 -> kA k (arrOf st) i <= kA k (arrOf st) j := fun i j a1 a2 a3 => by
    have := f5 (j - n1) (by omega) (by omega)
    rw [show n1 + (j - n1) = j by omega] at this
    exact Int.le_trans (s1 i (n1 - 1) (Nat.zero_le _) (by omega) (by omega)) this
  by_cases z2 : nb = 0
  · rw [if_pos (by simpa using z2)]
    exact wpS_pure (h sn tb (by rw [ea]; exact whole fun i j hi hj hj' => hiw i j hi (by omega) hj') ep)
  rw [if_neg (by simpa using z2)]
  have zx : ((arrOf st).extract k0 n1).size = n1 - k0 := by rw [Array.size_extract]; omega
  have zy : ((arrOf st).extract n1 (n1 + nb)).size = nb := by rw [Array.size_extract]; omega
  have xa : ∀ q,q < n1 - k0 -> kA k ((arrOf st).extract k0 n1) q = kA k (arrOf st) (k0 + q) := fun q hq => kA_extract hq (by omega)
  have ya : ∀ q,q < nb -> kA k ((arrOf st).extract n1 (n1 + nb)) q = kA k (arrOf st) (n1 + q) := fun q hq => kA_extract (by omega) (by omega)
  have sx : SrtA k ((arrOf st).extract k0 n1) := fun i j _ hij hj => by
    rw [xa i (by omega),xa j (by omega)]; exact s1 _ _ (by omega) (by omega) (by omega)
  have sy : SrtA k ((arrOf st).extract n1 (n1 + nb)) := fun i j _ hij hj => by
    rw [ya i (by omega),ya j (by omega)]; exact s2 _ _ (by omega) (by omega) (by omega)
  have mx : ∀ p ∈ ((arrOf st).extract k0 n1).toList,p ∈ a₀.toList := fun p hp => by
    rw [Array.toList_extract,List.extract_eq_take_drop] at hp
    exact mem p (List.mem_of_mem_drop (List.mem_of_mem_take hp))
  have my : ∀ p ∈ ((arrOf st).extract n1 (n1 + nb)).toList,p ∈ a₀.toList := fun p hp => by
    rw [Array.toList_extract,List.extract_eq_take_drop] at hp
    exact mem p (List.mem_of_mem_drop (List.mem_of_mem_take hp))
  have l0 : kA k ((arrOf st).extract n1 (n1 + nb)) 0 <= kA k ((arrOf st).extract k0 n1) 0 := by
    rw [ya 0 (by omega),xa 0 (by omega)]
    exact Int.le_of_lt (f3 _ (by omega) (by omega))
  have ll : ∀ i,i < ((arrOf st).extract n1 (n1 + nb)).size -> kA k ((arrOf st).extract n1 (n1 + nb)) i < kA k ((arrOf st).extract k0 n1) (((arrOf st).extract k0 n1).size - 1) := fun i hi => by
    rw [zx,xa _ (by omega),ya i (by omega),show k0 + (n1 - k0 - 1) = n1 - 1 by omega]
    exact f4 i (by omega)
  have fin : ∀ (out : Array Keyed) (st' : SortSt),Sst sn st' -> MEnd k ((arrOf st).extract k0 n1) ((arrOf st).extract n1 (n1 + nb)) out -> ∀ ys : Array Keyed,ys = out.toList.zipIdx.foldl (fun a x => match x with | (p,j) => a.setIfInBounds (0 + k0 + j) p) (arrOf st') -> TB κ a₀ (setArr st' ys) /\ SrtA k ys /\ (pendingOf st').size <= 1 /\ failedOf st' = none := fun out st' t m ys ey => by
    have ea' : arrOf st' = arrOf st := t.arr.trans ea
    have zo : out.size = (n1 - k0) + nb := by rw [m.size,zx,zy]
    have gt := putAll_get (0 + k0) out.toList 0 (arrOf st') (by rw [ea',Array.length_toList]; omega)
    rw [<- ey] at gt
    obtain ⟨pr,so⟩ := merged_ok (xs := arrOf st) (ys := ys) rfl rfl (by omega) (by omega) m s1 (by rw [zz,show n1 + n2 - n1 = n2 by omega]; exact s2) (fun i j a1 a2 a3 => Int.le_trans (f2 i a1) (s2 n1 j (Nat.le_refl _) a2 (by omega))) (fun i j a1 a2 a3 => hiw i j a1 a2 (by omega)) (fun i => by
      have := gt i
      rw [ea',Nat.add_zero,Nat.zero_add] at this
      exact this)
    exact ⟨⟨pr.trans hB.perm,t.kind.trans tb.kind,t.ok.trans tb.ok⟩,so,by rw [t.pend]; exact ep,t.ok.trans tb.ok⟩
  rw [show 0 + k0 = k0 by omega] at *
  have nz : n1 - k0 <= nb \/ ¬ n1 - k0 <= nb := Decidable.em _
  rcases nz with nz | nz
  case' inl =>
    rw [if_pos nz]
    refine wpS_bind (wpS_mergeLow (a := (arrOf st).extract k0 n1) (b := (arrOf st).extract n1 (n1 + nb)) C tb.kind mx my sx sy (by omega) (by omega) l0 ll fun out st' t m => ?_)
  case' inr =>
    rw [if_neg nz]
    refine wpS_bind (wpS_mergeTop (a := (arrOf st).extract k0 n1) (b := (arrOf st).extract n1 (n1 + nb)) C tb.kind mx my sx sy (by omega) (by omega) l0 (fun i hi => Int.le_of_lt (ll i hi)) fun out st' t m => ?_)
  all_goals
    obtain ⟨c1,c2,c3,c4⟩ := fin out st' t m _ rfl
    refine wpS_bind (wpS_modify (wpS_bind (wpS_get ?_)))
    refine wpS_pure ?_
    have : (failedOf st').isNone = true := by rw [c4]; rfl
    show Q (failedOf st').isNone _
    rw [this]
    exact h _ c1 c2 c3
end
end L2
set_option Elab.async false
set_option linter.all false
set_option maxRecDepth 100000
set_option maxHeartbeats 4000000
namespace L2
open PySem PySem.Spec PyProof.Rows
theorem minRun_ok {n : Nat}(h2 : 2 <= n)(h : n < 128) : minRun' n n 0 <= n /\ n <= 2 * minRun' n n 0 := by
  obtain ⟨f,rfl⟩ : ∃ f,n = f + 2 := ⟨n - 2,by omega⟩
  by_cases c : f + 2 < 64
  · have e : minRun' (f + 2) (f + 2) 0 = f + 2 + 0 := by rw [minRun'_succ,if_pos c]
    rw [e]; omega
  · have e : minRun' (f + 2) (f + 2) 0 = (f + 2) / 2 + max 0 ((f + 2) % 2) := by rw [minRun'_succ,if_neg c,minRun'_succ,if_pos (by omega)]
    rw [e]; omega
section
variable {prog : Program}{w : World}{A : Around}{E : Value -> Shared -> Prop}{s : Shared}{κ : SortKind}{a₀ : Array Keyed}{k : Keyed -> Int}
theorem wpS_runsG {st : SortSt}{Q : Unit -> SortSt -> Prop}(C : Cmp prog w A s κ a₀ k)(hB : TB κ a₀ st)(hp : pendingOf st = #[])(h2 : 2 <= a₀.size)(h128 : a₀.size < 128)
    (h : ∀ st',TB κ a₀ st' -> SrtA k (arrOf st') -> Q () st') : wpS (model prog w) A E s sortRuns' Q st := by
  obtain ⟨r1,r2⟩ := minRun_ok h2 h128
  rw [sortRuns'_eq]
  refine wpS_bind (wpS_get ?_)
  dsimp only
  rw [hB.size]
  generalize minRun' a₀.size a₀.size 0 = mr at r1 r2 ⊢
  refine wpS_bind (wpS_mono (wpS_forRange
    (I := fun x c sx => TB κ a₀ sx /\ ((x = 0 /\ c = (none,0) /\ pendingOf sx = #[]) \/ (1 <= x /\ ∃ n p,c = (none,n) /\ pendingOf sx = #[(0,n,p)] /\ SrtR k (arrOf sx) 0 n /\ 1 <= n /\ n <= a₀.size /\ a₀.size <= n + mr /\ (x = 1 \/ n = a₀.size)) \/ (2 <= x /\ ∃ n p q,c = (none,a₀.size) /\ pendingOf sx = #[(0,n,p),(n,a₀.size - n,q)] /\ SrtR k (arrOf sx) 0 n /\ SrtR k (arrOf sx) n (a₀.size - n) /\ 1 <= n /\ n < a₀.size)))
    (Q := fun c sx => TB κ a₀ sx /\ ((c = (none,a₀.size) /\ ∃ p,pendingOf sx = #[(0,a₀.size,p)] /\ SrtA k (arrOf sx)) \/ (c = (none,a₀.size) /\ ∃ n p q,pendingOf sx = #[(0,n,p),(n,a₀.size - n,q)] /\ SrtR k (arrOf sx) 0 n /\ SrtR k (arrOf sx) n (a₀.size - n) /\ 1 <= n /\ n < a₀.size))) ?_ ?_ ⟨hB,.inl ⟨rfl,rfl,hp⟩⟩) ?_)
  · rintro x c sx _ hx ⟨tb,⟨rfl,rfl,pe⟩ | ⟨x1,n,p,rfl,pe,so,n1,n2,n3,n4⟩ | ⟨x2,n,p,q,rfl,pe,so,so2,n1,n2⟩⟩
    · dsimp only
      rw [if_neg (by omega)]
      simp only [Nat.sub_zero,Nat.zero_add]
      refine wpS_bind (wpS_runG C (by omega) (by omega) tb fun m sy tb1 sm m1 m2 so => ?_)
      dsimp only
      have pe1 : pendingOf sy = #[] := sm.pend.trans pe
      by_cases c1 : m < mr
      · rw [if_pos c1]
        refine wpS_bind (wpS_lift (wpAny_rule ⟨rfl,?_⟩))
        have em : min a₀.size mr = mr := by omega
        refine wpS_bind (wpS_binG C (by omega) (by omega) tb1 so fun sz tb2 sm2 so2 => ?_)
        simp only [Bool.not_true,Bool.false_eq_true,if_false]
        refine wpS_bind (wpS_get ?_)
        have pe2 : pendingOf sz = #[] := sm2.pend.trans pe1
        have hb : (pendingOf sz).back? = none := by rw [pe2]; rfl
        rw [hb]
        dsimp only
        exact wpS_bind (wpS_modify (wpS_pure ⟨⟨tb2.perm,tb2.kind,tb2.ok⟩,.inr (.inl ⟨Nat.le_refl _,min a₀.size mr,0,rfl,by show (pendingOf sz).push _ = _; rw [pe2]; rfl,so2,by omega,by omega,by omega,.inl (by first | trivial | rfl)⟩)⟩))
      · rw [if_neg c1]
        refine wpS_bind (wpS_get ?_)
        have hb : (pendingOf sy).back? = none := by rw [pe1]; rfl
        rw [hb]
        dsimp only
        exact wpS_bind (wpS_modify (wpS_pure ⟨⟨tb1.perm,tb1.kind,tb1.ok⟩,.inr (.inl ⟨Nat.le_refl _,m,0,rfl,by show (pendingOf sy).push _ = _; rw [pe1]; rfl,so,m1,m2,by omega,.inl (by first | trivial | rfl)⟩)⟩))
    · dsimp only
      by_cases c0 : n >= a₀.size
      · rw [if_pos c0]
        have e : n = a₀.size := by omega
        subst e
        exact wpS_pure ⟨tb,.inl ⟨rfl,p,pe,fun i j h0 hij hj => so i j h0 hij (by rw [tb.size] at hj; exact hj)⟩⟩
      rw [if_neg c0]
      refine wpS_bind (wpS_runG C (by omega) (by omega) tb fun m sy tb1 sm m1 m2 so2 => ?_)
      dsimp only
      have pe1 : pendingOf sy = #[(0,n,p)] := sm.pend.trans pe
      have so1 : SrtR k (arrOf sy) 0 n := fun i j h0 hij hj => by
        have e1 : kA k (arrOf sy) i = kA k (arrOf sx) i := kA_congr (sm.out i (.inl (by omega)))
        have e2 : kA k (arrOf sy) j = kA k (arrOf sx) j := kA_congr (sm.out j (.inl (by omega)))
        rw [e1,e2]; exact so i j h0 hij hj
      have cc : m < mr \/ ¬ m < mr := Decidable.em _
      rcases cc with cc | cc
      case' inl =>
        rw [if_pos cc]
        refine wpS_bind (wpS_lift (wpAny_rule ⟨rfl,?_⟩))
        refine wpS_bind (wpS_binG C (by omega) (by omega) tb1 so2 fun sz tb2 sm2 so3 => ?_)
        simp only [Bool.not_true,Bool.false_eq_true,if_false]
        have pe2 : pendingOf sz = #[(0,n,p)] := sm2.pend.trans pe1
        have so4 : SrtR k (arrOf sz) 0 n := fun i j h0 hij hj => by
          have e1 : kA k (arrOf sz) i = kA k (arrOf sy) i := kA_congr (sm2.out i (.inl (by omega)))
          have e2 : kA k (arrOf sz) j = kA k (arrOf sy) j := kA_congr (sm2.out j (.inl (by omega)))
          rw [e1,e2]; exact so1 i j h0 hij hj
        have em : min (a₀.size - n) mr = a₀.size - n := by omega
        rw [em] at so3
        have e3 : n + min (a₀.size - n) mr = a₀.size := by omega
        have e4 : min (a₀.size - n) mr = a₀.size - n := em
      case' inr =>
        rw [if_neg cc]
        obtain ⟨sz,hsz⟩ : ∃ z,z = sy := ⟨_,rfl⟩
        rw [<- hsz]
        rw [<- hsz] at tb1 pe1 so1 so2
        have tb2 := tb1
        have pe2 := pe1
        have so4 := so1
        have e4 : m = a₀.size - n := by omega
        have e3 : n + m = a₀.size := by omega
        have so3 : SrtR k (arrOf sz) n (a₀.size - n) := by rw [<- e4]; exact so2
      all_goals
        refine wpS_bind (wpS_get ?_)
        have hb : (pendingOf sz).back? = some (0,n,p) := by rw [pe2]; rfl
        rw [hb]
        dsimp only
        refine wpS_bind (wpS_mono (wpS_forRange (I := fun _ c su => c = (none,()) /\ su = sz) (Q := fun c su => c = (none,()) /\ su = sz) ?_ (fun _ _ z => z) ⟨rfl,rfl⟩) ?_)
        · rintro y c su _ _ ⟨rfl,rfl⟩
          refine wpS_bind (wpS_get ?_)
          rw [pe2,if_neg (show ¬ (#[(0,n,p)] : Array (Nat × Nat × Nat)).size > 1 from Nat.not_lt.mpr (Nat.le_refl 1))]
          exact wpS_pure ⟨rfl,rfl⟩
        rintro c su ⟨rfl,rfl⟩
        dsimp only
        refine wpS_bind (wpS_modify (wpS_bind (wpS_modify (wpS_pure ?_))))
        refine ⟨⟨tb2.perm,tb2.kind,tb2.ok⟩,.inr (.inr ⟨by omega,n,?_,0,by rw [e3],?_,so4,so3,n1,by omega⟩)⟩
        rotate_left
        show ((pendingOf su).modify ((pendingOf su).size - 1) _).push _ = _
        rw [pe2,e4]
        rfl
    · dsimp only
      rw [if_pos (Nat.le_refl _)]
      exact wpS_pure ⟨tb,.inr ⟨rfl,n,p,q,pe,so,so2,n1,n2⟩⟩
  · rintro c sx ⟨tb,⟨h0,_⟩ | ⟨x1,n,p,rfl,pe,so,n1,n2,n3,n4⟩ | ⟨x2,n,p,q,rfl,pe,so,so2,n1,n2⟩⟩
    · omega
    · have e : n = a₀.size := by omega
      subst e
      exact ⟨tb,.inl ⟨rfl,p,pe,fun i j h0 hij hj => so i j h0 hij (by rw [tb.size] at hj; exact hj)⟩⟩
    · exact ⟨tb,.inr ⟨rfl,n,p,q,pe,so,so2,n1,n2⟩⟩
  rintro c sx ⟨tb,⟨rfl,p,pe,so⟩ | ⟨rfl,n,p,q,pe,so,so2,n1,n2⟩⟩
  · dsimp only
    refine wpS_bind (wpS_mono (wpS_forRange (I := fun _ c sy => sy = sx /\ c = (none,())) (Q := fun c sy => sy = sx /\ c = (none,())) ?_ (fun _ _ z => z) ⟨rfl,rfl⟩) ?_)
    · rintro y c sy _ _ ⟨rfl,rfl⟩
      refine wpS_bind (wpS_get ?_)
      rw [if_pos (by rw [pe]; exact Nat.le_refl 1)]
      exact wpS_pure ⟨rfl,rfl⟩
    · rintro c sy ⟨rfl,rfl⟩
      exact wpS_pure (h _ tb so)
  · dsimp only
    refine wpS_bind (wpS_mono (wpS_forRange (I := fun x c sy => c = (none,()) /\ ((x = 0 /\ sy = sx) \/ (1 <= x /\ TB κ a₀ sy /\ SrtA k (arrOf sy) /\ (pendingOf sy).size <= 1))) (Q := fun c sy => c = (none,()) /\ TB κ a₀ sy /\ SrtA k (arrOf sy)) ?_ ?_ ⟨rfl,.inl ⟨rfl,rfl⟩⟩) ?_)
    · rintro y c sy _ _ ⟨rfl,⟨rfl,rfl⟩ | ⟨y1,tb1,so1,pz⟩⟩
      · refine wpS_bind (wpS_get ?_)
        rw [if_neg (by rw [pe]; exact Nat.not_le.mpr (Nat.lt_succ_self 1))]
        have z0 : (pendingOf sy).size - 2 = 0 := by rw [pe]; rfl
        rw [z0]
        simp only [Nat.lt_irrefl,gt_iff_lt,if_false,Option.any_none,Bool.false_eq_true]
        refine wpS_bind (wpS_joined C tb pe (by omega) (by omega) (by omega) so so2 fun su tb1 so1 pz => ?_)
        simp only [Bool.not_true,Bool.false_eq_true,if_false]
        exact wpS_pure ⟨rfl,.inr ⟨Nat.le_refl _,tb1,so1,pz⟩⟩
      · refine wpS_bind (wpS_get ?_)
        rw [if_pos pz]
        exact wpS_pure ⟨rfl,tb1,so1⟩
    · rintro c sy ⟨rfl,⟨h0,_⟩ | ⟨_,tb1,so1,_⟩⟩
      · omega
      · exact ⟨rfl,tb1,so1⟩
    · rintro c sy ⟨rfl,tb1,so1⟩
      exact wpS_pure (h _ tb1 so1)
end
end L2
set_option Elab.async false
set_option linter.all false
set_option maxRecDepth 100000
set_option maxHeartbeats 4000000
namespace L2
open PySem PySem.Spec PyProof.Rows
def encA (p : Int) : List Int -> Int
  | [] => p
  | a :: ns => encA (p * 18446744073709551616 + a) ns
def lexlt : List Int -> List Int -> Bool
  | a :: ns,c :: ms => decide (a < c) || (decide (a = c) && lexlt ns ms)
  | _,_ => false
def SmallZ (z : Int) : Prop := -1000000000000000000 < z /\ z < 1000000000000000000
theorem encA_lt : ∀ (ns ms : List Int) (p q : Int),ns.length = ms.length -> (∀ z ∈ ns,SmallZ z) -> (∀ z ∈ ms,SmallZ z) -> (encA p ns < encA q ms ↔ p < q \/ (p = q /\ lexlt ns ms = true))
  | [],[],p,q,_,_,_ => by
    show p < q ↔ _
    simp [lexlt]
  | a :: ns,c :: ms,p,q,hl,hn,hm => by
    have h1 := hn a (List.mem_cons_self ..)
    have h2 := hm c (List.mem_cons_self ..)
    have ih := encA_lt ns ms (p * 18446744073709551616 + a) (q * 18446744073709551616 + c) (by simpa using hl) (fun z hz => hn z (List.mem_cons_of_mem _ hz)) fun z hz => hm z (List.mem_cons_of_mem _ hz)
    show encA (p * 18446744073709551616 + a) ns < encA (q * 18446744073709551616 + c) ms ↔ _
    rw [ih]
    clear ih hn hm hl
    unfold SmallZ at h1 h2
    show _ ↔ p < q \/ (p = q /\ (decide (a < c) || (decide (a = c) && lexlt ns ms)) = true)
    simp only [Bool.or_eq_true,Bool.and_eq_true,decide_eq_true_eq]
    cases lexlt ns ms
    · simp only [Bool.false_eq_true,and_false,or_false]
      rcases Int.lt_trichotomy p q with z | z | z <;> omega
    · simp only [and_true]
      rcases Int.lt_trichotomy p q with z | z | z <;> rcases Int.lt_trichotomy a c with y | y | y <;> omega
theorem encA_inj : ∀ (ns ms : List Int) (p q : Int),ns.length = ms.length -> (∀ z ∈ ns,SmallZ z) -> (∀ z ∈ ms,SmallZ z) -> encA p ns = encA q ms -> p = q /\ ns = ms
  | [],[],p,q,_,_,_,h => ⟨h,rfl⟩
  | a :: ns,c :: ms,p,q,hl,hn,hm,h => by
    have h1 := hn a (List.mem_cons_self ..)
    have h2 := hm c (List.mem_cons_self ..)
    obtain ⟨e1,e2⟩ := encA_inj ns ms (p * 18446744073709551616 + a) (q * 18446744073709551616 + c) (by simpa using hl) (fun z hz => hn z (List.mem_cons_of_mem _ hz)) (fun z hz => hm z (List.mem_cons_of_mem _ hz)) h
    unfold SmallZ at h1 h2
    have e3 : p = q /\ a = c := by rcases Int.lt_trichotomy p q with z | z | z <;> omega
    exact ⟨e3.1,by rw [e3.2,e2]⟩
structure TupZ (h : Heap)(v : Value)(ns : List Int) : Prop where
  ex : ∃ a o xs n,v = .ref a /\ h.get? a = some o /\ o.cls = .type "tuple" /\ o.data = .seq xs n /\ IntsAre xs.toList ns
section
variable {prog : Program}{w : World}{A : Around}{E : Value -> Shared -> Prop}{s : Shared}
theorem oneLt_any {b : Bool}{x y : Int}{t u : Tok}{Q : Bool -> Shared -> Prop}(h : Q (decide (x < y)) s) : wpAny (model prog w) A (oneLt' b (.int x t) (.int y u)) Q E s := by
  cases b
  · refine PySem.W.kat_one _ _ ?_
    exact CmpOf.ints_lt (prog := prog) (w := w) (A := A) (P := fun i v => ∃ t,v = .int (if i = 0 then x else y) t) (fun i => if i = 0 then x else y) (fun i v h => h) 0 1 _ _ _ _ _ ⟨t,rfl⟩ ⟨u,rfl⟩ h
  · exact oneLt_int h
theorem katLex_ints {b : Bool}{Q : Bool -> Shared -> Prop} : ∀ {xs ys : List Value} {ns ms : List Int} (i : Nat),IntsAre xs ns -> IntsAre ys ms -> ns.length = ms.length -> Q (lexlt ns ms) s -> PySem.W.KatLex prog w A b false Q (xs.zip ys) i s
  | _,_,_,_,i,.nil,.nil,_,h => PySem.W.kat_nil h
  | _,_,_,_,i,.cons a t hx,.cons c u hy,hl,h => by
    rw [List.zip_cons_cons]
    refine PySem.W.kat_cons (wpAny_eqBool_int ?_)
    unfold lexlt at h
    by_cases e : a = c
    · subst e
      rw [show (a == a) = true by simp]
      refine PySem.W.kat_yes (katLex_ints (i + 1) hx hy (by simpa using hl) ?_)
      simpa using h
    · rw [show (a == c) = false by simpa using e]
      refine PySem.W.kat_no (oneLt_any ?_)
      have : decide (a = c) = false := by simpa using e
      rw [this] at h
      simpa using h
theorem ints_len {vs : List Value}{ns : List Int}(h : IntsAre vs ns) : vs.length = ns.length := by
  induction h with
  | nil => rfl
  | cons n t _ ih => simp [ih]
theorem lt_tups {b : Bool}{x y : Value}{ns ms : List Int}{Q : Bool -> Shared -> Prop}(hx : TupZ s.heap x ns)(hy : TupZ s.heap y ms)(hl : ns.length = ms.length)(h : Q (lexlt ns ms) s) : wpAny (model prog w) A (keyLt' (tuples' b) x y) Q E s := by
  obtain ⟨a,o,xs,n,rfl,g1,c1,d1,i1⟩ := hx
  obtain ⟨a',o',ys,n',rfl,g2,c2,d2,i2⟩ := hy
  refine PySem.W.kat_lt g1 d1 g2 d2 ?_
  have e : decide (xs.size < ys.size) = false := by
    have z1 := ints_len i1
    have z2 := ints_len i2
    simp at z1 z2
    simp; omega
  rw [e]
  exact katLex_ints 0 i1 i2 hl h
theorem kind_tups {vs : List Value}{rows : Value -> List Int}{Q : SortKind -> Shared -> Prop}(ht : ∀ v ∈ vs,TupZ s.heap v (rows v))(hp : ∀ v ∈ vs,rows v ≠ [])(hne : 0 < vs.length)(h : Q (tuples' true) s) : wpAny (model prog w) A (keyKind' vs.toArray) Q E s := by
  have mk : ∀ vs : List Value,(∀ v ∈ vs,TupZ s.heap v (rows v)) -> (∀ v ∈ vs,rows v ≠ []) -> ∃ fs,PySem.W.KatTups s.heap vs fs /\ fs.length = vs.length /\ ∀ v ∈ fs,∃ n t,v = Value.int n t := by
    intro vs
    induction vs with
    | nil => exact fun _ _ => ⟨[],PySem.W.KatTups.nil,rfl,by simp⟩
    | cons v vs ih =>
      intro ht hp
      obtain ⟨fs,k1,k2,k3⟩ := ih (fun v hv => ht v (List.mem_cons_of_mem _ hv)) fun v hv => hp v (List.mem_cons_of_mem _ hv)
      obtain ⟨a,o,xs,n,e,g1,c1,d1,i1⟩ := (ht v (List.mem_cons_self ..)).ex
      have hr := hp v (List.mem_cons_self ..)
      generalize rows v = r at hr i1
      generalize hx : xs.toList = l at i1
      cases i1 with
      | nil => exact absurd rfl hr
      | cons m t i2 =>
        refine ⟨.int m t :: fs,?_,by simp [k2],fun v hv => ?_⟩
        · rw [e]
          exact PySem.W.KatTups.cons g1 c1 d1 (by rw [<- Array.getElem?_toList,hx]; rfl) k1
        · rcases List.mem_cons.mp hv with rfl | hv
          · exact ⟨m,t,rfl⟩
          · exact k3 v hv
  obtain ⟨fs,k1,k2,k3⟩ := mk vs ht hp
  refine PySem.W.kat_kind (T := .type "int") k1 (by omega) (fun v hv => ?_) (by decide) ?_
  · obtain ⟨n,t,rfl⟩ := k3 v hv
    exact PySem.W.Looks.of_pure rfl
  · exact h
theorem list_sort_tups {a : Addr}{vs : List Value}{n m : Nat}{rows : Value -> List Int}{P : Fin -> Shared -> Prop}(gl : s.heap.get? a = some (seqObj "list" vs.toArray n))
    (ht : ∀ v ∈ vs,TupZ s.heap v (rows v)) (hm : ∀ v ∈ vs,(rows v).length = m /\ ∀ z ∈ rows v,SmallZ z) (m0 : 0 < m) (h128 : vs.length < 128)
    (h : ∀ out : Array Value,out.toList.Perm vs -> out.toList.Pairwise (fun x y => encA 0 (rows x) <= encA 0 (rows y)) -> P (.done (.ret .none)) { s with heap := sortedHeap s.heap a vs out }) :
    wpAny (model prog w) A (Builtin.«list.sort» ⟨[.ref a],[]⟩) P E s := by
  rw [list_sort_plain]
  have al : a < s.heap.objs.size := Heap.lt_size gl
  refine wpAny_bind (listItems_at gl rfl ?_)
  refine wpAny_bind (listUpdate_at gl rfl ?_)
  obtain ⟨ep1,gl1⟩ : ∃ ep1,(s.heap.update a (Obj.mapSeq fun _ => #[])).get? a = some (seqObj "list" #[] ep1) := ⟨_,get?_update_seq gl (fun _ => #[])⟩
  refine wpAny_bind (seqEpoch_at gl1 rfl ?_)
  refine wpAny_bind (wpAny_newTuple ?_)
  refine wpAny_bind (wpAny_newList ?_)
  refine wpAny_holding ?_
  have keep : ∀ b o,b ≠ a -> s.heap.get? b = some o -> (((s.heap.update a (Obj.mapSeq fun _ => #[])).push (seqObj "tuple" vs.toArray 0)).push (seqObj "list" #[] 0)).get? b = some o := fun b o hb g => by
    refine Heap.get?_push_of_some _ (Heap.get?_push_of_some _ ?_)
    rw [Heap.get?_update_ne _ _ _ _ hb]
    exact g
  have gl6 : (((s.heap.update a (Obj.mapSeq fun _ => #[])).push (seqObj "tuple" vs.toArray 0)).push (seqObj "list" #[] 0)).get? a = some (seqObj "list" #[] ep1) := Heap.get?_push_of_some _ (Heap.get?_push_of_some _ gl1)
  have ht6 : ∀ v ∈ vs,TupZ (((s.heap.update a (Obj.mapSeq fun _ => #[])).push (seqObj "tuple" vs.toArray 0)).push (seqObj "list" #[] 0)) v (rows v) := fun v hv => by
    obtain ⟨b,o,xs,n',e,g1,c1,d1,i1⟩ := ht v hv
    refine ⟨b,o,xs,n',e,keep b o (fun z => ?_) g1,c1,d1,i1⟩
    rw [z,gl] at g1
    cases g1
    exact absurd c1 (by simp [seqObj])
  show wpAny (model prog w) A _ P E { s with heap := ((s.heap.update a (Obj.mapSeq fun _ => #[])).push (seqObj "tuple" vs.toArray 0)).push (seqObj "list" #[] 0) }
  dsimp only
  have sz0 : vs.toArray.size = vs.length := by simp
  have fin : ∀ xs : Array Keyed,xs.Perm (pairsOf vs) -> SrtA (fun p => encA 0 (rows p.1)) xs -> P (.done (.ret .none)) { s with heap := sortedHeap s.heap a vs (xs.map (·.2)) } := fun xs hp hs => by
    have zl : xs.toList.Perm (vs.zip vs) := by rw [<- pairsOf_toList]; exact Array.perm_iff_toList_perm.mp hp
    have both : ∀ p,p ∈ xs.toList -> p.1 = p.2 := fun p hp' => (mem_zip_self (zl.mem_iff.mp hp')).1
    have e : (xs.map (·.2)).toList = xs.toList.map (·.1) := by
      rw [Array.toList_map]; exact List.map_congr_left fun p hp' => (both p hp').symm
    refine h _ ?_ ?_
    · rw [e]
      have := zl.map Prod.fst
      rwa [List.map_fst_zip (Nat.le_refl _)] at this
    · rw [e,List.pairwise_iff_getElem]
      intro i j hi hj hij
      have ib : i < xs.size := by simpa using hi
      have jb : j < xs.size := by simpa using hj
      have q := hs.le (Nat.le_of_lt hij) jb
      rw [kA_at ib,kA_at jb] at q
      simpa using q
  by_cases h2 : vs.toArray.size < 2
  · rw [if_pos h2,if_pos h2]
    refine wpAny_bind (wpAny_pure ?_)
    rw [StateT.run_pure]
    refine wpAny_bind (wpAny_pure ?_)
    dsimp only
    refine wpAny_bind (seqEpoch_at gl6 rfl ?_)
    refine wpAny_bind (listUpdate_at gl6 rfl ?_ (hsz2 := by rw [Array.size_map]; show (pairsOf vs).size <= _; rw [pairsOf_size,sizeLine_eq]; omega))
    simp only [bne_self_eq_false,Bool.false_eq_true,if_false]
    refine wpAny_pure (fin (vs.toArray.zip vs.toArray) (Array.Perm.refl _) ?_)
    intro i j _ hij hj
    have z : (vs.toArray.zip vs.toArray).size = vs.length := pairsOf_size vs
    have : i = j := by omega
    subst this; exact Int.le_refl _
  · rw [if_neg h2,if_neg h2]
    refine wpAny_bind (kind_tups ht6 (fun v hv (z : rows v = []) => by have := (hm v hv).1; rw [z] at this; simp at this; omega) (by omega) ?_)
    have C : Cmp prog w A { s with heap := ((s.heap.update a (Obj.mapSeq fun _ => #[])).push (seqObj "tuple" vs.toArray 0)).push (seqObj "list" #[] 0) } (tuples' true) (pairsOf vs) (fun p => encA 0 (rows p.1)) := ⟨fun x hx y hy E' Q q => by
      rw [pairsOf_toList] at hx hy
      have mx := (mem_zip_self hx).2
      have my := (mem_zip_self hy).2
      refine lt_tups (ht6 _ mx) (ht6 _ my) (by rw [(hm _ mx).1,(hm _ my).1]) ?_
      have := encA_lt (rows x.1) (rows y.1) 0 0 (by rw [(hm _ mx).1,(hm _ my).1]) (hm _ mx).2 (hm _ my).2
      have e : lexlt (rows x.1) (rows y.1) = decide (encA 0 (rows x.1) < encA 0 (rows y.1)) := by
        rw [Bool.eq_iff_iff,decide_eq_true_eq,this]
        simp
      rw [e]
      exact q⟩
    have zp : (pairsOf vs).size = vs.length := pairsOf_size vs
    refine wpAny_bind (wpAny_mono (wpS_runsG (E := E) (a₀ := pairsOf vs) (st := SortSt.mk' (tuples' true) (vs.toArray.zip vs.toArray) #[] 7 none)
      (Q := fun _ st' => TB (tuples' true) (pairsOf vs) st' /\ SrtA (fun p => encA 0 (rows p.1)) (arrOf st')) C ⟨Array.Perm.refl _,rfl,rfl⟩ rfl (by omega) (by omega) fun st' a1 a2 => ⟨a1,a2⟩) ?_ fun _ _ e => e)
    rintro ⟨⟨⟩,st'⟩ s' ⟨rfl,tb,hs⟩
    dsimp only
    refine wpAny_bind (seqEpoch_at gl6 rfl ?_)
    refine wpAny_bind (listUpdate_at gl6 rfl ?_ (hsz2 := by refine Nat.le_trans (Nat.le_of_eq ((Array.size_map ..).trans (tb.size.trans (pairsOf_size _)))) ?_; rw [sizeLine_eq]; omega))
    rw [tb.ok]
    simp only [bne_self_eq_false,Bool.false_eq_true,if_false]
    exact wpAny_pure (fin (arrOf st') tb.perm hs)
end
end L2
set_option Elab.async false
set_option linter.all false
set_option maxRecDepth 100000
set_option maxHeartbeats 4000000
namespace L2
open PySem PySem.Spec PyProof.Rows
section
variable {prog : Program}{w : World}{A : Around}{E : Value -> Shared -> Prop}{s : Shared}
theorem draw_lst {it l : Addr}{items : Array Value}(hne : l ≠ it) : ∀ (n i : Nat) (s : Shared) (Q : List Value -> Shared -> Prop),s.heap.IsListIter it l i -> s.heap.IsList l items -> i + n <= items.size ->
    (∀ h',h'.IsListIter it l (i + n) -> Heap.SameBut it s.heap h' -> Q ((items.toList.drop i).take n) { s with heap := h' }) -> wpAny (model prog w) A (draw (.ref it) n) Q E s
  | 0,i,s,Q,hit,_,_,hQ => by
    show wpAny _ _ (pure []) Q E s; exact wpAny_pure (by simpa using hQ s.heap hit (Heap.SameBut.refl ..))
  | n + 1,i,s,Q,hit,ht,hle,hQ => by
    have hlt : i < items.size := by omega
    show wpAny _ _ (pyNext (.ref it) >>= _) Q E s; refine wpAny_bind (wpAny_pyNext_list_item hit ht (x := items[i]) (by simp [hlt]) fun h₁ hit₁ hs₁ => ?_)
    have ht1 : h₁.IsList l items := by
      obtain ⟨o,e,r⟩ := ht
      exact ⟨o,(hs₁.2 l hne).trans e,r⟩
    refine wpAny_bind (wpAny_holding (draw_lst hne n (i + 1) _ _ hit₁ ht1 (by omega) fun h₂ hit₂ hs₂ => wpAny_pure ?_))
    have hd : items.toList.drop i = items[i] :: items.toList.drop (i + 1) := by simp [List.drop_eq_getElem_cons,hlt]
    have := hQ h₂ (by rw [show i + (n + 1) = i + 1 + n by omega]; exact hit₂) (hs₁.trans hs₂)
    rw [hd,List.take_succ_cons] at this
    exact this
theorem unpackItems_lst {l : Addr}{items : Array Value}{Q : List Value -> Shared -> Prop}(hh : A.handled = none)(ht : s.heap.IsList l items)
    (hQ : ∀ h',Heap.ExtBut s.heap.objs.size s.heap h' -> Q items.toList { s with heap := h' }) : wpAny (model prog w) A (unpackItems (.ref l) items.size none) Q E s := by
  have hlt : l ≠ s.heap.objs.size := by obtain ⟨o,ho,_⟩ := ht; exact Nat.ne_of_lt (Heap.lt_size ho)
  have ty : s.TypeIs (.ref l) "list" := by obtain ⟨o,ho,hc,_⟩ := ht; exact ⟨o,ho,hc⟩
  unfold unpackItems; refine wpAny_bind ?_
  unfold notIterableAtAll; refine wpAny_bind (wpAny_specialOf ty slot_list_iter.lookup ?_)
  refine wpAny_pure ?_; simp only [Bool.false_eq_true,if_false]
  refine wpAny_bind (wpAny_holding (wpAny_pyIter_list ht ?_))
  have hp : ∀ ob : Obj,(s.heap.push ob).IsList l items := fun ob => by
    obtain ⟨o,e,r⟩ := ht
    exact ⟨o,Heap.get?_push_of_some _ e,r⟩
  refine wpAny_bind (wpAny_holding (draw_lst hlt items.size 0 _ _ ⟨_,Heap.get?_push_size _ rfl,rfl,rfl⟩ (hp _) (by omega) fun h₁ hit₁ hs₁ => ?_))
  have hall : List.take items.size (List.drop 0 items.toList) = items.toList := by rw [List.drop_zero]; exact List.take_of_length_le (by simp)
  rw [hall,if_neg (by simp)]
  have ht₁ : h₁.IsList l items := by
    obtain ⟨o,e,r⟩ := ht
    exact ⟨o,(hs₁.2 l hlt).trans (Heap.get?_push_of_some _ e),r⟩
  refine wpAny_bind (wpAny_holding (wpAny_pyNext_list_end hh hit₁ ht₁ (by simp) fun h₂ he₂ => ?_))
  simp only [Option.isSome_none,Bool.false_eq_true,if_false]
  refine wpAny_pure (hQ h₂ fun b o hb e => he₂ b o hb (hs₁.extBut b o hb (Heap.get?_push_of_some _ e)))
end
section
variable {X : Cx}
def gLst (K : PySem.W.Frag)(n : Nat)(t : TGs) : TG := fun v σ H Q => ∃ a xs,v = .ref a /\ SqL K H a xs /\ xs.length = n /\ t xs σ H Q
theorem pg_lstK {es : List Expr}{k : Nat}{t : TGs}{n : Nat}{pos : Pos}(K : PySem.W.Frag)(hK : X.K = K)(hc : X.calm = true)(h : PGs X es t)(hn : (assignEach es X.env).length = n := by rfl)(hst : (assignEach es X.env).findIdx? (·.1) = none := by rfl) : PG X (.Tuple es k pos) (gLst K n t) := by
  subst hK
  intro pins s σ H v u Q I r hw
  obtain ⟨a,xs,e1,hq,hl,hw⟩ := hw
  subst e1
  cases r
  obtain ⟨its,rv,p,hz⟩ := I.list hq
  have hl' : its.toArray.size = n := by simp [<- hl,rv.length]
  rw [assign_Tuple]; refine wpAny_bind (wpAny_standAt ?_)
  unfold unpack; rw [hn,hst,<- hl']
  refine wpAny_bind (wpAny_holding (unpackItems_lst (I.ok.hd hc) p.isList fun h' hx => ?_))
  have I1 : Inv X pins σ H { s with heap := h' } := I.kept (t' := s.toks) fun b o e => hx b o (Nat.ne_of_lt (Heap.lt_size e)) e
  exact h pins _ σ H xs _ Q I1 (by simpa using rv) hw
end
end L2
set_option Elab.async false
set_option linter.all false
set_option maxRecDepth 100000
set_option maxHeartbeats 4000000
namespace L2
open PySem PySem.Spec PyProof.Rows
section
variable {X : Cx}{e : Expr}{es : List Expr}{te : TE}{t : TA}{pos : Pos}
end
end L2
set_option Elab.async false
set_option linter.all false
set_option maxRecDepth 100000
set_option maxHeartbeats 4000000
namespace L2
open PySem PySem.Spec PyProof.Rows
structure Frg where
  ads : List Addr
  R : (Addr -> Prop) -> Hp -> V -> Prop
  keep : ∀ M H H' v,(∀ c o,(¬ M c \/ c ∈ ads) -> H c = some o -> H' c = some o) -> R M H v -> R M H' v
  avoid : ∀ M M' H v,(∀ c,M' c -> M c \/ H c = none) -> R M H v -> R M' H v
  ref : ∀ M H v,R M H v -> ∃ a,v = .ref a
  nt : ∀ M H v,R M H v -> ∀ c ∈ ads,∃ o,H c = some o /\ ∀ vs,o ≠ .tup vs
abbrev Tg := List (List Int × Addr × Value) × Nat
inductive D where
  | non | bl (b : Bool) | int (i : Int) | str (x : Str) | ty (n : String) | adr (a : Addr)
  | tup (xs : List D) | lst (xs : List D) | own (xs : List D) | bag | scr (ns : List Int) | dct (t : Tg) (ks : List (List Int)) (xs : List D) | frg (f : Frg) (d : D)
structure BagT where
  ok : Addr -> Hp -> Prop
  st : ∀ p H H',ok p H -> (∀ o,H p = some o -> H' p = some o) -> ok p H'
  dm : ∀ p H,ok p H -> ∃ o,H p = some o
def KTp (K : PySem.W.Frag)(a : Addr)(xs : List V) : Prop := ∃ (o : Obj) (its : Array Value) (n : Nat),K.lookup a = some o /\ o.cls = .type "tuple" /\ o.data = .seq its n /\ its.size <= sizeLine /\ Vals xs its.toList
def TpA (K : PySem.W.Frag)(M : Addr -> Prop)(H : Hp)(a : Addr)(vs : List V) : Prop := (¬ M a /\ H a = some (.tup vs)) \/ KTp K a vs
theorem TpA.sq {K : PySem.W.Frag}{M : Addr -> Prop}{H : Hp}{a : Addr}{vs : List V}(h : TpA K M H a vs) : SqT K H a vs := h.elim (fun z => .inl (.inl z.2)) .inr
theorem TpA.keep {K : PySem.W.Frag}{M : Addr -> Prop}{H H' : Hp}{a : Addr}{vs : List V}(k : ∀ b o,¬ M b -> H b = some o -> H' b = some o)(h : TpA K M H a vs) : TpA K M H' a vs := h.imp (fun z => ⟨z.1,k _ _ z.1 z.2⟩) id
theorem TpA.avoid {K : PySem.W.Frag}{M M' : Addr -> Prop}{H : Hp}{a : Addr}{vs : List V}(k : ∀ b,M' b -> M b \/ H b = none)(h : TpA K M H a vs) : TpA K M' H a vs := by
  refine h.imp (fun z => ⟨fun m => ?_,z.2⟩) id
  rcases k a m with n | n
  · exact z.1 n
  · rw [n] at z; cases z.2
def KL (K : PySem.W.Frag)(a : Addr)(xs : List V) : Prop := ∃ (o : Obj) (its : Array Value) (n : Nat),K.lookup a = some o /\ o.cls = .type "list" /\ o.dict = none /\ o.data = .seq its n /\ its.size <= sizeLine /\ Vals xs its.toList
def tkH (ns : List Int) : Int := reduceHash (Builtin.Tuple.tupleHashOf (ns.map hashInt))
def dEnt (x : List Int × Addr × Value) : DictEntry := ⟨tkH x.1,.ref x.2.1,x.2.2⟩
def DOb (a : Addr)(es : List (List Int × Addr × Value))(ep : Nat) : HO := .ext fun h => ((a == sysModules) = false /\ es.length <= sizeLine /\ (es.map (·.1)).Nodup) /\ ∃ (o : Obj) (ds : Array DictEntry),h.get? a = some o /\ o.ExactDict /\ o.data = .dict ds ep /\ ds.toList = es.map dEnt
def DctE (K : PySem.W.Frag)(M : Addr -> Prop)(H : Hp)(es : List (List Int × Addr × Value))(ks : List (List Int))(vs : List V) : Prop := es.map (·.1) = ks /\ (∀ e ∈ es,TpA K M H e.2.1 (e.1.map V.int)) /\ Vals vs (es.map (·.2.2))
theorem DctE.keep {K : PySem.W.Frag}{M : Addr -> Prop}{H H' : Hp}{es : List (List Int × Addr × Value)}{ks : List (List Int)}{vs : List V}(k : ∀ b o,¬ M b -> H b = some o -> H' b = some o)(h : DctE K M H es ks vs) : DctE K M H' es ks vs := ⟨h.1,fun e m => (h.2.1 e m).keep k,h.2.2⟩
theorem DctE.avoid {K : PySem.W.Frag}{M M' : Addr -> Prop}{H : Hp}{es : List (List Int × Addr × Value)}{ks : List (List Int)}{vs : List V}(k : ∀ b,M' b -> M b \/ H b = none)(h : DctE K M H es ks vs) : DctE K M' H es ks vs := ⟨h.1,fun e m => (h.2.1 e m).avoid k,h.2.2⟩
mutual
def Rep (K : PySem.W.Frag)(M : Addr -> Prop)(H : Hp) : D -> V -> Prop
  | .non,v => v = .non
  | .bl b,v => v = .bl b
  | .int i,v => v = .int i
  | .str x,v => v = .str x
  | .ty n,v => v = .ty n
  | .adr a,v => v = .ref a
  | .tup xs,v => ∃ a vs,v = .ref a /\ TpA K M H a vs /\ Reps K M H xs vs
  | .lst xs,v => ∃ a vs,v = .ref a /\ (¬ M a /\ H a = some (.lst vs)) /\ Reps K M H xs vs
  | .own _,_ => False
  | .bag,_ => False
  | .frg _ _,_ => False
  | .scr ns,v => ∃ a,v = .ref a /\ ((¬ M a /\ Rd H a (.lst (ns.map V.int))) \/ KL K a (ns.map V.int))
  | .dct t ks xs,v => ∃ (a : Addr) (vs : List V),v = .ref a /\ (¬ M a /\ H a = some (DOb a t.1 t.2) /\ DctE K M H t.1 ks vs) /\ Reps K M H xs vs
def Reps (K : PySem.W.Frag)(M : Addr -> Prop)(H : Hp) : List D -> List V -> Prop
  | [],vs => vs = []
  | d :: ds,vs => ∃ v r,vs = v :: r /\ Rep K M H d v /\ Reps K M H ds r
end
theorem Rd.keep {H H' : Hp}{a : Addr}{u : HO}(k : ∀ o,H a = some o -> H' a = some o)(h : Rd H a u) : Rd H' a u := by
  rcases h with h | ⟨o,h⟩
  · exact .inl (k _ h)
  · exact .inr ⟨o,k _ h⟩
theorem Rd.some {H : Hp}{a : Addr}{u : HO}(h : Rd H a u) : H a ≠ none := by
  rcases h with h | ⟨o,h⟩ <;> rw [h] <;> simp
section
variable {K : PySem.W.Frag}{M M' : Addr -> Prop}{H H' : Hp}
mutual
theorem Rep.keep (k : ∀ b o,¬ M b -> H b = some o -> H' b = some o) : ∀ (d : D) (v : V),Rep K M H d v -> Rep K M H' d v
  | .non,_,h => h
  | .bl _,_,h => h
  | .int _,_,h => h
  | .str _,_,h => h
  | .ty _,_,h => h
  | .adr _,_,h => h
  | .tup xs,v,h => by
    obtain ⟨a,vs,e,z,r⟩ := h
    exact ⟨a,vs,e,z.keep k,Reps.keep k xs vs r⟩
  | .lst xs,v,h => by
    obtain ⟨a,vs,e,z,r⟩ := h
    exact ⟨a,vs,e,⟨z.1,k _ _ z.1 z.2⟩,Reps.keep k xs vs r⟩
  | .own _,_,h => h
  | .bag,_,h => h
  | .frg _ _,_,h => h
  | .scr ns,v,h => by
    obtain ⟨a,e,z⟩ := h
    exact ⟨a,e,z.imp (fun q => ⟨q.1,q.2.keep fun o => k a o q.1⟩) id⟩
  | .dct t ks xs,v,h => by
    obtain ⟨a,vs,e,z,r⟩ := h
    exact ⟨a,vs,e,⟨z.1,k _ _ z.1 z.2.1,z.2.2.keep k⟩,Reps.keep k xs _ r⟩
theorem Reps.keep (k : ∀ b o,¬ M b -> H b = some o -> H' b = some o) : ∀ (ds : List D) (vs : List V),Reps K M H ds vs -> Reps K M H' ds vs
  | [],_,h => h
  | d :: ds,vs,h => by
    obtain ⟨v,r,e,h1,h2⟩ := h
    exact ⟨v,r,e,Rep.keep k d v h1,Reps.keep k ds r h2⟩
end
mutual
theorem Rep.avoid (k : ∀ b,M' b -> M b \/ H b = none) : ∀ (d : D) (v : V),Rep K M H d v -> Rep K M' H d v
  | .non,_,h => h
  | .bl _,_,h => h
  | .int _,_,h => h
  | .str _,_,h => h
  | .ty _,_,h => h
  | .adr _,_,h => h
  | .tup xs,v,h => by
    obtain ⟨a,vs,e,z,r⟩ := h
    exact ⟨a,vs,e,z.avoid k,Reps.avoid k xs vs r⟩
  | .lst xs,v,h => by
    obtain ⟨a,vs,e,z,r⟩ := h
    refine ⟨a,vs,e,⟨fun m => ?_,z.2⟩,Reps.avoid k xs vs r⟩
    rcases k a m with n | n
    · exact z.1 n
    · rw [n] at z; cases z.2
  | .own _,_,h => h
  | .bag,_,h => h
  | .frg _ _,_,h => h
  | .scr ns,v,h => by
    obtain ⟨a,e,z⟩ := h
    refine ⟨a,e,z.imp (fun q => ⟨fun m => ?_,q.2⟩) id⟩
    rcases k a m with n | n
    · exact q.1 n
    · exact q.2.some n
  | .dct t ks xs,v,h => by
    obtain ⟨a,vs,e,z,r⟩ := h
    refine ⟨a,vs,e,⟨fun m => ?_,z.2.1,z.2.2.avoid k⟩,Reps.avoid k xs _ r⟩
    rcases k a m with n | n
    · exact z.1 n
    · rw [n] at z; cases z.2.1
theorem Reps.avoid (k : ∀ b,M' b -> M b \/ H b = none) : ∀ (ds : List D) (vs : List V),Reps K M H ds vs -> Reps K M' H ds vs
  | [],_,h => h
  | d :: ds,vs,h => by
    obtain ⟨v,r,e,h1,h2⟩ := h
    exact ⟨v,r,e,Rep.avoid k d v h1,Reps.avoid k ds r h2⟩
end
end
end L2
set_option Elab.async false
set_option linter.all false
set_option maxRecDepth 100000
set_option maxHeartbeats 4000000
namespace L2
open PySem PySem.Spec PyProof.Rows
abbrev Ev := List (Option D)
structure Wd where
  K : PySem.W.Frag
  B : BagT
  H0 : Hp
  M0 : Addr -> Prop
  b0 : Option Addr
def okB (B : BagT)(b : Option Addr)(H : Hp) : Prop := ∀ p,b = some p -> B.ok p H
def Kp (b : Option Addr)(H H' : Hp) : Prop := ∀ c o,b ≠ some c -> H c = some o -> H' c = some o
theorem Kp.refl (b : Option Addr)(H : Hp) : Kp b H H := fun _ _ _ h => h
theorem Kp.trans {b : Option Addr}{H H1 H2 : Hp}(x : Kp b H H1)(y : Kp b H1 H2) : Kp b H H2 := fun c o n h => y c o n (x c o n h)
theorem Kp.upd {b : Option Addr}{H : Hp}{p : Addr}{o : HO}(h : H p = none) : Kp b H (upd H p o) := fun c u _ e => Same.upd h c u e
theorem Kp.same {b : Option Addr}{H H' : Hp}(h : Same H H') : Kp b H H' := fun c o _ e => h c o e
def RepX (W : Wd)(M : Addr -> Prop)(b : Option Addr)(H : Hp) : D -> V -> Prop
  | .own xs,v => ∃ a vs,v = .ref a /\ M a /\ b ≠ some a /\ W.H0 a = none /\ ¬ W.M0 a /\ H a = some (.lst vs) /\ Reps W.K M H xs vs
  | .bag,v => ∃ p,b = some p /\ v = .ref p
  | .frg f d,v => (∀ c ∈ f.ads,M c /\ b ≠ some c /\ W.H0 c = none /\ ¬ W.M0 c) /\ f.R M H v /\ Rep W.K (fun c => M c /\ c ∉ f.ads) H d v
  | d,v => Rep W.K M H d v
def plain : D -> Bool
  | .own _ => false
  | .bag => false
  | .frg _ _ => false
  | _ => true
def notOwn : D -> Bool
  | .own _ => false
  | .frg _ _ => false
  | _ => true
theorem RepX.rep {W : Wd}{M : Addr -> Prop}{b : Option Addr}{H : Hp}{d : D}{v : V}(h : RepX W M b H d v)(p : plain d = true) : Rep W.K M H d v := by
  cases d <;> first | exact h | cases p
theorem Rep.x {W : Wd}{M : Addr -> Prop}{b : Option Addr}{H : Hp}{d : D}{v : V}(h : Rep W.K M H d v) : RepX W M b H d v := by
  cases d <;> first | exact h | exact h.elim
def RepXs (W : Wd)(M : Addr -> Prop)(b : Option Addr)(H : Hp) : List D -> List V -> Prop
  | [],vs => vs = []
  | d :: ds,vs => ∃ v r,vs = v :: r /\ RepX W M b H d v /\ RepXs W M b H ds r
structure Hs (W : Wd)(M : Addr -> Prop)(b : Option Addr)(H : Hp) : Prop where
  ok : okB W.B b H
  bagM : ∀ p,b = some p -> M p
  dom : ∀ c,M c -> ∃ o,H c = some o
  m0 : ∀ c,W.M0 c -> M c
theorem RepX.move {W : Wd}{M M' : Addr -> Prop}{b b' : Option Addr}{H H' : Hp}{f : Frg}{d : D}{v : V}(h : RepX W M b H (.frg f d) v)(ow : ∀ c ∈ f.ads,M c -> b ≠ some c -> M' c /\ b' ≠ some c)(k : ∀ c o,(¬ M' c \/ c ∈ f.ads) -> H c = some o -> H' c = some o)(a : ∀ c,M' c -> M c \/ H c = none) : RepX W M' b' H' (.frg f d) v := by
  refine ⟨fun c m => ?_,f.keep M' H H' v k (f.avoid M M' H v a h.2.1),Rep.keep (fun c o n e => k c o ?_ e) _ _ (Rep.avoid (fun c m => (a c m.1).imp (fun z => ⟨z,m.2⟩) id) _ _ h.2.2)⟩
  · obtain ⟨q1,q2,q3,q4⟩ := h.1 c m
    obtain ⟨z1,z2⟩ := ow c m q1 q2
    exact ⟨z1,z2,q3,q4⟩
  · by_cases z : c ∈ f.ads
    · exact .inr z
    · exact .inl fun m => n ⟨m,z⟩
theorem RepX.step {W : Wd}{M : Addr -> Prop}{b : Option Addr}{H H' : Hp}{d : D}{v : V}(hb : ∀ p,b = some p -> M p)(k : Kp b H H')(h : RepX W M b H d v) : RepX W M b H' d v := by
  have k' : ∀ c o,¬ M c -> H c = some o -> H' c = some o := fun c o n e => k c o (fun z => n (hb c z)) e
  cases d
  case own xs =>
    obtain ⟨a,vs,e,m,n,n0,m0,h1,h2⟩ := h
    exact ⟨a,vs,e,m,n,n0,m0,k _ _ n h1,Reps.keep k' _ _ h2⟩
  case bag => exact h
  case frg f d => exact RepX.move h (fun c m m1 n => ⟨m1,n⟩) (fun c o q e => q.elim (fun n => k' c o n e) fun m => k c o (h.1 c m).2.1 e) fun c m => .inl m
  all_goals exact Rep.keep k' _ _ h
theorem RepXs.reps {W : Wd}{M : Addr -> Prop}{b : Option Addr}{H : Hp} : ∀ (ds : List D) (vs : List V),RepXs W M b H ds vs -> ds.all plain = true -> Reps W.K M H ds vs
  | [],_,h,_ => h
  | d :: ds,vs,h,p => by
    obtain ⟨v,r,e,h1,h2⟩ := h
    simp only [List.all_cons,Bool.and_eq_true] at p
    exact ⟨v,r,e,h1.rep p.1,RepXs.reps ds r h2 p.2⟩
theorem Reps.length {K : PySem.W.Frag}{M : Addr -> Prop}{H : Hp} : ∀ (ds : List D) (vs : List V),Reps K M H ds vs -> vs.length = ds.length
  | [],_,h => by cases (show _ = _ from h); rfl
  | d :: ds,vs,h => by
    obtain ⟨v,r,rfl,h1,h2⟩ := h
    simp [Reps.length ds r h2]
theorem Reps.get {K : PySem.W.Frag}{M : Addr -> Prop}{H : Hp} : ∀ {ds : List D} {vs : List V} {i : Nat} {d : D},Reps K M H ds vs -> ds[i]? = some d -> ∃ v,vs[i]? = some v /\ Rep K M H d v
  | [],_,_,_,h,e => by simp at e
  | d :: ds,vs,0,_,h,e => by
    obtain ⟨v,r,rfl,h1,h2⟩ := h
    simp at e; subst e
    exact ⟨v,rfl,h1⟩
  | d :: ds,vs,i + 1,d',h,e => by
    obtain ⟨v,r,rfl,h1,h2⟩ := h
    obtain ⟨u,e1,e2⟩ := Reps.get (i := i) h2 (by simpa using e)
    exact ⟨u,by simpa using e1,e2⟩
theorem Reps.at {K : PySem.W.Frag}{M : Addr -> Prop}{H : Hp}{ds : List D}{vs : List V}{i : Int}{d : D}(h : Reps K M H ds vs)(e : atI ds i = some d) : ∃ v,atI vs i = some v /\ Rep K M H d v := by
  unfold atI at *
  rw [h.length]
  cases q : ixN ds.length i with
  | none => rw [q] at e; cases e
  | some j =>
    rw [q] at e
    exact Reps.get h e
theorem Reps.append {K : PySem.W.Frag}{M : Addr -> Prop}{H : Hp} : ∀ {ds es : List D} {vs us : List V},Reps K M H ds vs -> Reps K M H es us -> Reps K M H (ds ++ es) (vs ++ us)
  | [],_,_,_,h,h' => by cases (show _ = _ from h); exact h'
  | d :: ds,_,_,_,h,h' => by
    obtain ⟨v,r,rfl,h1,h2⟩ := h
    exact ⟨v,_,rfl,h1,Reps.append h2 h'⟩
theorem Reps.set {K : PySem.W.Frag}{M : Addr -> Prop}{H : Hp}{d : D}{v : V}(h0 : Rep K M H d v) : ∀ {ds : List D} {vs : List V} (j : Nat),Reps K M H ds vs -> Reps K M H (ds.set j d) (vs.set j v)
  | [],_,_,h => by cases (show _ = _ from h); exact rfl
  | e :: ds,_,0,h => by
    obtain ⟨v',r,rfl,h1,h2⟩ := h
    exact ⟨v,r,rfl,h0,h2⟩
  | e :: ds,_,j + 1,h => by
    obtain ⟨v',r,rfl,h1,h2⟩ := h
    exact ⟨v',_,rfl,h1,Reps.set h0 j h2⟩
theorem Reps.drop {K : PySem.W.Frag}{M : Addr -> Prop}{H : Hp} : ∀ {ds : List D} {vs : List V} (j : Nat),Reps K M H ds vs -> Reps K M H (ds.drop j) (vs.drop j)
  | _,_,0,h => h
  | [],_,_ + 1,h => by cases (show _ = _ from h); exact rfl
  | e :: ds,_,j + 1,h => by
    obtain ⟨v',r,rfl,h1,h2⟩ := h
    exact Reps.drop j h2
theorem Reps.take {K : PySem.W.Frag}{M : Addr -> Prop}{H : Hp} : ∀ {ds : List D} {vs : List V} (j : Nat),Reps K M H ds vs -> Reps K M H (ds.take j) (vs.take j)
  | _,_,0,h => rfl
  | [],_,_ + 1,h => by cases (show _ = _ from h); exact rfl
  | e :: ds,_,j + 1,h => by
    obtain ⟨v',r,rfl,h1,h2⟩ := h
    exact ⟨v',_,rfl,h1,Reps.take j h2⟩
def PinR (W : Wd)(M : Addr -> Prop)(b : Option Addr)(H : Hp) : D -> V -> Prop
  | .own xs,v => RepX W M b H (.own xs) v
  | d,v => Rep W.K M H d v
theorem PinR.x {W : Wd}{M : Addr -> Prop}{b : Option Addr}{H : Hp}{d : D}{v : V}(h : PinR W M b H d v) : RepX W M b H d v := by
  cases d <;> first | exact h | exact h.elim
theorem RepX.pin {W : Wd}{M : Addr -> Prop}{b : Option Addr}{H : Hp}{d : D}{v : V}(h : RepX W M b H d v)(p : plain d = true) : PinR W M b H d v := by
  cases d <;> first | exact h | cases p
theorem PinR.to {W : Wd}{M M' : Addr -> Prop}{b b' : Option Addr}{H H' : Hp}{d : D}{v : V}(h : PinR W M b H d v)(rep : ∀ d v,Rep W.K M H d v -> Rep W.K M' H' d v)(reps : ∀ ds vs,Reps W.K M H ds vs -> Reps W.K M' H' ds vs)(own : ∀ xs a vs,d = .own xs -> v = .ref a -> M a -> b ≠ some a -> H a = some (.lst vs) -> M' a /\ b' ≠ some a /\ H' a = some (.lst vs)) : PinR W M' b' H' d v := by
  cases d
  case own xs =>
    obtain ⟨a,vs,rfl,m1,m2,m3,m4,hh,r⟩ := h
    obtain ⟨q1,q2,q3⟩ := own xs a vs rfl rfl m1 m2 hh
    exact ⟨a,vs,rfl,q1,q2,m3,m4,q3,reps _ _ r⟩
  case bag => exact h.elim
  all_goals exact rep _ _ h
def mineA : D -> V -> Addr -> Prop
  | .own _,v,c => v = .ref c
  | .frg f _,_,c => c ∈ f.ads
  | _,_,_ => False
def mine : D -> Bool
  | .own _ => true
  | .frg _ _ => true
  | _ => false
theorem mineA.m {d : D}{v : V}{c : Addr}(h : mineA d v c) : mine d = true := by cases d <;> first | rfl | exact h.elim
theorem RepX.mine {W : Wd}{M : Addr -> Prop}{b : Option Addr}{H : Hp}{d : D}{v : V}{c : Addr}(h : RepX W M b H d v)(m : mineA d v c) : M c /\ b ≠ some c /\ W.H0 c = none /\ ¬ W.M0 c := by
  cases d
  case own xs =>
    obtain ⟨a,vs,e,m1,n,n0,m0,h1,h2⟩ := h
    cases (e.symm.trans (show v = .ref c from m))
    exact ⟨m1,n,n0,m0⟩
  case frg f d => exact h.1 c m
  all_goals exact m.elim
structure Sta (W : Wd)(pn : List (D × V))(M : Addr -> Prop)(b : Option Addr)(H : Hp)(σ : St)(ρ : Ev) : Prop extends Hs W M b H where
  kp : Kp W.b0 W.H0 H
  new : b = W.b0 \/ (W.b0 = none /\ ∀ p,b = some p -> W.H0 p = none)
  env : ∀ (i : Nat) d,ρ[i]? = some (some d) -> ∃ v,σ[i]? = some (some v) /\ RepX W M b H d v
  len : ρ.length = σ.length
  pin : ∀ q ∈ pn,PinR W M b H q.1 q.2
theorem Sta.step {W : Wd}{pn : List (D × V)}{M : Addr -> Prop}{b : Option Addr}{H H' : Hp}{σ : St}{ρ : Ev}(s : Sta W pn M b H σ ρ)(k : Kp b H H')(o : okB W.B b H') : Sta W pn M b H' σ ρ where
  ok := o
  bagM := s.bagM
  dom := fun c m => by
    by_cases z : b = some c
    · exact W.B.dm c H' (o c z)
    · obtain ⟨u,e⟩ := s.dom c m
      exact ⟨u,k c u z e⟩
  m0 := s.m0
  kp := fun c u n e => by
    refine k c u (fun z => ?_) (s.kp c u n e)
    rcases s.new with q | ⟨_,q⟩
    · exact n (q ▸ z)
    · rw [q c z] at e; cases e
  new := s.new
  env := fun i d e => by
    obtain ⟨v,e1,r⟩ := s.env i d e
    exact ⟨v,e1,r.step s.bagM k⟩
  len := s.len
  pin := fun q hq => (s.pin q hq).to (fun _ _ r => Rep.keep (fun c o n e => k c o (fun z => n (s.bagM c z)) e) _ _ r) (fun _ _ r => Reps.keep (fun c o n e => k c o (fun z => n (s.bagM c z)) e) _ _ r) fun xs a vs _ _ m n hh => ⟨m,n,k _ _ n hh⟩
theorem Hs.new {W : Wd}{M : Addr -> Prop}{b : Option Addr}{H : Hp}(s : Hs W M b H){p : Addr}(h : H p = none) : ¬ M p := fun m => by
  obtain ⟨o,e⟩ := s.dom p m
  rw [h] at e; cases e
theorem Hs.okU {W : Wd}{M : Addr -> Prop}{b : Option Addr}{H : Hp}(s : Hs W M b H){p : Addr}{o : HO}(h : H p = none) : okB W.B b (upd H p o) := fun q e => W.B.st q H _ (s.ok q e) fun u e' => Same.upd h q u e'
abbrev DE := Ev -> (D -> Prop) -> Prop
abbrev DT := Ev -> (Bool -> Prop) -> Prop
abbrev DA := Ev -> (List D -> Prop) -> Prop
def dn (W : Wd)(d : DE) : TE := fun σ H Q => ∃ pn M b ρ P,Sta W pn M b H σ ρ /\ d ρ P /\ ∀ x v H',P x -> RepX W M b H' x v -> Kp b H H' -> okB W.B b H' -> Q v H'
def dnT (W : Wd)(d : DT) : TT := fun σ H Q => ∃ pn M b ρ P,Sta W pn M b H σ ρ /\ d ρ P /\ ∀ x H',P x -> Kp b H H' -> okB W.B b H' -> Q x H'
def dnA (W : Wd)(d : DA) : TA := fun σ H Q => ∃ pn M b ρ P,Sta W pn M b H σ ρ /\ d ρ P /\ ∀ xs vs H',P xs -> RepXs W M b H' xs vs -> Kp b H H' -> okB W.B b H' -> Q vs H'
theorem dn.elim {W : Wd}{d : DE}{σ : St}{H : Hp}{Q : VK}{R : Prop}(h : dn W d σ H Q)(f : ∀ pn M b ρ P,Sta W pn M b H σ ρ -> d ρ P -> (∀ x v H',P x -> RepX W M b H' x v -> Kp b H H' -> okB W.B b H' -> Q v H') -> R) : R := by
  obtain ⟨pn,M,b,ρ,P,st,h,k⟩ := h
  exact f pn M b ρ P st h k
theorem dnT.elim {W : Wd}{d : DT}{σ : St}{H : Hp}{Q : Bool -> Hp -> Prop}{R : Prop}(h : dnT W d σ H Q)(f : ∀ pn M b ρ P,Sta W pn M b H σ ρ -> d ρ P -> (∀ x H',P x -> Kp b H H' -> okB W.B b H' -> Q x H') -> R) : R := by
  obtain ⟨pn,M,b,ρ,P,st,h,k⟩ := h
  exact f pn M b ρ P st h k
theorem dnA.elim {W : Wd}{d : DA}{σ : St}{H : Hp}{Q : List V -> Hp -> Prop}{R : Prop}(h : dnA W d σ H Q)(f : ∀ pn M b ρ P,Sta W pn M b H σ ρ -> d ρ P -> (∀ xs vs H',P xs -> RepXs W M b H' xs vs -> Kp b H H' -> okB W.B b H' -> Q vs H') -> R) : R := by
  obtain ⟨pn,M,b,ρ,P,st,h,k⟩ := h
  exact f pn M b ρ P st h k
section
variable {X : Cx}{W : Wd}{e a b c : Expr}{es : List Expr}{pos : Pos}{d da db dc : DE}{dA : DA}{t : TE}
theorem PE.mono {t' : TE}(h : PE X e t)(m : ∀ σ H Q,t' σ H Q -> t σ H Q) : PE X e t' := fun pins s σ H Q I q => h pins s σ H Q I (m σ H Q q)
theorem PT.mono {t t' : TT}(h : PT X e t)(m : ∀ σ H Q,t' σ H Q -> t σ H Q) : PT X e t' := fun pins s σ H Q I q => h pins s σ H Q I (m σ H Q q)
theorem PA.mono {t t' : TA}(h : PA X es t)(m : ∀ σ H Q,t' σ H Q -> t σ H Q) : PA X es t' := fun pos pins s σ H Q I q => h pos pins s σ H Q I (m σ H Q q)
def dVar (i : Nat) : DE := fun ρ P => match ρ[i]? with | some (some d) => P d | _ => False
theorem dv (i : Nat) {x : Str} {pos : Pos} (hN : X.N[i]? = some x := by rfl) (hv : Vis X.env.scope x := by first | exact Or.inl rfl | exact Or.inr (Or.inl rfl) | exact Or.inr (Or.inr rfl)) (hd : (x == ("__debug__" : Str)) = false := by decide)
    (hcd : (x == ("__classdict__" : Str)) = false := by decide) : PE X (.Name x pos) (dn W (dVar i)) := (pe_var hN hv hd hcd).mono fun σ H Q hh => hh.elim fun pn M b ρ P st h k => by
  unfold dVar at h
  split at h
  case h_1 d e =>
    obtain ⟨v,e1,r⟩ := st.env i d e
    exact ⟨v,e1,k d v H h r (Kp.refl _ _) st.ok⟩
  case h_2 => exact h.elim
def dC (d : D) : DE := fun _ P => P d
theorem de_c {d : D}{v : V}(h : PE X e (tC v))(hr : ∀ M H,Rep W.K M H d v) : PE X e (dn W (dC d)) := h.mono fun σ H Q hh => hh.elim fun pn M b ρ P st h k => k d v H h (Rep.x (hr M H)) (Kp.refl _ _) st.ok
theorem de_int {i j pos} : PE X (.Constant (.int i) j pos) (dn W (dC (.int i))) := de_c pe_int fun _ _ => rfl
theorem de_bl {i j pos} : PE X (.Constant (.bool i) j pos) (dn W (dC (.bl i))) := de_c pe_bl fun _ _ => rfl
theorem de_non {j pos} : PE X (.Constant .none j pos) (dn W (dC .non)) := de_c pe_non fun _ _ => rfl
theorem de_globI {x : Str}{n : Int}{pos : Pos}(hg : Gl X x)(hm : ∃ t,X.mg x = some (.int n t))(hd : (x == ("__debug__" : Str)) = false := by decide) : PE X (.Name x pos) (dn W (dC (.int n))) := de_c (pe_globI hg hm hd) fun _ _ => rfl
theorem de_bltn {x : Str}{T : String}{pos : Pos}(hg : Gl X x)(hm : X.mg x = none)(hv : bootBuiltins x = some (.type T))(hn : x ≠ "__name__" := by decide) (hd : (x == ("__debug__" : Str)) = false := by decide) : PE X (.Name x pos) (dn W (dC (.ty T))) := de_c (pe_bltn (v := .ty T) hg hm hv rfl hn hd) fun _ _ => rfl
def OpD (W : Wd)(r : R2)(o : D -> D -> (D -> Prop) -> Prop) : Prop := ∀ M b H x y v u P Q,Hs W M b H -> RepX W M b H x v -> RepX W M b H y u -> o x y P -> (∀ z w H',P z -> RepX W M b H' z w -> Kp b H H' -> okB W.B b H' -> Q w H') -> r v u H Q
def dOp (o : D -> D -> (D -> Prop) -> Prop)(da db : DE) : DE := fun ρ P => da ρ fun x => db ρ fun y => o x y P
theorem up_op {r : R2}{o : D -> D -> (D -> Prop) -> Prop}(hd : OpD W r o) : ∀ σ H Q,dn W (dOp o da db) σ H Q -> tOp r (dn W da) (dn W db) σ H Q := by
  intro σ H Q hh
  refine hh.elim fun pn M b ρ P st h k => ?_
  refine ⟨pn,M,b,ρ,_,st,h,fun x v H1 hx rx k1 o1 => ?_⟩
  refine ⟨pn,M,b,ρ,_,st.step k1 o1,hx,fun y u H2 hy ry k2 o2 => ?_⟩
  exact hd M b H2 x y v u P Q ((st.step k1 o1).step k2 o2).toHs (rx.step st.bagM k2) ry hy fun z w H' hz rz k3 o3 => k z w H' hz rz ((k1.trans k2).trans k3) o3
theorem de_op {op : Operator}{r : R2}{o : D -> D -> (D -> Prop) -> Prop}(ho : OpR X (binaryOp op) r)(hd : OpD W r o)(ha : PE X a (dn W da))(hb : PE X b (dn W db)) : PE X (.BinOp a op b pos) (dn W (dOp o da db)) := (pe_op ho ha hb).mono (up_op hd)
theorem de_cmp {op : CmpOp}{r : R2}{o : D -> D -> (D -> Prop) -> Prop}(ho : OpR X (compareOp op) r)(hd : OpD W r o)(ha : PE X a (dn W da))(hb : PE X b (dn W db))(hm : behindInMarks op b = false) : PE X (.Compare a [op] [b] pos) (dn W (dOp o da db)) := (pe_cmpR ho ha hb hm).mono (up_op hd)
theorem de_ix {r : R2}{o : D -> D -> (D -> Prop) -> Prop}(hr : IxR X r)(hd : OpD W r o)(ha : PE X a (dn W da))(hb : PE X b (dn W db))(hs : PlainIx b) : PE X (.Subscript a b pos) (dn W (dOp o da db)) := (pe_ix hr ha hb hs).mono (up_op hd)
def oI (C : Int -> Int -> Prop)(g : Int -> Int -> Int) : D -> D -> (D -> Prop) -> Prop
  | .int i,.int j,P => C i j /\ P (.int (g i j))
  | _,_,_ => False
def oI0 (g : Int -> Int -> Int) : D -> D -> (D -> Prop) -> Prop
  | .int i,.int j,P => P (.int (g i j))
  | _,_,_ => False
def oB0 (g : Int -> Int -> Bool) : D -> D -> (D -> Prop) -> Prop
  | .int i,.int j,P => P (.bl (g i j))
  | _,_,_ => False
theorem od_I {C : Int -> Int -> Prop}{g : Int -> Int -> Int} : OpD W (rI C fun i j => .int (g i j)) (oI C g) := by
  intro M b H x y v u P Q hs rx ry ho k
  cases x <;> first | exact ho.elim | skip
  cases y <;> first | exact ho.elim | skip
  cases (show _ = _ from rx)
  cases (show _ = _ from ry)
  exact ⟨_,_,rfl,rfl,ho.1,k _ _ H ho.2 (show _ = _ from rfl) (Kp.refl _ _) hs.ok⟩
theorem od_I0 {g : Int -> Int -> Int} : OpD W (rI0 fun i j => .int (g i j)) (oI0 g) := by
  intro M b H x y v u P Q hs rx ry ho k
  cases x <;> first | exact ho.elim | skip
  cases y <;> first | exact ho.elim | skip
  cases (show _ = _ from rx)
  cases (show _ = _ from ry)
  exact ⟨_,_,rfl,rfl,k _ _ H ho (show _ = _ from rfl) (Kp.refl _ _) hs.ok⟩
theorem od_B0 {g : Int -> Int -> Bool} : OpD W (rI0 fun i j => .bl (g i j)) (oB0 g) := by
  intro M b H x y v u P Q hs rx ry ho k
  cases x <;> first | exact ho.elim | skip
  cases y <;> first | exact ho.elim | skip
  cases (show _ = _ from rx)
  cases (show _ = _ from ry)
  exact ⟨_,_,rfl,rfl,k _ _ H ho (show _ = _ from rfl) (Kp.refl _ _) hs.ok⟩
def oEqS (neg : Bool) : D -> D -> (D -> Prop) -> Prop
  | .int i,.int j,P => P (.bl (decide (i = j) != neg))
  | .bl i,.bl j,P => P (.bl (decide (i = j) != neg))
  | .str i,.str j,P => P (.bl (decide (i = j) != neg))
  | .non,.non,P => P (.bl (true != neg))
  | .non,.int _,P => P (.bl (false != neg))
  | .int _,.non,P => P (.bl (false != neg))
  | .str _,.int _,P => P (.bl (false != neg))
  | .int _,.str _,P => P (.bl (false != neg))
  | _,_,_ => False
theorem od_eqS : OpD W rEq (oEqS false) := by
  intro M b H x y v u P Q hs rx ry ho k
  cases x <;> cases y <;> first | exact ho.elim | skip
  all_goals (cases (show _ = _ from rx); cases (show _ = _ from ry); refine ⟨rfl,?_⟩; refine k _ _ H ho ?_ (Kp.refl _ _) hs.ok)
  all_goals (show V.bl _ = V.bl _; simp)
theorem od_neS : OpD W rNe (oEqS true) := by
  intro M b H x y v u P Q hs rx ry ho k
  cases x <;> cases y <;> first | exact ho.elim | skip
  all_goals (cases (show _ = _ from rx); cases (show _ = _ from ry); refine ⟨rfl,?_⟩; refine k _ _ H ho ?_ (Kp.refl _ _) hs.ok)
  all_goals (show V.bl _ = V.bl _; simp)
def isNon : D -> Bool
  | .non => true
  | _ => false
def oIsN (neg : Bool) : D -> D -> (D -> Prop) -> Prop
  | x,.non,P => P (.bl (isNon x != neg))
  | _,_,_ => False
theorem isN_rep {M : Addr -> Prop}{b : Option Addr}{H : Hp}{x : D}{v : V}(rx : RepX W M b H x v) : decide (v = .non) = isNon x := by
  cases x
  case non => cases (show _ = _ from rx); rfl
  case own => obtain ⟨a,vs,rfl,_⟩ := rx; rfl
  case frg f d => obtain ⟨a,rfl⟩ := f.ref _ _ _ rx.2.1; rfl
  case bag => obtain ⟨a,_,rfl⟩ := rx; rfl
  case tup => obtain ⟨a,vs,rfl,_⟩ := rx; rfl
  case lst => obtain ⟨a,vs,rfl,_⟩ := rx; rfl
  case scr => obtain ⟨a,rfl,_⟩ := rx; rfl
  case dct => obtain ⟨a,vs,rfl,_⟩ := rx; rfl
  all_goals (cases (show _ = _ from rx); rfl)
theorem od_notN : OpD W (fun x y H Q => y = .non /\ Q (.bl (!decide (x = .non))) H) (oIsN true) := by
  intro M b H x y v u P Q hs rx ry ho k
  cases y <;> first | exact ho.elim | skip
  cases (show _ = _ from ry)
  refine ⟨rfl,k _ _ H ho ?_ (Kp.refl _ _) hs.ok⟩
  show V.bl _ = V.bl _
  rw [isN_rep rx]; simp
def oIx : D -> D -> (D -> Prop) -> Prop
  | .tup xs,.int i,P => (atI xs i).elim False P
  | .lst xs,.int i,P => (atI xs i).elim False P
  | .own xs,.int i,P => (atI xs i).elim False P
  | _,_,_ => False
theorem ix_any (K : PySem.W.Frag)(h : X.K = K) : IxR X (fun x y H Q => rIxT K x y H Q \/ rIxL K x y H Q) := (ix_tupK K h).or (ix_listK K h)
theorem od_ix : OpD W (fun x y H Q => rIxT W.K x y H Q \/ rIxL W.K x y H Q) oIx := by
  intro M b H x y v u P Q hs rx ry ho k
  cases x <;> first | exact ho.elim | skip
  all_goals (cases y <;> first | exact ho.elim | skip)
  all_goals cases (show _ = _ from ry)
  case tup.int xs i =>
    obtain ⟨a,vs,rfl,hh,r⟩ := rx
    simp only [oIx] at ho
    cases e : atI xs i with
    | none => rw [e] at ho; exact ho.elim
    | some d =>
      rw [e] at ho
      obtain ⟨w,e1,r1⟩ := r.at e
      exact .inl ⟨a,vs,i,w,rfl,rfl,hh.sq,e1,k d w H ho r1.x (Kp.refl _ _) hs.ok⟩
  case lst.int xs i =>
    obtain ⟨a,vs,rfl,hh,r⟩ := rx
    simp only [oIx] at ho
    cases e : atI xs i with
    | none => rw [e] at ho; exact ho.elim
    | some d =>
      rw [e] at ho
      obtain ⟨w,e1,r1⟩ := r.at e
      exact .inr ⟨a,vs,i,w,rfl,rfl,SqL.of hh.2,e1,k d w H ho r1.x (Kp.refl _ _) hs.ok⟩
  case own.int xs i =>
    obtain ⟨a,vs,rfl,_,_,_,_,hh,r⟩ := rx
    simp only [oIx] at ho
    cases e : atI xs i with
    | none => rw [e] at ho; exact ho.elim
    | some d =>
      rw [e] at ho
      obtain ⟨w,e1,r1⟩ := r.at e
      exact .inr ⟨a,vs,i,w,rfl,rfl,SqL.of hh,e1,k d w H ho r1.x (Kp.refl _ _) hs.ok⟩
inductive IfP (c : Bool)(A B : Prop) : Prop
  | t (e : c = true) (h : A) : IfP c A B
  | f (e : c = false) (h : B) : IfP c A B
theorem IfP.of {c : Bool}{A B : Prop}(h1 : c = true -> A)(h2 : c = false -> B) : IfP c A B := by
  cases c
  · exact .f rfl (h2 rfl)
  · exact .t rfl (h1 rfl)
theorem IfP.true_of {A B : Prop}(h : IfP true A B) : A := by
  cases h with
  | t _ h => exact h
  | f e _ => cases e
theorem IfP_true {A B : Prop} : IfP true A B = A := propext ⟨IfP.true_of,fun h => .t rfl h⟩
def dAnd (da db : DE) : DE := fun ρ P => da ρ fun x => match x with | .bl k => IfP k (db ρ P) (P (.bl false)) | _ => False
def dOr (da db : DE) : DE := fun ρ P => da ρ fun x => match x with | .bl k => IfP k (P (.bl true)) (db ρ P) | _ => False
def dNot (da : DE) : DE := fun ρ P => da ρ fun x => match x with | .bl k => P (.bl (!k)) | _ => False
variable {rest : List Expr}
theorem de_one {op}(h : PE X a (dn W da)) : PE X (.BoolOp op [a] pos) (dn W da) := pe_one h
theorem de_and (ha : PE X a (dn W da))(hb : PE X (.BoolOp .And (b :: rest) pos) (dn W db)) : PE X (.BoolOp .And (a :: b :: rest) pos) (dn W (dAnd da db)) := (pe_and ha hb).mono fun σ H Q hh => hh.elim fun pn M b ρ P st h k => by
  refine ⟨pn,M,b,ρ,_,st,h,fun x v H1 hx rx k1 o1 => ?_⟩
  cases x <;> first | exact hx.elim | skip
  case bl c =>
    cases (show _ = _ from rx)
    refine ⟨c,rfl,?_⟩
    cases hx with
    | f e hx => subst e; rw [if_neg Bool.false_ne_true]; exact k _ _ H1 hx (show _ = _ from rfl) k1 o1
    | t e hx => subst e; rw [if_pos rfl]; exact ⟨pn,M,b,ρ,P,st.step k1 o1,hx,fun x v H' hp r k2 o2 => k x v H' hp r (k1.trans k2) o2⟩
theorem de_or (ha : PE X a (dn W da))(hb : PE X (.BoolOp .Or (b :: rest) pos) (dn W db)) : PE X (.BoolOp .Or (a :: b :: rest) pos) (dn W (dOr da db)) := (pe_or ha hb).mono fun σ H Q hh => hh.elim fun pn M b ρ P st h k => by
  refine ⟨pn,M,b,ρ,_,st,h,fun x v H1 hx rx k1 o1 => ?_⟩
  cases x <;> first | exact hx.elim | skip
  case bl c =>
    cases (show _ = _ from rx)
    refine ⟨c,rfl,?_⟩
    cases hx with
    | f e hx => subst e; rw [if_neg Bool.false_ne_true]; exact ⟨pn,M,b,ρ,P,st.step k1 o1,hx,fun x v H' hp r k2 o2 => k x v H' hp r (k1.trans k2) o2⟩
    | t e hx => subst e; rw [if_pos rfl]; exact k _ _ H1 hx (show _ = _ from rfl) k1 o1
theorem de_not (ha : PE X a (dn W da)) : PE X (.UnaryOp .Not a pos) (dn W (dNot da)) := (pe_not ha).mono fun σ H Q hh => hh.elim fun pn M b ρ P st h k => by
  refine ⟨pn,M,b,ρ,_,st,h,fun x v H1 hx rx k1 o1 => ?_⟩
  cases x <;> first | exact hx.elim | skip
  case bl c =>
    cases (show _ = _ from rx)
    exact ⟨c,rfl,k _ _ H1 hx (show _ = _ from rfl) k1 o1⟩
def dTest (da : DE) : DT := fun ρ P => da ρ fun x => match x with | .bl k => P k | _ => False
theorem dt_cmp {op : CmpOp}{r : R2}{o : D -> D -> (D -> Prop) -> Prop}(ho : OpR X (compareOp op) r)(hd : OpD W r o)(ha : PE X a (dn W da))(hb : PE X b (dn W db))(hm : behindInMarks op b = false) : PT X (.Compare a [op] [b] pos) (dnT W (dTest (dOp o da db))) := (pt_cmpR ho ha hb hm).mono fun σ H Q hh => hh.elim fun pn M b ρ P st h k => by
  refine up_op hd σ H _ ⟨pn,M,b,ρ,_,st,h,fun x v H1 hx rx k1 o1 => ?_⟩
  cases x <;> first | exact hx.elim | skip
  case bl c =>
    cases (show _ = _ from rx)
    exact ⟨c,rfl,k _ H1 hx k1 o1⟩
def dTru (da : DE) : DT := fun ρ P => da ρ fun x => match x with
  | .bl k => P k
  | .int i => P (i != 0)
  | .non => P false
  | .tup xs => P (!xs.isEmpty)
  | .lst xs => P (!xs.isEmpty)
  | .own xs => P (!xs.isEmpty)
  | _ => False
theorem Reps.empty {K : PySem.W.Frag}{M : Addr -> Prop}{H : Hp}{ds : List D}{vs : List V}(h : Reps K M H ds vs) : (!ds.isEmpty) = !vs.isEmpty := by
  cases ds with
  | nil => cases (show _ = _ from h); rfl
  | cons d ds => obtain ⟨v,r,rfl,_⟩ := h; rfl
theorem dt_truth (hK : X.K = W.K)(ha : PE X a (dn W da))(he : ∀ whole,isTrue a X.env whole = (do let v <- whole; standAt a.pos; holding [v] (truthy v))) : PT X a (dnT W (dTru da)) := (pt_truthK W.K hK ha he).mono fun σ H Q hh => hh.elim fun pn M b ρ P st h k => by
  refine ⟨pn,M,b,ρ,_,st,h,fun x v H1 hx rx k1 o1 => ?_⟩
  cases x <;> first | exact hx.elim | skip
  case bl c => cases (show _ = _ from rx); exact ⟨_,rfl,k _ H1 hx k1 o1⟩
  case int c => cases (show _ = _ from rx); exact ⟨_,rfl,k _ H1 hx k1 o1⟩
  case non => cases (show _ = _ from rx); exact ⟨_,rfl,k _ H1 hx k1 o1⟩
  case tup xs => obtain ⟨a,vs,rfl,hh,r⟩ := rx; exact ⟨_,.inr (.inl ⟨vs,hh.sq,r.empty⟩),k _ H1 hx k1 o1⟩
  case lst xs => obtain ⟨a,vs,rfl,hh,r⟩ := rx; exact ⟨_,.inl ⟨vs,SqL.of hh.2,r.empty⟩,k _ H1 hx k1 o1⟩
  case own xs => obtain ⟨a,vs,rfl,_,_,_,_,hh,r⟩ := rx; exact ⟨_,.inl ⟨vs,SqL.of hh,r.empty⟩,k _ H1 hx k1 o1⟩
def dTAnd (t u : DT) : DT := fun ρ P => t ρ fun c => IfP c (u ρ P) (P false)
def dTOr (t u : DT) : DT := fun ρ P => t ρ fun c => IfP c (P true) (u ρ P)
def dTNot (t : DT) : DT := fun ρ P => t ρ fun c => P (!c)
variable {ta tb : DT}
theorem up_and : ∀ σ H Q,dnT W (dTAnd ta tb) σ H Q -> tAnd (dnT W ta) (dnT W tb) σ H Q := by
  intro σ H Q hh
  refine hh.elim fun pn M b ρ P st h k => ?_
  refine ⟨pn,M,b,ρ,_,st,h,fun x H1 hx k1 o1 => ?_⟩
  cases hx with
  | t e hx => rw [if_pos e]; exact ⟨pn,M,b,ρ,P,st.step k1 o1,hx,fun x H' hp k2 o2 => k x H' hp (k1.trans k2) o2⟩
  | f e hx => rw [if_neg (by rw [e]; exact Bool.false_ne_true)]; exact k _ H1 hx k1 o1
theorem up_or : ∀ σ H Q,dnT W (dTOr ta tb) σ H Q -> tOr (dnT W ta) (dnT W tb) σ H Q := by
  intro σ H Q hh
  refine hh.elim fun pn M b ρ P st h k => ?_
  refine ⟨pn,M,b,ρ,_,st,h,fun x H1 hx k1 o1 => ?_⟩
  cases hx with
  | t e hx => rw [if_pos e]; exact k _ H1 hx k1 o1
  | f e hx => rw [if_neg (by rw [e]; exact Bool.false_ne_true)]; exact ⟨pn,M,b,ρ,P,st.step k1 o1,hx,fun x H' hp k2 o2 => k x H' hp (k1.trans k2) o2⟩
theorem PW.mono {t t' : TT}(h : PW X e t)(m : ∀ σ H Q,t' σ H Q -> t σ H Q) : PW X e t' := fun wh pins s σ H Q I q => h wh pins s σ H Q I (m σ H Q q)
theorem dw_and1 (ha : PT X a (dnT W ta)) : PW X (.BoolOp .And [a] pos) (dnT W ta) := pw_and1 ha
theorem dw_or1 (ha : PT X a (dnT W ta)) : PW X (.BoolOp .Or [a] pos) (dnT W ta) := pw_or1 ha
theorem dw_and (ha : PT X a (dnT W ta))(hb : PW X (.BoolOp .And (b :: rest) pos) (dnT W tb)) : PW X (.BoolOp .And (a :: b :: rest) pos) (dnT W (dTAnd ta tb)) := (pw_and ha hb).mono up_and
theorem dw_or (ha : PT X a (dnT W ta))(hb : PW X (.BoolOp .Or (b :: rest) pos) (dnT W tb)) : PW X (.BoolOp .Or (a :: b :: rest) pos) (dnT W (dTOr ta tb)) := (pw_or ha hb).mono up_or
theorem dt_not (ha : PT X a (dnT W ta)) : PT X (.UnaryOp .Not a pos) (dnT W (dTNot ta)) := (pt_not ha).mono fun σ H Q hh => hh.elim fun pn M b ρ P st h k => ⟨pn,M,b,ρ,_,st,h,fun x H1 hx k1 o1 => k _ H1 hx k1 o1⟩
def aNil : DA := fun _ P => P []
def aCons (da : DE)(dr : DA) : DA := fun ρ P => da ρ fun x => dr ρ fun xs => P (x :: xs)
theorem da_nil : PA X [] (dnA W aNil) := pa_nil.mono fun σ H Q hh => hh.elim fun pn M b ρ P st h k => k [] [] H h rfl (Kp.refl _ _) st.ok
theorem da_cons {dr : DA}(ha : PE X e (dn W da))(hr : PA X es (dnA W dr))(hs : starEach (e :: es) X.env = (false,eval e X.env) :: starEach es X.env := by rfl) : PA X (e :: es) (dnA W (aCons da dr)) := (pa_cons ha hr hs).mono fun σ H Q hh => hh.elim fun pn M b ρ P st h k => by
  refine ⟨pn,M,b,ρ,_,st,h,fun x v H1 hx rx k1 o1 => ?_⟩
  refine ⟨pn,M,b,ρ,_,st.step k1 o1,hx,fun xs vs H2 hy ry k2 o2 => ?_⟩
  exact k _ _ H2 hy ⟨v,vs,rfl,rx.step st.bagM k2,ry⟩ (k1.trans k2) o2
def okIt (xs : List D) : Bool := xs.all plain && decide (xs.length <= 1000)
def dTup (dA : DA) : DE := fun ρ P => dA ρ fun xs => okIt xs = true /\ P (.tup xs)
def dLst (dA : DA) : DE := fun ρ P => dA ρ fun xs => okIt xs = true /\ P (.lst xs)
theorem okIt.len {xs : List D}(h : okIt xs = true) : xs.length <= sizeLine := by
  unfold okIt at h
  simp only [Bool.and_eq_true,decide_eq_true_eq] at h
  exact Nat.le_trans h.2 le1000
theorem okIt.pl {xs : List D}(h : okIt xs = true) : xs.all plain = true := by
  unfold okIt at h
  simp only [Bool.and_eq_true,decide_eq_true_eq] at h
  exact h.1
theorem new_tup {M : Addr -> Prop}{bg : Option Addr}{H : Hp}{xs : List D}{vs : List V}{p : Addr}(hs : Hs W M bg H)(r : Reps W.K M H xs vs)(h : H p = none) : RepX W M bg (upd H p (.tup vs)) (.tup xs) (.ref p) :=
  ⟨p,vs,rfl,.inl ⟨hs.new h,upd_same⟩,Reps.keep (fun c o _ e => Same.upd h c o e) _ _ r⟩
theorem new_lst {M : Addr -> Prop}{bg : Option Addr}{H : Hp}{xs : List D}{vs : List V}{p : Addr}(hs : Hs W M bg H)(r : Reps W.K M H xs vs)(h : H p = none) : RepX W M bg (upd H p (.lst vs)) (.lst xs) (.ref p) :=
  ⟨p,vs,rfl,⟨hs.new h,upd_same⟩,Reps.keep (fun c o _ e => Same.upd h c o e) _ _ r⟩
theorem de_tup {x1}(h : PA X es (dnA W dA)) : PE X (.Tuple es x1 pos) (dn W (dTup dA)) := (pe_tup h).mono fun σ H Q hh => hh.elim fun pn M b ρ P st h k => by
  refine ⟨pn,M,b,ρ,_,st,h,fun xs vs H1 hx rx k1 o1 => ?_⟩
  have rr := rx.reps _ _ (okIt.pl hx.1)
  refine ⟨by rw [rr.length]; exact okIt.len hx.1,fun p hp => k _ _ _ hx.2 (new_tup (st.step k1 o1).toHs rr hp) (k1.trans (Kp.upd hp)) ((st.step k1 o1).okU hp)⟩
theorem de_lst (h : PA X es (dnA W dA)) : PE X (.List es pos) (dn W (dLst dA)) := (pe_lst h).mono fun σ H Q hh => hh.elim fun pn M b ρ P st h k => by
  refine ⟨pn,M,b,ρ,_,st,h,fun xs vs H1 hx rx k1 o1 => ?_⟩
  have rr := rx.reps _ _ (okIt.pl hx.1)
  refine ⟨by rw [rr.length]; exact okIt.len hx.1,fun p hp => k _ _ _ hx.2 (new_lst (st.step k1 o1).toHs rr hp) (k1.trans (Kp.upd hp)) ((st.step k1 o1).okU hp)⟩
end
end L2
set_option Elab.async false
set_option linter.all false
set_option maxRecDepth 100000
set_option maxHeartbeats 4000000
namespace L2
open PySem PySem.Spec PyProof.Rows
abbrev DSp := List D -> (D -> Prop) -> (Addr -> Prop) -> Prop
def RepA (K : PySem.W.Frag)(M : Addr -> Prop)(b : Option Addr)(H : Hp) : D -> V -> Prop
  | .own _,_ => False
  | .bag,v => ∃ p,b = some p /\ v = .ref p
  | d,v => Rep K M H d v
def RepAs (K : PySem.W.Frag)(M : Addr -> Prop)(b : Option Addr)(H : Hp) : List D -> List V -> Prop
  | [],vs => vs = []
  | d :: ds,vs => ∃ v r,vs = v :: r /\ RepA K M b H d v /\ RepAs K M b H ds r
def liftSp (K : PySem.W.Frag)(B : BagT)(S : DSp) : Sp := fun vs H Q E => ∃ (M : Addr -> Prop) (b : Option Addr) (ds : List D) (P : D -> Prop) (Ed : Addr -> Prop),S ds P Ed /\ RepAs K M b H ds vs /\ okB B b H /\ (∀ p,b = some p -> M p) /\ (∀ c,M c -> ∃ o,H c = some o) /\
  (∀ d v H',P d -> Rep K M H' d v -> Kp b H H' -> okB B b H' -> Q v H') /\ ∀ C H',Ed C -> Kp b H H' -> okB B b H' -> E (.ref C) none H'
theorem RepXs.args {W : Wd}{M : Addr -> Prop}{b : Option Addr}{H : Hp} : ∀ (ds : List D) (vs : List V),RepXs W M b H ds vs -> ds.all notOwn = true -> RepAs W.K M b H ds vs
  | [],_,h,_ => h
  | d :: ds,vs,h,p => by
    obtain ⟨v,r,e,h1,h2⟩ := h
    simp only [List.all_cons,Bool.and_eq_true] at p
    refine ⟨v,r,e,?_,RepXs.args ds r h2 p.2⟩
    cases d <;> first | exact h1 | cases p.1
theorem RepAs.length {K : PySem.W.Frag}{M : Addr -> Prop}{b : Option Addr}{H : Hp} : ∀ {ds : List D} {vs : List V},RepAs K M b H ds vs -> vs.length = ds.length
  | [],_,h => by cases (show _ = _ from h); rfl
  | d :: ds,vs,h => by
    obtain ⟨v,r,rfl,h1,h2⟩ := h
    simp [RepAs.length h2]
def ELink (W : Wd)(E : XK)(Ed : Addr -> Prop) : Prop := ∀ C H',Ed C -> Kp W.b0 W.H0 H' -> okB W.B W.b0 H' -> E (.ref C) none H'
theorem Sta.ok0 {W : Wd}{pn : List (D × V)}{M : Addr -> Prop}{b : Option Addr}{H : Hp}{σ : St}{ρ : Ev}(s : Sta W pn M b H σ ρ) : okB W.B W.b0 H := by
  rcases s.new with q | ⟨q,_⟩
  · rw [<- q]; exact s.ok
  · intro p e; rw [q] at e; cases e
section
variable {X : Cx}{W : Wd}{e a b c : Expr}{es : List Expr}{pos p : Pos}{d da db dc : DE}{dA : DA}{x : Str}{k : Nat}{ps : List Str}{S : DSp}
def dCall (S : DSp)(Ed : Addr -> Prop)(dA : DA) : DE := fun ρ P => dA ρ fun ds => ds.all notOwn = true /\ S ds P Ed
theorem up_call {E : XK}{Ed : Addr -> Prop}(hE : ELink W E Ed) : ∀ σ H Q,dn W (dCall S Ed dA) σ H Q -> tCall (liftSp W.K W.B S) [] E (dnA W dA) σ H Q := by
  intro σ H Q hh
  refine hh.elim fun pn M b ρ P st h k => ?_
  refine ⟨pn,M,b,ρ,_,st,h,fun xs vs H1 hx rx k1 o1 => ?_⟩
  have st1 := st.step k1 o1
  refine ⟨M,b,xs,P,Ed,hx.2,?_,o1,st.bagM,st1.dom,fun d v H' hd rd k2 o2 => k d v H' hd rd.x (k1.trans k2) o2,fun C H' hC k2 o2 => ?_⟩
  · rw [List.append_nil]; exact rx.args _ _ hx.1
  · have st2 := st1.step k2 o2
    exact hE C H' hC st2.kp st2.ok0
theorem elink0 : ELink W E0 (fun _ => False) := fun _ _ h => h.elim
theorem de_own (G : Callee X.prog X.w X.K X.mg X.base CX0 x k ps (liftSp W.K W.B S))(hr : Room k X.A)(hg : Gl X x)(ha : PA X (e :: es) (dnA W dA))(hdb : (x == ("__debug__" : Str)) = false := by decide) (he : starEach (e :: es) X.env = (false,eval e X.env) :: starEach es X.env := by rfl) (hpl : (backTo pos (starEach es X.env)).any (·.1) = false := by rfl) :
    PE X (.Call (.Name x p) (e :: es) [] pos) (dn W (dCall S (fun _ => False) dA)) := (pe_own G hr hg ha hdb he hpl).mono (up_call elink0)
theorem de_ownX {CX : CXT}{E : XK}{Ed : Addr -> Prop}(hE : ELink W E Ed)(hp : Passes CX X E)(G : Callee X.prog X.w X.K X.mg X.base CX x k ps (liftSp W.K W.B S))(hr : Room k X.A)(hg : Gl X x)(ha : PA X (e :: es) (dnA W dA))(hdb : (x == ("__debug__" : Str)) = false := by decide) (he : starEach (e :: es) X.env = (false,eval e X.env) :: starEach es X.env := by rfl) (hpl : (backTo pos (starEach es X.env)).any (·.1) = false := by rfl) :
    PE X (.Call (.Name x p) (e :: es) [] pos) (dn W (dCall S Ed dA)) := (pe_ownX hp G hr hg ha hdb he hpl).mono (up_call hE)
def CallD (W : Wd)(r : List V -> Hp -> VK -> Prop)(o : List D -> (D -> Prop) -> Prop) : Prop := ∀ M b H xs vs P Q,Hs W M b H -> RepXs W M b H xs vs -> o xs P -> (∀ z w H',P z -> RepX W M b H' z w -> Kp b H H' -> okB W.B b H' -> Q w H') -> r vs H Q
def dCB (o : List D -> (D -> Prop) -> Prop)(dA : DA) : DE := fun ρ P => dA ρ fun xs => o xs P
variable {r : List V -> Hp -> VK -> Prop}{o : List D -> (D -> Prop) -> Prop}{id T : String}
theorem up_cb (hd : CallD W r o) : ∀ σ H Q,dn W (dCB o dA) σ H Q -> tCB r (dnA W dA) σ H Q := by
  intro σ H Q hh
  refine hh.elim fun pn M b ρ P st h k => ?_
  refine ⟨pn,M,b,ρ,_,st,h,fun xs vs H1 hx rx k1 o1 => ?_⟩
  exact hd M b H1 xs vs P Q (st.step k1 o1).toHs rx hx fun z w H' hz rz k2 o2 => k z w H' hz rz (k1.trans k2) o2
theorem de_callB (hc : CallR X (.builtin id) r)(hd : CallD W r o)(hg : Gl X x)(hm : X.mg x = none)(hv : bootBuiltins x = some (.builtin id))(ha : PA X (e :: es) (dnA W dA))(hn : x ≠ "__name__" := by decide) (hdb : (x == ("__debug__" : Str)) = false := by decide)
    (he : starEach (e :: es) X.env = (false,eval e X.env) :: starEach es X.env := by rfl) (hpl : (backTo pos (starEach es X.env)).any (·.1) = false := by rfl) : PE X (.Call (.Name x p) (e :: es) [] pos) (dn W (dCB o dA)) := (pe_callB hc hg hm hv ha hn hdb he hpl).mono (up_cb hd)
theorem de_callTy (hc : CallR X (.type T) r)(hd : CallD W r o)(hg : Gl X x)(hm : X.mg x = none)(hv : bootBuiltins x = some (.type T))(ha : PA X (e :: es) (dnA W dA))(hn : x ≠ "__name__" := by decide) (hdb : (x == ("__debug__" : Str)) = false := by decide)
    (he : starEach (e :: es) X.env = (false,eval e X.env) :: starEach es X.env := by rfl) (hpl : (backTo pos (starEach es X.env)).any (·.1) = false := by rfl) : PE X (.Call (.Name x p) (e :: es) [] pos) (dn W (dCB o dA)) := (pe_callTy hc hg hm hv ha hn hdb he hpl).mono (up_cb hd)
theorem rx1 {M : Addr -> Prop}{b : Option Addr}{H : Hp}{x : D}{vs : List V}(h : RepXs W M b H [x] vs) : ∃ v,vs = [v] /\ RepX W M b H x v := by
  obtain ⟨v,r,rfl,h1,h2⟩ := h
  cases (show _ = _ from h2)
  exact ⟨v,rfl,h1⟩
theorem rx2 {M : Addr -> Prop}{b : Option Addr}{H : Hp}{x y : D}{vs : List V}(h : RepXs W M b H [x,y] vs) : ∃ v u,vs = [v,u] /\ RepX W M b H x v /\ RepX W M b H y u := by
  obtain ⟨v,r,rfl,h1,h2⟩ := h
  obtain ⟨u,rfl,h3⟩ := rx1 h2
  exact ⟨v,u,rfl,h1,h3⟩
def intsOf : List D -> Option (List Int)
  | [] => some []
  | .int i :: r => (intsOf r).map (i :: ·)
  | _ => none
def blsOf : List D -> Option (List Bool)
  | [] => some []
  | .bl i :: r => (blsOf r).map (i :: ·)
  | _ => none
theorem intsOf.eq : ∀ {ds : List D} {ns : List Int},intsOf ds = some ns -> ds = ns.map D.int
  | [],ns,h => by cases h; rfl
  | d :: r,ns,h => by
    cases d <;> first | cases h | skip
    case int i =>
      simp only [intsOf,Option.map_eq_some_iff] at h
      obtain ⟨m,e,rfl⟩ := h
      rw [intsOf.eq e]; rfl
theorem blsOf.eq : ∀ {ds : List D} {ns : List Bool},blsOf ds = some ns -> ds = ns.map D.bl
  | [],ns,h => by cases h; rfl
  | d :: r,ns,h => by
    cases d <;> first | cases h | skip
    case bl i =>
      simp only [blsOf,Option.map_eq_some_iff] at h
      obtain ⟨m,e,rfl⟩ := h
      rw [blsOf.eq e]; rfl
theorem blsOf_map (ns : List Bool) : blsOf (ns.map D.bl) = some ns := by
  induction ns with
  | nil => rfl
  | cons n ns ih => simp [blsOf,ih]
theorem Reps.ints {K : PySem.W.Frag}{M : Addr -> Prop}{H : Hp} : ∀ {ns : List Int} {vs : List V},Reps K M H (ns.map D.int) vs -> vs = ns.map V.int
  | [],_,h => by cases (show _ = _ from h); rfl
  | n :: ns,_,h => by
    obtain ⟨v,r,rfl,h1,h2⟩ := h
    cases (show _ = _ from h1)
    rw [Reps.ints h2]; rfl
theorem Reps.bls {K : PySem.W.Frag}{M : Addr -> Prop}{H : Hp} : ∀ {ns : List Bool} {vs : List V},Reps K M H (ns.map D.bl) vs -> vs = ns.map V.bl
  | [],_,h => by cases (show _ = _ from h); rfl
  | n :: ns,_,h => by
    obtain ⟨v,r,rfl,h1,h2⟩ := h
    cases (show _ = _ from h1)
    rw [Reps.bls h2]; rfl
def asL : D -> Option (List D)
  | .lst xs => some xs
  | .own xs => some xs
  | _ => none
def asS : D -> Option (List D)
  | .lst xs => some xs
  | .own xs => some xs
  | .tup xs => some xs
  | _ => none
theorem asL.rep {M : Addr -> Prop}{b : Option Addr}{H : Hp}{x : D}{v : V}{xs : List D}(h : RepX W M b H x v)(e : asL x = some xs) : ∃ a vs,v = .ref a /\ H a = some (.lst vs) /\ Reps W.K M H xs vs := by
  cases x <;> first | cases e | skip
  case lst => obtain ⟨a,vs,rfl,hh,r⟩ := h; exact ⟨a,vs,rfl,hh.2,r⟩
  case own => obtain ⟨a,vs,rfl,_,_,_,_,hh,r⟩ := h; exact ⟨a,vs,rfl,hh,r⟩
theorem asS.rep {M : Addr -> Prop}{b : Option Addr}{H : Hp}{x : D}{v : V}{xs : List D}(h : RepX W M b H x v)(e : asS x = some xs) : ∃ a vs,v = .ref a /\ (SqL W.K H a vs \/ SqT W.K H a vs) /\ Reps W.K M H xs vs := by
  cases x <;> first | cases e | skip
  case lst => obtain ⟨a,vs,rfl,hh,r⟩ := h; exact ⟨a,vs,rfl,.inl (SqL.of hh.2),r⟩
  case own => obtain ⟨a,vs,rfl,_,_,_,_,hh,r⟩ := h; exact ⟨a,vs,rfl,.inl (SqL.of hh),r⟩
  case tup => obtain ⟨a,vs,rfl,hh,r⟩ := h; exact ⟨a,vs,rfl,.inr (hh.sq),r⟩
def oLen : List D -> (D -> Prop) -> Prop
  | [.lst xs],P => P (.int xs.length)
  | [.own xs],P => P (.int xs.length)
  | [.tup xs],P => P (.int xs.length)
  | [.scr ns],P => P (.int ns.length)
  | _,_ => False
theorem cd_len : CallD W (fun xs H Q => ∃ p ys,xs = [.ref p] /\ (SqL W.K H p ys \/ SqT W.K H p ys) /\ Q (.int ys.length) H) oLen := by
  intro M b H xs vs P Q hs rx ho k
  match xs,ho with
  | [.lst xs],ho =>
    obtain ⟨v,rfl,r⟩ := rx1 rx
    obtain ⟨a,us,rfl,hh,r'⟩ := r
    exact ⟨a,us,rfl,.inl (SqL.of hh.2),k _ _ H ho (by show _ = _; rw [r'.length]) (Kp.refl _ _) hs.ok⟩
  | [.own xs],ho =>
    obtain ⟨v,rfl,r⟩ := rx1 rx
    obtain ⟨a,us,rfl,_,_,_,_,hh,r'⟩ := r
    exact ⟨a,us,rfl,.inl (SqL.of hh),k _ _ H ho (by show _ = _; rw [r'.length]) (Kp.refl _ _) hs.ok⟩
  | [.tup xs],ho =>
    obtain ⟨v,rfl,r⟩ := rx1 rx
    obtain ⟨a,us,rfl,hh,r'⟩ := r
    exact ⟨a,us,rfl,.inr (hh.sq),k _ _ H ho (by show _ = _; rw [r'.length]) (Kp.refl _ _) hs.ok⟩
  | [.scr ns],ho =>
    obtain ⟨v,rfl,r⟩ := rx1 rx
    obtain ⟨a,rfl,hh⟩ := r
    refine ⟨a,ns.map V.int,rfl,.inl (hh.imp (·.2) id),k _ _ H ho (by show _ = _; rw [List.length_map]) (Kp.refl _ _) hs.ok⟩
def oTuple : List D -> (D -> Prop) -> Prop
  | [.lst xs],P => P (.tup xs)
  | [.own xs],P => P (.tup xs)
  | [.tup xs],P => P (.tup xs)
  | _,_ => False
theorem cd_tuple : CallD W (fun xs H Q => ∃ p ys,xs = [.ref p] /\ ((SqL W.K H p ys /\ ∀ l,H l = none -> Q (.ref l) (upd H l (.tup ys))) \/ (SqT W.K H p ys /\ Q (.ref p) H))) oTuple := by
  intro M b H xs vs P Q hs rx ho k
  match xs,ho with
  | [.lst xs],ho =>
    obtain ⟨v,rfl,r⟩ := rx1 rx
    obtain ⟨a,us,rfl,hh,r'⟩ := r
    exact ⟨a,us,rfl,.inl ⟨SqL.of hh.2,fun l hl => k _ _ _ ho (new_tup hs r' hl) (Kp.upd hl) (hs.okU hl)⟩⟩
  | [.own xs],ho =>
    obtain ⟨v,rfl,r⟩ := rx1 rx
    obtain ⟨a,us,rfl,_,_,_,_,hh,r'⟩ := r
    exact ⟨a,us,rfl,.inl ⟨SqL.of hh,fun l hl => k _ _ _ ho (new_tup hs r' hl) (Kp.upd hl) (hs.okU hl)⟩⟩
  | [.tup xs],ho =>
    obtain ⟨v,rfl,r⟩ := rx1 rx
    obtain ⟨a,us,rfl,hh,r'⟩ := r
    exact ⟨a,us,rfl,.inr ⟨hh.sq,k _ _ H ho ⟨a,us,rfl,hh,r'⟩ (Kp.refl _ _) hs.ok⟩⟩
def oAbs : List D -> (D -> Prop) -> Prop
  | [.int i],P => P (.int (if i < 0 then -i else i))
  | _,_ => False
theorem cd_abs : CallD W (fun xs H Q => ∃ i,xs = [.int i] /\ Q (.int (if i < 0 then -i else i)) H) oAbs := by
  intro M b H xs vs P Q hs rx ho k
  match xs,ho with
  | [.int i],ho =>
    obtain ⟨v,rfl,r⟩ := rx1 rx
    cases (show _ = _ from r)
    exact ⟨i,rfl,k _ _ H ho (show _ = _ from rfl) (Kp.refl _ _) hs.ok⟩
def o2I (g : Int -> Int -> Int) : List D -> (D -> Prop) -> Prop
  | [.int i,.int j],P => P (.int (g i j))
  | _,_ => False
theorem cd_2I {g : Int -> Int -> Int} : CallD W (fun xs H Q => ∃ i j,xs = [.int i,.int j] /\ Q (.int (g i j)) H) (o2I g) := by
  intro M b H xs vs P Q hs rx ho k
  match xs,ho with
  | [.int i,.int j],ho =>
    obtain ⟨v,u,rfl,r,r'⟩ := rx2 rx
    cases (show _ = _ from r)
    cases (show _ = _ from r')
    exact ⟨i,j,rfl,k _ _ H ho (show _ = _ from rfl) (Kp.refl _ _) hs.ok⟩
def oBls (g : List Bool -> Bool) : List D -> (D -> Prop) -> Prop
  | [x],P => (asL x).elim False fun xs => (blsOf xs).elim False fun ns => P (.bl (g ns))
  | _,_ => False
theorem cd_bls {g : List Bool -> Bool} : CallD W (fun xs H Q => ∃ (p : Addr) (bs : List Bool),xs = [.ref p] /\ SqL W.K H p (bs.map V.bl) /\ Q (.bl (g bs)) H) (oBls g) := by
  intro M b H xs vs P Q hs rx ho k
  match xs,ho with
  | [x],ho =>
    obtain ⟨v,rfl,r⟩ := rx1 rx
    simp only [oBls] at ho
    cases ex : asL x with
    | none => rw [ex] at ho; exact ho.elim
    | some xs =>
      rw [ex] at ho
      simp only [Option.elim] at ho
      cases en : blsOf xs with
      | none => rw [en] at ho; exact ho.elim
      | some ns =>
        rw [en] at ho
        cases blsOf.eq en
        obtain ⟨a,us,rfl,hh,r'⟩ := asL.rep r ex
        cases r'.bls
        exact ⟨a,ns,rfl,SqL.of hh,k _ _ H ho (show _ = _ from rfl) (Kp.refl _ _) hs.ok⟩
theorem call_isinstA (K : PySem.W.Frag)(h : X.K = K) : CallR X (.builtin "isinstance") (fun xs H Q => ∃ y c t b,xs = [y,.ty c] /\ (TyOf K H y t \/ ∃ a vs,y = .ref a /\ KTp K a vs /\ t = .type "tuple") /\ PySem.W.kitOne K t (.type c) = some b /\ Q (.bl b) H) := by
  subst h
  intro pins s σ H xs us Q I rs q
  obtain ⟨y,c,t,b,rfl,ty,e,q⟩ := q
  rcases ty with ty | ⟨a,vs,rfl,⟨o,its,n,hk,hc,hs,hz,r⟩,rfl⟩
  · exact call_isinst pins s σ H _ us Q I rs ⟨y,c,t,b,rfl,ty,e,q⟩
  · obtain ⟨u1,u2,rfl,r1,r2⟩ := vals2 rs
    cases (show u2 = Value.type c from r2)
    cases (show u1 = Value.ref a from r1)
    refine PySem.W.kia_one PySem.W.kitx_tuple I.kIn ⟨o,I.kIn a o hk,hc⟩ e (fun z => nomatch z) fun tk => ?_
    exact ⟨.bl b,H,I.tok _,rfl,q⟩
def tyName : D -> Option String
  | .non => some "NoneType"
  | .bl _ => some "bool"
  | .int _ => some "int"
  | .str _ => some "str"
  | .lst _ => some "list"
  | .own _ => some "list"
  | .tup _ => some "tuple"
  | .frg _ (.lst _) => some "list"
  | _ => none
def isTy (K : PySem.W.Frag)(t c : String)(b : Bool) : Prop := PySem.W.kitOne K (.type t) (.type c) = some b
def oIsI (K : PySem.W.Frag) : List D -> (D -> Prop) -> Prop
  | [x,.ty c],P => match tyName x with | some t => ∃ b,isTy K t c b /\ P (.bl b) | none => False
  | _,_ => False
theorem cd_isinst : CallD W (fun xs H Q => ∃ y c t b,xs = [y,.ty c] /\ (TyOf W.K H y t \/ ∃ a vs,y = .ref a /\ KTp W.K a vs /\ t = .type "tuple") /\ PySem.W.kitOne W.K t (.type c) = some b /\ Q (.bl b) H) (oIsI W.K) := by
  intro M b H xs vs P Q hs rx ho k
  match xs,ho with
  | [x,.ty c],ho =>
    obtain ⟨v,u,rfl,r,r'⟩ := rx2 rx
    cases (show _ = _ from r')
    simp only [oIsI] at ho
    split at ho
    case h_2 => exact ho.elim
    case h_1 t et =>
      obtain ⟨q,hq,hp⟩ := ho
      refine ⟨v,c,.type t,q,rfl,?_,hq,k _ _ H hp (show _ = _ from rfl) (Kp.refl _ _) hs.ok⟩
      cases x <;> first | cases et | skip
      case non => cases (show _ = _ from r); exact .inl (.non)
      case bl => cases (show _ = _ from r); exact .inl (.bl _)
      case int => cases (show _ = _ from r); exact .inl (.int _)
      case str => cases (show _ = _ from r); exact .inl (.str _)
      case lst => obtain ⟨a,us,rfl,hh,r'⟩ := r; exact .inl (.lst hh.2)
      case own => obtain ⟨a,us,rfl,_,_,_,_,hh,r'⟩ := r; exact .inl (.lst hh)
      case frg f d =>
        cases d <;> first | cases et | skip
        case lst => obtain ⟨a,us,rfl,hh,r'⟩ := r.2.2; exact .inl (.lst hh.2)
      case tup =>
        obtain ⟨a,us,rfl,hh,r'⟩ := r
        exact hh.elim (fun z => .inl (.tup z.2)) fun z => .inr ⟨a,us,rfl,z,rfl⟩
end
end L2
set_option Elab.async false
set_option linter.all false
set_option maxRecDepth 100000
set_option maxHeartbeats 4000000
namespace L2
open PySem PySem.Spec PyProof.Rows
theorem Reps.plain {K : PySem.W.Frag}{M : Addr -> Prop}{H : Hp} : ∀ {ds : List D} {vs : List V},Reps K M H ds vs -> ds.all plain = true
  | [],_,_ => rfl
  | d :: ds,_,h => by
    obtain ⟨v,r,rfl,h1,h2⟩ := h
    rw [List.all_cons,Reps.plain h2,Bool.and_true]
    cases d <;> first | rfl | exact h1.elim
theorem Reps.xs {W : Wd}{M : Addr -> Prop}{b : Option Addr}{H : Hp} : ∀ {ds : List D} {vs : List V},Reps W.K M H ds vs -> RepXs W M b H ds vs
  | [],_,h => h
  | d :: ds,_,h => by
    obtain ⟨v,r,rfl,h1,h2⟩ := h
    exact ⟨v,r,rfl,h1.x,Reps.xs h2⟩
def ItOk (W : Wd)(J : It)(need : List (D × V))(items : List D) : Prop := ∀ M b H,Hs W M b H -> (∀ q ∈ need,RepX W M b H q.1 q.2) ->
  (∀ (i : Nat) d,items[i]? = some d -> J.go i H /\ ∀ x H3,J.yld i H x H3 -> Same H H3 /\ RepX W M b H3 d x) /\ ∀ i,items.length <= i -> J.stop i H
def dnI (W : Wd)(fz : Bool)(di : DA) : TI := fun σ H R => ∃ pn M b ρ P,Sta W pn M b H σ ρ /\ di ρ P /\ ∀ items J need H',P items -> items.all plain = true -> ItOk W J need items -> (∀ q ∈ need,RepX W M b H' q.1 q.2 /\ (fz = true -> plain q.1 = true)) -> Kp b H H' -> okB W.B b H' -> R J H'
theorem dnI.elim {W : Wd}{fz : Bool}{d : DA}{σ : St}{H : Hp}{R : It -> Hp -> Prop}{Z : Prop}(h : dnI W fz d σ H R)(f : ∀ pn M b ρ P,Sta W pn M b H σ ρ -> d ρ P -> (∀ items J need H',P items -> items.all plain = true -> ItOk W J need items -> (∀ q ∈ need,RepX W M b H' q.1 q.2 /\ (fz = true -> plain q.1 = true)) -> Kp b H H' -> okB W.B b H' -> R J H') -> Z) : Z := by
  obtain ⟨pn,M,b,ρ,P,st,h,k⟩ := h
  exact f pn M b ρ P st h k
section
variable {X : Cx}{W : Wd}{tg l e a b c : Expr}{es : List Expr}{pos p : Pos}{d da db dc dl : DE}{dA di : DA}{fz : Bool}
theorem PI.mono {t t' : TI}(h : PI X tg l t)(m : ∀ σ H R,t' σ H R -> t σ H R) : PI X tg l t' := fun pins s σ H R I q => h pins s σ H R I (m σ H R q)
theorem pi_any {tl : TE}(K : PySem.W.Frag)(h : X.K = K)(hl : PE X l tl) : PI X tg l (fun σ H R => tl σ H fun x H1 => (∃ a,x = .ref a /\ (∃ xs,SqL K H1 a xs) /\ R (Itl K a) H1) \/ (∃ a,x = .ref a /\ (∃ xs,SqT K H1 a xs) /\ R (Itt K a) H1)) := by
  subst h
  intro pins s σ H R I h
  refine thn (hl pins s σ H _ I h) fun v s1 ⟨x,H1,I1,r1,q1⟩ => ?_
  rcases q1 with ⟨a,e,⟨xs,hq⟩,q⟩ | ⟨a,e,⟨xs,hq⟩,q⟩
  · subst e
    cases r1
    obtain ⟨its,rv,p,hz⟩ := I1.list hq
    refine wpAny_pyIter_list p.isList ?_
    refine ⟨s1.heap.objs.size,[s1.heap.objs.size],_,_,H1,rfl,I1.kept (t' := s1.toks) fun b o e => Heap.get?_push_of_some _ e,turn_list a _,⟨_,Heap.get?_push_size _ rfl,rfl,rfl⟩,fun b hb => ?_,q⟩
    have e : b = s1.heap.objs.size := by simpa using hb
    subst e
    exact I1.fpOk (Nat.le_refl _) (I1.hok.fresh (Nat.le_refl _))
  · subst e
    cases r1
    obtain ⟨its,rv,p,hz⟩ := I1.tuple hq
    refine wpAny_pyIter_tuple (show s1.heap.IsTuple a its.toArray from p) ?_
    refine ⟨s1.heap.objs.size,[s1.heap.objs.size],_,_,H1,rfl,I1.kept (t' := s1.toks) fun b o e => Heap.get?_push_of_some _ e,turn_tuple a _,⟨_,Heap.get?_push_size _ rfl,rfl,rfl⟩,fun b hb => ?_,q⟩
    have e : b = s1.heap.objs.size := by simpa using hb
    subst e
    exact I1.fpOk (Nat.le_refl _) (I1.hok.fresh (Nat.le_refl _))
def iSeq (fz : Bool)(dl : DE) : DA := fun ρ P => dl ρ fun x => match x with
  | .lst xs => P xs
  | .tup xs => P xs
  | .own xs => fz = false /\ P xs
  | _ => False
theorem it_lst {x : D}{xs : List D}{a : Addr}(hx : asL x = some xs) : ItOk W (Itl W.K a) [(x,.ref a)] xs := by
  intro M b H hs hn
  obtain ⟨a',vs,e,hh,r⟩ := asL.rep (hn _ (List.mem_singleton.mpr rfl)) hx
  cases e
  refine ⟨fun i d e => ?_,fun i hi => ⟨vs,SqL.of hh,by rw [r.length]; exact hi⟩⟩
  obtain ⟨v,e1,r1⟩ := r.get e
  refine ⟨⟨vs,v,SqL.of hh,e1⟩,fun y H3 ⟨eH,hy⟩ => ?_⟩
  subst eH
  have := hy vs (SqL.of hh)
  rw [e1] at this; cases this
  exact ⟨Same.refl _,r1.x⟩
theorem it_tup {xs : List D}{a : Addr} : ItOk W (Itt W.K a) [(.tup xs,.ref a)] xs := by
  intro M b H hs hn
  obtain ⟨a',vs,e,hh,r⟩ := hn _ (List.mem_singleton.mpr rfl)
  cases e
  refine ⟨fun i d e => ?_,fun i hi => ⟨vs,hh.sq,by rw [r.length]; exact hi⟩⟩
  obtain ⟨v,e1,r1⟩ := r.get e
  refine ⟨⟨vs,v,hh.sq,e1⟩,fun y H3 ⟨eH,hy⟩ => ?_⟩
  subst eH
  have := hy vs (hh.sq)
  rw [e1] at this; cases this
  exact ⟨Same.refl _,r1.x⟩
theorem need1 {M : Addr -> Prop}{b : Option Addr}{H : Hp}{x : D}{v : V}(r : RepX W M b H x v)(h : fz = true -> plain x = true) : ∀ q ∈ [(x,v)],RepX W M b H q.1 q.2 /\ (fz = true -> plain q.1 = true) := fun q hq => by
  have e := List.mem_singleton.mp hq
  subst e
  exact ⟨r,h⟩
theorem di_seq (hK : X.K = W.K)(hl : PE X l (dn W dl)) : PI X tg l (dnI W fz (iSeq fz dl)) := (pi_any W.K hK hl).mono fun σ H R hh => hh.elim fun pn M b ρ P st h k => by
  refine ⟨pn,M,b,ρ,_,st,h,fun x v H1 hx rx k1 o1 => ?_⟩
  cases x <;> first | exact hx.elim | skip
  case lst xs =>
    obtain ⟨a,vs,rfl,hh,r⟩ := (show RepX W M b H1 (.lst xs) v from rx)
    exact .inl ⟨a,rfl,⟨vs,SqL.of hh.2⟩,k xs _ _ H1 hx r.plain (it_lst (x := .lst xs) rfl) (need1 rx fun _ => rfl) k1 o1⟩
  case tup xs =>
    obtain ⟨a,vs,rfl,hh,r⟩ := (show RepX W M b H1 (.tup xs) v from rx)
    exact .inr ⟨a,rfl,⟨vs,hh.sq⟩,k xs _ _ H1 hx r.plain it_tup (need1 rx fun _ => rfl) k1 o1⟩
  case own xs =>
    obtain ⟨a,vs,rfl,m1,m2,m3,m4,hh,r⟩ := (show RepX W M b H1 (.own xs) v from rx)
    exact .inl ⟨a,rfl,⟨vs,SqL.of hh⟩,k xs _ _ H1 hx.2 r.plain (it_lst (x := .own xs) rfl) (need1 rx fun z => by rw [hx.1] at z; cases z) k1 o1⟩
def rangeD (lo : Int)(n : Nat) : List D := (List.range n).map fun (i : Nat) => .int (lo + i)
theorem rangeD_plain (lo : Int)(n : Nat) : (rangeD lo n).all plain = true := by
  simp [rangeD,plain]
theorem it_range {lo : Int}{n : Nat} : ItOk W (Itr lo n) [] (rangeD lo n) := by
  intro M b H hs _
  refine ⟨fun i d e => ?_,fun i hi => by show n <= i; simpa [rangeD] using hi⟩
  have hi : i < n := by
    have := (List.getElem?_eq_some_iff.mp e).1
    simpa [rangeD] using this
  refine ⟨hi,fun x H3 ⟨eH,ex⟩ => ?_⟩
  subst eH ex
  refine ⟨Same.refl _,?_⟩
  simp [rangeD,hi] at e
  subst e
  exact (show _ = _ from rfl)
def iRange1 (dA : DA) : DA := fun ρ P => dA ρ fun xs => match xs with
  | [.int j] => (-(2 ^ 62) <= j /\ j < 2 ^ 62) /\ P (rangeD 0 j.toNat)
  | _ => False
theorem di_range1 (hg : Gl X "range") (hm : X.mg "range" = none) (ha : PA X [a] (dnA W dA)) (hs : starEach [a] X.env = [(false,eval a X.env)] := by rfl) : PI X tg (.Call (.Name "range" p) [a] [] pos) (dnI W fz (iRange1 dA)) := (pi_range1 hg hm ha hs).mono fun σ H R hh => hh.elim fun pn M b ρ P st h k => by
  refine ⟨pn,M,b,ρ,_,st,h,fun xs vs H1 hx rx k1 o1 => ?_⟩
  match xs,hx with
  | [.int j],hx =>
    obtain ⟨v,rfl,r⟩ := rx1 rx
    cases (show _ = _ from r)
    exact ⟨j,rfl,hx.1.1,hx.1.2,k _ _ _ H1 hx.2 (rangeD_plain _ _) it_range (fun q hq => by cases hq) k1 o1⟩
def asK (fz t : Bool) : D -> Option (List D)
  | .tup xs => if t then some xs else none
  | .lst xs => if t then none else some xs
  | .own xs => if t || fz then none else some xs
  | _ => none
theorem asK.rep {M : Addr -> Prop}{b : Option Addr}{H : Hp}{t : Bool}{x : D}{v : V}{xs : List D}(h : RepX W M b H x v)(e : asK fz t x = some xs) : (∃ a vs,v = .ref a /\ SqX W.K t H a vs /\ Reps W.K M H xs vs) /\ (fz = true -> plain x = true) := by
  cases x <;> first | cases e | skip
  case lst =>
    obtain ⟨a,vs,rfl,hh,r⟩ := h
    cases t <;> cases e
    exact ⟨⟨a,vs,rfl,SqL.of hh.2,r⟩,fun _ => rfl⟩
  case own =>
    obtain ⟨a,vs,rfl,_,_,_,_,hh,r⟩ := h
    cases t <;> cases fz <;> cases e
    exact ⟨⟨a,vs,rfl,SqL.of hh,r⟩,fun z => by cases z⟩
  case tup =>
    obtain ⟨a,vs,rfl,hh,r⟩ := h
    cases t <;> cases e
    exact ⟨⟨a,vs,rfl,hh.sq,r⟩,fun _ => rfl⟩
end
def GD (W : Wd)(g : TG)(gd : D -> Ev -> (Ev -> Prop) -> Prop) : Prop := ∀ pn M b H σ ρ x v Q P,Sta W pn M b H σ ρ -> RepX W M b H x v -> plain x = true -> gd x ρ P -> (∀ ρ' σ',P ρ' -> Sta W pn M b H σ' ρ' -> (∀ (i : Nat) d,mine d = true -> ρ'[i]? = some (some d) -> ρ[i]? = some (some d) /\ σ'[i]? = σ[i]?) -> Q σ' H) -> g v σ H Q
theorem Sta.set {W : Wd}{pn : List (D × V)}{M : Addr -> Prop}{b : Option Addr}{H : Hp}{σ : St}{ρ : Ev}{x : D}{v : V}(s : Sta W pn M b H σ ρ)(j : Nat)(r : RepX W M b H x v) : Sta W pn M b H (σ.set j (some v)) (ρ.set j (some x)) where
  toHs := s.toHs
  kp := s.kp
  new := s.new
  len := by simp [s.len]
  pin := s.pin
  env := fun i d e => by
    by_cases z : j = i
    · subst z
      rw [List.getElem?_set] at e
      simp at e
      obtain ⟨hl,rfl⟩ := e
      exact ⟨v,by rw [List.getElem?_set]; simp [<- s.len,hl],r⟩
    · rw [List.getElem?_set_ne z] at e
      obtain ⟨w,e1,r1⟩ := s.env i d e
      exact ⟨w,by rw [List.getElem?_set_ne z]; exact e1,r1⟩
theorem own_set {ρ : Ev}{σ : St}{j : Nat}{x : D}{v : V}(p : plain x = true) : ∀ (i : Nat) d,mine d = true -> (ρ.set j (some x))[i]? = some (some d) -> ρ[i]? = some (some d) /\ (σ.set j (some v))[i]? = σ[i]? := fun i d hm e => by
  by_cases z : j = i
  · subst z
    rw [List.getElem?_set] at e
    simp at e
    obtain ⟨hl,rfl⟩ := e
    cases x <;> first | (cases hm; done) | (cases p; done)
  · rw [List.getElem?_set_ne z] at e
    exact ⟨e,by rw [List.getElem?_set_ne z]⟩
def gdN (j : Nat) : D -> Ev -> (Ev -> Prop) -> Prop := fun x ρ P => P (ρ.set j (some x))
theorem gd_name {W : Wd}(j : Nat) : GD W (gName j) (gdN j) := fun pn M b H σ ρ x v Q P st r p h k => k _ _ h (st.set j r) (own_set p)
def setAll : List Nat -> List D -> Ev -> Ev
  | j :: js,x :: xs,ρ => setAll js xs (ρ.set j (some x))
  | _,_,ρ => ρ
def gNames : List Nat -> TGs
  | [] => gNil
  | j :: js => gCons (gName j) (gNames js)
def gSeq (K : PySem.W.Frag)(n : Nat)(t : TGs) : TG := fun v σ H Q => gTup K n t v σ H Q \/ gLst K n t v σ H Q
def gdU (js : List Nat) : D -> Ev -> (Ev -> Prop) -> Prop := fun x ρ P => match x with
  | .tup xs => xs.length = js.length /\ P (setAll js xs ρ)
  | .lst xs => xs.length = js.length /\ P (setAll js xs ρ)
  | _ => False
theorem gd_names {W : Wd}{pn : List (D × V)}{M : Addr -> Prop}{b : Option Addr}{H : Hp}{Q : St -> Hp -> Prop}{P : Ev -> Prop} : ∀ (js : List Nat) (xs : List D) (vs : List V) (σ : St) (ρ : Ev),Sta W pn M b H σ ρ -> Reps W.K M H xs vs -> xs.length = js.length -> P (setAll js xs ρ) -> (∀ ρ' σ',P ρ' -> Sta W pn M b H σ' ρ' -> (∀ (i : Nat) d,mine d = true -> ρ'[i]? = some (some d) -> ρ[i]? = some (some d) /\ σ'[i]? = σ[i]?) -> Q σ' H) -> gNames js vs σ H Q
  | [],[],vs,σ,ρ,st,r,hl,h,k => ⟨r,k _ _ h st fun _ _ _ e => ⟨e,rfl⟩⟩
  | j :: js,x :: xs,vs,σ,ρ,st,r,hl,h,k => by
    obtain ⟨v,us,rfl,r1,r2⟩ := r
    refine ⟨v,us,rfl,?_⟩
    have p : plain x = true := by cases x <;> first | rfl | exact r1.elim
    refine gd_names js xs us _ (ρ.set j (some x)) (st.set j r1.x) r2 (by simpa using hl) h fun ρ' σ' hp st' ho => k ρ' σ' hp st' fun i xs hm e => ?_
    obtain ⟨z1,z2⟩ := ho i xs hm e
    obtain ⟨z3,z4⟩ := own_set (v := v) (σ := σ) p i xs hm z1
    exact ⟨z3,z2.trans z4⟩
theorem gd_seq {W : Wd}(js : List Nat) : GD W (gSeq W.K js.length (gNames js)) (gdU js) := fun pn M b H σ ρ x v Q P st r p h k => by
  cases x <;> first | exact h.elim | skip
  case tup xs =>
    obtain ⟨a,vs,rfl,hh,r⟩ := r
    exact .inl ⟨a,vs,rfl,hh.sq,by rw [r.length]; exact h.1,gd_names js xs vs σ ρ st r h.1 h.2 k⟩
  case lst xs =>
    obtain ⟨a,vs,rfl,hh,r⟩ := r
    exact .inr ⟨a,vs,rfl,SqL.of hh.2,by rw [r.length]; exact h.1,gd_names js xs vs σ ρ st r h.1 h.2 k⟩
theorem PG.or {X : Cx}{tg : Expr}{t u : TG}(h : PG X tg t)(h' : PG X tg u) : PG X tg (fun v σ H Q => t v σ H Q \/ u v σ H Q) := by
  intro pins s σ H v u' Q I r q
  rcases q with q | q
  · exact h pins s σ H v u' Q I r q
  · exact h' pins s σ H v u' Q I r q
theorem gkeep_seq {K : PySem.W.Frag}{js : List Nat}{n : Nat}{map : List (Option Nat)}(hj : ∀ j ∈ js,map[j]? = some none) : GKeep (gSeq K n (gNames js)) map := by
  have key : ∀ (js : List Nat),(∀ j ∈ js,map[j]? = some none) -> ∀ vs σ H Q,gNames js vs σ H Q -> gNames js vs σ H fun σ' H' => (σ'.length = σ.length /\ ∀ j i : Nat,map[j]? = some (some i) -> σ'[j]? = σ[j]?) /\ Q σ' H' := by
    intro js
    induction js with
    | nil => intro _ vs σ H Q h; exact ⟨h.1,⟨rfl,fun _ _ _ => rfl⟩,h.2⟩
    | cons j js ih =>
      intro hj vs σ H Q h
      obtain ⟨v,r,e,h⟩ := h
      refine ⟨v,r,e,?_⟩
      have q := ih (fun j' m => hj j' (.tail _ m)) r _ H _ h
      have mono : ∀ (js : List Nat) vs σ H (Q Q' : St -> Hp -> Prop),(∀ s h,Q s h -> Q' s h) -> gNames js vs σ H Q -> gNames js vs σ H Q' := by
        intro js
        induction js with
        | nil => intro vs σ H Q Q' m h; exact ⟨h.1,m _ _ h.2⟩
        | cons j js ih => intro vs σ H Q Q' m ⟨v,r,e,h⟩; exact ⟨v,r,e,ih _ _ _ _ _ m h⟩
      refine mono js r _ H _ _ (fun s h ⟨⟨l,z⟩,w⟩ => ⟨⟨by rw [l]; simp,fun j' i hm => ?_⟩,w⟩) q
      rw [z j' i hm]
      have n1 : j ≠ j' := fun z => by
        have := hj j (.head _)
        rw [z,hm] at this; cases this
      rw [List.getElem?_set_ne n1]
  intro v σ H Q h
  rcases h with ⟨a,xs,e,s,l,h⟩ | ⟨a,xs,e,s,l,h⟩
  · exact .inl ⟨a,xs,e,s,l,key js hj _ _ _ _ h⟩
  · exact .inr ⟨a,xs,e,s,l,key js hj _ _ _ _ h⟩
def captD (ρ : Ev)(map : List (Option Nat)) : Ev := map.map fun o => o.bind fun i => (ρ[i]?).join
def dCompL (gd : D -> Ev -> (Ev -> Prop) -> Prop)(dt : DT)(de : DE)(ρc : Ev) : List D -> List D -> (List D -> Prop) -> Prop
  | [],acc,P => P acc
  | x :: xs,acc,P => gd x ρc fun ρ1 => dt ρ1 fun c => IfP c (de ρ1 fun y => plain y = true /\ dCompL gd dt de ρc xs (acc ++ [y]) P) (dCompL gd dt de ρc xs acc P)
inductive compI (gd : D -> Ev -> (Ev -> Prop) -> Prop)(dt : DT)(de : DE)(ρc : Ev)(items : List D)(P : List D -> Prop) : Prop
  | mk (I : Nat -> List D -> Prop) (h0 : I 0 []) (hs : ∀ (i : Nat) x acc,items[i]? = some x -> I i acc -> gd x ρc fun ρ1 => dt ρ1 fun c => IfP c (de ρ1 fun y => plain y = true /\ I (i + 1) (acc ++ [y])) (I (i + 1) acc)) (hd : ∀ acc,I items.length acc -> P acc) : compI gd dt de ρc items P
theorem comp_rec {gd : D -> Ev -> (Ev -> Prop) -> Prop}{dt : DT}{de : DE}{ρc : Ev}{items : List D}{P : List D -> Prop}(h : dCompL gd dt de ρc items [] P) : compI gd dt de ρc items P := by
  refine ⟨fun i acc => dCompL gd dt de ρc (items.drop i) acc P,h,fun i x acc e q => ?_,fun acc q => ?_⟩
  · obtain ⟨hlt,rfl⟩ := List.getElem?_eq_some_iff.mp e
    try dsimp only at q
    rw [List.drop_eq_getElem_cons hlt] at q
    exact q
  · (try dsimp only at q); rw [List.drop_length] at q; exact q
def dComp (map : List (Option Nat))(gd : D -> Ev -> (Ev -> Prop) -> Prop)(di : DA)(dt : DT)(de : DE) : DE := fun ρ P => di ρ fun items => items.length <= 1000 /\ compI gd dt de (captD ρ map) items fun acc => P (.lst acc)
theorem Sta.capt {W : Wd}{pn : List (D × V)}{M : Addr -> Prop}{b : Option Addr}{H : Hp}{σ : St}{ρ : Ev}(s : Sta W pn M b H σ ρ)(map : List (Option Nat)) : Sta W pn M b H (capt σ map) (captD ρ map) where
  toHs := s.toHs
  kp := s.kp
  new := s.new
  len := by simp [L2.capt,captD]
  pin := s.pin
  env := fun j d e => by
    unfold captD at e
    rw [List.getElem?_map] at e
    simp only [Option.map_eq_some_iff] at e
    obtain ⟨o,e1,e2⟩ := e
    simp only [Option.bind_eq_some_iff] at e2
    obtain ⟨i,rfl,e3⟩ := e2
    have e4 : ρ[i]? = some (some d) := by
      cases q : ρ[i]? with
      | none => rw [q] at e3; cases e3
      | some z => rw [q] at e3; exact congrArg some e3
    obtain ⟨v,e5,r⟩ := s.env i d e4
    exact ⟨v,by unfold L2.capt; rw [List.getElem?_map,e1]; simp [e5],r⟩
theorem comp_turns {W : Wd}{pn : List (D × V)}{M : Addr -> Prop}{b : Option Addr}{H : Hp}{σ : St}{ρ : Ev}{J : It}{need : List (D × V)}{items : List D}{g : TG}{gd : D -> Ev -> (Ev -> Prop) -> Prop}{dt : DT}{de : DE}{P : List D -> Prop}{Fin : List V -> Hp -> Prop}
    (hG : GD W g gd) (st : Sta W pn M b H σ ρ) (hp : items.all plain = true) (hI : ItOk W J need items) (hn : ∀ q ∈ need,RepX W M b H q.1 q.2) (hl : items.length <= 1000) (h : compI gd dt de ρ items P)
    (fin : ∀ ds acc H',P ds -> Reps W.K M H' ds acc -> acc.length <= sizeLine -> Kp b H H' -> okB W.B b H' -> Fin acc H') : ∃ Wf : Nat -> Nat -> List V -> Hp -> Prop,(∃ m,Wf 0 m [] H) /\ Turns J g (dnT W dt) (dn W de) σ Fin Wf := by
  obtain ⟨I,i0,istep,idone⟩ := h
  refine ⟨fun i m acc H2 => m = items.length - i /\ i <= items.length /\ acc.length <= i /\ Kp b H H2 /\ okB W.B b H2 /\ ∃ ds,Reps W.K M H2 ds acc /\ I i ds,⟨items.length,by simp,Nat.zero_le _,Nat.le_refl _,Kp.refl _ _,st.ok,[],rfl,i0⟩,?_⟩
  rintro i m acc H2 ⟨rfl,hi,ha,k2,o2,ds,r,q⟩
  have st2 := st.step k2 o2
  obtain ⟨hgo,hstop⟩ := hI M b H2 st2.toHs fun q hq => (hn q hq).step st.bagM k2
  by_cases hlt : i < items.length
  · have ei : items[i]? = some items[i] := List.getElem?_eq_getElem hlt
    replace q := istep i _ ds ei q
    refine .inr ⟨(hgo i _ ei).1,by have := le1000; omega,fun acc' H' => acc'.length <= i + 1 /\ Kp b H H' /\ okB W.B b H' /\ ∃ ds,Reps W.K M H' ds acc' /\ I (i + 1) ds,fun acc' H' n => ⟨items.length - (i + 1),by omega,rfl,hlt,n⟩,fun x H3 y => ?_⟩
    obtain ⟨S3,rx⟩ := (hgo i _ ei).2 x H3 y
    have o3 : okB W.B b H3 := fun p e => W.B.st p H2 H3 (o2 p e) fun o e' => S3 p o e'
    have k3 : Kp b H2 H3 := Kp.same S3
    have st3 := st2.step k3 o3
    refine hG pn M b H3 σ ρ items[i] x _ _ st3 rx (List.all_eq_true.mp hp _ (List.getElem_mem hlt)) q fun ρ1 σ1 h1 st4 _ => ?_
    refine ⟨pn,M,b,ρ1,_,st4,h1,fun c H5 h5 k5 o5 => ?_⟩
    cases h5 with
    | t e h5 =>
      rw [if_pos e]
      refine ⟨pn,M,b,ρ1,_,st4.step k5 o5,h5,fun y v H6 h6 ry k6 o6 => ?_⟩
      have kk := ((k3.trans k5).trans k6)
      refine ⟨by simp; omega,k2.trans kk,o6,ds ++ [y],Reps.append (Reps.keep (fun c o n e => kk c o (fun z => n (st.bagM c z)) e) _ _ r) ⟨v,[],rfl,ry.rep h6.1,rfl⟩,h6.2⟩
    | f e h5 =>
      rw [if_neg (by rw [e]; exact Bool.false_ne_true)]
      have kk := k3.trans k5
      exact ⟨by omega,k2.trans kk,o5,ds,Reps.keep (fun c o n e => kk c o (fun z => n (st.bagM c z)) e) _ _ r,h5⟩
  · have e : i = items.length := by omega
    subst e
    exact .inl ⟨hstop _ (Nat.le_refl _),by have := le1000; omega,fin ds acc H2 (idone _ q) r (by have := le1000; omega) k2 o2⟩
section
variable {X : Cx}{W : Wd}{elt iter tg : Expr}{ifs : List Expr}{scope : Scope}{pos : Pos}{N' : List Str}{map : List (Option Nat)}{g : TG}{gd : D -> Ev -> (Ev -> Prop) -> Prop}{di : DA}{dt : DT}{de : DE}
theorem de_comp (hG : GD W g gd)(B : Blk X N' scope map tg elt ifs g (dnT W dt) (dn W de))(hi : PI X tg iter (dnI W false di))(hs : ∀ x,foldedSetIterable iter X.env x = pure x := by intro _; rfl) : PE X (.ListComp elt [⟨tg,iter,ifs,0⟩] scope pos) (dn W (dComp map gd di dt de)) := (pe_comp B hi hs).mono fun σ H Q hh => hh.elim fun pn M b ρ P st h k => by
  refine ⟨pn,M,b,ρ,_,st,h,fun items J need H1 hx hp hI hn k1 o1 => ?_⟩
  have st1 := st.step k1 o1
  refine comp_turns hG (st1.capt map) hp hI (fun q hq => (hn q hq).1) hx.1 hx.2 fun ds acc H' hP r hl k2 o2 D hD => ?_
  exact k _ _ _ hP (new_lst (st1.step k2 o2).toHs r hD) ((k1.trans k2).trans (Kp.upd hD)) ((st1.step k2 o2).okU hD)
def dTrue : DT := fun _ P => P true
theorem dif_nil : PIf X [] (dnT W dTrue) := fun pins s σ H Q I hh => hh.elim fun pn M b ρ P st h k => pif_nil pins s σ H Q I (k true H h (Kp.refl _ _) st.ok)
theorem dif_one {c : Expr}(hc : PT X c (dnT W dt)) : PIf X [c] (dnT W dt) := pif_one hc
end
end L2
set_option Elab.async false
set_option linter.all false
set_option maxRecDepth 100000
set_option maxHeartbeats 4000000
namespace L2
open PySem PySem.Spec PyProof.Rows
structure StS (W : Wd)(pn : List (D × V))(M : Addr -> Prop)(b : Option Addr)(H : Hp)(σ : St)(ρ : Ev) : Prop extends Sta W pn M b H σ ρ where
  dj : ∀ (i j : Nat) d e v u c,ρ[i]? = some (some d) -> ρ[j]? = some (some e) -> σ[i]? = some (some v) -> σ[j]? = some (some u) -> mineA d v c -> mineA e u c -> i = j
  lj : ∀ ys a,(D.own ys,V.ref a) ∈ pn -> ∀ (i : Nat) d v,ρ[i]? = some (some d) -> σ[i]? = some (some v) -> ¬ mineA d v a
theorem StS.own {W : Wd}{pn : List (D × V)}{M : Addr -> Prop}{b : Option Addr}{H : Hp}{σ : St}{ρ : Ev}(s : StS W pn M b H σ ρ) : ∀ (i j : Nat) xs ys a,ρ[i]? = some (some (.own xs)) -> ρ[j]? = some (some (.own ys)) -> σ[i]? = some (some (.ref a)) -> σ[j]? = some (some (.ref a)) -> i = j := fun i j xs ys a e1 e2 e3 e4 => s.dj i j _ _ _ _ a e1 e2 e3 e4 rfl rfl
theorem StS.lk {W : Wd}{pn : List (D × V)}{M : Addr -> Prop}{b : Option Addr}{H : Hp}{σ : St}{ρ : Ev}(s : StS W pn M b H σ ρ) : ∀ ys a,(D.own ys,V.ref a) ∈ pn -> ∀ (i : Nat) xs,ρ[i]? = some (some (.own xs)) -> σ[i]? ≠ some (some (.ref a)) := fun ys a hq i xs e y => s.lj ys a hq i _ _ e y rfl
theorem StS.step {W : Wd}{pn : List (D × V)}{M : Addr -> Prop}{b : Option Addr}{H H' : Hp}{σ : St}{ρ : Ev}(s : StS W pn M b H σ ρ)(k : Kp b H H')(o : okB W.B b H') : StS W pn M b H' σ ρ := ⟨s.toSta.step k o,s.dj,s.lj⟩
theorem StS.of2 {W : Wd}{pn pn' : List (D × V)}{M M' : Addr -> Prop}{b b' : Option Addr}{H H' : Hp}{σ σ' : St}{ρ ρ' : Ev}(s : StS W pn M b H σ ρ)(t : Sta W pn' M' b' H' σ' ρ')(hp : ∀ ys a,(D.own ys,V.ref a) ∈ pn' -> (D.own ys,V.ref a) ∈ pn)(h : ∀ (i : Nat) d v c,ρ'[i]? = some (some d) -> σ'[i]? = some (some v) -> mineA d v c -> ∃ d0,ρ[i]? = some (some d0) /\ σ[i]? = some (some v) /\ mineA d0 v c) : StS W pn' M' b' H' σ' ρ' :=
  ⟨t,fun i j d e v u c e1 e2 e3 e4 m1 m2 => by
    obtain ⟨d0,z1,z2,z3⟩ := h i d v c e1 e3 m1
    obtain ⟨d1,y1,y2,y3⟩ := h j e u c e2 e4 m2
    exact s.dj i j d0 d1 v u c z1 y1 z2 y2 z3 y3,fun ys a hq i d v e1 e2 m => by
    obtain ⟨d0,z1,z2,z3⟩ := h i d v a e1 e2 m
    exact s.lj ys a (hp ys a hq) i d0 v z1 z2 z3⟩
theorem StS.of {W : Wd}{pn : List (D × V)}{M M' : Addr -> Prop}{b b' : Option Addr}{H H' : Hp}{σ σ' : St}{ρ ρ' : Ev}(s : StS W pn M b H σ ρ)(t : Sta W pn M' b' H' σ' ρ')(h : ∀ (i : Nat) d,mine d = true -> ρ'[i]? = some (some d) -> ρ[i]? = some (some d) /\ σ'[i]? = σ[i]?) : StS W pn M' b' H' σ' ρ' :=
  s.of2 t (fun _ _ q => q) fun i d v c e1 e2 m => by
    obtain ⟨z1,z2⟩ := h i d m.m e1
    exact ⟨d,z1,z2 ▸ e2,m⟩
theorem StS.add {W : Wd}{pn : List (D × V)}{M M' : Addr -> Prop}{b b' : Option Addr}{H H' : Hp}{σ : St}{ρ : Ev}(s : StS W pn M b H σ ρ)(i : Nat){d : D}{v : V}(t : Sta W pn M' b' H' (σ.set i (some v)) (ρ.set i (some d)))(h : ∀ c,mineA d v c -> ¬ M c) : StS W pn M' b' H' (σ.set i (some v)) (ρ.set i (some d)) := by
  have slot : ∀ (j : Nat) e u,(ρ.set i (some d))[j]? = some (some e) -> (σ.set i (some v))[j]? = some (some u) -> (j = i /\ e = d /\ u = v) \/ (j ≠ i /\ ρ[j]? = some (some e) /\ σ[j]? = some (some u)) := fun j e u e1 e2 => by
    by_cases z : i = j
    · subst z
      rw [List.getElem?_set] at e1 e2
      simp at e1 e2
      exact .inl ⟨rfl,e1.2.symm,e2.2.symm⟩
    · rw [List.getElem?_set_ne z] at e1 e2
      exact .inr ⟨fun y => z y.symm,e1,e2⟩
  have old : ∀ (j : Nat) e u c,ρ[j]? = some (some e) -> σ[j]? = some (some u) -> mineA e u c -> M c := fun j e u c e1 e2 m => by
    obtain ⟨w,e3,r⟩ := s.env j e e1
    rw [e2] at e3; cases e3
    exact (r.mine m).1
  refine ⟨t,fun j k e f u w c e1 e2 e3 e4 m1 m2 => ?_,fun ys a hq j e u e1 e2 m => ?_⟩
  · rcases slot j e u e1 e3 with ⟨z1,z2,z3⟩ | ⟨z1,z2,z3⟩ <;> rcases slot k f w e2 e4 with ⟨y1,y2,y3⟩ | ⟨y1,y2,y3⟩
    · rw [z1,y1]
    · subst z2 z3; exact absurd (old k f w c y2 y3 m2) (h c m1)
    · subst y2 y3; exact absurd (old j e u c z2 z3 m1) (h c m2)
    · exact s.dj j k e f u w c z2 y2 z3 y3 m1 m2
  · rcases slot j e u e1 e2 with ⟨z1,z2,z3⟩ | ⟨z1,z2,z3⟩
    · subst z2 z3
      obtain ⟨a2,us2,ev,n1,_⟩ := (s.pin _ hq)
      cases ev
      exact absurd n1 (h a m)
    · exact s.lj ys a hq j e u z2 z3 m
structure DEnds where
  nx : Ev -> Prop
  rt : D -> Prop
  bk : Ev -> Prop := fun _ => False
  ct : Ev -> Prop := fun _ => False
  ro : List D -> Prop := fun _ => False
abbrev DS := DEnds -> Ev -> Prop
structure Link (W : Wd)(pn : List (D × V))(E : Ends)(F : DEnds) : Prop where
  nx : ∀ M b ρ σ H,StS W pn M b H σ ρ -> F.nx ρ -> E.nx σ H
  rt : ∀ d v H,F.rt d -> Rep W.K W.M0 H d v -> Kp W.b0 W.H0 H -> okB W.B W.b0 H -> E.rt v H
  bk : ∀ M b ρ σ H,StS W pn M b H σ ρ -> F.bk ρ -> E.bk σ H
  ct : ∀ M b ρ σ H,StS W pn M b H σ ρ -> F.ct ρ -> E.ct σ H
  ro : ∀ xs a vs H,F.ro xs -> W.H0 a = none -> ¬ W.M0 a -> H a = some (.lst vs) -> Reps W.K (fun c => W.M0 c \/ c = a) H xs vs -> Kp W.b0 W.H0 H -> okB W.B W.b0 H -> E.rt (.ref a) H
def sn (W : Wd)(d : DS) : TS := fun E σ H => ∃ pn M b ρ F,StS W pn M b H σ ρ /\ Link W pn E F /\ d F ρ
theorem sn.elim {W : Wd}{d : DS}{E : Ends}{σ : St}{H : Hp}{Z : Prop}(h : sn W d E σ H)(f : ∀ pn M b ρ F,StS W pn M b H σ ρ -> Link W pn E F -> d F ρ -> Z) : Z := by
  obtain ⟨pn,M,b,ρ,F,s,l,h⟩ := h
  exact f pn M b ρ F s l h
section
variable {X : Cx}{W : Wd}{e a b c tg iter l : Expr}{es : List Expr}{pos p : Pos}{d da db dc dl de : DE}{dA di : DA}{dt : DT}{st : Stmt}{rest sts : List Stmt}{d1 d2 : DS}{t : TS}
theorem PS.mono {t' : TS}(h : PS X st t)(m : ∀ E σ H,t' E σ H -> t E σ H) : PS X st t' := fun pins s σ H D I q => h pins s σ H D I (m D σ H q)
theorem PSs.mono {t' : TS}(h : PSs X sts t)(m : ∀ E σ H,t' E σ H -> t E σ H) : PSs X sts t' := fun pins s σ H D I q => h pins s σ H D I (m D σ H q)
def dNext : DS := fun F ρ => F.nx ρ
def dSeq (d1 d2 : DS) : DS := fun F ρ => d1 { F with nx := d2 F } ρ
theorem dss_nil : PSs X [] (sn W dNext) := pss_nil.mono fun E σ H hh => hh.elim fun pn M b ρ F s l h => l.nx _ _ _ _ _ s h
theorem dss_one (h : PS X st (sn W d1)) : PSs X [st] (sn W d1) := pss_one h
theorem dss_cons (h1 : PS X st (sn W d1))(h2 : PSs X rest (sn W d2)) : PSs X (st :: rest) (sn W (dSeq d1 d2)) := (pss_cons h1 h2).mono fun E σ H hh => hh.elim fun pn M b ρ F s l h => ⟨pn,M,b,ρ,{ F with nx := d2 F },s,⟨fun M b ρ σ H s' h' => ⟨pn,M,b,ρ,F,s',l,h'⟩,l.rt,l.bk,l.ct,l.ro⟩,h⟩
def dRet (de : DE) : DS := fun F ρ => de ρ fun x => match x with | .own xs => F.rt (.lst xs) | .bag => False | .frg _ _ => False | x => F.rt x
theorem ret_rep {M : Addr -> Prop}{b : Option Addr}{H : Hp}{x : D}{v : V}(hs : Hs W M b H)(r : Rep W.K M H x v) : Rep W.K W.M0 H x v := Rep.avoid (fun c m => .inl (hs.m0 c m)) _ _ r
theorem ds_ret (he : PE X e (dn W de)) : PS X (.Return (some e) pos) (sn W (dRet de)) := (ps_ret he).mono fun E σ H hh => hh.elim fun pn M b ρ F s l h => by
  refine ⟨pn,M,b,ρ,_,s.toSta,h,fun x v H' hx rx k o => ?_⟩
  have s' := s.toSta.step k o
  cases x
  case own xs =>
    obtain ⟨a,vs,rfl,m,n,n0,m0,hh,r⟩ := rx
    exact l.rt _ _ H' hx ⟨a,vs,rfl,⟨m0,hh⟩,Reps.avoid (fun c m => .inl (s'.m0 c m)) _ _ r⟩ s'.kp s'.ok0
  case bag => exact hx.elim
  case frg => exact hx.elim
  all_goals exact l.rt _ _ H' hx (ret_rep s'.toHs (RepX.rep rx rfl)) s'.kp s'.ok0
def dIfS (dt : DT)(d1 d2 : DS) : DS := fun F ρ => dt ρ fun c => IfP c (d1 F ρ) (d2 F ρ)
theorem ds_if {s1 s2 : List Stmt}(hc : PT X c (dnT W dt))(ha : PSs X s1 (sn W d1))(hb : PSs X s2 (sn W d2)) : PS X (.If c s1 s2 pos) (sn W (dIfS dt d1 d2)) := (ps_if hc ha hb).mono fun E σ H hh => hh.elim fun pn M b ρ F s l h => by
  refine ⟨pn,M,b,ρ,_,s.toSta,h,fun x H' hx k o => ?_⟩
  cases hx with
  | t e hx => rw [if_pos e]; exact ⟨pn,M,b,ρ,F,s.step k o,l,hx⟩
  | f e hx => rw [if_neg (by rw [e]; exact Bool.false_ne_true)]; exact ⟨pn,M,b,ρ,F,s.step k o,l,hx⟩
def dAsg (de : DE)(gd : D -> Ev -> (Ev -> Prop) -> Prop) : DS := fun F ρ => de ρ fun x => plain x = true /\ gd x ρ F.nx
theorem up_asg {g : TG}{gd : D -> Ev -> (Ev -> Prop) -> Prop}(hG : GD W g gd) : ∀ E σ H,sn W (dAsg de gd) E σ H -> tAsg (dn W de) g E σ H := fun E σ H hh => hh.elim fun pn M b ρ F s l h => by
  refine ⟨pn,M,b,ρ,_,s.toSta,h,fun x v H' hx rx k o => ?_⟩
  exact hG pn M b H' σ ρ x v E.nx F.nx (s.toSta.step k o) rx hx.1 hx.2 fun ρ' σ' hp st' ho => l.nx _ _ _ _ _ (s.of st' ho) hp
theorem ds_set {i : Nat} {x : Str} {pos' : Pos} (hN : X.N.Nodup) (hi : X.N[i]? = some x) (hx : Loc X.env.scope x) (he : PE X e (dn W de)) (hs : swapsWith e (some (.Name x pos')) pos.line X.env = pure false := by rfl) (hf : X.fn x = true \/ X.env.scope.names.lookup x = some .local := by first | exact .inl rfl | exact .inr rfl | assumption) :
    PS X (.Assign [.Name x pos'] e pos) (sn W (dAsg de (gdN i))) := (ps_set hN hi hx he hs hf).mono (up_asg (gd_name i))
theorem ds_asg {g : TG}{gd : D -> Ev -> (Ev -> Prop) -> Prop}(hG : GD W g gd)(he : PE X e (dn W de))(hg : PG X tg g)(hs : swapsWithSole [tg] e pos.line X.env = pure false := by rfl)(hw : swappedStores [tg] e X.env = pure none := by rfl)
    (h1 : (assignEach [tg] X.env).map (·.2) = [assign tg X.env] := by rfl) : PS X (.Assign [tg] e pos) (sn W (dAsg de gd)) := (ps_asg he hg hs hw h1).mono (up_asg hG)
theorem StS.newOwn {pn : List (D × V)}{M : Addr -> Prop}{b : Option Addr}{H : Hp}{σ : St}{ρ : Ev}{xs : List D}{vs : List V}{p : Addr}(s : StS W pn M b H σ ρ)(i : Nat)(r : Reps W.K M H xs vs)(h : H p = none) :
    StS W pn (fun c => M c \/ c = p) b (upd H p (.lst vs)) (σ.set i (some (.ref p))) (ρ.set i (some (.own xs))) := by
  have hM : ∀ c,(M c \/ c = p) -> M c \/ H c = none := fun c hc => hc.imp id (fun z => by rw [z]; exact h)
  have kk : ∀ c o,H c = some o -> upd H p (.lst vs) c = some o := fun c o e => Same.upd h c o e
  have rep : ∀ d v,Rep W.K M H d v -> Rep W.K (fun c => M c \/ c = p) (upd H p (.lst vs)) d v := fun d v r => Rep.keep (fun c o _ e => kk c o e) _ _ (Rep.avoid hM _ _ r)
  have reps : ∀ d v,Reps W.K M H d v -> Reps W.K (fun c => M c \/ c = p) (upd H p (.lst vs)) d v := fun d v r => Reps.keep (fun c o _ e => kk c o e) _ _ (Reps.avoid hM _ _ r)
  have hbp : b ≠ some p := fun z => by
    obtain ⟨o,e⟩ := W.B.dm p H (s.ok p z)
    rw [h] at e; cases e
  have h0 : W.H0 p = none := by
    cases q : W.H0 p with
    | none => rfl
    | some o =>
      by_cases z : W.b0 = some p
      · rcases s.new with y | ⟨y,_⟩
        · exact absurd (y.trans z) hbp
        · rw [y] at z; cases z
      · have := s.kp p o z q
        rw [h] at this; cases this
  have hm0 : ¬ W.M0 p := fun z => s.toHs.new h (s.m0 p z)
  refine s.add i ⟨⟨s.toHs.okU h,fun q e => .inl (s.bagM q e),fun c hc => ?_,fun c m => .inl (s.m0 c m)⟩,fun c o n e => kk c o (s.kp c o n e),s.new,fun j d e => ?_,by simp [s.len],fun q hq => (s.pin q hq).to rep reps fun xs a vs _ _ m n hh => ⟨.inl m,n,kk _ _ hh⟩⟩ fun c m => by
    cases (show V.ref p = V.ref c from m)
    exact s.toHs.new h
  · rcases hc with hc | hc
    · obtain ⟨o,e⟩ := s.dom c hc; exact ⟨o,kk c o e⟩
    · rw [hc]; exact ⟨_,upd_same⟩
  · by_cases z : i = j
    · subst z
      rw [List.getElem?_set] at e
      simp at e
      obtain ⟨hl,rfl⟩ := e
      exact ⟨.ref p,by rw [List.getElem?_set]; simp [<- s.len,hl],p,vs,rfl,.inr rfl,hbp,h0,hm0,upd_same,reps _ _ r⟩
    · rw [List.getElem?_set_ne z] at e
      obtain ⟨w,e1,r1⟩ := s.env j d e
      refine ⟨w,by rw [List.getElem?_set_ne z]; exact e1,?_⟩
      cases d
      case own ys =>
        obtain ⟨a,us,rfl,m1,m2,m3,m4,hh,r'⟩ := r1
        exact ⟨a,us,rfl,.inl m1,m2,m3,m4,kk _ _ hh,reps _ _ r'⟩
      case bag => exact r1
      case frg f _ => exact RepX.move r1 (fun c _ m n => ⟨.inl m,n⟩) (fun c o _ e => kk c o e) hM
      all_goals exact rep _ _ r1
theorem StS.setOwn {pn : List (D × V)}{M : Addr -> Prop}{b : Option Addr}{H : Hp}{σ : St}{ρ : Ev}{xs ys : List D}{vs : List V}{a : Addr}(s : StS W pn M b H σ ρ)(i : Nat)(e : ρ[i]? = some (some (.own xs)))(ea : σ[i]? = some (some (.ref a)))(r : Reps W.K M H ys vs) :
    StS W pn M b (upd H a (.lst vs)) σ (ρ.set i (some (.own ys))) := by
  obtain ⟨v,e1,a',us,ev,m1,m2,m3,m4,hh,r'⟩ := s.env i _ e
  rw [ea] at e1; cases e1; cases ev
  have kk : ∀ c o,¬ M c -> H c = some o -> upd H a (.lst vs) c = some o := fun c o n q => by rw [upd_ne (show c ≠ a from fun z => n (by rw [z]; exact m1))]; exact q
  have kb : ∀ c o,c ≠ a -> H c = some o -> upd H a (.lst vs) c = some o := fun c o n q => by rw [upd_ne n]; exact q
  refine s.of2 ⟨⟨fun q z => W.B.st q H _ (s.ok q z) fun o h => kb q o (fun w => m2 (w ▸ z)) h,s.bagM,fun c hc => ?_,s.m0⟩,fun c o n q => kb c o (fun z => by rw [z,m3] at q; cases q) (s.kp c o n q),s.new,fun j d e' => ?_,by simp [s.len],fun q hq => (s.pin q hq).to (fun _ _ r => Rep.keep kk _ _ r) (fun _ _ r => Reps.keep kk _ _ r) fun zs a2 us ed ev m n hh2 => ⟨m,n,kb _ _ (fun y => s.lk zs a2 (by rw [<- ed,<- ev]; exact hq) i xs e (by rw [y]; exact ea)) hh2⟩⟩ (fun _ _ q => q) fun j d v c e' e2 m => ?_
  · by_cases z : c = a
    · rw [z]; exact ⟨_,upd_same⟩
    · obtain ⟨o,q⟩ := s.dom c hc; exact ⟨o,kb c o z q⟩
  · by_cases z : i = j
    · subst z
      rw [List.getElem?_set] at e'
      simp at e'
      obtain ⟨hl,rfl⟩ := e'
      exact ⟨.ref a,ea,a,vs,rfl,m1,m2,m3,m4,upd_same,Reps.keep kk _ _ r⟩
    · rw [List.getElem?_set_ne z] at e'
      obtain ⟨w,e1,r1⟩ := s.env j d e'
      refine ⟨w,e1,?_⟩
      cases d
      case own zs =>
        obtain ⟨a2,us2,rfl,n1,n2,n3,n4,hh2,r2⟩ := r1
        have na : a2 ≠ a := fun y => z (s.own i j xs zs a e e' ea (y ▸ e1))
        exact ⟨a2,us2,rfl,n1,n2,n3,n4,kb _ _ na hh2,Reps.keep kk _ _ r2⟩
      case bag => exact r1
      case frg f _ =>
        have na : a ∉ f.ads := fun y => z (s.dj i j _ _ _ _ a e e' ea e1 rfl y)
        exact RepX.move r1 (fun c _ m n => ⟨m,n⟩) (fun c o q h => kb c o (fun y => q.elim (fun n => n (by rw [y]; exact m1)) (fun n => na (by rw [<- y]; exact n))) h) fun c m => .inl m
      all_goals exact Rep.keep kk _ _ r1
  · by_cases z : i = j
    · subst z
      rw [List.getElem?_set] at e'
      simp at e'
      obtain ⟨_,rfl⟩ := e'
      exact ⟨_,e,e2,m⟩
    · rw [List.getElem?_set_ne z] at e'
      exact ⟨d,e',e2,m⟩
def dOwnL (i : Nat)(dA : DA) : DS := fun F ρ => dA ρ fun xs => okIt xs = true /\ F.nx (ρ.set i (some (.own xs)))
theorem ds_ownL {i : Nat} {x : Str} {pos' lpos : Pos} (hN : X.N.Nodup) (hi : X.N[i]? = some x) (hx : Loc X.env.scope x) (ha : PA X es (dnA W dA)) (hs : swapsWith (.List es lpos) (some (.Name x pos')) pos.line X.env = pure false := by rfl) (hf : X.fn x = true \/ X.env.scope.names.lookup x = some .local := by first | exact .inl rfl | exact .inr rfl | assumption) :
    PS X (.Assign [.Name x pos'] (.List es lpos) pos) (sn W (dOwnL i dA)) := (ps_set hN hi hx (pe_lst ha) hs hf).mono fun E σ H hh => hh.elim fun pn M b ρ F s l h => by
  refine ⟨pn,M,b,ρ,_,s.toSta,h,fun xs vs H' hx rx k o => ?_⟩
  have rr := rx.reps _ _ (okIt.pl hx.1)
  exact ⟨by rw [rr.length]; exact okIt.len hx.1,fun q hq => l.nx _ _ _ _ _ ((s.step k o).newOwn i rr hq) hx.2⟩
def dSetC (own : Bool)(i : Nat)(map : List (Option Nat))(gd : D -> Ev -> (Ev -> Prop) -> Prop)(di : DA)(dt : DT)(de : DE) : DS := fun F ρ => di ρ fun items => items.length <= 1000 /\ compI gd dt de (captD ρ map) items fun acc => F.nx (ρ.set i (some (if own then .own acc else .lst acc)))
theorem ds_setC {elt iter tg : Expr}{ifs : List Expr}{scope : Scope}{N' : List Str}{map : List (Option Nat)}{g : TG}{gd : D -> Ev -> (Ev -> Prop) -> Prop}(own : Bool){i : Nat}{y : Str}{py spos : Pos}(hN : X.N.Nodup)(hiN : X.N[i]? = some y)(hy : Loc X.env.scope y)(hG : GD W g gd)(B : Blk X N' scope map tg elt ifs g (dnT W dt) (dn W de))(hi : PI X tg iter (dnI W false di))
    (hsw : swapsWith (.ListComp elt [⟨tg,iter,ifs,0⟩] scope pos) (some (.Name y py)) spos.line X.env = pure true := by rfl) (hfn : X.fn y = true \/ X.env.scope.names.lookup y = some .local := by first | exact .inl rfl | exact .inr rfl)
    (hs : ∀ x,foldedSetIterable iter X.env x = pure x := by intro _; rfl) : PS X (.Assign [.Name y py] (.ListComp elt [⟨tg,iter,ifs,0⟩] scope pos) spos) (sn W (dSetC own i map gd di dt de)) := (ps_setComp hN hiN hy B hi hsw hfn hs).mono fun E σ H hh => hh.elim fun pn M b ρ F s l h => by
  refine ⟨pn,M,b,ρ,_,s.toSta,h,fun items J need H1 hx hp hI hn k1 o1 => ?_⟩
  have s1 := s.step k1 o1
  refine comp_turns hG (s1.toSta.capt map) hp hI (fun q hq => (hn q hq).1) hx.1 hx.2 fun ds acc H' hP r hl k2 o2 q hq => ?_
  have s2 := s1.step k2 o2
  cases own
  · have s3 := (s2.step (Kp.upd (o := .lst acc) hq) (s2.toHs.okU hq))
    exact l.nx _ _ _ _ _ (s3.of (s3.toSta.set i (new_lst s2.toHs r hq)) (own_set rfl)) hP
  · exact l.nx _ _ _ _ _ (s2.newOwn i r hq) hP
def dApp (i : Nat)(dA : DA) : DS := fun F ρ => match ρ[i]? with
  | some (some (.own ys)) => dA ρ fun xs => (match xs with | [y] => (plain y && decide (ys.length < 1000)) = true /\ F.nx (ρ.set i (some (.own (ys ++ [y])))) | _ => False)
  | _ => False
theorem own_at {pn : List (D × V)}{M : Addr -> Prop}{b : Option Addr}{H : Hp}{σ : St}{ρ : Ev}{i : Nat}{ys : List D}(s : Sta W pn M b H σ ρ)(e : ρ[i]? = some (some (.own ys))) : ∃ a vs,σ[i]? = some (some (.ref a)) /\ b ≠ some a /\ H a = some (.lst vs) /\ Reps W.K M H ys vs := by
  obtain ⟨v,e1,a,us,rfl,m1,m2,m3,m4,hh,r⟩ := s.env i _ e
  exact ⟨a,us,e1,m2,hh,r⟩
theorem up_app {i : Nat} : ∀ E σ H,sn W (dApp i dA) E σ H -> tDrop (tBM W.K "list" rAppend (tVar i) (dnA W dA)) E σ H := fun E σ H hh => hh.elim fun pn M b ρ F s l h => by
  unfold dApp at h
  split at h
  case h_2 => exact h.elim
  case h_1 ys e =>
    obtain ⟨a,vs,ea,nb,hh,r⟩ := own_at s.toSta e
    refine ⟨.ref a,ea,.inl ⟨rfl,vs,SqL.of hh⟩,pn,M,b,ρ,_,s.toSta,h,fun xs us H' hx rx k o => ?_⟩
    match xs,hx with
    | [y],hx =>
      obtain ⟨u,rfl,ru⟩ := rx1 rx
      obtain ⟨p1,p2⟩ := (Bool.and_eq_true _ _).mp hx.1
      have p2 := of_decide_eq_true p2
      have s' := s.step k o
      obtain ⟨a',vs',ea',nb',hh',r'⟩ := own_at s'.toSta e
      rw [ea] at ea'; cases ea'
      refine ⟨a,vs',u,rfl,rfl,hh',by rw [r'.length]; have := le1000; omega,l.nx _ _ _ _ _ (s'.setOwn i e ea (Reps.append r' (show Reps W.K M H' [y] [u] from ⟨u,[],rfl,ru.rep p1,rfl⟩))) hx.2⟩
theorem ds_append {i : Nat}{x : Str}{e : Expr}{npos apos cpos : Pos}(hK : X.K = W.K)(hN : X.N[i]? = some x)(hv : Vis X.env.scope x)(ha : PA X [e] (dnA W dA))
    (h : PE X (.Call (.Attribute (.Name x npos) "append" apos) [e] [] cpos) (tBM X.K "list" rAppend (tVar i) (dnA W dA))) (hs : swapsWith (.Call (.Attribute (.Name x npos) "append" apos) [e] [] cpos) none pos.line X.env = pure false := by rfl) :
    PS X (.Expr (.Call (.Attribute (.Name x npos) "append" apos) [e] [] cpos) pos) (sn W (dApp i dA)) := (ps_expr (by rw [hK] at h; exact h) hs).mono up_app
def dAug (i : Nat)(f : Int -> Int -> Int)(de : DE) : DS := fun F ρ => match ρ[i]? with
  | some (some (.int n)) => de ρ fun y => (match y with | .int m => F.nx (ρ.set i (some (.int (f n m)))) | _ => False)
  | _ => False
theorem ds_aug {i : Nat} {x : Str} {op : Operator} {f : Int -> Int -> Int} {pos' : Pos} (hN : X.N.Nodup) (hi : X.N[i]? = some x) (hx : Loc X.env.scope x) (he : PE X e (dn W de)) (ho : PIp X op (ipI f)) (hf : X.fn x = true \/ X.env.scope.names.lookup x = some .local := by first | exact .inl rfl | exact .inr rfl | assumption) :
    PS X (.AugAssign (.Name x pos') op e pos) (sn W (dAug i f de)) := (ps_aug hN hi hx he ho hf).mono fun E σ H hh => hh.elim fun pn M b ρ F s l h => by
  unfold dAug at h
  split at h
  case h_2 => exact h.elim
  case h_1 n e =>
    obtain ⟨v,ev,rv⟩ := s.env i _ e
    cases (show _ = _ from rv)
    refine ⟨.int n,ev,pn,M,b,ρ,_,s.toSta,h,fun y u H' hy ry k o => ?_⟩
    cases y <;> first | exact hy.elim | skip
    case int m =>
      cases (show _ = _ from ry)
      have s' := s.step k o
      exact ⟨n,m,rfl,rfl,l.nx _ _ _ _ _ (s'.of (s'.toSta.set i (x := .int (f n m)) (v := .int (f n m)) (show _ = _ from rfl)) (own_set rfl)) hy⟩
inductive forI (gd : D -> Ev -> (Ev -> Prop) -> Prop)(db : DS)(F : DEnds)(items : List D)(ρ : Ev) : Prop
  | mk (I : Nat -> Ev -> Prop) (h0 : I 0 ρ) (hs : ∀ (i : Nat) x ρ,items[i]? = some x -> I i ρ -> gd x ρ fun ρ1 => db { F with nx := I (i + 1),ct := I (i + 1),bk := F.nx } ρ1) (hd : ∀ ρ,I items.length ρ -> F.nx ρ) : forI gd db F items ρ
def dFor (gd : D -> Ev -> (Ev -> Prop) -> Prop)(di : DA)(db : DS) : DS := fun F ρ => di ρ fun items => forI gd db F items ρ
theorem Sta.pins {pn pn' : List (D × V)}{M : Addr -> Prop}{b : Option Addr}{H : Hp}{σ : St}{ρ : Ev}(s : Sta W pn M b H σ ρ)(h : ∀ q ∈ pn',PinR W M b H q.1 q.2) : Sta W pn' M b H σ ρ := ⟨s.toHs,s.kp,s.new,s.env,s.len,h⟩
theorem up_for {g : TG}{gd : D -> Ev -> (Ev -> Prop) -> Prop}{db : DS}(hG : GD W g gd) : ∀ E σ H,sn W (dFor gd di db) E σ H -> tFor (dnI W true di) g (sn W db) E σ H := fun E σ H hh => hh.elim fun pn M b ρ F s l h => by
  refine ⟨pn,M,b,ρ,_,s.toSta,h,fun items J need H1 hx hp hI hn k1 o1 => ?_⟩
  have s1 := s.step k1 o1
  have pins : ∀ q ∈ need ++ pn,PinR W M b H1 q.1 q.2 := fun q hq => (List.mem_append.mp hq).elim (fun z => (hn q z).1.pin ((hn q z).2 rfl)) fun z => s1.pin q z
  obtain ⟨I,i0,istep,idone⟩ := hx
  refine ⟨fun i m σ H => m = items.length - i /\ i <= items.length /\ ∃ M b ρ,StS W (need ++ pn) M b H σ ρ /\ I i ρ,⟨items.length,by simp,Nat.zero_le _,M,b,ρ,⟨s1.toSta.pins pins,s1.dj,fun ys a hq => (List.mem_append.mp hq).elim (fun z => by have := (hn _ z).2 rfl; cases this) fun z => s1.lj ys a z⟩,i0⟩,?_⟩
  rintro i m σ2 H2 ⟨rfl,hi,M2,b2,ρ2,s2,q⟩
  have unp : ∀ {M b ρ σ H},StS W (need ++ pn) M b H σ ρ -> StS W pn M b H σ ρ := fun s => ⟨s.toSta.pins fun q hq => s.pin q (List.mem_append_right _ hq),s.dj,fun ys a hq => s.lj ys a (List.mem_append_right _ hq)⟩
  obtain ⟨hgo,hstop⟩ := hI M2 b2 H2 s2.toHs fun q hq => (s2.pin q (List.mem_append_left _ hq)).x
  by_cases hlt : i < items.length
  · have ei : items[i]? = some items[i] := List.getElem?_eq_getElem hlt
    replace q := istep i _ ρ2 ei q
    refine .inr ⟨(hgo i _ ei).1,fun σ' H' => ∃ M b ρ,StS W (need ++ pn) M b H' σ' ρ /\ I (i + 1) ρ,fun σ' H' n => ⟨items.length - (i + 1),by omega,rfl,hlt,n⟩,fun x H3 y => ?_⟩
    obtain ⟨S3,rx⟩ := (hgo i _ ei).2 x H3 y
    have o3 : okB W.B b2 H3 := fun p e => W.B.st p H2 H3 (s2.ok p e) fun o e' => S3 p o e'
    have s3 := s2.step (Kp.same S3) o3
    refine hG (need ++ pn) M2 b2 H3 σ2 ρ2 items[i] x _ _ s3.toSta rx (List.all_eq_true.mp hp _ (List.getElem_mem hlt)) q fun ρ1 σ1 h1 st4 ho => ?_
    exact ⟨need ++ pn,M2,b2,ρ1,{ F with nx := I (i + 1),ct := I (i + 1),bk := F.nx },s3.of st4 ho,⟨fun M b ρ σ H s' h' => ⟨M,b,ρ,s',h'⟩,l.rt,fun M b ρ σ H s' h' => l.nx _ _ _ _ _ (unp s') h',fun M b ρ σ H s' h' => ⟨M,b,ρ,s',h'⟩,l.ro⟩,h1⟩
  · have e : i = items.length := by omega
    subst e
    exact .inl ⟨hstop _ (Nat.le_refl _),l.nx _ _ _ _ _ (unp s2) (idone _ q)⟩
theorem ds_for {g : TG}{gd : D -> Ev -> (Ev -> Prop) -> Prop}{db : DS}{body : List Stmt}(hG : GD W g gd)(hp : PassesOwn (model X.prog X.w) X.A X.env X.xe)(hc : X.calm = true)(hi : PI X tg iter (dnI W true di))(hg : PG X tg g)(hb : PSs X body (sn W db))
    (hs : ∀ x,foldedSetIterable iter X.env x = pure x := by intro _; rfl) : PS X (.For tg iter body [] pos) (sn W (dFor gd di db)) := (ps_for hp hc hi hg hb hs).mono (up_for hG)
def dFrz (i : Nat)(d : DS) : DS := fun F ρ => match ρ[i]? with | some (some (.own xs)) => d F (ρ.set i (some (.lst xs))) | _ => False
theorem Sta.avoid {pn : List (D × V)}{M M' : Addr -> Prop}{b : Option Addr}{H : Hp}{σ : St}{ρ : Ev}(s : Sta W pn M b H σ ρ)(h : ∀ c,M' c -> M c)(hb : ∀ p,b = some p -> M' p)(h0 : ∀ c,W.M0 c -> M' c)(ho : ∀ (i : Nat) d v c,ρ[i]? = some (some d) -> σ[i]? = some (some v) -> mineA d v c -> M' c)(hpo : ∀ xs a,(D.own xs,V.ref a) ∈ pn -> M' a) : Sta W pn M' b H σ ρ where
  ok := s.ok
  bagM := hb
  dom := fun c m => s.dom c (h c m)
  m0 := h0
  kp := s.kp
  new := s.new
  len := s.len
  pin := fun q hq => (s.pin q hq).to (fun _ _ r => Rep.avoid (fun c m => .inl (h c m)) _ _ r) (fun _ _ r => Reps.avoid (fun c m => .inl (h c m)) _ _ r) fun xs a vs ed ev m n hh => ⟨hpo xs a (by rw [<- ed,<- ev]; exact hq),n,hh⟩
  env := fun i d e => by
    obtain ⟨v,e1,r⟩ := s.env i d e
    refine ⟨v,e1,?_⟩
    cases d
    case own xs =>
      obtain ⟨a,us,rfl,m1,m2,m3,m4,hh,r'⟩ := r
      exact ⟨a,us,rfl,ho i _ _ a e e1 rfl,m2,m3,m4,hh,Reps.avoid (fun c m => .inl (h c m)) _ _ r'⟩
    case bag => exact r
    case frg f _ => exact RepX.move r (fun c m _ n => ⟨ho i _ _ c e e1 m,n⟩) (fun c o _ e => e) fun c m => .inl (h c m)
    all_goals exact Rep.avoid (fun c m => .inl (h c m)) _ _ r
theorem dss_frz (i : Nat)(h : PSs X sts (sn W d1)) : PSs X sts (sn W (dFrz i d1)) := h.mono fun E σ H hh => hh.elim fun pn M b ρ F s l h => by
  unfold dFrz at h
  split at h
  case h_2 => exact h.elim
  case h_1 xs e =>
    obtain ⟨v,e1,a,us,rfl,m1,m2,m3,m4,hh,r⟩ := s.env i _ e
    have st : Sta W pn (fun c => M c /\ c ≠ a) b H σ (ρ.set i none) := by
      refine Sta.avoid (M := M) ⟨s.toHs,s.kp,s.new,fun j d e' => ?_,by simp [s.len],s.pin⟩ (fun c m => m.1) (fun p z => ⟨s.bagM p z,fun y => m2 (by rw [<- y]; exact z)⟩) (fun c m => ⟨s.m0 c m,fun y => m4 (by rw [<- y]; exact m)⟩) (fun j d' v' c' e' e2 mm => ?_) fun ys a' hq => ⟨by
        obtain ⟨a2,us2,ev,n1,_⟩ := (s.pin _ hq)
        cases ev; exact n1,fun y => s.lk ys a' hq i xs e (by rw [y]; exact e1)⟩
      · by_cases z : i = j
        · subst z; rw [List.getElem?_set] at e'; simp at e'
        · rw [List.getElem?_set_ne z] at e'; exact s.env j d e'
      · by_cases z : i = j
        · subst z; rw [List.getElem?_set] at e'; simp at e'
        · rw [List.getElem?_set_ne z] at e'
          obtain ⟨v3,e3,r3⟩ := s.env j _ e'
          rw [e2] at e3; cases e3
          exact ⟨(r3.mine mm).1,fun y => z (s.dj i j _ _ _ _ a e e' e1 e2 rfl (by rw [<- y]; exact mm))⟩
    have st2 := st.set (x := .lst xs) (v := .ref a) i ⟨a,us,rfl,⟨fun m => m.2 rfl,hh⟩,Reps.avoid (fun c m => .inl m.1) _ _ r⟩
    have eσ : σ.set i (some (.ref a)) = σ := by
      apply List.ext_getElem?
      intro n
      by_cases z : i = n
      · subst z; rw [List.getElem?_set,e1]; simp; exact (List.getElem?_eq_some_iff.mp e1).1
      · rw [List.getElem?_set_ne z]
    rw [eσ,List.set_set] at st2
    refine ⟨pn,_,b,_,F,s.of st2 fun j ys hm e' => ?_,l,h⟩
    by_cases z : i = j
    · subst z; rw [List.getElem?_set] at e'; simp at e'; rw [<- e'.2] at hm; cases hm
    · rw [List.getElem?_set_ne z] at e'; exact ⟨e',rfl⟩
def dRaise (Ed : Addr -> Prop)(C : Addr) : DS := fun _ _ => Ed C
theorem ds_raise {E : XK}{Ed : Addr -> Prop}{C : Addr}(hE : ELink W E Ed)(h : PS X st (fun _ _ H1 => E (.ref C) none H1)) : PS X st (sn W (dRaise Ed C)) := h.mono fun E' σ H hh => hh.elim fun pn M b ρ F s l h => hE C H h s.kp s.ok0
end
def startD (N : List Str)(ds : List D) : Ev := ds.map some ++ List.replicate (N.length - ds.length) none
theorem RepAs.get {K : PySem.W.Frag}{M : Addr -> Prop}{b : Option Addr}{H : Hp} : ∀ {ds : List D} {vs : List V} {i : Nat} {d : D},RepAs K M b H ds vs -> ds[i]? = some d -> ∃ v,vs[i]? = some v /\ RepA K M b H d v
  | [],_,_,_,h,e => by simp at e
  | d :: ds,vs,0,_,h,e => by
    obtain ⟨v,r,rfl,h1,h2⟩ := h
    simp at e; subst e
    exact ⟨v,rfl,h1⟩
  | d :: ds,vs,i + 1,d',h,e => by
    obtain ⟨v,r,rfl,h1,h2⟩ := h
    obtain ⟨u,e1,e2⟩ := RepAs.get (i := i) h2 (by simpa using e)
    exact ⟨u,by simpa using e1,e2⟩
theorem startD_get {N : List Str}{ds : List D}{i : Nat}{d : D}(h : (startD N ds)[i]? = some (some d)) : ds[i]? = some d := by
  unfold startD at h
  by_cases hi : i < ds.length
  · rw [List.getElem?_append_left (by simpa using hi),List.getElem?_map] at h
    simpa using h
  · rw [List.getElem?_append_right (by simpa using hi)] at h
    have := List.mem_of_getElem? h
    simp at this
theorem enter {K : PySem.W.Frag}{B : BagT}{M : Addr -> Prop}{b : Option Addr}{N : List Str}{ds : List D}{vs : List V}{H : Hp}(hr : RepAs K M b H ds vs)(ho : okB B b H)(hb : ∀ p,b = some p -> M p)(hd : ∀ c,M c -> ∃ o,H c = some o) : StS ⟨K,B,H,M,b⟩ [] M b H (start N vs) (startD N ds) := by
  refine ⟨⟨⟨ho,hb,hd,fun _ m => m⟩,Kp.refl _ _,.inl rfl,fun i d e => ?_,by simp [start,startD,hr.length],fun _ hq => by cases hq⟩,fun i j d e v u c e0 _ _ _ m _ => ?_,fun _ _ hq => by cases hq⟩
  · obtain ⟨v,e1,r⟩ := hr.get (startD_get e)
    refine ⟨v,?_,?_⟩
    · unfold start
      rw [List.getElem?_append_left (by simpa using (List.getElem?_eq_some_iff.mp e1).1),List.getElem?_map,e1]; rfl
    · cases d <;> first | exact r | exact r.elim
  · obtain ⟨v',e1,r⟩ := hr.get (startD_get e0)
    cases d <;> first | exact m.elim | exact r.elim
theorem leave {K : PySem.W.Frag}{B : BagT}{M : Addr -> Prop}{b : Option Addr}{H : Hp}{Q : VK}{P : D -> Prop}(hq : ∀ d v H',P d -> Rep K M H' d v -> Kp b H H' -> okB B b H' -> Q v H') : Link ⟨K,B,H,M,b⟩ [] { nx := fun _ H' => Q .non H',rt := Q } { nx := fun _ => P .non,rt := P } :=
  ⟨fun M b ρ σ H s h => hq _ _ _ h rfl s.kp s.ok0,fun d v H h r k o => hq d v H h r k o,fun _ _ _ _ _ _ h => h.elim,fun _ _ _ _ _ _ h => h.elim,fun _ _ _ _ h => h.elim⟩
theorem run {K : PySem.W.Frag}{B : BagT}{M : Addr -> Prop}{b : Option Addr}{N : List Str}{ds : List D}{vs : List V}{H : Hp}{Q : VK}{P : D -> Prop}{d : DS}(hr : RepAs K M b H ds vs)(ho : okB B b H)(hb : ∀ p,b = some p -> M p)(hd : ∀ c,M c -> ∃ o,H c = some o)(hq : ∀ d v H',P d -> Rep K M H' d v -> Kp b H H' -> okB B b H' -> Q v H')
    (h : d { nx := fun _ => P .non,rt := P } (startD N ds)) : sn ⟨K,B,H,M,b⟩ d { nx := fun _ H' => Q .non H',rt := Q } (start N vs) H :=
  ⟨[],M,b,startD N ds,_,enter hr ho hb hd,leave hq,h⟩
theorem liftSp.len {K : PySem.W.Frag}{B : BagT}{S : DSp}{n : Nat}(h : ∀ ds P Ed,S ds P Ed -> ds.length = n) : ∀ vs H Q E,liftSp K B S vs H Q E -> vs.length = n := fun vs H Q E ⟨M,b,ds,P,Ed,hS,hr,_⟩ => by rw [hr.length]; exact h _ _ _ hS
end L2
set_option Elab.async false
set_option linter.all false
set_option maxRecDepth 100000
set_option maxHeartbeats 4000000
namespace L2
open PySem PySem.Spec PyProof.Rows
section
variable {X : Cx}{W : Wd}{e a b c tg iter l : Expr}{es : List Expr}{pos p : Pos}{d da db dc dl de : DE}{dA di : DA}{dt : DT}{st : Stmt}{rest sts : List Stmt}{d1 d2 : DS}{t : TS}
abbrev DO := Ev -> (Option Int -> Prop) -> Prop
def dnO (W : Wd)(d : DO) : TO := fun σ H Q => ∃ pn M b ρ P,Sta W pn M b H σ ρ /\ d ρ P /\ ∀ x H',P x -> Kp b H H' -> okB W.B b H' -> Q x H'
theorem dnO.elim {W : Wd}{d : DO}{σ : St}{H : Hp}{Q : Option Int -> Hp -> Prop}{R : Prop}(h : dnO W d σ H Q)(f : ∀ pn M b ρ P,Sta W pn M b H σ ρ -> d ρ P -> (∀ x H',P x -> Kp b H H' -> okB W.B b H' -> Q x H') -> R) : R := by
  obtain ⟨pn,M,b,ρ,P,st,h,k⟩ := h
  exact f pn M b ρ P st h k
def oNo : DO := fun _ P => P none
def oPt (de : DE) : DO := fun ρ P => de ρ fun x => match x with | .int i => P (some i) | _ => False
theorem do_none : PO X none (dnO W oNo) := fun pins s σ H Q I hh => hh.elim fun pn M b ρ P st h k => po_none pins s σ H Q I (k _ H h (Kp.refl _ _) st.ok)
theorem do_some (h : PE X e (dn W de)) : PO X (some e) (dnO W (oPt de)) := fun pins s σ H Q I hh => hh.elim fun pn M b ρ P st q k => po_some h pins s σ H Q I (by
  refine ⟨pn,M,b,ρ,_,st,q,fun x v H1 hx rx k1 o1 => ?_⟩
  cases x <;> first | exact hx.elim | skip
  cases (show _ = _ from rx)
  exact ⟨_,rfl,k _ H1 hx k1 o1⟩)
def cutD (xs : List D)(lo hi : Option Int) : List D := (xs.drop (HT.sIx xs.length 0 lo)).take (HT.sIx xs.length xs.length hi - HT.sIx xs.length 0 lo)
theorem Reps.cut {K : PySem.W.Frag}{M : Addr -> Prop}{H : Hp}{ds : List D}{vs : List V}(h : Reps K M H ds vs)(lo hi : Option Int) : Reps K M H (cutD ds lo hi) (cutV vs lo hi) := by
  unfold cutD cutV
  rw [h.length]
  exact Reps.take _ (Reps.drop _ h)
def oSl (x : D)(lo hi : Option Int)(P : D -> Prop) : Prop := match x with
  | .tup xs => ¬ (HT.sIx xs.length 0 lo = 0 /\ HT.sIx xs.length xs.length hi = xs.length) /\ P (.tup (cutD xs lo hi))
  | .lst xs => P (.lst (cutD xs lo hi))
  | .own xs => P (.lst (cutD xs lo hi))
  | _ => False
def dSl (de : DE)(dl dh : DO) : DE := fun ρ P => de ρ fun x => dl ρ fun lo => dh ρ fun hi => oSl x lo hi P
theorem sl_tupK (K : PySem.W.Frag)(h : X.K = K) : SlR X (rSlT K) := by subst h; exact sl_tup
theorem sl_any (K : PySem.W.Frag)(h : X.K = K) : SlR X (fun x lo hi H Q => rSlT K x lo hi H Q \/ rSlL K x lo hi H Q) := (sl_tupK K h).or (sl_listK' K h)
theorem de_slice {lo hi : Option Expr}{dl dh : DO}{p2 : Pos}(hr : SlR X (fun x lo hi H Q => rSlT W.K x lo hi H Q \/ rSlL W.K x lo hi H Q))(he : PE X e (dn W de))(hl : PO X lo (dnO W dl))(hu : PO X hi (dnO W dh)) : PE X (.Subscript e (.Slice lo hi none p2) pos) (dn W (dSl de dl dh)) := (pe_slice hr he hl hu).mono fun σ H Q hh => hh.elim fun pn M b ρ P st h k => by
  refine ⟨pn,M,b,ρ,_,st,h,fun x v H1 hx rx k1 o1 => ?_⟩
  refine ⟨pn,M,b,ρ,_,st.step k1 o1,hx,fun lo H2 hy k2 o2 => ?_⟩
  refine ⟨pn,M,b,ρ,_,(st.step k1 o1).step k2 o2,hy,fun hi H3 hz k3 o3 => ?_⟩
  have s3 := ((st.step k1 o1).step k2 o2).step k3 o3
  have rx := (rx.step st.bagM k2).step st.bagM k3
  have kk := (k1.trans k2).trans k3
  cases x <;> first | exact hz.elim | skip
  case tup xs =>
    obtain ⟨a,vs,rfl,hh,r⟩ := rx
    refine .inl ⟨a,vs,rfl,hh.sq,by rw [r.length]; exact hz.1,fun p hp => k _ _ _ hz.2 (new_tup s3.toHs (r.cut lo hi) hp) (kk.trans (Kp.upd hp)) (s3.okU hp)⟩
  case lst xs =>
    obtain ⟨a,vs,rfl,hh,r⟩ := rx
    refine .inr ⟨a,vs,rfl,SqL.of hh.2,fun p hp => k _ _ _ hz (new_lst s3.toHs (r.cut lo hi) hp) (kk.trans (Kp.upd hp)) (s3.okU hp)⟩
  case own xs =>
    obtain ⟨a,vs,rfl,_,_,_,_,hh,r⟩ := rx
    refine .inr ⟨a,vs,rfl,SqL.of hh,fun p hp => k _ _ _ hz (new_lst s3.toHs (r.cut lo hi) hp) (kk.trans (Kp.upd hp)) (s3.okU hp)⟩
def oCat : D -> D -> (D -> Prop) -> Prop := fun x y P => match asL x,asL y with
  | some xs,some ys => xs.length + ys.length <= 1000 /\ P (.lst (xs ++ ys))
  | _,_ => False
theorem od_cat : OpD W rCat oCat := by
  intro M b H x y v u P Q hs rx ry ho k
  unfold oCat at ho
  split at ho
  case h_2 => exact ho.elim
  case h_1 xs ys e1 e2 =>
    obtain ⟨a1,vs,rfl,h1,r1⟩ := asL.rep rx e1
    obtain ⟨a2,us,rfl,h2,r2⟩ := asL.rep ry e2
    exact ⟨a1,a2,vs,us,rfl,rfl,h1,h2,by rw [r1.length,r2.length]; exact Nat.le_trans ho.1 le1000,fun p hp => k _ _ _ ho.2 (new_lst hs (Reps.append r1 r2) hp) (Kp.upd hp) (hs.okU hp)⟩
theorem Reps.ne {K : PySem.W.Frag}{M : Addr -> Prop}{H : Hp}{ds : List D}{vs : List V}(h : Reps K M H ds vs)(n : ds ≠ []) : vs ≠ [] := fun z => by
  have := h.length
  rw [z] at this
  exact n (List.length_eq_zero_iff.mp this.symm)
def bagSp (K : PySem.W.Frag)(B : BagT)(pre : List D -> Prop) : Sp := fun vs H Q _ => ∃ (M : Addr -> Prop) (b : Option Addr) (ds : List D),RepAs K M b H ds vs /\ pre ds /\ ∀ p H1,H p = none -> Same H H1 -> B.ok p H1 -> Q (.ref p) H1
def dropB (ρ : Ev) : Ev := ρ.map fun o => match o with | some .bag => none | o => o
def dBag (i : Nat)(pre : List D -> Prop)(dA : DA) : DS := fun F ρ => dA ρ fun ds => ds.all notOwn = true /\ pre ds /\ F.nx ((dropB ρ).set i (some .bag))
theorem dropB_get {ρ : Ev}{i : Nat}{d : D}(h : (dropB ρ)[i]? = some (some d)) : ρ[i]? = some (some d) /\ d ≠ .bag := by
  unfold dropB at h
  rw [List.getElem?_map] at h
  cases q : ρ[i]? with
  | none => rw [q] at h; cases h
  | some o =>
    rw [q] at h
    cases o with
    | none => cases h
    | some d' => cases d' <;> simp at h <;> subst h <;> exact ⟨rfl,by intro z; cases z⟩
theorem ds_bag {spos : Pos}{x f : Str}{k : Nat}{ps : List Str}{pre : List D -> Prop}{i : Nat}{pos' : Pos}(hb0 : W.b0 = none)(hN : X.N.Nodup)(hi : X.N[i]? = some x)(hx : Loc X.env.scope x)(G : Callee X.prog X.w X.K X.mg X.base CX0 f k ps (bagSp W.K W.B pre))(hr : Room k X.A)(hg : Gl X f)(ha : PA X (e :: es) (dnA W dA))
    (hdb : (f == ("__debug__" : Str)) = false := by decide) (he : starEach (e :: es) X.env = (false,eval e X.env) :: starEach es X.env := by rfl) (hpl : (backTo pos (starEach es X.env)).any (·.1) = false := by rfl)
    (hs : swapsWith (.Call (.Name f p) (e :: es) [] pos) (some (.Name x pos')) spos.line X.env = pure false := by rfl) (hf : X.fn x = true \/ X.env.scope.names.lookup x = some .local := by first | exact .inl rfl | exact .inr rfl | assumption) :
    PS X (.Assign [.Name x pos'] (.Call (.Name f p) (e :: es) [] pos) spos) (sn W (dBag i pre dA)) := (ps_set hN hi hx (pe_own G hr hg ha hdb he hpl) hs hf).mono fun E σ H hh => hh.elim fun pn M b ρ F s l h => by
  refine ⟨pn,M,b,ρ,_,s.toSta,h,fun ds vs H' hx rx k o => ?_⟩
  have s1 := s.step k o
  refine ⟨M,b,ds,by rw [List.append_nil]; exact rx.args _ _ hx.1,hx.2.1,fun q H1 hq S ok => ?_⟩
  have rep : ∀ d v,Rep W.K M H' d v -> Rep W.K (fun c => M c \/ c = q) H1 d v := fun d v r => Rep.keep (fun c o _ e => S c o e) _ _ (Rep.avoid (fun c hc => hc.imp id fun z => by rw [z]; exact hq) _ _ r)
  have reps : ∀ d v,Reps W.K M H' d v -> Reps W.K (fun c => M c \/ c = q) H1 d v := fun d v r => Reps.keep (fun c o _ e => S c o e) _ _ (Reps.avoid (fun c hc => hc.imp id fun z => by rw [z]; exact hq) _ _ r)
  have h0 : W.H0 q = none := by
    cases z : W.H0 q with
    | none => rfl
    | some o =>
      have := s1.kp q o (by rw [hb0]; intro y; cases y) z
      rw [hq] at this; cases this
  have st1 : Sta W pn (fun c => M c \/ c = q) (some q) H1 σ (dropB ρ) := by
    refine ⟨⟨fun p e => by cases e; exact ok,fun p e => by cases e; exact .inr rfl,fun c hc => ?_,fun c m => .inl (s1.m0 c m)⟩,fun c o n e => S c o (s1.kp c o n e),.inr ⟨hb0,fun p e => by cases e; exact h0⟩,fun j d e => ?_,by simp [dropB,s.len],fun q' hq' => (s1.pin q' hq').to rep reps fun xs a vs _ _ m n hh => ⟨.inl m,(fun z => by cases z; rw [hq] at hh; cases hh),S _ _ hh⟩⟩
    · rcases hc with hc | hc
      · obtain ⟨o,e⟩ := s1.dom c hc; exact ⟨o,S c o e⟩
      · rw [hc]; exact W.B.dm q H1 ok
    · obtain ⟨e1,nb⟩ := dropB_get e
      obtain ⟨v,e2,r⟩ := s1.env j d e1
      refine ⟨v,e2,?_⟩
      cases d
      case own xs =>
        obtain ⟨a,us,rfl,m1,m2,m3,m4,hh,r'⟩ := r
        have nq : some q ≠ some a := fun z => by
          cases z
          rw [hq] at hh
          cases hh
        exact ⟨a,us,rfl,.inl m1,nq,m3,m4,S _ _ hh,reps _ _ r'⟩
      case bag => exact absurd rfl nb
      case frg f _ => exact RepX.move r (fun c _ m n => ⟨.inl m,fun z => by cases z; exact s1.toHs.new hq m⟩) (fun c o _ e => S c o e) fun c hc => hc.imp id fun z => by rw [z]; exact hq
      all_goals exact rep _ _ r
  refine l.nx _ _ _ _ _ (s1.of (st1.set (x := .bag) (v := .ref q) i ⟨q,rfl,rfl⟩) fun j xs hm e => ?_) hx.2.2
  by_cases z : i = j
  · subst z
    rw [List.getElem?_set] at e
    simp at e
    rw [<- e.2] at hm; cases hm
  · rw [List.getElem?_set_ne z] at e
    exact ⟨(dropB_get e).1,by rw [List.getElem?_set_ne z]⟩
end
end L2
set_option linter.all false
namespace K
open PySem L2
def gcdL (ns : List Int) : Int := ns.foldl (fun g n => ((Int.gcd g n : Nat) : Int)) 0
def low (ns : List Int)(last : Int) : Int := if last < 0 then -gcdL (ns ++ [last]) else gcdL (ns ++ [last])
end K
set_option linter.all false
namespace K
open PySem L2
end K
namespace K
open PySem L2
end K
set_option linter.all false
namespace K
open PySem L2
end K
set_option linter.all false
namespace K
open PySem L2
def Mv (n : Nat)(H : Hp)(m : Addr)(M : List (List Int)) : Prop := ∃ ps : List Addr,H m = some (.tup (ps.map V.ref)) /\ ps.length = 4 /\ M.length = 4 /\ ∀ (i : Nat) p r,ps[i]? = some p -> M[i]? = some r -> H p = some (.tup (r.map V.int)) /\ r.length = 4 /\ ∀ x ∈ r,Bd n x
theorem Mv.same {n : Nat}{H H' : Hp}{m : Addr}{M : List (List Int)}(h : Mv n H m M)(S : Same H H') : Mv n H' m M := by
  obtain ⟨ps,e,l1,l2,q⟩ := h
  exact ⟨ps,S _ _ e,l1,l2,fun i p r h1 h2 => ⟨S _ _ (q i p r h1 h2).1,(q i p r h1 h2).2⟩⟩
theorem Mv.of {n : Nat}{H : Hp}{m p0 p1 p2 p3 : Addr}{r0 r1 r2 r3 : List Int}(e : H m = some (.tup [.ref p0,.ref p1,.ref p2,.ref p3]))(e0 : H p0 = some (.tup (r0.map V.int)))(e1 : H p1 = some (.tup (r1.map V.int)))(e2 : H p2 = some (.tup (r2.map V.int)))(e3 : H p3 = some (.tup (r3.map V.int)))
    (l : r0.length = 4 /\ r1.length = 4 /\ r2.length = 4 /\ r3.length = 4) (b : ∀ x ∈ r0 ++ r1 ++ r2 ++ r3,Bd n x) : Mv n H m [r0,r1,r2,r3] := by
  refine ⟨[p0,p1,p2,p3],e,rfl,rfl,fun i p r h1 h2 => ?_⟩
  match i with
  | 0 => cases h1; cases h2; exact ⟨e0,l.1,fun x hx => b x (by simp [hx])⟩
  | 1 => cases h1; cases h2; exact ⟨e1,l.2.1,fun x hx => b x (by simp [hx])⟩
  | 2 => cases h1; cases h2; exact ⟨e2,l.2.2.1,fun x hx => b x (by simp [hx])⟩
  | 3 => cases h1; cases h2; exact ⟨e3,l.2.2.2,fun x hx => b x (by simp [hx])⟩
  | i + 4 => simp at h1
end K
set_option Elab.async false
set_option linter.all false
set_option maxRecDepth 100000
set_option maxHeartbeats 4000000
namespace L2
open PySem PySem.Spec PyProof.Rows
theorem oIx_mem {xs : List D}{i : Int}{P : D -> Prop}(h0 : 0 <= i)(h1 : i < xs.length)(h : ∀ d ∈ xs,P d) : oIx (.lst xs) (.int i) P := by
  obtain ⟨j,rfl⟩ : ∃ j : Nat,i = j := ⟨i.toNat,by omega⟩
  have hj : j < xs.length := by omega
  have e : atI xs (j : Int) = some xs[j] := atI_nat (List.getElem?_eq_getElem hj)
  simp only [oIx,e]
  exact h _ (List.getElem_mem hj)
theorem ixm {xs : List D}{i : Int}{P : D -> Prop}(h0 : 0 <= i)(h1 : i < xs.length)(h : ∀ d ∈ xs,P d) : (atI xs i).elim False P := oIx_mem (P := P) h0 h1 h
theorem rangeD_get {lo : Int}{n i : Nat}{d : D}(h : (rangeD lo n)[i]? = some d) : d = .int (lo + i) /\ i < n := by
  have hi : i < n := by
    have := (List.getElem?_eq_some_iff.mp h).1
    simpa [rangeD] using this
  simp [rangeD,hi] at h
  exact ⟨h.symm,hi⟩
theorem rangeD_len (lo : Int)(n : Nat) : (rangeD lo n).length = n := by simp [rangeD]
abbrev t3 (x y z : Int) : D := .tup [.int x,.int y,.int z]
abbrev t2 (x y : Int) : D := .tup [.int x,.int y]
theorem comp_all {gd : D -> Ev -> (Ev -> Prop) -> Prop}{de : DE}{ρc : Ev}{items : List D}{P : List D -> Prop}(Pv : Nat -> D -> Prop)
    (hs : ∀ (i : Nat) x (Q : D -> Prop),items[i]? = some x -> (∀ y,Pv i y -> Q y) -> gd x ρc fun ρ1 => de ρ1 Q) (hp : ∀ i y,Pv i y -> plain y = true)
    (hd : ∀ acc : List D,acc.length = items.length -> (∀ i y,acc[i]? = some y -> Pv i y) -> P acc) : compI gd dTrue de ρc items P := by
  refine ⟨fun i acc => acc.length = i /\ ∀ j y,acc[j]? = some y -> Pv j y,⟨rfl,fun j y e => by simp at e⟩,fun i x acc e ⟨hl,ha⟩ => ?_,fun acc ⟨hl,ha⟩ => hd acc hl ha⟩
  have := hs i x (fun y => plain y = true /\ ((acc ++ [y]).length = i + 1 /\ ∀ j z,(acc ++ [y])[j]? = some z -> Pv j z)) e fun y hy => ⟨hp i y hy,by simp [hl],fun j z ez => ?_⟩
  · simpa only [dTrue,IfP_true] using this
  · by_cases hj : j < acc.length
    · rw [List.getElem?_append_left hj] at ez
      exact ha j z ez
    · rw [List.getElem?_append_right (by omega)] at ez
      have : j - acc.length = 0 := by
        cases q : j - acc.length with
        | zero => rfl
        | succ m => rw [q] at ez; simp at ez
      rw [this] at ez
      simp at ez
      subst ez
      have : j = i := by omega
      subst this
      exact hy
theorem comp_map {gd : D -> Ev -> (Ev -> Prop) -> Prop}{de : DE}{ρc : Ev}{items : List D}{P : List D -> Prop}(f : D -> D)
    (hs : ∀ x (Q : D -> Prop),x ∈ items -> Q (f x) -> gd x ρc fun ρ1 => de ρ1 Q) (hp : ∀ x ∈ items,plain (f x) = true) (hd : P (items.map f)) : compI gd dTrue de ρc items P := by
  refine comp_all (fun i y => ∃ x,items[i]? = some x /\ y = f x) (fun i x Q e h => hs x Q (List.mem_of_getElem? e) (h _ ⟨x,e,rfl⟩)) (fun i y ⟨x,e,h⟩ => by rw [h]; exact hp x (List.mem_of_getElem? e)) fun acc hl ha => ?_
  have : acc = items.map f := by
    apply List.ext_getElem?
    intro i
    rw [List.getElem?_map]
    cases q : acc[i]? with
    | none =>
      have : items.length <= i := by rw [<- hl]; exact List.getElem?_eq_none_iff.mp q
      rw [List.getElem?_eq_none_iff.mpr this]; rfl
    | some y =>
      obtain ⟨x,e,rfl⟩ := ha i y q
      rw [e]; rfl
  rw [this]; exact hd
theorem okB.same {B : BagT}{b : Option Addr}{H H' : Hp}(o : okB B b H)(S : Same H H') : okB B b H' := fun p e => B.st p H H' (o p e) fun u h => S p u h
end L2
set_option Elab.async false
set_option linter.all false
set_option maxRecDepth 100000
set_option maxHeartbeats 4000000
namespace L2
open PySem PySem.Spec PyProof.Rows
structure JE (X : Cx)(W : Wd)(e : Expr)(d : DE) : Prop where
  h : PE X e (dn W d)
structure JT (X : Cx)(W : Wd)(e : Expr)(d : DT) : Prop where
  h : PT X e (dnT W d)
structure JW (X : Cx)(W : Wd)(e : Expr)(d : DT) : Prop where
  h : PW X e (dnT W d)
structure JA (X : Cx)(W : Wd)(es : List Expr)(d : DA) : Prop where
  h : PA X es (dnA W d)
structure JO (X : Cx)(W : Wd)(e : Option Expr)(d : DO) : Prop where
  h : PO X e (dnO W d)
structure JIf (X : Cx)(W : Wd)(es : List Expr)(d : DT) : Prop where
  h : PIf X es (dnT W d)
structure JI (X : Cx)(W : Wd)(fz : Bool)(tg l : Expr)(d : DA) : Prop where
  h : PI X tg l (dnI W fz d)
structure JS (X : Cx)(W : Wd)(st : Stmt)(d : DS) : Prop where
  h : PS X st (sn W d)
structure JSs (X : Cx)(W : Wd)(st : List Stmt)(d : DS) : Prop where
  h : PSs X st (sn W d)
section
variable {X : Cx}{W : Wd}{e a b c : Expr}{es : List Expr}{pos : Pos}{d da db dc : DE}{dA : DA}{t : TE}
theorem jdv (i : Nat) {x : Str} {pos : Pos} (hN : X.N[i]? = some x := by rfl) (hv : Vis X.env.scope x := by first | exact Or.inl rfl | exact Or.inr (Or.inl rfl) | exact Or.inr (Or.inr rfl)) (hd : (x == ("__debug__" : Str)) = false := by decide)
    (hcd : (x == ("__classdict__" : Str)) = false := by decide) : JE X W (.Name x pos) (dVar i) := ⟨dv i hN hv hd hcd⟩
theorem jde_int {i j pos} : JE X W (.Constant (.int i) j pos) (dC (.int i)) := ⟨de_int ⟩
theorem jde_bl {i j pos} : JE X W (.Constant (.bool i) j pos) (dC (.bl i)) := ⟨de_bl ⟩
theorem jde_non {j pos} : JE X W (.Constant .none j pos) (dC .non) := ⟨de_non ⟩
theorem jde_globI {x : Str}{n : Int}{pos : Pos}(hg : Gl X x)(hm : ∃ t,X.mg x = some (.int n t))(hd : (x == ("__debug__" : Str)) = false := by decide) : JE X W (.Name x pos) (dC (.int n)) := ⟨de_globI hg hm hd⟩
theorem jde_bltn {x : Str}{T : String}{pos : Pos}(hg : Gl X x)(hm : X.mg x = none)(hv : bootBuiltins x = some (.type T))(hn : x ≠ "__name__" := by decide) (hd : (x == ("__debug__" : Str)) = false := by decide) : JE X W (.Name x pos) (dC (.ty T)) := ⟨de_bltn hg hm hv hn hd⟩
theorem jde_op {op : Operator}{r : R2}{o : D -> D -> (D -> Prop) -> Prop}(ho : OpR X (binaryOp op) r)(hd : OpD W r o)(ha : JE X W a da)(hb : JE X W b db) : JE X W (.BinOp a op b pos) (dOp o da db) := ⟨de_op ho hd ha.h hb.h⟩
theorem jde_cmp {op : CmpOp}{r : R2}{o : D -> D -> (D -> Prop) -> Prop}(ho : OpR X (compareOp op) r)(hd : OpD W r o)(ha : JE X W a da)(hb : JE X W b db)(hm : behindInMarks op b = false) : JE X W (.Compare a [op] [b] pos) (dOp o da db) := ⟨de_cmp ho hd ha.h hb.h hm⟩
theorem jde_ix {r : R2}{o : D -> D -> (D -> Prop) -> Prop}(hr : IxR X r)(hd : OpD W r o)(ha : JE X W a da)(hb : JE X W b db)(hs : PlainIx b) : JE X W (.Subscript a b pos) (dOp o da db) := ⟨de_ix hr hd ha.h hb.h hs⟩
variable {rest : List Expr}
theorem jde_one {op}(h : JE X W a da) : JE X W (.BoolOp op [a] pos) da := ⟨de_one h.h⟩
theorem jde_and (ha : JE X W a da)(hb : JE X W (.BoolOp .And (b :: rest) pos) db) : JE X W (.BoolOp .And (a :: b :: rest) pos) (dAnd da db) := ⟨de_and ha.h hb.h⟩
theorem jde_or (ha : JE X W a da)(hb : JE X W (.BoolOp .Or (b :: rest) pos) db) : JE X W (.BoolOp .Or (a :: b :: rest) pos) (dOr da db) := ⟨de_or ha.h hb.h⟩
theorem jde_not (ha : JE X W a da) : JE X W (.UnaryOp .Not a pos) (dNot da) := ⟨de_not ha.h⟩
theorem jdt_cmp {op : CmpOp}{r : R2}{o : D -> D -> (D -> Prop) -> Prop}(ho : OpR X (compareOp op) r)(hd : OpD W r o)(ha : JE X W a da)(hb : JE X W b db)(hm : behindInMarks op b = false) : JT X W (.Compare a [op] [b] pos) (dTest (dOp o da db)) := ⟨dt_cmp ho hd ha.h hb.h hm⟩
theorem jdt_truth (hK : X.K = W.K)(ha : JE X W a da)(he : ∀ whole,isTrue a X.env whole = (do let v <- whole; standAt a.pos; holding [v] (truthy v))) : JT X W a (dTru da) := ⟨dt_truth hK ha.h he⟩
variable {ta tb : DT}
theorem jdw_and1 (ha : JT X W a ta) : JW X W (.BoolOp .And [a] pos) ta := ⟨dw_and1 ha.h⟩
theorem jdw_or1 (ha : JT X W a ta) : JW X W (.BoolOp .Or [a] pos) ta := ⟨dw_or1 ha.h⟩
theorem jdw_or (ha : JT X W a ta)(hb : JW X W (.BoolOp .Or (b :: rest) pos) tb) : JW X W (.BoolOp .Or (a :: b :: rest) pos) (dTOr ta tb) := ⟨dw_or ha.h hb.h⟩
theorem jdt_not (ha : JT X W a ta) : JT X W (.UnaryOp .Not a pos) (dTNot ta) := ⟨dt_not ha.h⟩
theorem jda_nil : JA X W [] aNil := ⟨da_nil ⟩
theorem jda_cons {dr : DA}(ha : JE X W e da)(hr : JA X W es dr)(hs : starEach (e :: es) X.env = (false,eval e X.env) :: starEach es X.env := by rfl) : JA X W (e :: es) (aCons da dr) := ⟨da_cons ha.h hr.h hs⟩
theorem jde_tup {x1}(h : JA X W es dA) : JE X W (.Tuple es x1 pos) (dTup dA) := ⟨de_tup h.h⟩
theorem jde_lst (h : JA X W es dA) : JE X W (.List es pos) (dLst dA) := ⟨de_lst h.h⟩
end
section
variable {X : Cx}{W : Wd}{e a b c : Expr}{es : List Expr}{pos p : Pos}{d da db dc : DE}{dA : DA}{x : Str}{k : Nat}{ps : List Str}{S : DSp}
theorem jde_own (G : Callee X.prog X.w X.K X.mg X.base CX0 x k ps (liftSp W.K W.B S))(hr : Room k X.A)(hg : Gl X x)(ha : JA X W (e :: es) dA)(hdb : (x == ("__debug__" : Str)) = false := by decide) (he : starEach (e :: es) X.env = (false,eval e X.env) :: starEach es X.env := by rfl) (hpl : (backTo pos (starEach es X.env)).any (·.1) = false := by rfl) :
    JE X W (.Call (.Name x p) (e :: es) [] pos) (dCall S (fun _ => False) dA) := ⟨de_own G hr hg ha.h hdb he hpl⟩
theorem jde_ownX {CX : CXT}{E : XK}{Ed : Addr -> Prop}(hE : ELink W E Ed)(hp : Passes CX X E)(G : Callee X.prog X.w X.K X.mg X.base CX x k ps (liftSp W.K W.B S))(hr : Room k X.A)(hg : Gl X x)(ha : JA X W (e :: es) dA)(hdb : (x == ("__debug__" : Str)) = false := by decide) (he : starEach (e :: es) X.env = (false,eval e X.env) :: starEach es X.env := by rfl) (hpl : (backTo pos (starEach es X.env)).any (·.1) = false := by rfl) :
    JE X W (.Call (.Name x p) (e :: es) [] pos) (dCall S Ed dA) := ⟨de_ownX hE hp G hr hg ha.h hdb he hpl⟩
variable {r : List V -> Hp -> VK -> Prop}{o : List D -> (D -> Prop) -> Prop}{id T : String}
theorem jde_callB (hc : CallR X (.builtin id) r)(hd : CallD W r o)(hg : Gl X x)(hm : X.mg x = none)(hv : bootBuiltins x = some (.builtin id))(ha : JA X W (e :: es) dA)(hn : x ≠ "__name__" := by decide) (hdb : (x == ("__debug__" : Str)) = false := by decide)
    (he : starEach (e :: es) X.env = (false,eval e X.env) :: starEach es X.env := by rfl) (hpl : (backTo pos (starEach es X.env)).any (·.1) = false := by rfl) : JE X W (.Call (.Name x p) (e :: es) [] pos) (dCB o dA) := ⟨de_callB hc hd hg hm hv ha.h hn hdb he hpl⟩
theorem jde_callTy (hc : CallR X (.type T) r)(hd : CallD W r o)(hg : Gl X x)(hm : X.mg x = none)(hv : bootBuiltins x = some (.type T))(ha : JA X W (e :: es) dA)(hn : x ≠ "__name__" := by decide) (hdb : (x == ("__debug__" : Str)) = false := by decide)
    (he : starEach (e :: es) X.env = (false,eval e X.env) :: starEach es X.env := by rfl) (hpl : (backTo pos (starEach es X.env)).any (·.1) = false := by rfl) : JE X W (.Call (.Name x p) (e :: es) [] pos) (dCB o dA) := ⟨de_callTy hc hd hg hm hv ha.h hn hdb he hpl⟩
end
section
variable {X : Cx}{W : Wd}{tg l e a b c : Expr}{es : List Expr}{pos p : Pos}{d da db dc dl : DE}{dA di : DA}{fz : Bool}
theorem jdi_seq (hK : X.K = W.K)(hl : JE X W l dl) : JI X W fz tg l (iSeq fz dl) := ⟨di_seq hK hl.h⟩
theorem jdi_range1 (hg : Gl X "range") (hm : X.mg "range" = none) (ha : JA X W [a] dA) (hs : starEach [a] X.env = [(false,eval a X.env)] := by rfl) : JI X W fz tg (.Call (.Name "range" p) [a] [] pos) (iRange1 dA) := ⟨di_range1 hg hm ha.h hs⟩
end
section
variable {X : Cx}{W : Wd}{elt iter tg : Expr}{ifs : List Expr}{scope : Scope}{pos : Pos}{N' : List Str}{map : List (Option Nat)}{g : TG}{gd : D -> Ev -> (Ev -> Prop) -> Prop}{di : DA}{dt : DT}{de : DE}
theorem jde_comp (hG : GD W g gd)(B : Blk X N' scope map tg elt ifs g (dnT W dt) (dn W de))(hi : JI X W false tg iter di)(hs : ∀ x,foldedSetIterable iter X.env x = pure x := by intro _; rfl) : JE X W (.ListComp elt [⟨tg,iter,ifs,0⟩] scope pos) (dComp map gd di dt de) := ⟨de_comp hG B hi.h hs⟩
theorem jdif_nil : JIf X W [] dTrue := ⟨dif_nil ⟩
theorem jdif_one {c : Expr}(hc : JT X W c dt) : JIf X W [c] dt := ⟨dif_one hc.h⟩
end
section
variable {X : Cx}{W : Wd}{e a b c tg iter l : Expr}{es : List Expr}{pos p : Pos}{d da db dc dl de : DE}{dA di : DA}{dt : DT}{st : Stmt}{rest sts : List Stmt}{d1 d2 : DS}{t : TS}
theorem jdss_nil : JSs X W [] dNext := ⟨dss_nil ⟩
theorem jdss_one (h : JS X W st d1) : JSs X W [st] d1 := ⟨dss_one h.h⟩
theorem jdss_cons (h1 : JS X W st d1)(h2 : JSs X W rest d2) : JSs X W (st :: rest) (dSeq d1 d2) := ⟨dss_cons h1.h h2.h⟩
theorem jds_ret (he : JE X W e de) : JS X W (.Return (some e) pos) (dRet de) := ⟨ds_ret he.h⟩
theorem jds_if {s1 s2 : List Stmt}(hc : JT X W c dt)(ha : JSs X W s1 d1)(hb : JSs X W s2 d2) : JS X W (.If c s1 s2 pos) (dIfS dt d1 d2) := ⟨ds_if hc.h ha.h hb.h⟩
theorem jds_set {i : Nat} {x : Str} {pos' : Pos} (hN : X.N.Nodup) (hi : X.N[i]? = some x) (hx : Loc X.env.scope x) (he : JE X W e de) (hs : swapsWith e (some (.Name x pos')) pos.line X.env = pure false := by rfl) (hf : X.fn x = true \/ X.env.scope.names.lookup x = some .local := by first | exact .inl rfl | exact .inr rfl | assumption) :
    JS X W (.Assign [.Name x pos'] e pos) (dAsg de (gdN i)) := ⟨ds_set hN hi hx he.h hs hf⟩
theorem jds_asg {g : TG}{gd : D -> Ev -> (Ev -> Prop) -> Prop}(hG : GD W g gd)(he : JE X W e de)(hg : PG X tg g)(hs : swapsWithSole [tg] e pos.line X.env = pure false := by rfl)(hw : swappedStores [tg] e X.env = pure none := by rfl)
    (h1 : (assignEach [tg] X.env).map (·.2) = [assign tg X.env] := by rfl) : JS X W (.Assign [tg] e pos) (dAsg de gd) := ⟨ds_asg hG he.h hg hs hw h1⟩
theorem jds_ownL {i : Nat} {x : Str} {pos' lpos : Pos} (hN : X.N.Nodup) (hi : X.N[i]? = some x) (hx : Loc X.env.scope x) (ha : JA X W es dA) (hs : swapsWith (.List es lpos) (some (.Name x pos')) pos.line X.env = pure false := by rfl) (hf : X.fn x = true \/ X.env.scope.names.lookup x = some .local := by first | exact .inl rfl | exact .inr rfl | assumption) :
    JS X W (.Assign [.Name x pos'] (.List es lpos) pos) (dOwnL i dA) := ⟨ds_ownL hN hi hx ha.h hs hf⟩
theorem jds_setC {elt iter tg : Expr}{ifs : List Expr}{scope : Scope}{N' : List Str}{map : List (Option Nat)}{g : TG}{gd : D -> Ev -> (Ev -> Prop) -> Prop}(own : Bool){i : Nat}{y : Str}{py spos : Pos}(hN : X.N.Nodup)(hiN : X.N[i]? = some y)(hy : Loc X.env.scope y)(hG : GD W g gd)(B : Blk X N' scope map tg elt ifs g (dnT W dt) (dn W de))(hi : JI X W false tg iter di)
    (hsw : swapsWith (.ListComp elt [⟨tg,iter,ifs,0⟩] scope pos) (some (.Name y py)) spos.line X.env = pure true := by rfl) (hfn : X.fn y = true \/ X.env.scope.names.lookup y = some .local := by first | exact .inl rfl | exact .inr rfl)
    (hs : ∀ x,foldedSetIterable iter X.env x = pure x := by intro _; rfl) : JS X W (.Assign [.Name y py] (.ListComp elt [⟨tg,iter,ifs,0⟩] scope pos) spos) (dSetC own i map gd di dt de) := ⟨ds_setC own hN hiN hy hG B hi.h hsw hfn hs⟩
theorem jds_append {i : Nat}{x : Str}{e : Expr}{npos apos cpos : Pos}(hK : X.K = W.K)(hN : X.N[i]? = some x)(hv : Vis X.env.scope x)(ha : JA X W [e] dA)
    (h : PE X (.Call (.Attribute (.Name x npos) "append" apos) [e] [] cpos) (tBM X.K "list" rAppend (tVar i) (dnA W dA))) (hs : swapsWith (.Call (.Attribute (.Name x npos) "append" apos) [e] [] cpos) none pos.line X.env = pure false := by rfl) :
    JS X W (.Expr (.Call (.Attribute (.Name x npos) "append" apos) [e] [] cpos) pos) (dApp i dA) := ⟨ds_append hK hN hv ha.h h hs⟩
theorem jds_aug {i : Nat} {x : Str} {op : Operator} {f : Int -> Int -> Int} {pos' : Pos} (hN : X.N.Nodup) (hi : X.N[i]? = some x) (hx : Loc X.env.scope x) (he : JE X W e de) (ho : PIp X op (ipI f)) (hf : X.fn x = true \/ X.env.scope.names.lookup x = some .local := by first | exact .inl rfl | exact .inr rfl | assumption) :
    JS X W (.AugAssign (.Name x pos') op e pos) (dAug i f de) := ⟨ds_aug hN hi hx he.h ho hf⟩
theorem jds_for {g : TG}{gd : D -> Ev -> (Ev -> Prop) -> Prop}{db : DS}{body : List Stmt}(hG : GD W g gd)(hp : PassesOwn (model X.prog X.w) X.A X.env X.xe)(hc : X.calm = true)(hi : JI X W true tg iter di)(hg : PG X tg g)(hb : JSs X W body db)
    (hs : ∀ x,foldedSetIterable iter X.env x = pure x := by intro _; rfl) : JS X W (.For tg iter body [] pos) (dFor gd di db) := ⟨ds_for hG hp hc hi.h hg hb.h hs⟩
theorem jdss_frz (i : Nat)(h : JSs X W sts d1) : JSs X W sts (dFrz i d1) := ⟨dss_frz i h.h⟩
theorem jds_raise {E : XK}{Ed : Addr -> Prop}{C : Addr}(hE : ELink W E Ed)(h : PS X st (fun _ _ H1 => E (.ref C) none H1)) : JS X W st (dRaise Ed C) := ⟨ds_raise hE h⟩
end
section
variable {X : Cx}{W : Wd}{e a b c tg iter l : Expr}{es : List Expr}{pos p : Pos}{d da db dc dl de : DE}{dA di : DA}{dt : DT}{st : Stmt}{rest sts : List Stmt}{d1 d2 : DS}{t : TS}
theorem jdo_none : JO X W none oNo := ⟨do_none ⟩
theorem jdo_some (h : JE X W e de) : JO X W (some e) (oPt de) := ⟨do_some h.h⟩
theorem jde_slice {lo hi : Option Expr}{dl dh : DO}{p2 : Pos}(hr : SlR X (fun x lo hi H Q => rSlT W.K x lo hi H Q \/ rSlL W.K x lo hi H Q))(he : JE X W e de)(hl : JO X W lo dl)(hu : JO X W hi dh) : JE X W (.Subscript e (.Slice lo hi none p2) pos) (dSl de dl dh) := ⟨de_slice hr he.h hl.h hu.h⟩
theorem jds_bag {spos : Pos}{x f : Str}{k : Nat}{ps : List Str}{pre : List D -> Prop}{i : Nat}{pos' : Pos}(hb0 : W.b0 = none)(hN : X.N.Nodup)(hi : X.N[i]? = some x)(hx : Loc X.env.scope x)(G : Callee X.prog X.w X.K X.mg X.base CX0 f k ps (bagSp W.K W.B pre))(hr : Room k X.A)(hg : Gl X f)(ha : JA X W (e :: es) dA)
    (hdb : (f == ("__debug__" : Str)) = false := by decide) (he : starEach (e :: es) X.env = (false,eval e X.env) :: starEach es X.env := by rfl) (hpl : (backTo pos (starEach es X.env)).any (·.1) = false := by rfl)
    (hs : swapsWith (.Call (.Name f p) (e :: es) [] pos) (some (.Name x pos')) spos.line X.env = pure false := by rfl) (hf : X.fn x = true \/ X.env.scope.names.lookup x = some .local := by first | exact .inl rfl | exact .inr rfl | assumption) :
    JS X W (.Assign [.Name x pos'] (.Call (.Name f p) (e :: es) [] pos) spos) (dBag i pre dA) := ⟨ds_bag hb0 hN hi hx G hr hg ha.h hdb he hpl hs hf⟩
end
section
variable {X : Cx}{W : Wd}{a b : Expr}{rest : List Expr}{pos : Pos}{ta tb : DT}
theorem jdt_and (ha : JT X W a ta)(hb : JW X W (.BoolOp .And (b :: rest) pos) tb) : JT X W (.BoolOp .And (a :: b :: rest) pos) (dTAnd ta tb) := ⟨(dw_and ha.h hb.h).pt⟩
theorem jdt_or (ha : JT X W a ta)(hb : JW X W (.BoolOp .Or (b :: rest) pos) tb) : JT X W (.BoolOp .Or (a :: b :: rest) pos) (dTOr ta tb) := ⟨(dw_or ha.h hb.h).pt⟩
end
theorem blkJ {X : Cx} {W : Wd} {N' : List Str} {scope : Scope} {map : List (Option Nat)} {tg elt : Expr} {ifs : List Expr} {g : TG} {dt : DT} {de : DE} (calm : X.calm = true) (kind : scope.kind = .function) (loc : ∀ x ∈ scope.names,x.2 = .local -> scope.names.lookup x.1 = some .local) (free : (scope.names.all fun p => !(p.2 == NameKind.free) || (X.env.kindOf p.1 == some .cell || X.env.kindOf p.1 == some .free)) = true) (cap : CapOk X scope map N') (keep : GKeep g map)
    (run : ∀ cells C fp s H,PG (cxComp X N' scope cells C fp s H) tg g /\ JIf (cxComp X N' scope cells C fp s H) W ifs dt /\ JE (cxComp X N' scope cells C fp s H) W elt de) : Blk X N' scope map tg elt ifs g (dnT W dt) (dn W de) :=
  ⟨calm,kind,loc,free,cap,keep,fun cells C fp s H _ => ⟨(run cells C fp s H).1,(run cells C fp s H).2.1.h,(run cells C fp s H).2.2.h⟩⟩
theorem Fun.okD {P : Program}{w : World}{K : PySem.W.Frag}{mg : Str -> Option Value}{base : Heap}{x qual : Str}{st : Stmt}{f : Addr}{fd : FuncData}{N ps : List Str}{k : Nat}{B : BagT}{Sd : DSp}(F : Fun K x qual st f fd)(S : FnScope N ps (defScope st))(len : ∀ ds PP Ed,Sd ds PP Ed -> ds.length = ps.length)
    (hbody : ∀ (cdv : Value) (A : Around) (outer : List Env) (s : Shared) (H : Hp) (E : XK) (M : Addr -> Prop) (bg : Option Addr) (ds : List D) (PP : D -> Prop) (Ed : Addr -> Prop),Room k (A.deeper (envOfC qual (defScope st) s.heap.objs.size f cdv)) -> Sd ds PP Ed ->
      ∃ d,JSs (cxOf CX0 P w K mg base N qual (defScope st) f cdv A outer s H E).nox ⟨K,B,H,M,bg⟩ (defBody st) d /\ d { nx := fun _ => PP .non,rt := PP } (startD N ds)) : FnOk P w K mg base CX0 (k + 1) f fd ps (liftSp K B Sd) :=
  F.ok S (liftSp.len len) fun cdv A outer s H vs Q E hr h => by
    obtain ⟨M,bg,ds,PP,Ed,hS,hR,ho,hb,hd,hq,hx⟩ := h
    obtain ⟨d,J,q⟩ := hbody cdv A outer s H E M bg ds PP Ed hr hS
    exact ⟨_,J.h,run hR ho hb hd hq q⟩
theorem Fun.okDX {P : Program}{w : World}{K : PySem.W.Frag}{mg : Str -> Option Value}{base : Heap}{CX : CXT}{x qual : Str}{st : Stmt}{f : Addr}{fd : FuncData}{N ps : List Str}{k : Nat}{B : BagT}{Sd : DSp}(F : Fun K x qual st f fd)(S : FnScope N ps (defScope st))(len : ∀ ds PP Ed,Sd ds PP Ed -> ds.length = ps.length)
    (hbody : ∀ (cdv : Value) (A : Around) (outer : List Env) (s : Shared) (H : Hp) (E : XK) (M : Addr -> Prop) (bg : Option Addr) (ds : List D) (PP : D -> Prop) (Ed : Addr -> Prop),Room k (A.deeper (envOfC qual (defScope st) s.heap.objs.size f cdv)) -> ELink ⟨K,B,H,M,bg⟩ E Ed -> Sd ds PP Ed ->
      ∃ d,JSs (cxOf CX P w K mg base N qual (defScope st) f cdv A outer s H E) ⟨K,B,H,M,bg⟩ (defBody st) d /\ d { nx := fun _ => PP .non,rt := PP } (startD N ds)) : FnOk P w K mg base CX (k + 1) f fd ps (liftSp K B Sd) :=
  F.okX S (liftSp.len len) fun cdv A outer s H vs Q E hr h => by
    obtain ⟨M,bg,ds,PP,Ed,hS,hR,ho,hb,hd,hq,hx⟩ := h
    obtain ⟨d,J,q⟩ := hbody cdv A outer s H E M bg ds PP Ed hr (fun C H' e k o => hx C H' e k o) hS
    exact ⟨_,J.h,run hR ho hb hd hq q⟩
theorem Fun.okL {P : Program}{w : World}{K : PySem.W.Frag}{mg : Str -> Option Value}{base : Heap}{x qual : Str}{st : Stmt}{f : Addr}{fd : FuncData}{N : List Str}{p : Str}{k : Nat}(B : BagT)(F : Fun K x qual st f fd)(S : FnScope N [p] (defScope st))
    (hbody : ∀ (cdv : Value) (A : Around) (outer : List Env) (s : Shared) (H : Hp) (E : XK) (ns : List Int),Room k (A.deeper (envOfC qual (defScope st) s.heap.objs.size f cdv)) -> ns.length <= 63 ->
      ∃ d,JSs (cxOf CX0 P w K mg base N qual (defScope st) f cdv A outer s H E).nox ⟨K,B,H,fun _ => False,none⟩ (defBody st) d /\ d { nx := fun _ => D.non = .bl true,rt := fun d => d = .bl true } (startD N [.scr ns])) :
    FnOk P w K mg base CX0 (k + 1) f fd [p] (fun vs H Q _ => ∃ (a : Addr) (ns : List Int),vs = [.ref a] /\ SqL K H a (ns.map V.int) /\ ns.length <= 63 /\ ∀ H',Q (.bl true) H') :=
  F.ok S (fun vs H Q E h => by obtain ⟨a,ns,rfl,_⟩ := h; rfl) fun cdv A outer s H vs Q E hr h => by
    obtain ⟨a,ns,rfl,hS,hlen,k⟩ := h
    have hR : RepAs K (fun _ => False) none H [.scr ns] [.ref a] := ⟨.ref a,[],rfl,⟨a,rfl,hS.imp (fun q => ⟨id,q⟩) id⟩,rfl⟩
    obtain ⟨d,J,q⟩ := hbody cdv A outer s H E ns hr hlen
    exact ⟨_,J.h,run (P := fun d => d = .bl true) hR (fun p e => by cases e) (fun p e => by cases e) (fun c m => m.elim) (fun d v H' hd r _ _ => by cases hd; cases (show _ = _ from r); exact k H') q⟩
end L2
set_option Elab.async false
set_option linter.all false
set_option maxRecDepth 100000
set_option maxHeartbeats 4000000
namespace L2
open PySem PySem.Spec PyProof.Rows
mutual
def pyOf : D -> Option PyData
  | .non => some .none
  | .bl b => some (.bool b)
  | .int i => some (.int i)
  | .str x => if PyData.strOk x then some (.str x) else none
  | .tup xs => (pysOf xs).map .tuple
  | .lst xs => (pysOf xs).map .list
  | .own xs => (pysOf xs).map .list
  | .ty _ => none
  | .adr _ => none
  | .bag => none
  | .frg _ d => pyOf d
  | .scr _ => none
  | .dct _ _ _ => none
def pysOf : List D -> Option (List PyData)
  | [] => some []
  | d :: ds => (pyOf d).bind fun p => (pysOf ds).map (p :: ·)
end
mutual
theorem pyOf.lay : ∀ (d : D) (p : PyData),pyOf d = some p -> p.canLay0 = true
  | .non,p,h => by cases h; rfl
  | .bl b,p,h => by cases h; rfl
  | .int i,p,h => by cases h; rfl
  | .str x,p,h => by
    unfold pyOf at h
    split at h
    · cases h; unfold PyData.canLay0; assumption
    · cases h
  | .tup xs,p,h => by
    unfold pyOf at h
    obtain ⟨ps,e,rfl⟩ := Option.map_eq_some_iff.mp h
    unfold PyData.canLay0
    exact pysOf.lay xs ps e
  | .lst xs,p,h => by
    unfold pyOf at h
    obtain ⟨ps,e,rfl⟩ := Option.map_eq_some_iff.mp h
    unfold PyData.canLay0
    exact pysOf.lay xs ps e
  | .own xs,p,h => by
    unfold pyOf at h
    obtain ⟨ps,e,rfl⟩ := Option.map_eq_some_iff.mp h
    unfold PyData.canLay0
    exact pysOf.lay xs ps e
  | .ty _,p,h => by unfold pyOf at h; cases h
  | .adr _,p,h => by unfold pyOf at h; cases h
  | .bag,p,h => by unfold pyOf at h; cases h
  | .frg _ d,p,h => by unfold pyOf at h; exact pyOf.lay d p h
  | .scr _,p,h => by unfold pyOf at h; cases h
  | .dct _ _ _,p,h => by unfold pyOf at h; cases h
theorem pysOf.lay : ∀ (ds : List D) (ps : List PyData),pysOf ds = some ps -> PyData.canLayAll0 ps = true
  | [],ps,h => by cases h; rfl
  | d :: ds,ps,h => by
    unfold pysOf at h
    obtain ⟨p,e1,h⟩ := Option.bind_eq_some_iff.mp h
    obtain ⟨qs,e2,rfl⟩ := Option.map_eq_some_iff.mp h
    unfold PyData.canLayAll0
    rw [pyOf.lay d p e1,pysOf.lay ds qs e2]; rfl
end
section
variable {X : Cx}{pins : List (Addr × Obj)}{σ : St}{H : Hp}{s : Shared}{M : Addr -> Prop}
mutual
theorem rep_reads (I : Inv X pins σ H s) : ∀ (d : D) (v : V) (u : Value) (p : PyData),Rep X.K M H d v -> RelV v u -> pyOf d = some p -> ∃ as,Reads s.heap u p as
  | .non,v,u,p,r,q,h => by cases h; cases (show _ = _ from r); cases (show u = Value.none from q); exact ⟨_,.none⟩
  | .bl b,v,u,p,r,q,h => by cases h; cases (show _ = _ from r); cases (show u = Value.bool b from q); exact ⟨_,.bool _⟩
  | .int i,v,u,p,r,q,h => by
    cases h; cases (show _ = _ from r)
    obtain ⟨t,rfl⟩ := (show ∃ t,u = Value.int i t from q)
    exact ⟨_,.int _ _⟩
  | .str x,v,u,p,r,q,h => by
    unfold pyOf at h
    split at h
    · cases h; cases (show _ = _ from r)
      obtain ⟨t,rfl⟩ := (show ∃ t,u = Value.str x t from q)
      exact ⟨_,.str _ _⟩
    · cases h
  | .tup xs,v,u,p,r,q,h => by
    unfold pyOf at h
    obtain ⟨ps,e,rfl⟩ := Option.map_eq_some_iff.mp h
    obtain ⟨a,vs,rfl,z,rs⟩ := r
    cases (show u = Value.ref a from q)
    obtain ⟨its,r1,⟨o,h1,h2,n,h3⟩,_⟩ := I.tuple z.sq
    obtain ⟨as,ra⟩ := reps_reads I xs vs its ps rs r1 e
    exact ⟨as,.tuple h1 h2 h3 (by simpa using ra)⟩
  | .lst xs,v,u,p,r,q,h => by
    unfold pyOf at h
    obtain ⟨ps,e,rfl⟩ := Option.map_eq_some_iff.mp h
    obtain ⟨a,vs,rfl,z,rs⟩ := r
    cases (show u = Value.ref a from q)
    obtain ⟨its,r1,⟨o,n,h1,h2,_,h3⟩,_⟩ := I.list (SqL.of z.2)
    obtain ⟨as,ra⟩ := reps_reads I xs vs its ps rs r1 e
    exact ⟨a :: as,.list h1 h2 h3 (by simpa using ra)⟩
  | .own xs,v,u,p,r,q,h => r.elim
  | .ty _,_,_,p,_,_,h => by unfold pyOf at h; cases h
  | .adr _,_,_,p,_,_,h => by unfold pyOf at h; cases h
  | .bag,_,_,p,_,_,h => by unfold pyOf at h; cases h
  | .frg _ _,_,_,p,r,_,h => r.elim
  | .scr _,_,_,p,_,_,h => by unfold pyOf at h; cases h
  | .dct _ _ _,_,_,p,_,_,h => by unfold pyOf at h; cases h
theorem reps_reads (I : Inv X pins σ H s) : ∀ (ds : List D) (vs : List V) (us : List Value) (ps : List PyData),Reps X.K M H ds vs -> Vals vs us -> pysOf ds = some ps -> ∃ as,ReadsAll s.heap us ps as
  | [],vs,us,ps,r,q,h => by
    cases h
    cases (show vs = [] from r)
    cases q
    exact ⟨[],.nil⟩
  | d :: ds,vs,us,ps,r,q,h => by
    unfold pysOf at h
    obtain ⟨p,e1,h⟩ := Option.bind_eq_some_iff.mp h
    obtain ⟨qs,e2,rfl⟩ := Option.map_eq_some_iff.mp h
    obtain ⟨v,rv,rfl,r1,r2⟩ := r
    cases q with
    | cons q1 q2 =>
      obtain ⟨as,a1⟩ := rep_reads I d v _ p r1 q1 e1
      obtain ⟨bs,a2⟩ := reps_reads I ds rv _ qs r2 q2 e2
      exact ⟨as ++ bs,.cons a1 a2⟩
end
end
def RepG (K : PySem.W.Frag)(M : Addr -> Prop)(H : Hp) : D -> V -> Prop
  | .own xs,v => ∃ a vs,v = .ref a /\ H a = some (.lst vs) /\ Reps K M H xs vs
  | .frg _ d,v => ∃ M',Rep K M' H d v
  | d,v => Rep K M H d v
theorem RepX.g {W : Wd}{M : Addr -> Prop}{b : Option Addr}{H : Hp}{d : D}{v : V}{p : PyData}(h : RepX W M b H d v)(e : pyOf d = some p) : RepG W.K M H d v := by
  cases d
  case own xs => obtain ⟨a,vs,rfl,_,_,_,_,hh,r⟩ := h; exact ⟨a,vs,rfl,hh,r⟩
  case bag => unfold pyOf at e; cases e
  case frg f d => exact ⟨_,h.2.2⟩
  all_goals exact h
theorem repG_reads {X : Cx}{pins : List (Addr × Obj)}{σ : St}{H : Hp}{s : Shared}{M : Addr -> Prop}(I : Inv X pins σ H s){d : D}{v : V}{u : Value}{p : PyData}(r : RepG X.K M H d v)(q : RelV v u)(h : pyOf d = some p) : ∃ as,Reads s.heap u p as := by
  cases d
  case own xs =>
    obtain ⟨a,vs,rfl,hh,r⟩ := r
    unfold pyOf at h
    obtain ⟨ps,e,rfl⟩ := Option.map_eq_some_iff.mp h
    cases (show u = Value.ref a from q)
    obtain ⟨its,r1,⟨o,n,h1,h2,_,h3⟩,_⟩ := I.list (SqL.of hh)
    obtain ⟨as,ra⟩ := reps_reads I xs vs its ps r r1 e
    exact ⟨a :: as,.list h1 h2 h3 (by simpa using ra)⟩
  case frg f d =>
    obtain ⟨M',r⟩ := r
    exact rep_reads (M := M') I d _ _ _ r q (by unfold pyOf at h; exact h)
  all_goals exact rep_reads I _ _ _ _ r q h
def rEqG (K : PySem.W.Frag)(neg : Bool) : R2 := fun x y H Q => ∃ M dx dy p q,RepG K M H dx x /\ RepG K M H dy y /\ pyOf dx = some p /\ pyOf dy = some q /\ min p.depth q.depth <= 60 /\ Q (.bl (PyData.eqv p q != neg)) H
theorem op_eqG {X : Cx}(K : PySem.W.Frag)(hK : X.K = K)(hu : X.A.units + 64 < cLine) : OpR X (compareOp .Eq) (rEqG K false) := by
  subst hK
  intro pins s σ H x y v u Q I rx ry h
  obtain ⟨M,dx,dy,p,q,r1,r2,e1,e2,hd,hq⟩ := h
  obtain ⟨as,a1⟩ := repG_reads I r1 rx e1
  obtain ⟨bs,a2⟩ := repG_reads I r2 ry e2
  refine SeqAt.compareEq_reads a1 a2 (pyOf.lay _ _ e1) (pyOf.lay _ _ e2) (by omega) ?_
  exact ⟨.bl _,H,I,rfl,by simpa using hq⟩
theorem op_neG {X : Cx}(K : PySem.W.Frag)(hK : X.K = K)(hu : X.A.units + 64 < cLine) : OpR X (compareOp .NotEq) (rEqG K true) := by
  subst hK
  intro pins s σ H x y v u Q I rx ry h
  obtain ⟨M,dx,dy,p,q,r1,r2,e1,e2,hd,hq⟩ := h
  obtain ⟨as,a1⟩ := repG_reads I r1 rx e1
  obtain ⟨bs,a2⟩ := repG_reads I r2 ry e2
  refine SeqAt.compareNe_reads a1 a2 (pyOf.lay _ _ e1) (pyOf.lay _ _ e2) (by omega) ?_
  exact ⟨.bl _,H,I,rfl,by simpa using hq⟩
inductive EqG (neg : Bool)(x y : D)(P : D -> Prop) : Prop
  | mk (p q : PyData) (e1 : pyOf x = some p) (e2 : pyOf y = some q) (hd : min p.depth q.depth <= 60) (h : P (.bl (PyData.eqv p q != neg))) : EqG neg x y P
def oEqG (neg : Bool) : D -> D -> (D -> Prop) -> Prop := fun x y P => EqG neg x y P
theorem od_eqG {W : Wd}{neg : Bool} : OpD W (rEqG W.K neg) (oEqG neg) := by
  intro M b H x y v u P Q hs rx ry ho k
  obtain ⟨p,q,e1,e2,hd,hp⟩ := ho
  exact ⟨M,x,y,p,q,rx.g e1,ry.g e2,e1,e2,hd,k _ _ H hp (show _ = _ from rfl) (Kp.refl _ _) hs.ok⟩
mutual
def fineD : Nat -> D -> Bool
  | _,.non => true
  | _,.bl _ => true
  | _,.int _ => true
  | _,.str x => PyData.strOk x
  | n + 1,.tup xs => finesD n xs
  | n + 1,.lst xs => finesD n xs
  | n + 1,.own xs => finesD n xs
  | n,.frg _ d => fineD n d
  | _,_ => false
def finesD : Nat -> List D -> Bool
  | _,[] => true
  | n,d :: ds => fineD n d && finesD n ds
end
mutual
theorem fine_py : ∀ (n : Nat) (d : D),fineD n d = true -> ∃ p,pyOf d = some p /\ p.depth <= n /\ PyData.eqv p p = true
  | n,.non,h => ⟨_,rfl,Nat.zero_le _,rfl⟩
  | n,.bl b,h => ⟨_,rfl,Nat.zero_le _,by simp [PyData.eqv]⟩
  | n,.int i,h => ⟨_,rfl,Nat.zero_le _,by simp [PyData.eqv]⟩
  | n,.str x,h => by
    have h : PyData.strOk x = true := by cases n <;> simpa [fineD] using h
    exact ⟨.str x,by unfold pyOf; rw [if_pos h],Nat.zero_le _,by simp [PyData.eqv]⟩
  | 0,.tup xs,h => by simp [fineD] at h
  | 0,.lst xs,h => by simp [fineD] at h
  | 0,.own xs,h => by simp [fineD] at h
  | n + 1,.tup xs,h => by
    obtain ⟨ps,e,hd,hq⟩ := fines_py n xs (by simpa [fineD] using h)
    exact ⟨.tuple ps,by unfold pyOf; rw [e]; rfl,by unfold PyData.depth; omega,by unfold PyData.eqv; exact hq⟩
  | n + 1,.lst xs,h => by
    obtain ⟨ps,e,hd,hq⟩ := fines_py n xs (by simpa [fineD] using h)
    exact ⟨.list ps,by unfold pyOf; rw [e]; rfl,by unfold PyData.depth; omega,by unfold PyData.eqv; exact hq⟩
  | n + 1,.own xs,h => by
    obtain ⟨ps,e,hd,hq⟩ := fines_py n xs (by simpa [fineD] using h)
    exact ⟨.list ps,by unfold pyOf; rw [e]; rfl,by unfold PyData.depth; omega,by unfold PyData.eqv; exact hq⟩
  | n,.ty _,h => by cases n <;> simp [fineD] at h
  | n,.adr _,h => by cases n <;> simp [fineD] at h
  | n,.bag,h => by cases n <;> simp [fineD] at h
  | n,.frg _ d,h => by
    obtain ⟨p,e,h1,h2⟩ := fine_py n d (by cases n <;> simpa [fineD] using h)
    exact ⟨p,by unfold pyOf; exact e,h1,h2⟩
  | n,.scr _,h => by cases n <;> simp [fineD] at h
  | n,.dct _ _ _,h => by cases n <;> simp [fineD] at h
theorem fines_py : ∀ (n : Nat) (ds : List D),finesD n ds = true -> ∃ ps,pysOf ds = some ps /\ PyData.depthAll ps <= n /\ PyData.eqvAll ps ps = true
  | n,[],h => ⟨[],rfl,Nat.zero_le _,rfl⟩
  | n,d :: ds,h => by
    unfold finesD at h
    obtain ⟨h1,h2⟩ := (Bool.and_eq_true _ _).mp h
    obtain ⟨p,e1,d1,q1⟩ := fine_py n d h1
    obtain ⟨ps,e2,d2,q2⟩ := fines_py n ds h2
    exact ⟨p :: ps,by unfold pysOf; rw [e1,e2]; rfl,by unfold PyData.depthAll; omega,by unfold PyData.eqvAll; rw [q1,q2]; rfl⟩
end
theorem eqG_same {x y : D}{neg : Bool}{P : D -> Prop}(n : Nat)(h : fineD n x = true)(e : pyOf y = pyOf x)(hn : n <= 60)(hp : P (.bl (!neg))) : EqG neg x y P := by
  obtain ⟨p,e1,d1,q1⟩ := fine_py n x h
  refine ⟨p,p,e1,e.trans e1,by omega,?_⟩
  rw [q1]
  simpa using hp
theorem fines_all {n : Nat} : ∀ {ds : List D},(∀ d ∈ ds,fineD n d = true) -> finesD n ds = true
  | [],_ => by unfold finesD; rfl
  | d :: ds,h => by
    unfold finesD
    rw [h d (List.mem_cons_self ..),fines_all fun e he => h e (List.mem_cons_of_mem _ he)]; rfl
end L2
set_option Elab.async false
set_option linter.all false
set_option maxRecDepth 100000
set_option maxHeartbeats 4000000
namespace L2
open PySem PySem.Spec PyProof.Rows
def Ite (K : PySem.W.Frag)(l : Addr) : It :=
  ⟨fun i H => ∃ ys y,SqL K H l ys /\ ys[i]? = some y,
   fun i H v H' => ∃ t y,v = .ref t /\ H t = none /\ H' = upd H t (.tup [.int i,y]) /\ ∀ ys,SqL K H l ys -> ys[i]? = some y,
   fun i H => ∃ ys,SqL K H l ys /\ ys.length <= i⟩
def ETn (e it l : Addr)(i : Nat)(h : Heap) : Prop := (∃ old,IsEnum h e it i old) /\ ItAt false h it l i
theorem turn_enum {P : Program}{w : World}{K : PySem.W.Frag}{elts : List Expr}{c1}{tpos : Pos}{e it l : Addr}(hne : e ≠ it) : Turn P w K (.Tuple elts c1 tpos) (Ite K l) [e,it] e (ETn e it l) where
  mem := by simp
  obj := fun i h st b hb => by
    obtain ⟨⟨old,s1⟩,d1⟩ := st
    simp only [List.mem_cons,List.not_mem_nil,or_false] at hb
    rcases hb with rfl | rfl
    · exact ⟨_,s1,fun v q => by cases q⟩
    · exact d1.obj
  keep := fun i h h' st k => by
    obtain ⟨⟨old,s1⟩,d1⟩ := st
    exact ⟨⟨old,k e (by simp) _ s1⟩,d1.at fun o x => k it (by simp) o x⟩
  item := by
    intro X hP hw hK hc i pins s σ H E I hf st hg
    subst hP hw hK
    obtain ⟨ys,y,h1,q1⟩ := hg
    obtain ⟨⟨old,s1⟩,d1⟩ := st
    obtain ⟨v1,r1,p1,_⟩ := I.list h1
    obtain ⟨u1,m1,t1⟩ := r1.get q1
    have szn : ∀ b ∈ [e,it],b ≠ s.heap.objs.size := fun b hb z => by
      simp only [List.mem_cons,List.not_mem_nil,or_false] at hb
      rcases hb with rfl | rfl
      · exact Nat.lt_irrefl _ (z ▸ Heap.lt_size s1)
      · obtain ⟨_,w1,_⟩ := d1.obj; exact Nat.lt_irrefl _ (z ▸ Heap.lt_size w1)
    refine wpAny_pyNext_enum_item s1 d1 p1.isList (x := u1) (by simpa using m1) hne fun h' eo it' tp sz kp => ?_
    refine ⟨_,rfl,wpAny_letOwnedTupleGo_enum (s := { s with heap := h',toks := s.toks + 1 }) eo fun hq e4 sb => ?_⟩
    have up : ∀ b o,b ≠ e -> h'.get? b = some o -> hq.get? b = some o := fun b o hb x => sb.extBut _ _ hb x
    have I2 : Inv X pins σ (upd H s.heap.objs.size (.tup [.int i,y])) { s with heap := hq,toks := s.toks + 1 } := I.zipped (t' := s.toks + 1) (fp := [e,it]) hf (fun b o hb x => up b o (fun z => hb (by simp [z])) (kp b o (fun z => hb (by simp [z])) (fun z => hb (by simp [z])) x)) (Nat.le_refl _)
      ⟨Nat.le_trans (Nat.le_of_ble_eq_true rfl) le1000,[.int i s.toks,u1],.cons ⟨_,rfl⟩ (.cons t1 .nil),⟨_,up _ _ (Ne.symm (szn e (by simp))) tp,rfl,_,rfl⟩⟩
    refine ⟨.ref s.heap.objs.size,_,I2,rfl,⟨_,y,rfl,I.hok.fresh (Nat.le_refl _),rfl,fun zs hz => by rw [I.list_inj hz h1]; exact q1⟩,⟨⟨_,e4⟩,ItAt.at (b := false) it' fun o x => up _ o (Ne.symm hne) x⟩,fun b hb => ?_⟩
    rw [upd_ne (szn b hb)]
    exact (hf b hb).1
  done := by
    intro X hP hw hK hc i pins s σ H E I hf st hg
    subst hP hw hK
    obtain ⟨ys,h1,q1⟩ := hg
    obtain ⟨⟨old,s1⟩,d1⟩ := st
    obtain ⟨v1,r1,p1,_⟩ := I.list h1
    have hl := r1.length
    refine wpAny_pyNext_enum_end (I.ok.hd hc) s1 d1 p1.isList (by simp; omega) fun h' kp => ⟨rfl,?_⟩
    exact I.turnedL (t' := s.toks) (fp := [e,it]) hf fun b o hb x => kp b o (fun z => hb (by simp [z])) x
  self := fun _ _ _ _ _ st h => by
    obtain ⟨⟨old,s1⟩,d1⟩ := st
    exact wpAny_pyIter_enum s1 h
def iEnum (K : PySem.W.Frag)(ta : TA) : TI := fun σ H R => ta σ H fun vs H1 => ∃ l,vs = [.ref l] /\ (∃ ys,SqL K H1 l ys) /\ R (Ite K l) H1
theorem pi_enum {X : Cx}{elts : List Expr}{c1}{tpos : Pos}(K : PySem.W.Frag)(hK : X.K = K){e1 : Expr}{ta : TA}{p pos : Pos}(hg : Gl X "enumerate") (hm : X.mg "enumerate" = none) (ha : PA X [e1] ta)
    (hs : starEach [e1] X.env = [(false,eval e1 X.env)] := by rfl) : PI X (.Tuple elts c1 tpos) (.Call (.Name "enumerate" p) [e1] [] pos) (iEnum K ta) := by
  subst hK
  intro pins s σ H R I h
  refine Call_ (ld_blt I hg hm bt_enumerate (PyProof.Rows.callWith_type1 (thn (ha pos pins s σ H _ I h) fun us s1 ⟨vs,H1,I1,r1,q1⟩ => ?_) hs rfl))
  obtain ⟨l,rfl,⟨ys,h1⟩,q⟩ := q1
  cases r1 with
  | cons r rr =>
  cases rr
  cases r
  obtain ⟨v1,r1,p1,_⟩ := I1.list h1
  refine call_enumerate_list p1.isList fun h' f1 f2 f3 kp => ?_
  refine wpAny_pyIter_enum (s := { s1 with heap := h' }) f1 ?_
  refine ⟨s1.heap.objs.size + 1,[s1.heap.objs.size + 1,s1.heap.objs.size],_,_,H1,rfl,I1.kept (t' := s1.toks) kp,turn_enum (l := l) (by show (_ : Nat) ≠ _; omega),⟨⟨_,f1⟩,f2⟩,fun b hb => ?_,q⟩
  have hge : s1.heap.objs.size <= b := by
    simp only [List.mem_cons,List.not_mem_nil,or_false] at hb
    rcases hb with rfl | rfl <;> first | exact Nat.le_refl _ | exact Nat.le_add_right _ _
  exact I1.fpOk hge (I1.hok.fresh hge)
end L2
set_option Elab.async false
set_option linter.all false
set_option maxRecDepth 100000
set_option maxHeartbeats 4000000
namespace L2
open PySem PySem.Spec PyProof.Rows
section
variable {X : Cx}{W : Wd}{e a b c tg iter l : Expr}{es : List Expr}{pos p : Pos}{d da db dc dl de : DE}{dA di : DA}{dt : DT}{fz : Bool}{x : Str}{k : Nat}{ps : List Str}{S : DSp}
def enumD (xs : List D) : List D := xs.mapIdx fun i x => .tup [.int i,x]
theorem enumD_plain (xs : List D) : (enumD xs).all plain = true := by
  unfold enumD
  rw [List.all_eq_true]
  intro y hy
  obtain ⟨i,h,rfl⟩ := List.mem_mapIdx.mp hy
  rfl
def iEnumD (fz : Bool)(dA : DA) : DA := fun ρ P => dA ρ fun zs => match zs with
  | [x] => (asK fz false x).elim False fun xs => P (enumD xs)
  | _ => False
theorem it_enum {x : D}{xs : List D}{l1 : Addr}(h1 : asK fz false x = some xs) : ItOk W (Ite W.K l1) [(x,.ref l1)] (enumD xs) := by
  intro M b H hs hn
  obtain ⟨⟨a1,us,e1,q1,r1⟩,_⟩ := asK.rep (hn _ (.head _)) h1
  cases e1
  have q1 : SqL W.K H l1 us := q1
  have hlen : (enumD xs).length = xs.length := by simp [enumD]
  refine ⟨fun i d e => ?_,fun i hi => ⟨us,q1,by rw [r1.length,<- hlen]; exact hi⟩⟩
  have hi : i < xs.length := by rw [<- hlen]; exact (List.getElem?_eq_some_iff.mp e).1
  obtain ⟨u,eu,ru⟩ := r1.get (List.getElem?_eq_getElem hi)
  refine ⟨⟨us,u,q1,eu⟩,fun v H3 ⟨t,y1,ev,ht,eH,k1⟩ => ?_⟩
  subst ev eH
  have z1 := k1 us q1
  rw [eu] at z1; cases z1
  refine ⟨Same.upd ht,?_⟩
  have ed : d = .tup [.int i,xs[i]] := by
    have : (enumD xs)[i]? = some (.tup [.int i,xs[i]]) := by simp [enumD,hi]
    rw [this] at e; exact (Option.some.inj e).symm
  subst ed
  exact new_tup hs ⟨.int i,[u],rfl,rfl,u,[],rfl,ru,rfl⟩ ht
theorem jdi_enum {elts : List Expr}{c1}{tpos : Pos}(hK : X.K = W.K)(ha : JA X W [a] dA)
    (h : PI X (.Tuple elts c1 tpos) (.Call (.Name "enumerate" p) [a] [] pos) (iEnum W.K (dnA W dA))) : JI X W fz (.Tuple elts c1 tpos) (.Call (.Name "enumerate" p) [a] [] pos) (iEnumD fz dA) := ⟨h.mono fun σ H R hh => hh.elim fun pn M b ρ P st h k => by
  refine ⟨pn,M,b,ρ,_,st,h,fun zs vs H1 hx rx k1 o1 => ?_⟩
  match zs,hx with
  | [x],hx =>
    obtain ⟨v,rfl,r⟩ := rx1 rx
    cases e1 : asK fz false x with
    | none => simp only [e1] at hx; exact hx.elim
    | some xs =>
      simp only [e1] at hx
      obtain ⟨⟨a1,us,z1,q1,r1⟩,f1⟩ := asK.rep r e1
      subst z1
      exact ⟨a1,rfl,⟨us,q1⟩,k _ _ _ H1 hx (enumD_plain _) (it_enum e1) (fun q hq => by
        have z := List.mem_singleton.mp hq
        subst z; exact ⟨r,f1⟩) k1 o1⟩⟩
def bor : D -> D
  | .own xs => .lst xs
  | .frg _ d => d
  | d => d
theorem eqG_nil {xs : List D}{neg : Bool}{P : D -> Prop}(n : Nat)(h : finesD n xs = true)(hp : P (.bl (xs.isEmpty != neg))) : EqG neg (.own xs) (.lst []) P := by
  obtain ⟨ps,e,hd,hq⟩ := fines_py n xs h
  refine ⟨.list ps,.list [],by unfold pyOf; rw [e]; rfl,rfl,Nat.le_trans (Nat.min_le_right _ _) (by decide),?_⟩
  have : PyData.eqv (.list ps) (.list []) = xs.isEmpty := by
    cases xs with
    | nil => cases e; rfl
    | cons x xs =>
      unfold pysOf at e
      obtain ⟨p,e1,e⟩ := Option.bind_eq_some_iff.mp e
      obtain ⟨qs,e2,rfl⟩ := Option.map_eq_some_iff.mp e
      rfl
  rw [this]
  exact hp
end
end L2
set_option Elab.async false
set_option linter.all false
set_option maxRecDepth 100000
set_option maxHeartbeats 4000000
namespace L2
open PySem PySem.Spec PyProof.Rows
abbrev DSO := List D -> (List D -> Prop) -> (Addr -> Prop) -> Prop
def liftSpO (K : PySem.W.Frag)(B : BagT)(S : DSO) : Sp := fun vs H Q E => ∃ (M : Addr -> Prop) (b : Option Addr) (ds : List D) (P : List D -> Prop) (Ed : Addr -> Prop),S ds P Ed /\ RepAs K M b H ds vs /\ okB B b H /\ (∀ p,b = some p -> M p) /\ (∀ c,M c -> ∃ o,H c = some o) /\
  (∀ xs a us H',P xs -> H a = none -> H' a = some (.lst us) -> Reps K (fun c => M c \/ c = a) H' xs us -> Kp b H H' -> okB B b H' -> Q (.ref a) H') /\ ∀ C H',Ed C -> Kp b H H' -> okB B b H' -> E (.ref C) none H'
theorem liftSpO.len {K : PySem.W.Frag}{B : BagT}{S : DSO}{n : Nat}(h : ∀ ds P Ed,S ds P Ed -> ds.length = n) : ∀ vs H Q E,liftSpO K B S vs H Q E -> vs.length = n := fun vs H Q E ⟨M,b,ds,P,Ed,hS,hr,_⟩ => by rw [hr.length]; exact h _ _ _ hS
theorem runO {K : PySem.W.Frag}{B : BagT}{M : Addr -> Prop}{b : Option Addr}{N : List Str}{ds : List D}{vs : List V}{H : Hp}{Q : VK}{P : List D -> Prop}{d : DS}(hr : RepAs K M b H ds vs)(ho : okB B b H)(hb : ∀ p,b = some p -> M p)(hd : ∀ c,M c -> ∃ o,H c = some o)(hq : ∀ xs a us H',P xs -> H a = none -> H' a = some (.lst us) -> Reps K (fun c => M c \/ c = a) H' xs us -> Kp b H H' -> okB B b H' -> Q (.ref a) H')
    (h : d { nx := fun _ => False,rt := fun _ => False,ro := P } (startD N ds)) : sn ⟨K,B,H,M,b⟩ d { nx := fun _ H' => Q .non H',rt := Q } (start N vs) H :=
  ⟨[],M,b,startD N ds,{ nx := fun _ => False,rt := fun _ => False,ro := P },enter hr ho hb hd,⟨fun _ _ _ _ _ _ h => h.elim,fun _ _ _ h => h.elim,fun _ _ _ _ _ _ h => h.elim,fun _ _ _ _ _ _ h => h.elim,fun xs a us H' hp h0 _ hh r k o => hq xs a us H' hp h0 hh r k o⟩,h⟩
theorem Fun.okDO {P : Program}{w : World}{K : PySem.W.Frag}{mg : Str -> Option Value}{base : Heap}{x qual : Str}{st : Stmt}{f : Addr}{fd : FuncData}{N ps : List Str}{k : Nat}{B : BagT}{Sd : DSO}(F : Fun K x qual st f fd)(S : FnScope N ps (defScope st))(len : ∀ ds PP Ed,Sd ds PP Ed -> ds.length = ps.length)
    (hbody : ∀ (cdv : Value) (A : Around) (outer : List Env) (s : Shared) (H : Hp) (E : XK) (M : Addr -> Prop) (bg : Option Addr) (ds : List D) (PP : List D -> Prop) (Ed : Addr -> Prop),Room k (A.deeper (envOfC qual (defScope st) s.heap.objs.size f cdv)) -> Sd ds PP Ed ->
      ∃ d,JSs (cxOf CX0 P w K mg base N qual (defScope st) f cdv A outer s H E).nox ⟨K,B,H,M,bg⟩ (defBody st) d /\ d { nx := fun _ => False,rt := fun _ => False,ro := PP } (startD N ds)) : FnOk P w K mg base CX0 (k + 1) f fd ps (liftSpO K B Sd) :=
  F.ok S (liftSpO.len len) fun cdv A outer s H vs Q E hr h => by
    obtain ⟨M,bg,ds,PP,Ed,hS,hR,ho,hb,hd,hq,hx⟩ := h
    obtain ⟨d,J,q⟩ := hbody cdv A outer s H E M bg ds PP Ed hr hS
    exact ⟨_,J.h,runO hR ho hb hd hq q⟩
section
variable {X : Cx}{W : Wd}{e a b c tg iter l : Expr}{es : List Expr}{pos p : Pos}{d da db dc dl de : DE}{dA di : DA}{dt : DT}{fz : Bool}{x : Str}{k : Nat}{ps : List Str}{S : DSO}
theorem Sta.fresh0 {pn : List (D × V)}{M : Addr -> Prop}{b : Option Addr}{H : Hp}{σ : St}{ρ : Ev}{p : Addr}(s : Sta W pn M b H σ ρ)(h : H p = none) : W.H0 p = none /\ ¬ W.M0 p := by
  have hbp : b ≠ some p := fun z => by
    obtain ⟨o,e⟩ := W.B.dm p H (s.ok p z)
    rw [h] at e; cases e
  refine ⟨?_,fun z => s.toHs.new h (s.m0 p z)⟩
  cases q : W.H0 p with
  | none => rfl
  | some o =>
    by_cases z : W.b0 = some p
    · rcases s.new with y | ⟨y,_⟩
      · exact absurd (y.trans z) hbp
      · rw [y] at z; cases z
    · have := s.kp p o z q
      rw [h] at this; cases this
mutual
def noL : D -> Bool
  | .tup xs => noLs xs
  | .lst _ => false
  | .own _ => false
  | .bag => false
  | .frg _ _ => false
  | .scr _ => false
  | .dct _ _ _ => false
  | .non => true
  | .bl _ => true
  | .int _ => true
  | .str _ => true
  | .ty _ => true
  | .adr _ => true
def noLs : List D -> Bool
  | [] => true
  | d :: ds => noL d && noLs ds
end
theorem noLs_all : ∀ {ds : List D},(∀ d ∈ ds,noL d = true) -> noLs ds = true
  | [],_ => by unfold noLs; rfl
  | d :: ds,h => by
    unfold noLs
    rw [h d (List.mem_cons_self ..),noLs_all fun e he => h e (List.mem_cons_of_mem _ he)]; rfl
section
variable {K : PySem.W.Frag}{M M' : Addr -> Prop}{H : Hp}
mutual
theorem Rep.unbor (k : ∀ c,M c -> M' c \/ ∃ o,H c = some o /\ ∀ vs,o ≠ .tup vs) : ∀ (d : D) (v : V),noL d = true -> Rep K M' H d v -> Rep K M H d v
  | .non,_,_,h => h
  | .bl _,_,_,h => h
  | .int _,_,_,h => h
  | .str _,_,_,h => h
  | .ty _,_,_,h => h
  | .adr _,_,_,h => h
  | .tup xs,v,n,h => by
    obtain ⟨a,vs,e,z,r⟩ := h
    refine ⟨a,vs,e,z.imp (fun q => ⟨fun m => ?_,q.2⟩) id,Reps.unbor k xs vs (by unfold noL at n; exact n) r⟩
    rcases k a m with y | ⟨us,y,nt⟩
    · exact q.1 y
    · rw [q.2] at y; cases y; exact nt _ rfl
  | .lst _,_,n,_ => by unfold noL at n; cases n
  | .own _,_,n,_ => by unfold noL at n; cases n
  | .bag,_,n,_ => by unfold noL at n; cases n
  | .frg _ _,_,n,_ => by unfold noL at n; cases n
  | .scr _,_,n,_ => by unfold noL at n; cases n
  | .dct _ _ _,_,n,_ => by unfold noL at n; cases n
theorem Reps.unbor (k : ∀ c,M c -> M' c \/ ∃ o,H c = some o /\ ∀ vs,o ≠ .tup vs) : ∀ (ds : List D) (vs : List V),noLs ds = true -> Reps K M' H ds vs -> Reps K M H ds vs
  | [],_,_,h => h
  | d :: ds,vs,n,h => by
    obtain ⟨v,r,e,h1,h2⟩ := h
    unfold noLs at n
    obtain ⟨n1,n2⟩ := (Bool.and_eq_true _ _).mp n
    exact ⟨v,r,e,Rep.unbor k d v n1 h1,Reps.unbor k ds r n2 h2⟩
end
end
def BorAt : List D -> List V -> Addr -> Prop
  | .own _ :: ds,v :: vs,c => v = .ref c \/ BorAt ds vs c
  | .frg f _ :: ds,_ :: vs,c => c ∈ f.ads \/ BorAt ds vs c
  | _ :: ds,_ :: vs,c => BorAt ds vs c
  | _,_,_ => False
theorem BorAt.lst {M : Addr -> Prop}{b : Option Addr}{H : Hp}{c : Addr} : ∀ (ds : List D) (vs : List V),RepXs W M b H ds vs -> BorAt ds vs c -> b ≠ some c /\ ∃ o,H c = some o /\ ∀ vs,o ≠ .tup vs
  | [],vs,h,q => by cases (show vs = [] from h); exact q.elim
  | d :: ds,vs,h,q => by
    obtain ⟨v,r,rfl,h1,h2⟩ := h
    cases d
    case own xs =>
      rcases q with z | z
      · obtain ⟨a,us,e,m1,m2,m3,m4,hh,r'⟩ := h1
        rw [z] at e; cases e
        exact ⟨m2,_,hh,fun _ y => by cases y⟩
      · exact BorAt.lst ds r h2 z
    case frg f d =>
      rcases q with z | z
      · exact ⟨(h1.1 c z).2.1,f.nt _ _ _ h1.2.1 c z⟩
      · exact BorAt.lst ds r h2 z
    all_goals exact BorAt.lst ds r h2 q
theorem RepXs.bor2 {M M' : Addr -> Prop}{b : Option Addr}{H : Hp}(sub : ∀ c,M' c -> M c) : ∀ (ds : List D) (vs : List V),(∀ c,BorAt ds vs c -> ¬ M' c) -> RepXs W M b H ds vs -> RepAs W.K M' b H (ds.map L2.bor) vs
  | [],_,_,h => h
  | d :: ds,vs,nb,h => by
    obtain ⟨v,r,rfl,h1,h2⟩ := h
    have av : ∀ c,M' c -> M c \/ H c = none := fun c hc => .inl (sub c hc)
    have nb2 : ∀ c,BorAt ds r c -> ¬ M' c := fun c hc => nb c (by cases d <;> first | exact hc | exact .inr hc)
    refine ⟨v,r,rfl,?_,RepXs.bor2 sub ds r nb2 h2⟩
    cases d
    case own xs =>
      obtain ⟨a,us,rfl,m1,m2,m3,m4,hh,r'⟩ := h1
      exact ⟨a,us,rfl,⟨nb a (.inl rfl),hh⟩,Reps.avoid av _ _ r'⟩
    case bag => exact h1
    case frg f d =>
      have r := Rep.avoid (M' := M') (fun c hc => .inl ⟨sub c hc,fun m => nb c (.inl m) hc⟩) _ _ h1.2.2
      show RepA W.K _ b H d v
      cases d <;> first | exact r | exact r.elim
    all_goals exact Rep.avoid av _ _ h1
theorem call_own {pn : List (D × V)}{M : Addr -> Prop}{b : Option Addr}{H1 : Hp}{σ : St}{ρ : Ev}{xs : List D}{vs : List V}{P : List D -> Prop}{Q : VK}(st1 : Sta W pn M b H1 σ ρ)(rx : RepXs W M b H1 xs vs)(hS : S (xs.map bor) (fun ys => noLs ys = true /\ P ys) (fun _ => False))
    (k : ∀ ys a us H',P ys -> H1 a = none -> H' a = some (.lst us) -> Reps W.K M H' ys us -> Kp b H1 H' -> okB W.B b H' -> Q (.ref a) H') : liftSpO W.K W.B S vs H1 Q E0 := by
  refine ⟨fun c => M c /\ ¬ BorAt xs vs c,b,xs.map bor,_,fun _ => False,hS,RepXs.bor2 (fun c h => h.1) _ _ (fun c h z => z.2 h) rx,st1.ok,fun p h => ⟨st1.bagM p h,fun z => (BorAt.lst xs vs rx z).1 h⟩,fun c hc => st1.dom c hc.1,fun ys a us H' hp h0 hh r k2 o2 => ?_,fun C H' hC => hC.elim⟩
  refine k ys a us H' hp.2 h0 hh (Reps.unbor (fun c m => ?_) _ _ hp.1 (Reps.avoid (fun c m => .inl (.inl m)) _ _ r)) k2 o2
  by_cases z : BorAt xs vs c
  · obtain ⟨nb,us',e,nt⟩ := BorAt.lst xs vs rx z
    exact .inr ⟨us',k2 c _ nb e,nt⟩
  · exact .inl ⟨m,z⟩
def dCallO (S : DSO)(dA : DA) : DE := fun ρ P => dA ρ fun ds => S (ds.map bor) (fun ys => noLs ys = true /\ P (.lst ys)) (fun _ => False)
theorem jde_ownO (G : Callee X.prog X.w X.K X.mg X.base CX0 x k ps (liftSpO W.K W.B S))(hr : Room k X.A)(hg : Gl X x)(ha : JA X W (e :: es) dA)(hdb : (x == ("__debug__" : Str)) = false := by decide) (he : starEach (e :: es) X.env = (false,eval e X.env) :: starEach es X.env := by rfl) (hpl : (backTo pos (starEach es X.env)).any (·.1) = false := by rfl) :
    JE X W (.Call (.Name x p) (e :: es) [] pos) (dCallO S dA) := ⟨(pe_own G hr hg ha.h hdb he hpl).mono fun σ H Q hh => hh.elim fun pn M b ρ P st h k => by
  refine ⟨pn,M,b,ρ,_,st,h,fun xs vs H1 hx rx k1 o1 => ?_⟩
  have st1 := st.step k1 o1
  show liftSpO W.K W.B S (vs ++ []) H1 Q E0
  rw [List.append_nil]
  exact call_own (P := fun ys => P (.lst ys)) st1 rx hx fun ys a us H' hp h0 hh r k2 o2 => k _ _ H' hp ⟨a,us,rfl,⟨st1.toHs.new h0,hh⟩,r⟩ (k1.trans k2) o2⟩
end
end L2
set_option Elab.async false
set_option linter.all false
set_option maxRecDepth 100000
set_option maxHeartbeats 4000000
namespace L2
open PySem PySem.Spec PyProof.Rows
theorem Vals.of_get : ∀ {xs : List V} {us : List Value},xs.length = us.length -> (∀ (i : Nat) x u,xs[i]? = some x -> us[i]? = some u -> RelV x u) -> Vals xs us
  | [],[],_,_ => .nil
  | [],_ :: _,h,_ => by simp at h
  | _ :: _,[],h,_ => by simp at h
  | x :: xs,u :: us,h,k => .cons (k 0 x u rfl rfl) (Vals.of_get (by simpa using h) fun i y v e1 e2 => k (i + 1) y v (by simpa using e1) (by simpa using e2))
def rngV (lo : Int)(n : Nat) : List V := (List.range n).map fun (k : Nat) => V.int (lo + k)
end L2
set_option Elab.async false
set_option linter.all false
set_option maxRecDepth 100000
set_option maxHeartbeats 4000000
namespace L2
open PySem PySem.Spec PyProof.Rows
section
variable {X : Cx}{W : Wd}{e a b st : Expr}{pos : Pos}{d da db de ds : DE}{dA : DA}
theorem reps_range {K : PySem.W.Frag}{M : Addr -> Prop}{H : Hp}(lo : Int)(n : Nat) : Reps K M H (rangeD lo n) (rngV lo n) := by
  unfold rangeD rngV
  generalize List.range n = l
  induction l with
  | nil => exact rfl
  | cons k l ih => exact ⟨_,_,rfl,rfl,ih⟩
end
end L2
set_option Elab.async false
set_option linter.all false
set_option maxRecDepth 100000
set_option maxHeartbeats 4000000
namespace L2
open PySem PySem.Spec PyProof.Rows
section
variable {X : Cx}{W : Wd}{pos : Pos}{de : DE}{di : DA}{dt : DT}
end
end L2
set_option Elab.async false
set_option linter.all false
set_option maxRecDepth 100000
set_option maxHeartbeats 4000000
namespace L2
open PySem PySem.Spec PyProof.Rows
section
variable {X : Cx}{W : Wd}{e a b c tg iter l : Expr}{es : List Expr}{pos p : Pos}{d da db dc dl de : DE}{dA di : DA}{dt : DT}{fz : Bool}{x : Str}{k : Nat}{ps : List Str}{S : DSO}
end
section
variable {X : Cx}{W : Wd}{tg : Expr}{pos npos : Pos}
theorem set_same {σ : St}{i : Nat}{v : V}(e : σ[i]? = some (some v)) : σ.set i (some v) = σ := by
  apply List.ext_getElem?
  intro n
  by_cases z : i = n
  · subst z; rw [List.getElem?_set,e]; simp; exact (List.getElem?_eq_some_iff.mp e).1
  · rw [List.getElem?_set_ne z]
end
end L2
set_option Elab.async false
set_option linter.all false
set_option maxRecDepth 100000
set_option maxHeartbeats 4000000
namespace L2
open PySem PySem.Spec PyProof.Rows
section
variable {prog : Program}{w : World}{A : Around}{E : Value -> Shared -> Prop}{s : Shared}{l : Addr}{xs : Array (Int × Tok)}
theorem iter_intTup {Q : Value -> Shared -> Prop}(hl : s.heap.IsTuple l (intItems xs))
    (h : ∀ s₂ : Shared,s₂ = { s with heap := s.heap.push { cls := .type "tuple_iterator",data := .fields #[.ref l,.int 0 0] } } ->
      (s₂.heap.IsTupleIter s.heap.objs.size l 0 /\ s₂.heap.IsTuple l (intItems xs)) -> (∀ b ∈ [s.heap.objs.size,l],b < s₂.heap.objs.size) -> l ≠ s.heap.objs.size -> Q (.ref s.heap.objs.size) s₂) :
    wpAny (model prog w) A (pyIter (.ref l)) Q E s := by
  have hlt : l < s.heap.objs.size := by obtain ⟨_,e,_⟩ := hl; exact Heap.lt_size e
  refine wpAny_pyIter_tuple hl (h _ rfl ⟨⟨_,Heap.get?_push_size _ rfl,rfl,rfl⟩,hl.at fun o e => Heap.get?_push_of_some _ e⟩ (fun b hb => ?_) (Nat.ne_of_lt hlt))
  show b < (s.heap.push _).objs.size
  rw [Heap.size_push]
  rcases List.mem_cons.mp hb with rfl | hb
  · exact Nat.lt_succ_self _
  · rcases List.mem_cons.mp hb with rfl | hb
    · exact Nat.lt_succ_of_lt hlt
    · cases hb
theorem old_keptT {h' : Heap}(hk : ∀ b o,b ∉ [s.heap.objs.size] -> (s.heap.push { cls := .type "tuple_iterator",data := .fields #[.ref l,.int 0 0] }).get? b = some o -> h'.get? b = some o) :
    ∀ b o,s.heap.get? b = some o -> h'.get? b = some o := fun b o e => by
  refine hk b o (fun hm => ?_) (Heap.get?_push_of_some _ e)
  rcases List.mem_cons.mp hm with e1 | hm
  · exact absurd (e1 ▸ Heap.lt_size e) (Nat.lt_irrefl _)
  · cases hm
theorem max_intTup {Q : Value -> Shared -> Prop}(hh : A.handled = none)(hl : s.heap.IsTuple l (intItems xs))(hne : 0 < xs.size)
    (h : ∀ v h' tk,(intItems xs)[argBest (fun i j => decide (numAt xs i > numAt xs j)) (xs.size - 1)]? = some v -> (∀ b o,s.heap.get? b = some o -> h'.get? b = some o) -> Q v { s with heap := h',toks := tk }) :
    wpAny (model prog w) A (call (.builtin "max") [.ref l]) Q E s := by
  refine call_max_walk (iter_intTup hl fun s₂ e st hfp hlI => ?_)
  subst e
  refine ⟨_,_,_,_,_,_,_,rfl,Walks.tuple (A := A.in1) hh _ l hlI (intItems xs),st,hfp,by simpa [intItems] using hne,CmpOf.ints_gt (numAt xs) (fun _ _ => intItems_at),fun v h' tk hP hk => ?_⟩
  exact h v h' tk (by simpa [intItems] using hP) (old_keptT hk)
theorem min_intTup {Q : Value -> Shared -> Prop}(hh : A.handled = none)(hl : s.heap.IsTuple l (intItems xs))(hne : 0 < xs.size)
    (h : ∀ v h' tk,(intItems xs)[argBest (fun i j => decide (numAt xs i < numAt xs j)) (xs.size - 1)]? = some v -> (∀ b o,s.heap.get? b = some o -> h'.get? b = some o) -> Q v { s with heap := h',toks := tk }) :
    wpAny (model prog w) A (call (.builtin "min") [.ref l]) Q E s := by
  refine call_min_walk (iter_intTup hl fun s₂ e st hfp hlI => ?_)
  subst e
  refine ⟨_,_,_,_,_,_,_,rfl,Walks.tuple (A := A.in1) hh _ l hlI (intItems xs),st,hfp,by simpa [intItems] using hne,CmpOf.ints_lt (numAt xs) (fun _ _ => intItems_at),fun v h' tk hP hk => ?_⟩
  exact h v h' tk (by simpa [intItems] using hP) (old_keptT hk)
end
section
variable {X : Cx}
theorem call_maxT (K : PySem.W.Frag)(hK : X.K = K)(hc : X.calm = true) : CallR X (.builtin "max") (fun xs H Q => ∃ (p : Addr) (ns : List Int),xs = [.ref p] /\ SqT K H p (ns.map V.int) /\ 0 < ns.length /\ ∀ M : Int,M ∈ ns -> (∀ a ∈ ns,a <= M) -> Q (.int M) H) := by
  subst hK
  intro pins s σ H xs us Q I r h
  obtain ⟨p,ns,rfl,hq,hn,q⟩ := h
  obtain ⟨u,rfl,rx⟩ := vals1 r
  cases rx
  obtain ⟨its,rv,pl,hz⟩ := I.tuple hq
  obtain ⟨ps,e1,e2⟩ := ints_pairs rv
  subst e1
  have hlen : ps.length = ns.length := by rw [<- e2,List.length_map]
  have hl : s.heap.IsTuple p _ := pl
  rw [<- intItems_toArray] at hl
  refine max_intTup (xs := ps.toArray) (I.ok.hd hc) hl (by simp; omega) fun v h' tk hv k => ?_
  obtain ⟨t,e⟩ := intItems_at hv
  obtain ⟨b1,b2⟩ := argBest_gt (numAt ps.toArray) (ps.toArray.size - 1)
  subst e
  refine ⟨.int _,H,I.kept k,⟨t,rfl⟩,q _ ?_ ?_⟩
  · rw [numAt_toArray,e2]
    have hj : argBest (fun i j => decide (numAt ps.toArray i > numAt ps.toArray j)) (ps.toArray.size - 1) < ns.length := by
      have : ps.toArray.size = ns.length := by simp [hlen]
      omega
    rw [List.getElem?_eq_getElem hj]
    exact List.getElem_mem hj
  · intro a ha
    obtain ⟨j,hj,rfl⟩ := List.mem_iff_getElem.mp ha
    have := b2 j (by simp; omega)
    rw [numAt_toArray ps j,e2,List.getElem?_eq_getElem hj] at this
    exact this
end
section
variable {W : Wd}
def oExtT (le : Int -> Int -> Prop) : List D -> (D -> Prop) -> Prop
  | [.tup xs],P => (intsOf xs).elim False fun ns => 0 < ns.length /\ ∀ M : Int,M ∈ ns -> (∀ a ∈ ns,le a M) -> P (.int M)
  | _,_ => False
theorem cd_extT {le : Int -> Int -> Prop} : CallD W (fun xs H Q => ∃ (p : Addr) (ns : List Int),xs = [.ref p] /\ SqT W.K H p (ns.map V.int) /\ 0 < ns.length /\ ∀ M : Int,M ∈ ns -> (∀ a ∈ ns,le a M) -> Q (.int M) H) (oExtT le) := by
  intro M b H xs vs P Q hs rx ho k
  match xs,ho with
  | [.tup ys],ho =>
    obtain ⟨v,rfl,r⟩ := rx1 rx
    simp only [oExtT] at ho
    cases en : intsOf ys with
    | none => rw [en] at ho; exact ho.elim
    | some ns =>
      rw [en] at ho
      cases intsOf.eq en
      obtain ⟨a,us,rfl,hh,r'⟩ := (show ∃ a vs,v = .ref a /\ TpA W.K M H a vs /\ Reps W.K M H _ vs from r)
      cases r'.ints
      exact ⟨a,ns,rfl,hh.sq,ho.1,fun m h1 h2 => k _ _ H (ho.2 m h1 h2) (show _ = _ from rfl) (Kp.refl _ _) hs.ok⟩
theorem eqG_nilL {xs : List D}{neg : Bool}{P : D -> Prop}(n : Nat)(h : finesD n xs = true)(hp : P (.bl (xs.isEmpty != neg))) : EqG neg (.lst xs) (.lst []) P := by
  obtain ⟨a,b,e1,e2,r,r2⟩ := eqG_nil n h hp
  exact ⟨a,b,by unfold pyOf at e1 ⊢; exact e1,e2,r,r2⟩
end
end L2
set_option Elab.async false
set_option linter.all false
set_option maxRecDepth 100000
set_option maxHeartbeats 4000000
namespace L2
open PySem PySem.Spec PyProof.Rows
section
variable {X : Cx}{W : Wd}{pos : Pos}{dA : DA}
def dExt (i : Nat)(dA : DA) : DS := fun F ρ => match ρ[i]? with
  | some (some (.own ys)) => dA ρ fun xs => (match xs with | [.lst zs] => ys.length + zs.length <= 1000 /\ F.nx (ρ.set i (some (.own (ys ++ zs)))) | _ => False)
  | _ => False
theorem up_ext {i : Nat} : ∀ E σ H,sn W (dExt i dA) E σ H -> tDrop (tBM W.K "list" rExtend (tVar i) (dnA W dA)) E σ H := fun E σ H hh => hh.elim fun pn M b ρ F s l h => by
  unfold dExt at h
  split at h
  case h_2 => exact h.elim
  case h_1 ys e =>
    obtain ⟨a,vs,ea,nb,hh,r⟩ := own_at s.toSta e
    refine ⟨.ref a,ea,.inl ⟨rfl,vs,SqL.of hh⟩,pn,M,b,ρ,_,s.toSta,h,fun xs us H' hx rx k o => ?_⟩
    match xs,hx with
    | [.lst zs],hx =>
      obtain ⟨u,rfl,ru⟩ := rx1 rx
      obtain ⟨a2,ws,rfl,⟨n2,h2⟩,r2⟩ := (show ∃ a vs,u = .ref a /\ (¬ M a /\ H' a = some (.lst vs)) /\ Reps W.K M H' zs vs from ru)
      have s' := s.step k o
      obtain ⟨a',vs',ea',nb',hh',r'⟩ := own_at s'.toSta e
      rw [ea] at ea'; cases ea'
      exact ⟨a,a2,vs',ws,rfl,rfl,hh',h2,by rw [r'.length,r2.length]; exact Nat.le_trans hx.1 le1000,l.nx _ _ _ _ _ (s'.setOwn i e ea (Reps.append r' r2)) hx.2⟩
theorem jds_extend {i : Nat}{x : Str}{e : Expr}{npos apos cpos : Pos}(hK : X.K = W.K)(ha : JA X W [e] dA)
    (h : PE X (.Call (.Attribute (.Name x npos) "extend" apos) [e] [] cpos) (tBM X.K "list" rExtend (tVar i) (dnA W dA))) (hs : swapsWith (.Call (.Attribute (.Name x npos) "extend" apos) [e] [] cpos) none pos.line X.env = pure false := by rfl) :
    JS X W (.Expr (.Call (.Attribute (.Name x npos) "extend" apos) [e] [] cpos) pos) (dExt i dA) := ⟨(ps_expr (by rw [hK] at h; exact h) hs).mono up_ext⟩
end
section
variable {X : Cx}{W : Wd}{a b : Expr}{pos : Pos}{da db : DE}
def dOwnCat (i : Nat)(da db : DE) : DS := fun F ρ => da ρ fun x => db ρ fun y => match asL x,asL y with
  | some xs,some ys => xs.length + ys.length <= 1000 /\ F.nx (ρ.set i (some (.own (xs ++ ys))))
  | _,_ => False
theorem jds_ownCat {i : Nat} {x : Str} {pos' opos : Pos} (hN : X.N.Nodup) (hi : X.N[i]? = some x) (hx : Loc X.env.scope x) (ha : JE X W a da) (hb : JE X W b db) (h : PE X (.BinOp a .Add b opos) (tOp rCat (dn W da) (dn W db))) (hs : swapsWith (.BinOp a .Add b opos) (some (.Name x pos')) pos.line X.env = pure false := by rfl) (hf : X.fn x = true \/ X.env.scope.names.lookup x = some .local := by first | exact .inl rfl | exact .inr rfl | assumption) :
    JS X W (.Assign [.Name x pos'] (.BinOp a .Add b opos) pos) (dOwnCat i da db) := ⟨(ps_set hN hi hx h hs hf).mono fun E σ H hh => hh.elim fun pn M b ρ F s l h => by
  refine ⟨pn,M,b,ρ,_,s.toSta,h,fun x v H1 hx rx k1 o1 => ?_⟩
  refine ⟨pn,M,b,ρ,_,s.toSta.step k1 o1,hx,fun y u H2 hy ry k2 o2 => ?_⟩
  have s2 := (s.step k1 o1).step k2 o2
  have rx := rx.step s.bagM k2
  split at hy
  case h_2 => exact hy.elim
  case h_1 xs ys e1 e2 =>
    obtain ⟨a1,vs,rfl,h1,r1⟩ := asL.rep rx e1
    obtain ⟨a2,us,rfl,h2,r2⟩ := asL.rep ry e2
    exact ⟨a1,a2,vs,us,rfl,rfl,h1,h2,by rw [r1.length,r2.length]; exact Nat.le_trans hy.1 le1000,fun p hp => l.nx _ _ _ _ _ (s2.newOwn i (Reps.append r1 r2) hp) hy.2⟩⟩
end
end L2
set_option Elab.async false
set_option linter.all false
set_option maxRecDepth 100000
set_option maxHeartbeats 4000000
namespace L2
open PySem PySem.Spec PyProof.Rows
section
variable {κ : Type}[DecidableEq κ]
def valV (kvs : List (κ × V))(k : κ) : Option V := (kvs.find? fun kv => decide (kv.1 = k)).map (·.2)
def putK (kvs : List (κ × V))(k : κ)(v : V) : List (κ × V) :=
  if (kvs.any fun kv => decide (kv.1 = k)) = true then kvs.map (fun kv => if kv.1 = k then (kv.1,v) else kv) else kvs ++ [(k,v)]
theorem valV_pos {p : κ × V}{r : List (κ × V)}{k : κ}(e : p.1 = k) : valV (p :: r) k = some p.2 := by simp [valV,List.find?_cons,e]
theorem valV_neg {p : κ × V}{r : List (κ × V)}{k : κ}(e : ¬ p.1 = k) : valV (p :: r) k = valV r k := by simp [valV,List.find?_cons,e]
theorem KV.val {kvs : List (κ × V)}{vs : List (κ × Value)}(r : KV kvs vs)(k : κ) : RelO (valV kvs k) (valueAt vs k) := by
  unfold KV at r
  induction r with
  | nil => exact True.intro
  | @cons p q ps qs h t ih =>
    obtain ⟨h1,h2⟩ := h
    by_cases e : p.1 = k
    · have e' : q.1 = k := h1.symm.trans e
      have b : valueAt (q :: qs) k = some q.2 := by simp [valueAt,List.find?_cons,e']
      rw [valV_pos e,b]; exact h2
    · have e' : ¬ q.1 = k := fun z => e (h1.trans z)
      have b : valueAt (q :: qs) k = valueAt qs k := by simp [valueAt,List.find?_cons,e']
      rw [valV_neg e,b]; exact ih
theorem KV.keys {kvs : List (κ × V)}{vs : List (κ × Value)}(r : KV kvs vs) : kvs.map (·.1) = vs.map (·.1) := by
  unfold KV at r
  induction r with
  | nil => rfl
  | cons h t ih => rw [List.map_cons,List.map_cons,ih,h.1]
theorem KV.length {kvs : List (κ × V)}{vs : List (κ × Value)}(r : KV kvs vs) : kvs.length = vs.length := Paired.length r
end
abbrev KT (H : Hp) : List (List Key × V) -> List (List Key × Addr × Value) -> Prop := Paired fun p q => p.1 = q.1 /\ H q.2.1 = some (.tup (p.1.map kV)) /\ RelV p.2 q.2.2
theorem KT.val {H : Hp}{kvs : List (List Key × V)}{xs : List (List Key × Addr × Value)}(r : KT H kvs xs)(k : List Key) : RelO (valV kvs k) ((atKey xs k).map (·.2)) := by
  induction r with
  | nil => exact True.intro
  | @cons p q ps qs h t ih =>
    obtain ⟨h1,_,h2⟩ := h
    by_cases e : p.1 = k
    · have e' : q.1 = k := h1.symm.trans e
      have b : atKey (q :: qs) k = some q.2 := by simp [atKey,List.find?_cons,e']
      rw [valV_pos e,b]; exact h2
    · have e' : ¬ q.1 = k := fun z => e (h1.trans z)
      have b : atKey (q :: qs) k = atKey qs k := by simp [atKey,List.find?_cons,e']
      rw [valV_neg e,b]; exact ih
section
variable {P : Program}{w : World}{H : Hp}{h : Heap}{a : Addr}
end
def DGet (H : Hp)(a : Addr)(y : V)(r : Option V) : Prop :=
  (∃ kvs k,Rd H a (.dK kvs) /\ y = kV k /\ r = valV kvs k) \/ ∃ kvs k b,Rd H a (.dT kvs) /\ y = .ref b /\ H b = some (.tup (k.map kV)) /\ r = valV kvs k
def DPut (H : Hp)(a : Addr)(y v : V)(H' : Hp) : Prop :=
  (∃ kvs k,H a = some (.dK kvs) /\ y = kV k /\ kvs.length < sizeLine /\ H' = upd H a (.dK (putK kvs k v))) \/
  ∃ kvs k b,H a = some (.dT kvs) /\ y = .ref b /\ H b = some (.tup (k.map kV)) /\ kvs.length < sizeLine /\ H' = upd H a (.dT (putK kvs k v))
theorem DGet.k {H : Hp}{a : Addr}{kvs : List (Key × V)}{k : Key}(e : H a = some (.dK kvs)) : DGet H a (kV k) (valV kvs k) := .inl ⟨kvs,k,.inl e,rfl,rfl⟩
theorem DGet.t {H : Hp}{a b : Addr}{kvs : List (List Key × V)}{k : List Key}(e : H a = some (.dT kvs))(eb : H b = some (.tup (k.map kV))) : DGet H a (.ref b) (valV kvs k) := .inr ⟨kvs,k,b,.inl e,rfl,eb,rfl⟩
theorem DPut.k {H : Hp}{a : Addr}{kvs : List (Key × V)}{k : Key}{v : V}(e : H a = some (.dK kvs))(hl : kvs.length < sizeLine) : DPut H a (kV k) v (upd H a (.dK (putK kvs k v))) := .inl ⟨kvs,k,e,rfl,hl,rfl⟩
theorem DPut.t {H : Hp}{a b : Addr}{kvs : List (List Key × V)}{k : List Key}{v : V}(e : H a = some (.dT kvs))(eb : H b = some (.tup (k.map kV)))(hl : kvs.length < sizeLine) :
    DPut H a (.ref b) v (upd H a (.dT (putK kvs k v))) := .inr ⟨kvs,k,b,e,rfl,eb,hl,rfl⟩
section
variable {X : Cx}{pins : List (Addr × Obj)}{σ : St}{H : Hp}{s : Shared}{a : Addr}{y v : V}{u r : Value}{o : Option V}{A : Around}{E : Value -> Shared -> Prop}
theorem Inv.big (I : Inv X pins σ H s) : sysModules < s.heap.objs.size := by
  have h : mainGlobals < s.heap.objs.size := (I.mod.glob.keeps I.bk).lt
  exact Nat.lt_trans (by decide) h
theorem d_write {h' : Heap}{t' : Nat}{ob : HO}(I : Inv X pins σ H s)(mu : Mut (H a))(hs : Heap.SameBut a s.heap h')(he : ∃ q,h'.get? a = some q)(new : ObjOk X.prog X.w (upd H a ob) h' a ob) :
    Inv X pins σ (upd H a ob) { s with heap := h',toks := t' } :=
  I.write (x := a) (e := a) mu (.inl rfl) (fun b q hb z => (hs.2 b hb).trans z) he new
end
section
variable {X : Cx}{pins : List (Addr × Obj)}{σ : St}{H : Hp}{s : Shared}{a : Addr}{kvs : List (Key × V)}{k : Key}{u : Value}{A : Around}{E : Value -> Shared -> Prop}
end
section
variable {X : Cx}{o i e value : Expr}{pos pos' tpos : Pos}{td ty tv : TE}
end
section
variable {X : Cx}{pos : Pos}
end
structure M2 (X : Cx)(o : Expr)(m : Str)(apos : Pos)(e f : Expr)(cpos : Pos) : Prop where
  base : attributeBase o m X.env (eval o X.env) = eval o X.env
  few : ((backTo cpos (starEach [e,f] X.env)).all (fun x => !x.1) && (backToKw cpos (keywordEach [] X.env)).all (fun x => x.1.isSome)
    && decide (([e,f] : List Expr).length + ([] : List Keyword).length + (if ([] : List Keyword).isEmpty then 0 else 1) < 30)) = true
  line : (apos.endLine == cpos.line) = true
  trees : backTo cpos (starEach [e,f] X.env) = [(false,eval e X.env),(false,eval f X.env)]
section
variable {X : Cx}{pins : List (Addr × Obj)}{σ : St}{H : Hp}{s : Shared}{a : Addr}{y d : V}{u r : Value}{o : Option V}{A : Around}{E : Value -> Shared -> Prop}
end
section
variable {X : Cx}{o e f : Expr}{apos cpos : Pos}{td ty tx : TE}
end
section
variable {X : Cx}{pins : List (Addr × Obj)}{σ : St}{H : Hp}{s : Shared}{a : Addr}{kvs : List (Key × V)}{A : Around}{E : Value -> Shared -> Prop}
end
section
variable {X : Cx}{pins : List (Addr × Obj)}{σ : St}{H : Hp}{s : Shared}{a : Addr}{y : V}{u : Value}{A : Around}{E : Value -> Shared -> Prop}
end
end L2
set_option Elab.async false
set_option linter.all false
set_option maxRecDepth 100000
set_option maxHeartbeats 4000000
namespace L2
open PySem PySem.Spec PyProof.Rows
section
variable {X : Cx}{pins : List (Addr × Obj)}{σ : St}{H : Hp}{s : Shared}{a b : Addr}{v : V}{u r : Value}{A : Around}{E : Value -> Shared -> Prop}
end
end L2
set_option Elab.async false
set_option linter.all false
set_option maxRecDepth 100000
set_option maxHeartbeats 4000000
namespace L2
open PySem PySem.Spec PyProof.Rows
abbrev Ens := List (List Int × Addr × Value)
abbrev tiK (P : Program)(w : World) := tupleKind (intKind P w)
theorem int_items {P : Program}{w : World} : ∀ {ns : List Int} {us : List Value},Vals (ns.map V.int) us -> ItemsAre (intKind P w) ns us
  | [],_,h => by cases h; exact .nil
  | n :: ns,_,h => by
    cases h with
    | cons h t =>
      obtain ⟨t',rfl⟩ := h
      exact .cons (by simp [intKind,Value.isInt]) (int_items t)
def KeysT (K : PySem.W.Frag)(H : Hp)(es : Ens) : Prop := ∀ e ∈ es,SqT K H e.2.1 (e.1.map V.int)
section
variable {X : Cx}{pins : List (Addr × Obj)}{σ : St}{H : Hp}{s : Shared}{a b : Addr}{es : Ens}{ep : Nat}{ns : List Int}
theorem Inv.tkey (I : Inv X pins σ H s)(h : SqT X.K H b (ns.map V.int)) : (tiK X.prog X.w).is s.heap ns b := by
  obtain ⟨its,r,⟨o,h1,h2,n,h3⟩,_⟩ := I.tuple h
  exact ⟨o,its.toArray,n,h1,h2,h3,int_items r⟩
theorem Inv.dct (I : Inv X pins σ H s)(h : H a = some (DOb a es ep))(hk : KeysT X.K H es) : ((a == sysModules) = false /\ es.length <= sizeLine) /\ s.heap.DictOfH (tiK X.prog X.w) a es := by
  obtain ⟨⟨⟨h1,h2,h3⟩,o,ds,e1,e2,e3,e4⟩,_⟩ := I.hok a _ h
  exact ⟨⟨h1,h2⟩,o,ds,ep,e1,e2,e3,e4,fun x hx => I.tkey (hk x hx),h3⟩
theorem DOb_ok {P : Program}{w : World}{H : Hp}{h : Heap}(h1 : (a == sysModules) = false)(h2 : es.length <= sizeLine)(h3 : (es.map (·.1)).Nodup){o : Obj}{ds : Array DictEntry}(e1 : h.get? a = some o)(e2 : o.ExactDict)(e3 : o.data = .dict ds ep)(e4 : ds.toList = es.map dEnt) : ObjOk P w H h a (DOb a es ep) :=
  ⟨⟨⟨h1,h2,h3⟩,o,ds,e1,e2,e3,e4⟩,⟨o,e1⟩,fun g1 g2 ⟨q,o,ds,f1,f2⟩ k => ⟨q,o,ds,k o f1,f2⟩⟩
theorem length_storedH (es : Ens)(k : List Int)(b : Addr)(v : Value) : (storedH es k b v).length <= es.length + 1 := by
  unfold storedH
  split
  · rw [List.length_map]; omega
  · simp
def rIxD (K : PySem.W.Frag) : R2 := fun x y H Q => ∃ a b es ep ns p v,x = .ref a /\ y = .ref b /\ H a = some (DOb a es ep) /\ KeysT K H es /\ SqT K H b (ns.map V.int) /\ atKey es ns = some p /\ RelV v p.2 /\ Q v H
theorem ix_dct (hu : X.A.units + 1 < cLine) : IxR X (rIxD X.K) := by
  intro value slice pins s σ H x y v u Q I rx ry h hs
  obtain ⟨a,b,es,ep,ns,p,z,rfl,rfl,hd,hk,hb,hp,rz,q⟩ := h
  cases rx; cases ry
  obtain ⟨⟨h1,h2⟩,dd⟩ := I.dct hd hk
  exact tail_any dd.typeIs PySem.F.slot_dict_getitem.lookup (wpAny_getItem_heap (tupleKind_room_in1 hu) (I.tkey hb) dd hp ⟨z,H,I.tok _,rz,q⟩) hs
def rSetD (K : PySem.W.Frag) : V -> V -> V -> Hp -> (Hp -> Prop) -> Prop := fun o i v H Q => ∃ a b es ep ns,o = .ref a /\ i = .ref b /\ H a = some (DOb a es ep) /\ KeysT K H es /\ SqT K H b (ns.map V.int) /\ es.length < sizeLine /\ ∀ u ep',RelV v u -> Q (upd H a (DOb a (storedH es ns b u) ep'))
theorem set_dct (K : PySem.W.Frag)(hK : X.K = K)(hu : X.A.units + 64 < cLine) : PSet X (rSetD K) := by
  subst hK
  intro pins s σ H o i v ov iv u Q I ro ri rv h
  obtain ⟨a,b,es,ep,ns,rfl,rfl,hd,hk,hb,hl,q⟩ := h
  cases ro; cases ri
  obtain ⟨⟨h1,h2⟩,dd⟩ := I.dct hd hk
  refine wpAny_setItem_heap (hsz := h2) (tupleKind_room_in1 (by omega)) (I.tkey hb) dd fun h' dd' hs => ?_
  obtain ⟨o,ds,ep',e1,e2,e3,e4,_,e5⟩ := dd'
  exact ⟨_,d_write I (by rw [hd]; exact True.intro) hs ⟨o,e1⟩ (DOb_ok h1 (Nat.le_trans (length_storedH es ns b u) hl) e5 e1 e2 e3 e4),q u ep' rv⟩
def tDNew : TE := fun _ H Q => ∀ p,H p = none -> Q (.ref p) (upd H p (DOb p [] 0))
theorem pe_dnew {pos : Pos} : PE X (.Dict [] [] pos) tDNew := fun pins s σ H Q I h =>
  wpAny_Dict_empty ⟨.ref s.heap.objs.size,_,I.laid (a := s.heap.objs.size) (o := DOb s.heap.objs.size [] 0) (t' := s.toks) (fun _ _ q => Heap.get?_push_of_some _ q) (Nat.le_refl _) (DOb_ok (beq_eq_false_iff_ne.mpr (Ne.symm (Nat.ne_of_lt I.big))) (Nat.zero_le _) List.nodup_nil (Heap.get?_push_size _ rfl) ⟨rfl,rfl,rfl⟩ rfl rfl),rfl,h _ (I.hok.fresh (Nat.le_refl _))⟩
def tDGetE (K : PySem.W.Frag)(td ty tx : TE) : TE := fun σ H Q => td σ H fun x H1 => ∃ a es ep,x = .ref a /\ H1 a = some (DOb a es ep) /\ KeysT K H1 es /\ ty σ H1 fun y H2 => tx σ H2 fun z H3 => ∃ b ns,y = .ref b /\ H3 a = some (DOb a es ep) /\ KeysT K H3 es /\ SqT K H3 b (ns.map V.int) /\
  (atKey es ns = none -> Q z H3) /\ ∀ p,atKey es ns = some p -> ∃ v,RelV v p.2 /\ Q v H3
theorem pe_dgetE {o e f : Expr}{apos cpos : Pos}{td ty tx : TE}(hu : X.A.units + 1 < cLine)(ho : PE X o td)(he : PE X e ty)(hf : PE X f tx)(m : M2 X o "get" apos e f cpos) : PE X (.Call (.Attribute o "get" apos) [e,f] [] cpos) (tDGetE X.K td ty tx) := by
  intro pins s σ H Q I h
  refine wpAny_Call_method m.base m.few m.line PySem.F.plainAttrs_dict PySem.F.slot_dict_get PySem.F.type_dict_get (thn (ho pins s σ H _ I h) fun u s1 hx => ?_)
  obtain ⟨x,H1,I1,rx,a,es,ep,rfl,hd,hk,q1⟩ := hx
  cases rx
  obtain ⟨_,dd1⟩ := I1.dct hd hk
  refine ⟨dd1.typeIs,dictOfH_noDict dd1,?_⟩
  rw [m.trees]
  refine Calls.callWith_builtin rfl (Calls.evalArgs_plain (Calls.spliced_cons (thn (he pins s1 σ H1 _ I1 q1) fun iv s2 hy => ?_)))
  obtain ⟨y,H2,I2,ry,q2⟩ := hy
  refine Calls.spliced_cons (thn (hf pins s2 σ H2 _ I2 q2) fun fv s3 hz => Calls.spliced_nil ?_)
  obtain ⟨z,H3,I3,rz,b,ns,rfl,hd3,hk3,hb,qn,qs⟩ := hz
  cases ry
  obtain ⟨⟨h1,h2⟩,dd⟩ := I3.dct hd3 hk3
  refine call_meetsIn PySem.F.slot_dict_get dd.typeIs PySem.F.entry_dict_get (PySem.F.args_dict_get_3 _ _ _) (meetsH_dict_get_default (tiK X.prog X.w) a b h1 fv) ⟨tupleKind_room_in1 hu,ns,es,I3.tkey hb,dd,?_⟩
  cases hat : atKey es ns with
  | none => exact ⟨z,H3,I3.tok _,rz,qn hat⟩
  | some p => obtain ⟨v,rv,qv⟩ := qs p hat; exact ⟨v,H3,I3.tok _,rv,qv⟩
end
section
variable {X : Cx}{pins : List (Addr × Obj)}{σ : St}{H : Hp}{s : Shared}{a b : Addr}{es : Ens}{ep : Nat}{ns : List Int}{A : Around}{E : Value -> Shared -> Prop}{r : Value}
end
end L2
set_option Elab.async false
set_option linter.all false
set_option maxRecDepth 100000
set_option maxHeartbeats 4000000
namespace L2
open PySem PySem.Spec PyProof.Rows
def findD : List (List Int) -> List D -> List Int -> Option D
  | k :: ks,x :: xs,n => if k = n then some x else findD ks xs n
  | _,_,_ => none
theorem atKey_cons {e : List Int × Addr × Value}{es : Ens}{n : List Int} : atKey (e :: es) n = if e.1 = n then some e.2 else atKey es n := by
  unfold atKey
  rw [List.find?_cons]
  by_cases z : e.1 = n
  · simp [z]
  · simp [z]
theorem findD_rep {K : PySem.W.Frag}{M : Addr -> Prop}{H : Hp} : ∀ {es : Ens} {ks : List (List Int)} {vs : List V} {xs : List D} (n : List Int),es.map (·.1) = ks -> Vals vs (es.map (·.2.2)) -> Reps K M H xs vs ->
    match findD ks xs n with | some d => ∃ p v,atKey es n = some p /\ RelV v p.2 /\ Rep K M H d v | none => atKey es n = none
  | [],ks,vs,xs,n,e,hv,r => by
    subst e
    unfold findD; rfl
  | e :: es,ks,vs,[],n,ek,hv,r => by
    rw [show vs = [] from r] at hv
    cases hv
  | e :: es,ks,vs,x :: xs,n,ek,hv,r => by
    subst ek
    obtain ⟨v,vs,rfl,rx,rr⟩ := r
    rw [List.map_cons] at hv
    cases hv with
    | cons h1 h2 =>
    have ih := findD_rep (ks := es.map (·.1)) (xs := xs) n rfl h2 rr
    rw [atKey_cons,List.map_cons]
    unfold findD
    by_cases z : e.1 = n
    · rw [if_pos z,if_pos z]
      exact ⟨e.2,v,rfl,h1,rx⟩
    · rw [if_neg z,if_neg z]
      exact ih
theorem DctE.keys {K : PySem.W.Frag}{M : Addr -> Prop}{H : Hp}{es : Ens}{ks : List (List Int)}{vs : List V}(h : DctE K M H es ks vs) : KeysT K H es := fun e m => (h.2.1 e m).sq
section
variable {X : Cx}{W : Wd}{e f : Expr}{es : List Expr}{pos : Pos}{dA : DA}{df : DE}
end
end L2
set_option Elab.async false
set_option linter.all false
set_option maxRecDepth 100000
set_option maxHeartbeats 4000000
namespace L2
open PySem PySem.Spec PyProof.Rows
theorem Reps.erase {K : PySem.W.Frag}{M : Addr -> Prop}{H : Hp} : ∀ {ds : List D} {vs : List V} (j : Nat),Reps K M H ds vs -> Reps K M H (ds.eraseIdx j) (vs.eraseIdx j)
  | [],_,_,h => by cases (show _ = _ from h); exact rfl
  | d :: ds,_,0,h => by
    obtain ⟨v,r,rfl,h1,h2⟩ := h
    exact h2
  | d :: ds,_,j + 1,h => by
    obtain ⟨v,r,rfl,h1,h2⟩ := h
    exact ⟨v,_,rfl,h1,Reps.erase j h2⟩
section
variable {X : Cx}{W : Wd}{tg e : Expr}{pos : Pos}{dA : DA}
def dPopT (i : Nat)(gd : D -> Ev -> (Ev -> Prop) -> Prop)(dA : DA) : DS := fun F ρ => match ρ[i]? with
  | some (some (.own ys)) => dA ρ fun xs => (match xs with
    | [.int k] => (0 <= k /\ k < ys.length /\ ys.length <= 1000) /\ (ys[k.toNat]?).elim False fun y => gd y (ρ.set i (some (.own (ys.eraseIdx k.toNat)))) F.nx
    | _ => False)
  | _ => False
theorem up_popT {i : Nat}{g : TG}{gd : D -> Ev -> (Ev -> Prop) -> Prop}(hG : GD W g gd) : ∀ E σ H,sn W (dPopT i gd dA) E σ H -> tAsg (tBM W.K "list" rPopAt (tVar i) (dnA W dA)) g E σ H := fun E σ H hh => hh.elim fun pn M b ρ F s l h => by
  unfold dPopT at h
  split at h
  case h_2 => exact h.elim
  case h_1 ys e =>
    obtain ⟨a,vs,ea,nb,hh,r⟩ := own_at s.toSta e
    refine ⟨.ref a,ea,.inl ⟨rfl,vs,SqL.of hh⟩,pn,M,b,ρ,_,s.toSta,h,fun xs us H' hx rx k o => ?_⟩
    match xs,hx with
    | [.int n],hx =>
      obtain ⟨u,rfl,ru⟩ := rx1 rx
      cases (show _ = _ from ru)
      obtain ⟨⟨h0,h1,h2⟩,hx⟩ := hx
      have s' := s.step k o
      obtain ⟨a',vs',ea',nb',hh',r'⟩ := own_at s'.toSta e
      rw [ea] at ea'; cases ea'
      have hl := r'.length
      cases ey : ys[n.toNat]? with
      | none => rw [ey] at hx; exact hx.elim
      | some y =>
        rw [ey] at hx
        obtain ⟨v,ev,rv⟩ := r'.get ey
        have st2 := s'.setOwn i e ea (r'.erase n.toNat)
        have rv2 : Rep W.K M (upd H' a (.lst (vs'.eraseIdx n.toNat))) y v := Rep.keep (fun c oo nn q => by
          obtain ⟨v0,e1,a',us,evv,m1,_⟩ := s'.env i _ e
          rw [ea] at e1; cases e1; cases evv
          rw [upd_ne (show c ≠ a from fun z => nn (by rw [z]; exact m1))]
          exact q) _ _ rv
        have pl : plain y = true := by
          cases y <;> first | rfl | exact rv.elim
        refine ⟨a,vs',n,n.toNat,v,rfl,rfl,hh',by omega,by omega,?_,ev,?_⟩
        · have hn : n.toNat < vs'.length := by rw [hl]; omega
          have e1 : (if n < 0 then n + (vs'.length : Int) else n) = n := if_neg (by omega)
          have hz : n < (vs'.length : Int) := by omega
          unfold seqIndex?
          simp [e1,h0,hz]
        · exact hG pn M b _ σ _ y v _ _ st2.toSta rv2.x pl hx fun ρ' σ' hq st3 ho => l.nx _ _ _ _ _ (st2.of st3 ho) hq
end
section
variable {X : Cx}{W : Wd}{e : Expr}{pos : Pos}{dA : DA}
end
end L2
set_option Elab.async false
set_option linter.all false
set_option maxRecDepth 100000
set_option maxHeartbeats 4000000
namespace L2
open PySem PySem.Spec PyProof.Rows
section
variable {X : Cx}{elt iter tg tg2 iter2 : Expr}{ifs : List Expr}{scope : Scope}{pos : Pos}{N' : List Str}{map mp2 : List (Option Nat)}{wi wi2 : TI}{g g2 : TG}{tt : TT}{te : TE}
end
end L2
set_option Elab.async false
set_option linter.all false
set_option maxRecDepth 100000
set_option maxHeartbeats 4000000
namespace L2
open PySem PySem.Spec PyProof.Rows
def okA (acc : List V) : Prop := (∃ ns : List Int,acc = ns.map V.int) /\ acc.length <= 2000
section
variable {X : Cx}{elt iter tg tg2 iter2 : Expr}{ifs : List Expr}{scope : Scope}{pos : Pos}{N' : List Str}{map mp2 : List (Option Nat)}{wi wi2 : TI}{g g2 : TG}{tt : TT}{te : TE}
end
end L2
set_option Elab.async false
set_option linter.all false
set_option maxRecDepth 100000
set_option maxHeartbeats 4000000
namespace L2
open PySem PySem.Spec PyProof.Rows
section
variable {X : Cx}{ke ve iter tg : Expr}{ifs : List Expr}{scope : Scope}{pos : Pos}{N' : List Str}{map : List (Option Nat)}{wi : TI}{g : TG}{tt : TT}{tk te : TE}
end
end L2
set_option Elab.async false
set_option linter.all false
set_option maxRecDepth 100000
set_option maxHeartbeats 4000000
namespace L2
open PySem PySem.Spec PyProof.Rows
section
variable {X : Cx}{W : Wd}{elt iter tg tg2 iter2 : Expr}{ifs : List Expr}{scope : Scope}{pos : Pos}{N' : List Str}{map mp2 : List (Option Nat)}{g g2 : TG}{gd gd2 : D -> Ev -> (Ev -> Prop) -> Prop}{di di2 : DA}{dt : DT}{de : DE}
end
end L2
set_option Elab.async false
set_option linter.all false
set_option maxRecDepth 100000
set_option maxHeartbeats 4000000
namespace L2
open PySem PySem.Spec PyProof.Rows
theorem nodup_bound : ∀ (N : Nat) (l : List Int),l.Nodup -> (∀ z ∈ l,0 <= z /\ z < (N : Int)) -> l.length <= N
  | 0,l,_,h => by
    cases l with
    | nil => exact Nat.le_refl _
    | cons z l => have := h z (List.mem_cons_self ..); omega
  | N + 1,l,hn,h => by
    have := nodup_bound N (l.erase (N : Int)) (hn.erase _) fun z hz => by
      have m := hn.mem_erase_iff.mp hz
      have := h z m.2
      have := m.1
      omega
    have e := List.length_erase (a := (N : Int)) (l := l)
    split at e <;> omega
theorem vals_of_ints {vs : List Value}{ks : List Int}(h : IntsAre vs ks) : Vals (ks.map V.int) vs := by
  induction h with
  | nil => exact .nil
  | cons n t _ ih => exact .cons ⟨t,rfl⟩ ih
section
variable {X : Cx}
end
def intsD (acc : List D) : Prop := (∃ ns : List Int,acc = ns.map D.int) /\ acc.length <= 2000
theorem reps_ints {K : PySem.W.Frag}{M : Addr -> Prop}{H : Hp} : ∀ {ns : List Int} {vs : List V},Reps K M H (ns.map D.int) vs -> vs = ns.map V.int
  | [],vs,h => h
  | n :: ns,vs,h => by
    obtain ⟨v,r,rfl,h1,h2⟩ := h
    cases (show _ = _ from h1)
    rw [reps_ints h2]
    rfl
theorem intsD.ok {K : PySem.W.Frag}{M : Addr -> Prop}{H : Hp}{ds : List D}{vs : List V}(h : intsD ds)(r : Reps K M H ds vs) : okA vs := by
  obtain ⟨⟨ns,rfl⟩,hl⟩ := h
  have e := reps_ints r
  exact ⟨⟨ns,e⟩,by rw [e,List.length_map]; rwa [List.length_map] at hl⟩
section
variable {X : Cx}{W : Wd}{elt iter tg tg2 iter2 : Expr}{ifs : List Expr}{scope : Scope}{pos cpos p : Pos}{N' : List Str}{map mp2 : List (Option Nat)}{g g2 : TG}{gd gd2 : D -> Ev -> (Ev -> Prop) -> Prop}{di di2 : DA}{dt : DT}{de : DE}{x : Str}
end
end L2
set_option Elab.async false
set_option linter.all false
set_option maxRecDepth 100000
set_option maxHeartbeats 4000000
namespace L2
open PySem PySem.Spec PyProof.Rows
inductive whI (dc : DT)(db : DS)(F : DEnds)(ρ : Ev) : Prop
  | mk (I : Nat -> Ev -> Prop) (m : Nat) (h0 : I m ρ) (hs : ∀ m ρ,I m ρ -> dc ρ fun c => IfP c (db { F with nx := fun ρ' => ∃ m',m' < m /\ I m' ρ',ct := fun ρ' => ∃ m',m' < m /\ I m' ρ',bk := F.nx } ρ) (F.nx ρ)) : whI dc db F ρ
def dWhile (dc : DT)(db : DS) : DS := fun F ρ => whI dc db F ρ
section
variable {X : Cx}{W : Wd}{c : Expr}{dc : DT}{db : DS}{body : List Stmt}{pos : Pos}
theorem up_while : ∀ E σ H,sn W (dWhile dc db) E σ H -> tWhile (dnT W dc) (sn W db) E σ H := fun E σ H hh => hh.elim fun pn M b ρ F s l h => by
  obtain ⟨I,m0,i0,step⟩ := h
  refine ⟨fun m σ H => ∃ M b ρ,StS W pn M b H σ ρ /\ I m ρ,⟨m0,M,b,ρ,s,i0⟩,?_⟩
  rintro m σ H ⟨M,b,ρ,s,i⟩
  refine ⟨pn,M,b,ρ,_,s.toSta,step m ρ i,fun c H1 h1 k1 o1 => ?_⟩
  have s1 := s.step k1 o1
  cases h1 with
  | t e h1 =>
    dsimp only
    rw [if_pos e]
    exact ⟨fun σ' H' => ∃ m',m' < m /\ ∃ M b ρ,StS W pn M b H' σ' ρ /\ I m' ρ,fun σ' H' n => n,pn,M,b,ρ,{ F with nx := fun ρ' => ∃ m',m' < m /\ I m' ρ',ct := fun ρ' => ∃ m',m' < m /\ I m' ρ',bk := F.nx },s1,⟨fun M b ρ σ H s' ⟨m',lt,h'⟩ => ⟨m',lt,M,b,ρ,s',h'⟩,l.rt,fun M b ρ σ H s' h' => l.nx _ _ _ _ _ s' h',fun M b ρ σ H s' ⟨m',lt,h'⟩ => ⟨m',lt,M,b,ρ,s',h'⟩,l.ro⟩,h1⟩
  | f e h1 =>
    dsimp only
    rw [if_neg (by rw [e]; exact Bool.false_ne_true)]
    exact l.nx _ _ _ _ _ s1 h1
theorem jds_while (hp : PassesOwn (model X.prog X.w) X.A X.env X.xe)(hc : JT X W c dc)(hb : JSs X W body db) : JS X W (.While c body [] pos) (dWhile dc db) := ⟨(ps_while hp hc.h hb.h).mono up_while⟩
end
end L2
set_option Elab.async false
set_option linter.all false
set_option maxRecDepth 100000
set_option maxHeartbeats 4000000
namespace L2
open PySem PySem.Spec PyProof.Rows
section
variable {X : Cx}{W : Wd}{c : Expr}{cs es : List Expr}{pos p pos' p' : Pos}{dC dA : DA}{x f : Str}{k k' : Nat}{ps ps' : List Str}{S : DSp}{pre : List D -> Prop}
end
end L2
set_option Elab.async false
set_option linter.all false
set_option maxRecDepth 100000
set_option maxHeartbeats 4000000
namespace L2
open PySem PySem.Spec PyProof.Rows
section
variable {X : Cx}{W : Wd}{a tg : Expr}{pos p : Pos}{dA : DA}{fz : Bool}
end
end L2
set_option Elab.async false
set_option linter.all false
set_option maxRecDepth 100000
set_option maxHeartbeats 4000000
namespace L2
open PySem PySem.Spec PyProof.Rows
abbrev Om := Nat -> Prop
def cntA (p : Addr)(H : Hp) : Nat := match H p with | some (.lst [_,_,.int st]) => st.toNat | _ => 0
def cnt (b : Option Addr)(H : Hp) : Nat := match b with | none => 0 | some p => cntA p H
abbrev DE3 := Ev -> (D -> Om) -> Om
abbrev DT3 := Ev -> (Bool -> Om) -> Om
abbrev DA3 := Ev -> (List D -> Om) -> Om
section
variable {X : Cx}{W : Wd}{e a b c l tg : Expr}{es : List Expr}{pos p : Pos}{fz : Bool}
end
end L2
set_option Elab.async false
set_option linter.all false
set_option maxRecDepth 100000
set_option maxHeartbeats 4000000
namespace L2
open PySem PySem.Spec PyProof.Rows
section
variable {X : Cx}{W : Wd}{e a b c l tg : Expr}{es : List Expr}{pos p : Pos}{d da db dc dl : DE3}{dA : DA3}{x : Str}{k : Nat}{ps : List Str}
variable {ta tb : DT3}{rest : List Expr}
variable {r : List V -> Hp -> VK -> Prop}{o : List D -> (D -> Prop) -> Prop}{id T : String}
variable {fz : Bool}
end
end L2
set_option Elab.async false
set_option linter.all false
set_option maxRecDepth 100000
set_option maxHeartbeats 4000000
namespace L2
open PySem PySem.Spec PyProof.Rows
structure DEnds3 where
  nx : Ev -> Om
  rt : D -> Om
  bk : Ev -> Om := fun _ _ => False
  ct : Ev -> Om := fun _ _ => False
  ro : List D -> Om := fun _ _ => False
abbrev DS3 := DEnds3 -> Ev -> Om
section
variable {X : Cx}{W : Wd}{e a b c tg iter l : Expr}{es : List Expr}{pos p : Pos}{d da db dc dl de : DE3}{dA di : DA3}{dt : DT3}{st : Stmt}{rest sts : List Stmt}{d1 d2 : DS3}{t : TS}
end
end L2
set_option Elab.async false
set_option linter.all false
set_option maxRecDepth 100000
set_option maxHeartbeats 4000000
namespace L2
open PySem PySem.Spec PyProof.Rows
abbrev DSO3 := List D -> (List D -> Om) -> Om
section
variable {X : Cx}{W : Wd}{e a b c tg iter l : Expr}{es : List Expr}{pos p : Pos}{d da db dc dl de : DE3}{dA di : DA3}{dt : DT3}{fz : Bool}{x : Str}{k : Nat}{ps : List Str}{S : DSO3}
end
end L2
set_option Elab.async false
set_option linter.all false
set_option maxRecDepth 100000
set_option maxHeartbeats 4000000
namespace L2
open PySem PySem.Spec PyProof.Rows
section
variable {X : Cx}{tg : Expr}
end
section
variable {X : Cx}{W : Wd}{tg a b c : Expr}{pos p : Pos}{dA : DA}{fz : Bool}
end
end L2
set_option Elab.async false
set_option linter.all false
set_option maxRecDepth 100000
set_option maxHeartbeats 4000000
namespace L2
open PySem PySem.Spec PyProof.Rows
end L2
set_option Elab.async false
set_option linter.all false
set_option maxRecDepth 100000
set_option maxHeartbeats 4000000
namespace L2
open PySem PySem.Spec PyProof.Rows
section
variable {X : Cx}{W : Wd}{a b c : Expr}{pos p : Pos}{dA : DA}{fz : Bool}
end
section
variable {X : Cx}{W : Wd}{tg a b c : Expr}{pos p : Pos}{dA : DA3}{fz : Bool}
end
end L2
set_option Elab.async false
set_option linter.all false
set_option maxRecDepth 100000
set_option maxHeartbeats 4000000
namespace L2
open PySem PySem.Spec PyProof.Rows
section
variable {X : Cx}{W : Wd}{e e1 e2 : Expr}{es : List Expr}{pos p : Pos}{dA : DA}{x : Str}{k : Nat}{ps : List Str}{S : DSO}
end
end L2
set_option Elab.async false
set_option linter.all false
set_option maxRecDepth 100000
set_option maxHeartbeats 4000000
namespace L2
open PySem PySem.Spec PyProof.Rows
def RowsR (K : PySem.W.Frag)(M : Addr -> Prop)(H : Hp) : List Addr -> List (List D) -> Prop
  | [],rows => rows = []
  | r :: rs,rows => ∃ row rest us,rows = row :: rest /\ H r = some (.lst us) /\ Reps K M H row us /\ RowsR K M H rs rest
section
variable {K : PySem.W.Frag}{M M' : Addr -> Prop}{H H' : Hp}
theorem RowsR.keep : ∀ (rs : List Addr) (rows : List (List D)),(∀ c o,(¬ M c \/ c ∈ rs) -> H c = some o -> H' c = some o) -> RowsR K M H rs rows -> RowsR K M H' rs rows
  | [],_,_,h => h
  | r :: rs,rows,k,h => by
    obtain ⟨row,rest,us,e,h1,h2,h3⟩ := h
    exact ⟨row,rest,us,e,k _ _ (.inr (List.mem_cons_self ..)) h1,Reps.keep (fun c o n e => k c o (.inl n) e) _ _ h2,RowsR.keep rs rest (fun c o q e => k c o (q.imp id (List.mem_cons_of_mem _)) e) h3⟩
theorem RowsR.avoid (k : ∀ c,M' c -> M c \/ H c = none) : ∀ (rs : List Addr) (rows : List (List D)),RowsR K M H rs rows -> RowsR K M' H rs rows
  | [],_,h => h
  | r :: rs,rows,h => by
    obtain ⟨row,rest,us,e,h1,h2,h3⟩ := h
    exact ⟨row,rest,us,e,h1,Reps.avoid k _ _ h2,RowsR.avoid k rs rest h3⟩
theorem RowsR.length : ∀ {rs : List Addr} {rows : List (List D)},RowsR K M H rs rows -> rows.length = rs.length
  | [],_,h => by rw [show _ = [] from h]; rfl
  | r :: rs,rows,h => by
    obtain ⟨row,rest,us,rfl,h1,h2,h3⟩ := h
    simp [RowsR.length h3]
theorem RowsR.lst : ∀ {rs : List Addr} {rows : List (List D)},RowsR K M H rs rows -> ∀ r ∈ rs,∃ us,H r = some (.lst us)
  | [],_,_,r,m => by cases m
  | r :: rs,rows,h,r',m => by
    obtain ⟨row,rest,us,rfl,h1,h2,h3⟩ := h
    rcases List.mem_cons.mp m with z | z
    · rw [z]; exact ⟨us,h1⟩
    · exact RowsR.lst h3 r' z
theorem RowsR.at : ∀ {rs : List Addr} {rows : List (List D)} {k : Nat} {r : Addr},RowsR K M H rs rows -> rs[k]? = some r -> ∃ row us,rows[k]? = some row /\ H r = some (.lst us) /\ Reps K M H row us
  | [],_,_,_,_,e => by simp at e
  | _ :: rs,rows,0,r,h,e => by
    obtain ⟨row,rest,us,rfl,h1,h2,h3⟩ := h
    simp at e; subst e
    exact ⟨row,us,rfl,h1,h2⟩
  | _ :: rs,rows,k + 1,r,h,e => by
    obtain ⟨row,rest,us,rfl,h1,h2,h3⟩ := h
    obtain ⟨row',us',e1,e2⟩ := RowsR.at (k := k) h3 (by simpa using e)
    exact ⟨row',us',by simpa using e1,e2⟩
theorem RowsR.set : ∀ {rs : List Addr} {rows : List (List D)} {k : Nat} {r : Addr} {row : List D} {us : List V},rs.Nodup -> (∀ c ∈ rs,M c) -> RowsR K M H rs rows -> rs[k]? = some r -> Reps K M H row us -> RowsR K M (upd H r (.lst us)) rs (rows.set k row)
  | [],_,_,_,_,_,_,_,_,e,_ => by simp at e
  | r0 :: rs,rows,0,r,row,us,nd,hm,h,e,hr => by
    obtain ⟨row0,rest,us0,rfl,h1,h2,h3⟩ := h
    simp at e; subst e
    have kk : ∀ c o,¬ M c -> H c = some o -> upd H r0 (.lst us) c = some o := fun c o n q => by rw [upd_ne (fun z => n (by rw [z]; exact hm r0 (List.mem_cons_self ..)))]; exact q
    refine ⟨row,rest,us,rfl,upd_same,Reps.keep kk _ _ hr,RowsR.keep rs rest (fun c o q e => ?_) h3⟩
    rcases q with q | q
    · exact kk c o q e
    · rw [upd_ne (fun z => (List.nodup_cons.mp nd).1 (by rw [<- z]; exact q))]; exact e
  | r0 :: rs,rows,k + 1,r,row,us,nd,hm,h,e,hr => by
    obtain ⟨row0,rest,us0,rfl,h1,h2,h3⟩ := h
    have er : rs[k]? = some r := by simpa using e
    have ne : r0 ≠ r := fun z => (List.nodup_cons.mp nd).1 (by rw [z]; exact List.mem_of_getElem? er)
    have kk : ∀ c o,¬ M c -> H c = some o -> upd H r (.lst us) c = some o := fun c o n q => by rw [upd_ne (fun z => n (by rw [z]; exact hm r (List.mem_cons_of_mem _ (List.mem_of_getElem? er))))]; exact q
    exact ⟨row0,rest.set k row,us0,rfl,by rw [upd_ne ne]; exact h1,Reps.keep kk _ _ h2,RowsR.set (List.nodup_cons.mp nd).2 (fun c m => hm c (List.mem_cons_of_mem _ m)) h3 er hr⟩
theorem RowsR.reps {A : List Addr} : ∀ (rs : List Addr) (rows : List (List D)),(∀ r ∈ rs,r ∈ A) -> RowsR K M H rs rows -> Reps K (fun c => M c /\ c ∉ A) H (rows.map D.lst) (rs.map V.ref)
  | [],rows,_,h => by rw [show rows = [] from h]; exact rfl
  | r :: rs,rows,hA,h => by
    obtain ⟨row,rest,us,rfl,h1,h2,h3⟩ := h
    exact ⟨.ref r,_,rfl,⟨r,us,rfl,⟨fun m => m.2 (hA r (List.mem_cons_self ..)),h1⟩,Reps.avoid (fun c m => .inl m.1) _ _ h2⟩,RowsR.reps rs rest (fun c m => hA c (List.mem_cons_of_mem _ m)) h3⟩
end
theorem StS.setFrg {W : Wd}{pn : List (D × V)}{M : Addr -> Prop}{b : Option Addr}{H : Hp}{σ : St}{ρ : Ev}{f f' : Frg}{d d' : D}{v : V}{a : Addr}{o : HO}(s : StS W pn M b H σ ρ)(i : Nat)(e : ρ[i]? = some (some (.frg f d)))(ev : σ[i]? = some (some v))(ha : a ∈ f.ads)(hads : ∀ c,c ∈ f'.ads -> c ∈ f.ads)(r : RepX W M b (upd H a o) (.frg f' d') v) :
    StS W pn M b (upd H a o) σ (ρ.set i (some (.frg f' d'))) := by
  obtain ⟨v0,e1,r0⟩ := s.env i _ e
  rw [ev] at e1; cases e1
  obtain ⟨m1,m2,m3,m4⟩ := r0.1 a ha
  have kk : ∀ c u,¬ M c -> H c = some u -> upd H a o c = some u := fun c u n q => by rw [upd_ne (show c ≠ a from fun z => n (by rw [z]; exact m1))]; exact q
  have kb : ∀ c u,c ≠ a -> H c = some u -> upd H a o c = some u := fun c u n q => by rw [upd_ne n]; exact q
  refine s.of2 ⟨⟨fun q z => W.B.st q H _ (s.ok q z) fun u h => kb q u (fun w => m2 (w ▸ z)) h,s.bagM,fun c hc => ?_,s.m0⟩,fun c u n q => kb c u (fun z => by rw [z,m3] at q; cases q) (s.kp c u n q),s.new,fun j d2 e' => ?_,by simp [s.len],fun q hq => (s.pin q hq).to (fun _ _ r => Rep.keep kk _ _ r) (fun _ _ r => Reps.keep kk _ _ r) fun zs a2 us ed ev2 m n hh2 => ⟨m,n,kb _ _ (fun y => s.lj zs a2 (by rw [<- ed,<- ev2]; exact hq) i _ _ e ev (show a2 ∈ f.ads by rw [y]; exact ha)) hh2⟩⟩ (fun _ _ q => q) fun j d2 v2 c e' e2 m => ?_
  · by_cases z : c = a
    · rw [z]; exact ⟨_,upd_same⟩
    · obtain ⟨u,q⟩ := s.dom c hc; exact ⟨u,kb c u z q⟩
  · by_cases z : i = j
    · subst z
      rw [List.getElem?_set] at e'
      simp at e'
      obtain ⟨hl,rfl⟩ := e'
      exact ⟨v,ev,r⟩
    · rw [List.getElem?_set_ne z] at e'
      obtain ⟨w,e1,r1⟩ := s.env j d2 e'
      refine ⟨w,e1,?_⟩
      have na : ¬ mineA d2 w a := fun y => z (s.dj i j _ _ _ _ a e e' ev e1 ha y)
      cases d2
      case own zs =>
        obtain ⟨a2,us2,rfl,n1,n2,n3,n4,hh2,r2⟩ := r1
        exact ⟨a2,us2,rfl,n1,n2,n3,n4,kb _ _ (fun y => na (by rw [y]; rfl)) hh2,Reps.keep kk _ _ r2⟩
      case bag => exact r1
      case frg f2 _ => exact RepX.move r1 (fun c _ m n => ⟨m,n⟩) (fun c u q h => kb c u (fun y => q.elim (fun n => n (by rw [y]; exact m1)) (fun n => na (by show a ∈ f2.ads; rw [<- y]; exact n))) h) fun c m => .inl m
      all_goals exact Rep.keep kk _ _ r1
  · by_cases z : i = j
    · subst z
      rw [List.getElem?_set] at e'
      simp at e'
      obtain ⟨_,rfl⟩ := e'
      exact ⟨_,e,e2,hads c m⟩
    · rw [List.getElem?_set_ne z] at e'
      exact ⟨d2,e',e2,m⟩
theorem RepX.grow {W : Wd}{M M' : Addr -> Prop}{b : Option Addr}{H H' : Hp}{d : D}{v : V}(hM : ∀ c,M' c -> M c \/ H c = none)(sub : ∀ c,M c -> M' c)(hb : ∀ p,b = some p -> M p)(kp : Kp b H H')(r : RepX W M b H d v) : RepX W M' b H' d v := by
  have kk : ∀ c o,¬ M' c -> H c = some o -> H' c = some o := fun c o n e => kp c o (fun z => n (sub c (hb c z))) e
  cases d
  case own ys =>
    obtain ⟨a,us,rfl,m1,m2,m3,m4,hha,r'⟩ := r
    exact ⟨a,us,rfl,sub a m1,m2,m3,m4,kp _ _ m2 hha,Reps.keep kk _ _ (Reps.avoid hM _ _ r')⟩
  case bag => exact r
  case frg f _ => exact RepX.move r (fun c _ m n => ⟨sub c m,n⟩) (fun c o q e => q.elim (fun n => kk c o n e) fun m => kp c o (r.1 c m).2.1 e) hM
  all_goals exact Rep.keep kk _ _ (Rep.avoid hM _ _ r)
theorem Sta.grow {W : Wd}{pn : List (D × V)}{M M' : Addr -> Prop}{b : Option Addr}{H H' : Hp}{σ : St}{ρ : Ev}(s : Sta W pn M b H σ ρ)(hM : ∀ c,M' c -> M c \/ H c = none)(sub : ∀ c,M c -> M' c)(kp : Kp b H H')(ok : okB W.B b H')(dom : ∀ c,M' c -> ∃ o,H' c = some o) : Sta W pn M' b H' σ ρ := by
  have kk : ∀ c o,¬ M' c -> H c = some o -> H' c = some o := fun c o n e => kp c o (fun z => n (sub c (s.bagM c z))) e
  refine ⟨⟨ok,fun q e => sub q (s.bagM q e),dom,fun c m => sub c (s.m0 c m)⟩,(s.step kp ok).kp,s.new,fun j d e => ?_,s.len,fun q hq => (s.pin q hq).to (fun _ _ r => Rep.keep kk _ _ (Rep.avoid hM _ _ r)) (fun _ _ r => Reps.keep kk _ _ (Reps.avoid hM _ _ r)) fun xs a vs _ _ m n hh' => ⟨sub a m,n,kp _ _ n hh'⟩⟩
  obtain ⟨w,e1,r1⟩ := s.env j d e
  exact ⟨w,e1,r1.grow hM sub s.bagM kp⟩
end L2
set_option Elab.async false
set_option linter.all false
set_option maxRecDepth 100000
set_option maxHeartbeats 4000000
namespace L2
open PySem PySem.Spec PyProof.Rows
def dnF (W : Wd)(d : DA) : TE := fun σ H Q => ∃ pn M b ρ P,Sta W pn M b H σ ρ /\ d ρ P /\ ∀ xs vs p H',P xs -> H p = none -> H' p = some (.lst vs) -> Reps W.K (fun c => M c \/ c = p) H' xs vs -> Kp b H H' -> okB W.B b H' -> Q (.ref p) H'
structure JF (X : Cx)(W : Wd)(e : Expr)(d : DA) : Prop where
  h : PE X e (dnF W d)
theorem was_new {B : BagT}{b : Option Addr}{H H' : Hp}{p : Addr}(k : Kp b H H')(o : okB B b H')(h : H' p = none) : H p = none := by
  cases q : H p with
  | none => rfl
  | some u =>
    by_cases z : b = some p
    · obtain ⟨w,e⟩ := B.dm p H' (o p z)
      rw [h] at e; cases e
    · have := k p u z q
      rw [h] at this; cases this
section
variable {X : Cx}{W : Wd}{elt iter tg : Expr}{ifs : List Expr}{scope : Scope}{pos : Pos}{N' : List Str}{map : List (Option Nat)}{g : TG}{gd : D -> Ev -> (Ev -> Prop) -> Prop}{di : DA}{dt : DT}{de : DE}
def dCompF (map : List (Option Nat))(gd : D -> Ev -> (Ev -> Prop) -> Prop)(di : DA)(dt : DT)(de : DE) : DA := fun ρ P => di ρ fun items => items.length <= 1000 /\ compI gd dt de (captD ρ map) items P
theorem jdf_comp (hG : GD W g gd)(B : Blk X N' scope map tg elt ifs g (dnT W dt) (dn W de))(hi : JI X W false tg iter di)(hs : ∀ x,foldedSetIterable iter X.env x = pure x := by intro _; rfl) : JF X W (.ListComp elt [⟨tg,iter,ifs,0⟩] scope pos) (dCompF map gd di dt de) := ⟨(pe_comp B hi.h hs).mono fun σ H Q hh => by
  obtain ⟨pn,M,b,ρ,P,st,h,k⟩ := hh
  refine ⟨pn,M,b,ρ,_,st,h,fun items J need H1 hx hp hI hn k1 o1 => ?_⟩
  have st1 := st.step k1 o1
  refine comp_turns hG (st1.capt map) hp hI (fun q hq => (hn q hq).1) hx.1 hx.2 fun ds acc H' hP r hl k2 o2 D hD => ?_
  exact k ds acc D _ hP (was_new (k1.trans k2) o2 hD) upd_same (Reps.keep (fun c o _ e => Same.upd hD c o e) _ _ (Reps.avoid (fun c z => z.imp id fun y => by rw [y]; exact hD) _ _ r)) ((k1.trans k2).trans (Kp.upd hD)) ((st1.step k2 o2).okU hD)⟩
end
abbrev DSG := List D -> (List (List D) -> Prop) -> (Addr -> Prop) -> Prop
end L2
set_option Elab.async false
set_option linter.all false
set_option maxRecDepth 100000
set_option maxHeartbeats 4000000
namespace L2
open PySem PySem.Spec PyProof.Rows
theorem RowsR.unbor {K : PySem.W.Frag}{M M' : Addr -> Prop}{H : Hp}(k : ∀ c,M c -> M' c \/ ∃ o,H c = some o /\ ∀ vs,o ≠ .tup vs) : ∀ (rs : List Addr) (rows : List (List D)),(∀ r ∈ rows,noLs r = true) -> RowsR K M' H rs rows -> RowsR K M H rs rows
  | [],_,_,h => h
  | r :: rs,rows,n,h => by
    obtain ⟨row,rest,us,rfl,h1,h2,h3⟩ := h
    exact ⟨row,rest,us,rfl,h1,Reps.unbor k _ _ (n row (List.mem_cons_self ..)) h2,RowsR.unbor k rs rest (fun r m => n r (List.mem_cons_of_mem _ m)) h3⟩
section
variable {X : Cx}{W : Wd}{e a b c tg iter l : Expr}{es : List Expr}{pos p : Pos}{d da db dc dl de : DE}{dA di : DA}{dt : DT}{fz : Bool}{x : Str}{k : Nat}{ps : List Str}{S : DSG}
end
end L2
set_option Elab.async false
set_option linter.all false
set_option maxRecDepth 100000
set_option maxHeartbeats 4000000
namespace L2
open PySem PySem.Spec PyProof.Rows
section
variable {X : Cx}{W : Wd}{e a b c tg iter l : Expr}{es : List Expr}{pos p : Pos}{dA : DA}{x : Str}{k : Nat}{ps : List Str}{S : DSG}{So : DSO}
end
end L2
set_option Elab.async false
set_option linter.all false
set_option maxRecDepth 100000
set_option maxHeartbeats 4000000
namespace L2
open PySem PySem.Spec PyProof.Rows
section
variable {X : Cx}{W : Wd}{e a b c tg iter l : Expr}{es : List Expr}{pos p : Pos}{dA : DA}
theorem StS.thaw {pn : List (D × V)}{M : Addr -> Prop}{b : Option Addr}{H : Hp}{σ : St}{ρ : Ev}{i : Nat}{f : Frg}{d : D}(s : StS W pn M b H σ ρ)(e : ρ[i]? = some (some (.frg f d))) : StS W pn (fun c => M c /\ c ∉ f.ads) b H σ (ρ.set i (some d)) := by
  obtain ⟨v,e1,r⟩ := s.env i _ e
  have pd : plain d = true := by
    have := r.2.2
    cases d <;> first | rfl | exact this.elim
  have st : Sta W pn (fun c => M c /\ c ∉ f.ads) b H σ (ρ.set i none) := by
    refine Sta.avoid (M := M) ⟨s.toHs,s.kp,s.new,fun j d' e' => ?_,by simp [s.len],s.pin⟩ (fun c m => m.1) (fun p z => ⟨s.bagM p z,fun y => (r.1 p y).2.1 z⟩) (fun c m => ⟨s.m0 c m,fun y => (r.1 c y).2.2.2 m⟩) (fun j d' v' c' e' e2 mm => ?_) fun ys a' hq => ⟨by
      obtain ⟨a2,us2,ev,n1,_⟩ := (s.pin _ hq)
      cases ev; exact n1,fun y => s.lj ys a' hq i _ _ e e1 y⟩
    · by_cases z : i = j
      · subst z; rw [List.getElem?_set] at e'; simp at e'
      · rw [List.getElem?_set_ne z] at e'; exact s.env j d' e'
    · by_cases z : i = j
      · subst z; rw [List.getElem?_set] at e'; simp at e'
      · rw [List.getElem?_set_ne z] at e'
        obtain ⟨v3,e3,r3⟩ := s.env j _ e'
        rw [e2] at e3; cases e3
        exact ⟨(r3.mine mm).1,fun y => z (s.dj i j _ _ _ _ c' e e' e1 e2 y mm)⟩
  have st2 := st.set (x := d) (v := v) i (Rep.x r.2.2)
  rw [set_same e1,List.set_set] at st2
  refine s.of st2 fun j d' hm e' => ?_
  by_cases z : i = j
  · subst z
    rw [List.getElem?_set] at e'
    simp at e'
    rw [<- e'.2] at hm
    cases d <;> first | (cases hm; done) | (cases pd; done)
  · rw [List.getElem?_set_ne z] at e'; exact ⟨e',rfl⟩
def dThawS (i : Nat)(d : DS) : DS := fun F ρ => match ρ[i]? with | some (some (.frg _ x)) => d F (ρ.set i (some x)) | _ => False
theorem jdss_thaw {sts : List Stmt}{d : DS}(i : Nat)(h : JSs X W sts d) : JSs X W sts (dThawS i d) := ⟨h.h.mono fun E σ H hh => hh.elim fun pn M b ρ F s l q => by
  unfold dThawS at q
  split at q
  case h_2 => exact q.elim
  case h_1 f x e => exact ⟨pn,_,b,_,F,s.thaw e,l,q⟩⟩
end
end L2
set_option Elab.async false
set_option linter.all false
set_option maxRecDepth 100000
set_option maxHeartbeats 4000000
namespace L2
open PySem PySem.Spec PyProof.Rows
section
variable {X : Cx}{W : Wd}{e a b c tg iter l : Expr}{es : List Expr}{pos p : Pos}{dA : DA}
def oRep : D -> D -> (D -> Prop) -> Prop := fun x y P => match asL x,y with
  | some xs,.int k => (-(2 ^ 63) <= k /\ k < 2 ^ 63 /\ xs.length * k.toNat <= 1000) /\ P (.lst (List.replicate k.toNat xs).flatten)
  | _,_ => False
theorem Reps.times {K : PySem.W.Frag}{M : Addr -> Prop}{H : Hp}{ds : List D}{vs : List V}(h : Reps K M H ds vs) : ∀ n : Nat,Reps K M H (List.replicate n ds).flatten (List.replicate n vs).flatten
  | 0 => rfl
  | n + 1 => by
    rw [List.replicate_succ,List.replicate_succ,List.flatten_cons,List.flatten_cons]
    exact Reps.append h (Reps.times h n)
theorem od_rep : OpD W rRep oRep := by
  intro M b H x y v u P Q hs rx ry ho k
  unfold oRep at ho
  split at ho
  case h_2 => exact ho.elim
  case h_1 xs n e1 =>
    obtain ⟨a1,vs,rfl,h1,r1⟩ := asL.rep rx e1
    cases (show u = .int n from ry)
    exact ⟨a1,n,vs,rfl,rfl,h1,ho.1.1,ho.1.2.1,by rw [r1.length]; exact Nat.le_trans ho.1.2.2 le1000,fun p hp => k _ _ _ ho.2 (new_lst hs (Reps.times r1 n.toNat) hp) (Kp.upd hp) (hs.okU hp)⟩
end
end L2
set_option Elab.async false
set_option linter.all false
set_option maxRecDepth 100000
set_option maxHeartbeats 4000000
namespace L2
open PySem PySem.Spec PyProof.Rows
section
variable {X : Cx}{W : Wd}{pos : Pos}{dA : DA}
end
end L2
set_option Elab.async false
set_option linter.all false
set_option maxRecDepth 100000
set_option maxHeartbeats 4000000
namespace L2
open PySem PySem.Spec PyProof.Rows
section
variable {X : Cx}{W : Wd}{a b : Expr}{rest : List Expr}{pos : Pos}{da db : DE3}
end
end L2
set_option Elab.async false
set_option linter.all false
set_option maxRecDepth 100000
set_option maxHeartbeats 4000000
namespace L2
open PySem PySem.Spec PyProof.Rows
def dF (K : PySem.W.Frag)(d : D) : Frg where
  ads := []
  R := fun M H v => (∃ a,v = .ref a) /\ Rep K M H d v
  keep := fun M H H' v k h => ⟨h.1,Rep.keep (fun c o n e => k c o (.inl n) e) _ _ h.2⟩
  avoid := fun M M' H v k h => ⟨h.1,Rep.avoid k _ _ h.2⟩
  ref := fun M H v h => h.1
  nt := fun M H v h c m => by cases m
structure PNew (K : PySem.W.Frag)(M : Addr -> Prop)(H H' : Hp)(f : Frg)(d : D)(v : V) : Prop where
  new : ∀ c ∈ f.ads,H c = none
  R : f.R (fun c => M c \/ c ∈ f.ads) H' v
  rep : Rep K M H' d v
abbrev DSP3 := List D -> (Frg -> D -> Om) -> Om
section
variable {X : Cx}{W : Wd}{e a b c tg iter l : Expr}{es : List Expr}{pos p : Pos}{de : DE3}{dA di : DA3}{dt : DT3}{x : Str}{k : Nat}{ps : List Str}{S : DSP3}
end
end L2
set_option Elab.async false
set_option linter.all false
set_option maxRecDepth 100000
set_option maxHeartbeats 4000000
namespace L2
open PySem PySem.Spec PyProof.Rows
section
variable {X : Cx}{W : Wd}{e : Expr}{pos : Pos}{de : DE3}{dA : DA3}
end
end L2
set_option Elab.async false
set_option linter.all false
set_option maxRecDepth 100000
set_option maxHeartbeats 4000000
namespace L2
open PySem PySem.Spec PyProof.Rows
end L2
set_option Elab.async false
set_option linter.all false
set_option maxRecDepth 100000
set_option maxHeartbeats 4000000
namespace L2
open PySem PySem.Spec PyProof.Rows
def itemsP : PyData -> Option (List PyData)
  | .list ps => some ps
  | .tuple ps => some ps
  | _ => none
def rInG (K : PySem.W.Frag)(neg : Bool) : R2 := fun x y H Q => ∃ M dx dy p q ps,RepG K M H dx x /\ RepG K M H dy y /\ pyOf dx = some p /\ pyOf dy = some q /\ itemsP q = some ps /\ min (PyData.depthAll ps) p.depth <= 60 /\ Q (.bl ((ps.any fun y => PyData.eqv y p) != neg)) H
theorem layAll {ps : List PyData}{q : PyData}(h : q.canLay0 = true)(e : itemsP q = some ps) : PyData.canLayAll0 ps = true := by
  cases q <;> simp [itemsP] at e
  all_goals
    subst e
    unfold PyData.canLay0 at h
    exact h
theorem op_inG {X : Cx}(K : PySem.W.Frag)(hK : X.K = K)(hu : X.A.units + 64 < cLine) : OpR X (compareOp .In) (rInG K false) := by
  subst hK
  intro pins s σ H x y v u Q I rx ry h
  obtain ⟨M,dx,dy,p,q,ps,r1,r2,e1,e2,e3,hd,hq⟩ := h
  obtain ⟨as,a1⟩ := repG_reads I r1 rx e1
  obtain ⟨bs,a2⟩ := repG_reads I r2 ry e2
  have l2 := layAll (pyOf.lay _ _ e2) e3
  cases q <;> simp [itemsP] at e3
  case list qs => subst e3; exact SeqAt.in_list_reads a2 a1 l2 (pyOf.lay _ _ e1) (by omega) ⟨.bl _,H,I,rfl,by simpa using hq⟩
  case tuple qs => subst e3; exact SeqAt.in_tuple_reads a2 a1 l2 (pyOf.lay _ _ e1) (by omega) ⟨.bl _,H,I,rfl,by simpa using hq⟩
theorem op_notinG {X : Cx}(K : PySem.W.Frag)(hK : X.K = K)(hu : X.A.units + 64 < cLine) : OpR X (compareOp .NotIn) (rInG K true) := by
  subst hK
  intro pins s σ H x y v u Q I rx ry h
  obtain ⟨M,dx,dy,p,q,ps,r1,r2,e1,e2,e3,hd,hq⟩ := h
  obtain ⟨as,a1⟩ := repG_reads I r1 rx e1
  obtain ⟨bs,a2⟩ := repG_reads I r2 ry e2
  have l2 := layAll (pyOf.lay _ _ e2) e3
  cases q <;> simp [itemsP] at e3
  case list qs => subst e3; exact SeqAt.notIn_list_reads a2 a1 l2 (pyOf.lay _ _ e1) (by omega) ⟨.bl _,H,I,rfl,by simpa using hq⟩
  case tuple qs => subst e3; exact SeqAt.notIn_tuple_reads a2 a1 l2 (pyOf.lay _ _ e1) (by omega) ⟨.bl _,H,I,rfl,by simpa using hq⟩
inductive InG (neg : Bool)(x y : D)(P : D -> Prop) : Prop
  | mk (p q : PyData) (ps : List PyData) (e1 : pyOf x = some p) (e2 : pyOf y = some q) (e3 : itemsP q = some ps) (hd : min (PyData.depthAll ps) p.depth <= 60) (h : P (.bl ((ps.any fun y => PyData.eqv y p) != neg))) : InG neg x y P
def oInG (neg : Bool) : D -> D -> (D -> Prop) -> Prop := fun x y P => InG neg x y P
theorem od_inG {W : Wd}{neg : Bool} : OpD W (rInG W.K neg) (oInG neg) := by
  intro M b H x y v u P Q hs rx ry ho k
  obtain ⟨p,q,ps,e1,e2,e3,hd,hp⟩ := ho
  exact ⟨M,x,y,p,q,ps,rx.g e1,ry.g e2,e1,e2,e3,hd,k _ _ H hp (show _ = _ from rfl) (Kp.refl _ _) hs.ok⟩
theorem any_ints (ns : List Int)(n : Int) : ((ns.map PyData.int).any fun y => PyData.eqv y (.int n)) = decide (n ∈ ns) := by
  induction ns with
  | nil => rfl
  | cons m ns ih =>
    rw [List.map_cons,List.any_cons,ih]
    have : PyData.eqv (.int m) (.int n) = decide (m = n) := by simp only [PyData.eqv]; rfl
    rw [this]
    by_cases z : m = n
    · simp [z]
    · have : ¬ n = m := fun y => z y.symm
      simp [z,this]
theorem pys_ints : ∀ ns : List Int,pysOf (ns.map D.int) = some (ns.map PyData.int)
  | [] => rfl
  | n :: ns => by rw [List.map_cons]; unfold pysOf; rw [pys_ints ns]; rfl
theorem inG_ints {neg : Bool}{n : Int}{ns : List Int}{y : D}{P : D -> Prop}(e : y = .tup (ns.map D.int) \/ y = .lst (ns.map D.int) \/ y = .own (ns.map D.int))(h : P (.bl (decide (n ∈ ns) != neg))) : InG neg (.int n) y P := by
  have hd : min (PyData.depthAll (ns.map PyData.int)) (PyData.int n).depth <= 60 := Nat.le_trans (Nat.min_le_right _ _) (by show 0 <= 60; omega)
  rcases e with rfl | rfl | rfl
  · exact ⟨.int n,.tuple (ns.map .int),ns.map .int,rfl,by unfold pyOf; rw [pys_ints]; rfl,rfl,hd,by rw [any_ints]; exact h⟩
  · exact ⟨.int n,.list (ns.map .int),ns.map .int,rfl,by unfold pyOf; rw [pys_ints]; rfl,rfl,hd,by rw [any_ints]; exact h⟩
  · exact ⟨.int n,.list (ns.map .int),ns.map .int,rfl,by unfold pyOf; rw [pys_ints]; rfl,rfl,hd,by rw [any_ints]; exact h⟩
end L2
set_option Elab.async false
set_option linter.all false
set_option maxRecDepth 100000
set_option maxHeartbeats 4000000
namespace L2
open PySem PySem.Spec PyProof.Rows
structure Pc where
  (a : Addr) (f : Frg) (d : D)
abbrev Pc.g (p : Pc) : D := .frg p.f p.d
def Pc.at (p : Pc) : Prop := ∀ M H v,p.f.R M H v -> v = .ref p.a
def adsP (ps : List Pc) : List Addr := ps.flatMap fun p => p.f.ads
def likeP (ps ps' : List Pc) : Prop := ps'.map (fun p => (p.a,p.f.ads)) = ps.map fun p => (p.a,p.f.ads)
theorem likeP.get {ps ps' : List Pc}{i : Nat}{p' : Pc}(h : likeP ps ps')(e : ps'[i]? = some p') : ∃ p,ps[i]? = some p /\ p'.a = p.a /\ p'.f.ads = p.f.ads := by
  have q := congrArg (fun l => l[i]?) h
  simp only [List.getElem?_map,e,Option.map_some] at q
  obtain ⟨p,e1,e2⟩ := Option.map_eq_some_iff.mp q.symm
  simp only [Prod.mk.injEq] at e2
  exact ⟨p,e1,e2.1.symm,e2.2.symm⟩
abbrev DSU := List Pc -> List D -> (List Pc -> D -> Prop) -> Prop
end L2
set_option Elab.async false
set_option linter.all false
set_option maxRecDepth 100000
set_option maxHeartbeats 4000000
namespace L2
open PySem PySem.Spec PyProof.Rows
section
variable {W : Wd}{pn : List (D × V)}{M : Addr -> Prop}{b : Option Addr}{H H' : Hp}{σ : St}{ρ : Ev}{js : List Nat}{ps ps' : List Pc}
def heldP (js : List Nat)(ps : List Pc)(ρ : Ev) : Prop := js.length = ps.length /\ ∀ (k : Nat) p,ps[k]? = some p -> p.at /\ ∃ j,js[k]? = some j /\ ρ[j]? = some (some p.g)
theorem heldP.ads (s : StS W pn M b H σ ρ)(h : heldP js ps ρ){c : Addr}(m : c ∈ adsP ps) : ∃ (k j : Nat) (p : Pc),ps[k]? = some p /\ js[k]? = some j /\ ρ[j]? = some (some p.g) /\ c ∈ p.f.ads /\ σ[j]? = some (some (.ref p.a)) /\ RepX W M b H p.g (.ref p.a) := by
  obtain ⟨p,mp,mc⟩ := List.mem_flatMap.mp m
  obtain ⟨k,ek⟩ := List.getElem?_of_mem mp
  obtain ⟨pa,j,ej,er⟩ := h.2 k p ek
  obtain ⟨v,ev,r⟩ := s.env j _ er
  have hv := pa _ _ _ r.2.1
  subst hv
  exact ⟨k,j,p,ek,ej,er,mc,ev,r⟩
end
section
variable {X : Cx}{W : Wd}{S : DSU}{dA : DA}{pos : Pos}
end
end L2
set_option Elab.async false
set_option linter.all false
set_option maxRecDepth 100000
set_option maxHeartbeats 4000000
namespace L2
open PySem PySem.Spec PyProof.Rows
def dctR (K : PySem.W.Frag)(a : Addr)(t : Tg)(ks : List (List Int))(xs : List D)(M : Addr -> Prop)(H : Hp)(v : V) : Prop := v = .ref a /\ ∃ vs : List V,H a = some (DOb a t.1 t.2) /\ DctE K M H t.1 ks vs /\ Reps K M H xs vs
def dctF (K : PySem.W.Frag)(a : Addr)(t : Tg)(ks : List (List Int))(xs : List D) : Frg where
  ads := [a]
  R := dctR K a t ks xs
  keep := fun M H H' v k ⟨e,vs,h,hE,r⟩ => ⟨e,vs,k a _ (.inr (List.mem_cons_self ..)) h,hE.keep fun c o n q => k c o (.inl n) q,Reps.keep (fun c o n q => k c o (.inl n) q) _ _ r⟩
  avoid := fun M M' H v k ⟨e,vs,h,hE,r⟩ => ⟨e,vs,h,hE.avoid k,Reps.avoid k _ _ r⟩
  ref := fun M H v h => ⟨a,h.1⟩
  nt := fun M H v ⟨e,vs,h,hE,r⟩ c m => by
    rw [List.mem_singleton.mp m]
    exact ⟨_,h,fun vs z => by cases z⟩
abbrev dcg (K : PySem.W.Frag)(a : Addr)(t : Tg)(ks : List (List Int))(xs : List D) : D := .frg (dctF K a t ks xs) (.dct t ks xs)
section
variable {W : Wd}{pn : List (D × V)}{M : Addr -> Prop}{b : Option Addr}{H H' : Hp}{σ : St}{ρ : Ev}{a : Addr}{ks : List (List Int)}{xs : List D}{t : Tg}{vs : List V}
theorem dcg_rep (ow : M a /\ b ≠ some a /\ W.H0 a = none /\ ¬ W.M0 a)(h : H a = some (DOb a t.1 t.2))(hE : DctE W.K M H t.1 ks vs)(r : Reps W.K M H xs vs) : RepX W M b H (dcg W.K a t ks xs) (.ref a) :=
  ⟨fun c m => by rw [List.mem_singleton.mp m]; exact ow,⟨rfl,vs,h,hE,r⟩,a,vs,rfl,⟨fun z => z.2 (List.mem_cons_self ..),h,hE.avoid fun c m => .inl m.1⟩,Reps.avoid (fun c m => .inl m.1) _ _ r⟩
theorem dcg_of {v : V}(r : RepX W M b H (dcg W.K a t ks xs) v) : v = .ref a /\ (M a /\ b ≠ some a /\ W.H0 a = none /\ ¬ W.M0 a) /\ ∃ vs,H a = some (DOb a t.1 t.2) /\ DctE W.K M H t.1 ks vs /\ Reps W.K M H xs vs := by
  obtain ⟨ow,⟨e,q⟩,_⟩ := r
  exact ⟨e,ow a (List.mem_cons_self ..),q⟩
def asD (K : PySem.W.Frag)(d : D)(t : Tg)(ks : List (List Int))(xs : List D) : Prop := d = .dct t ks xs \/ ∃ a,d = dcg K a t ks xs
theorem asD.rep {d : D}{v : V}(h : asD W.K d t ks xs)(r : RepX W M b H d v) : ∃ a vs,v = .ref a /\ H a = some (DOb a t.1 t.2) /\ DctE W.K M H t.1 ks vs /\ Reps W.K M H xs vs := by
  rcases h with rfl | ⟨a,rfl⟩
  · obtain ⟨a,vs,e,⟨_,h,hE⟩,rr⟩ := r
    exact ⟨a,vs,e,h,hE,rr⟩
  · obtain ⟨e,_,vs,h,hE,rr⟩ := dcg_of r
    exact ⟨a,vs,e,h,hE,rr⟩
end
def repD : List (List Int) -> List D -> List Int -> D -> List D
  | k :: ks,x :: xs,n,z => (if k = n then z else x) :: repD ks xs n z
  | _,xs,_,_ => xs
def putD (ks : List (List Int))(xs : List D)(n : List Int)(z : D) : List (List Int) × List D := if n ∈ ks then (ks,repD ks xs n z) else (ks ++ [n],xs ++ [z])
theorem repD_len {n : List Int}{z : D} : ∀ (ks : List (List Int)) (xs : List D),(repD ks xs n z).length = xs.length
  | [],xs => by unfold repD; rfl
  | k :: ks,[] => by unfold repD; rfl
  | k :: ks,x :: xs => by unfold repD; simp [repD_len ks xs]
theorem putD_len {n : List Int}{z : D}(ks : List (List Int))(xs : List D)(h : ks.length = xs.length) : (putD ks xs n z).1.length = (putD ks xs n z).2.length := by
  unfold putD
  split
  · rw [repD_len]; exact h
  · simp [h]
theorem putD_keys {n : List Int}{z : D}(ks : List (List Int))(xs : List D) : (putD ks xs n z).1 = if n ∈ ks then ks else ks ++ [n] := by
  unfold putD
  split <;> rfl
theorem putD_nodup {n : List Int}{z : D}{ks : List (List Int)}{xs : List D}(h : ks.Nodup) : (putD ks xs n z).1.Nodup := by
  rw [putD_keys]
  split
  · exact h
  · rename_i q
    exact List.nodup_append.mpr ⟨h,List.nodup_cons.mpr ⟨(fun m => by cases m),List.nodup_nil⟩,fun a ha b hb e => q (by rw [List.mem_singleton.mp hb] at e; rw [<- e]; exact ha)⟩
theorem findD_app {m n : List Int}{z : D} : ∀ {ks : List (List Int)} {xs : List D},ks.length = xs.length -> n ∉ ks -> findD (ks ++ [n]) (xs ++ [z]) m = if n = m then some z else findD ks xs m
  | [],[],_,_ => by simp [findD]
  | [],_ :: _,h,_ => by simp at h
  | _ :: _,[],h,_ => by simp at h
  | k :: ks,x :: xs,h,nm => by
    rw [List.mem_cons,not_or] at nm
    have ih := findD_app (m := m) (z := z) (ks := ks) (xs := xs) (by simpa using h) nm.2
    rw [List.cons_append,List.cons_append]
    unfold findD
    rw [ih]
    by_cases e : k = m
    · have : ¬ n = m := fun y => nm.1 (by rw [y,e])
      simp [e,this]
    · simp [e]
theorem findD_rep' {m n : List Int}{z : D} : ∀ {ks : List (List Int)} {xs : List D},ks.length = xs.length -> findD ks (repD ks xs n z) m = if n = m /\ n ∈ ks then some z else findD ks xs m
  | [],[],_ => by simp [findD,repD]
  | [],_ :: _,h => by simp at h
  | _ :: _,[],h => by simp at h
  | k :: ks,x :: xs,h => by
    have ih := findD_rep' (m := m) (n := n) (z := z) (ks := ks) (xs := xs) (by simpa using h)
    unfold repD findD
    rw [ih]
    by_cases e : k = m
    · subst e
      by_cases y : k = n
      · subst y; simp
      · have y2 : ¬ n = k := fun q => y q.symm
        simp [y,y2]
    · rw [if_neg e,if_neg e]
      by_cases y : n = m
      · subst y
        have : ¬ n = k := fun q => e q.symm
        simp [this]
      · simp [y]
theorem putD_find {n m : List Int}{z : D}(ks : List (List Int))(xs : List D)(h : ks.length = xs.length) : findD (putD ks xs n z).1 (putD ks xs n z).2 m = if n = m then some z else findD ks xs m := by
  unfold putD
  by_cases q : n ∈ ks
  · rw [if_pos q]
    show findD ks (repD ks xs n z) m = _
    rw [findD_rep' h]
    by_cases e : n = m
    · simp [e,e ▸ q]
    · simp [e]
  · rw [if_neg q]
    exact findD_app h q
section
variable {K : PySem.W.Frag}{M : Addr -> Prop}{H : Hp}{n : List Int}{z : D}{v : V}{u : Value}{b : Addr}
theorem atKey_mem : ∀ {es : Ens},(atKey es n).isSome = true ↔ n ∈ es.map (·.1)
  | [] => by simp [atKey]
  | e :: es => by
    rw [atKey_cons,List.map_cons,List.mem_cons]
    by_cases q : e.1 = n
    · simp [q]
    · rw [if_neg q,atKey_mem]
      exact ⟨.inr,fun y => y.elim (fun w => absurd w.symm q) id⟩
theorem put_keys : ∀ (es : Ens),(es.map (putAt n u)).map (·.1) = es.map (·.1)
  | [] => rfl
  | e :: es => by
    rw [List.map_cons,List.map_cons,List.map_cons,put_keys es]
    congr 1
    unfold putAt
    split <;> rfl
theorem put_ads : ∀ (es : Ens),(es.map (putAt n u)).map (fun e => (e.1,e.2.1)) = es.map fun e => (e.1,e.2.1)
  | [] => rfl
  | e :: es => by
    rw [List.map_cons,List.map_cons,List.map_cons,put_ads es]
    congr 1
    unfold putAt
    split <;> rfl
theorem put_vals (rv : RelV v u)(rz : Rep K M H z v) : ∀ {es : Ens} {vs : List V} {xs : List D},Vals vs (es.map (·.2.2)) -> Reps K M H xs vs -> ∃ vs',Vals vs' ((es.map (putAt n u)).map (·.2.2)) /\ Reps K M H (repD (es.map (·.1)) xs n z) vs'
  | [],vs,xs,hv,r => by
    cases hv
    rw [List.map_nil]
    unfold repD
    exact ⟨[],.nil,r⟩
  | e :: es,vs,[],hv,r => by
    rw [show vs = [] from r] at hv
    cases hv
  | e :: es,_,x :: xs,hv,r => by
    obtain ⟨v0,vs,rfl,rx,rr⟩ := r
    rw [List.map_cons] at hv
    cases hv with
    | cons h1 h2 =>
    obtain ⟨vs',i1,i2⟩ := put_vals rv rz h2 rr
    rw [List.map_cons,List.map_cons,List.map_cons]
    unfold repD
    by_cases q : e.1 = n
    · refine ⟨v :: vs',.cons ?_ i1,v,vs',rfl,?_,i2⟩
      · unfold putAt; rw [if_pos q]; exact rv
      · rw [if_pos q]; exact rz
    · refine ⟨v0 :: vs',.cons ?_ i1,v0,vs',rfl,?_,i2⟩
      · unfold putAt; rw [if_neg q]; exact h1
      · rw [if_neg q]; exact rx
theorem put_rep {es : Ens}{ks : List (List Int)}{vs : List V}{xs : List D}(hb : TpA K M H b (n.map V.int))(rv : RelV v u)(rz : Rep K M H z v)(hE : DctE K M H es ks vs)(r : Reps K M H xs vs) : ∃ vs',DctE K M H (storedH es n b u) (putD ks xs n z).1 vs' /\ Reps K M H (putD ks xs n z).2 vs' := by
  obtain ⟨e1,e2,e3⟩ := hE
  subst e1
  unfold storedH putD
  by_cases q : n ∈ es.map (·.1)
  · rw [if_pos (atKey_mem.mpr q),if_pos q]
    obtain ⟨vs',i1,i2⟩ := put_vals (n := n) rv rz e3 r
    refine ⟨vs',⟨put_keys es,fun e m => ?_,i1⟩,i2⟩
    have : (e.1,e.2.1) ∈ es.map fun e => (e.1,e.2.1) := by rw [<- put_ads (n := n) (u := u) es]; exact List.mem_map.mpr ⟨e,m,rfl⟩
    obtain ⟨e',m',q'⟩ := List.mem_map.mp this
    have h := e2 e' m'
    injection q' with q1 q2
    rw [q1,q2] at h
    exact h
  · rw [if_neg (fun y => q (atKey_mem.mp y)),if_neg q]
    refine ⟨vs ++ [v],⟨by simp,fun e m => ?_,?_⟩,Reps.append r ⟨v,[],rfl,rz,rfl⟩⟩
    · rcases List.mem_append.mp m with y | y
      · exact e2 e y
      · rw [List.mem_singleton.mp y]; exact hb
    · rw [List.map_append]
      exact Paired.snoc e3 rv
end
section
variable {X : Cx}{W : Wd}{pos : Pos}
def dSetDN (K : PySem.W.Frag)(i : Nat) : DS := fun F ρ => ∀ a t,F.nx (ρ.set i (some (dcg K a t [] [])))
theorem jds_setDN {i : Nat}{y : Str}{py dpos : Pos}(hN : X.N.Nodup)(hiN : X.N[i]? = some y)(hy : Loc X.env.scope y)
    (hs : swapsWith (.Dict [] [] dpos) (some (.Name y py)) pos.line X.env = pure false := by rfl) (hf : X.fn y = true \/ X.env.scope.names.lookup y = some .local := by first | exact .inl rfl | exact .inr rfl | assumption) :
    JS X W (.Assign [.Name y py] (.Dict [] [] dpos) pos) (dSetDN W.K i) := ⟨(ps_set hN hiN hy pe_dnew hs hf).mono fun E σ H hh => hh.elim fun pn M b ρ F s l h => by
  intro p hp
  have ok := s.toHs.okU (o := DOb p [] 0) hp
  have t : Sta W pn (fun c => M c \/ c = p) b (upd H p (DOb p [] 0)) σ ρ := s.toSta.grow (fun c z => z.imp id fun y => by rw [y]; exact hp) (fun c z => .inl z) (Kp.upd hp) ok fun c z => z.elim ((s.toSta.step (Kp.upd hp) ok).dom c) fun y => by rw [y]; exact ⟨_,upd_same⟩
  refine l.nx _ _ _ _ _ (s.add i (t.set (x := dcg W.K p ([],0) [] []) (v := .ref p) i (dcg_rep ⟨.inr rfl,fun z => ?_,s.toSta.fresh0 hp⟩ upd_same ⟨rfl,(fun _ m => by cases m),.nil⟩ rfl)) fun c m => ?_) (h p ([],0))
  · obtain ⟨o,e⟩ := W.B.dm p H (s.ok p z)
    rw [hp] at e; cases e
  · have : c = p := List.mem_singleton.mp m
    rw [this]; exact s.toHs.new hp⟩
def dSetD (K : PySem.W.Frag)(i : Nat)(de dk : DE) : DS := fun F ρ => ∃ (a : Addr) (t : Tg) (ks : List (List Int)) (xs : List D),ρ[i]? = some (some (dcg K a t ks xs)) /\ de ρ fun z => plain z = true /\ dk ρ fun y => ∃ ns : List Int,y = .tup (ns.map D.int) /\ ks.length < 1000 /\ ∀ t',F.nx (ρ.set i (some (dcg K a t' (putD ks xs ns z).1 (putD ks xs ns z).2)))
theorem jds_setD {i : Nat}{tg e : Expr}{de dk : DE}(hK : X.K = W.K)(he : JE X W e de)(hg : PG X tg (gSub (tVar i) (dn W dk) (rSetD X.K)))(hs : swapsWithSole [tg] e pos.line X.env = pure false := by rfl)(hw : swappedStores [tg] e X.env = pure none := by rfl)
    (h1 : (assignEach [tg] X.env).map (·.2) = [assign tg X.env] := by rfl) : JS X W (.Assign [tg] e pos) (dSetD W.K i de dk) := ⟨(ps_asg he.h hg hs hw h1).mono fun E σ H hh => hh.elim fun pn M b ρ F s l q => by
  rw [hK]
  obtain ⟨a,t,ks,xs,e1,q⟩ := q
  obtain ⟨v0,ev,rg⟩ := s.env i _ e1
  obtain ⟨rfl,_,_⟩ := dcg_of rg
  refine ⟨pn,M,b,ρ,_,s.toSta,q,fun z v H1 hz rz k1 o1 => ?_⟩
  have s1 := s.step k1 o1
  refine ⟨.ref a,ev,pn,M,b,ρ,_,s1.toSta,hz.2,fun y u H2 hy ry k2 o2 => ?_⟩
  obtain ⟨ns,rfl,hl,hnx⟩ := hy
  have s2 := s1.step k2 o2
  obtain ⟨v2,ev2,rg2⟩ := s2.env i _ e1
  obtain ⟨rfl,ow,vs,hd,hE,rr⟩ := dcg_of rg2
  obtain ⟨bk,us,rfl,hb,rks⟩ := (show Rep W.K M H2 (.tup (ns.map D.int)) u from ry)
  cases rks.ints
  have hes : t.1.length = ks.length := by rw [<- hE.1]; simp
  refine ⟨a,bk,t.1,t.2,ns,rfl,rfl,hd,hE.keys,hb.sq,by rw [hes]; exact Nat.lt_of_lt_of_le hl le1000,fun uu ep' ru => ?_⟩
  have rz2 := ((rz.step s.bagM k2).rep hz.1)
  obtain ⟨vs',hE',rr'⟩ := put_rep (n := ns) hb ru rz2 hE rr
  have kk : ∀ c o,¬ M c -> H2 c = some o -> upd H2 a (DOb a (storedH t.1 ns bk uu) ep') c = some o := fun c o n q => by rw [upd_ne (fun z => n (by rw [z]; exact ow.1))]; exact q
  exact l.nx _ _ _ _ _ (s2.setFrg (f' := dctF W.K a (storedH t.1 ns bk uu,ep') (putD ks xs ns z).1 (putD ks xs ns z).2) (d' := .dct (storedH t.1 ns bk uu,ep') (putD ks xs ns z).1 (putD ks xs ns z).2) i e1 ev2 (List.mem_cons_self ..) (fun c m => m) (dcg_rep ow upd_same (hE'.keep kk) (Reps.keep kk _ _ rr'))) (hnx _)⟩
end
end L2
set_option Elab.async false
set_option linter.all false
set_option maxRecDepth 100000
set_option maxHeartbeats 4000000
namespace L2
open PySem PySem.Spec PyProof.Rows
section
variable {X : Cx}{W : Wd}{S : DSU}{dA : DA}{pos : Pos}
end
end L2
set_option Elab.async false
set_option linter.all false
set_option maxRecDepth 100000
set_option maxHeartbeats 4000000
namespace L2
open PySem PySem.Spec PyProof.Rows
section
variable {X : Cx}{W : Wd}{pos : Pos}
variable {elt iter tg : Expr}{ifs : List Expr}{scope : Scope}{N' : List Str}{map : List (Option Nat)}{g : TG}{gd : D -> Ev -> (Ev -> Prop) -> Prop}{di : DA}{dt : DT}{de : DA}
end
end L2
set_option Elab.async false
set_option linter.all false
set_option maxRecDepth 100000
set_option maxHeartbeats 4000000
namespace L2
open PySem PySem.Spec PyProof.Rows
def RawD (h : Heap)(d : Addr)(ds : Array DictEntry)(ep : Nat) : Prop := ∃ o : Obj,h.get? d = some o /\ o.ExactDict /\ o.data = .dict ds ep
theorem RawD.ty {s : Shared}{d : Addr}{ds : Array DictEntry}{ep : Nat}(x : RawD s.heap d ds ep) : s.TypeIs (.ref d) "dict" := let ⟨o,ho,hc,_⟩ := x; ⟨o,ho,hc.1⟩
section
variable {prog : Program}{w : World}{A : Around}{E : Value -> Shared -> Prop}{s : Shared}{d it : Addr}{ds : Array DictEntry}{ep i : Nat}
theorem iter_keys {Q : Value -> Shared -> Prop}(hd : (d == sysModules) = false)(x : RawD s.heap d ds ep)
    (hQ : Q (.ref s.heap.objs.size) { s with heap := s.heap.push { cls := .type "dict_keyiterator",data := .fields #[.ref d,.int 0 0,.int ds.size 0,.int ep 0] } }) : wpAny (model prog w) A (pyIter (.ref d)) Q E s := by
  have hT := x.ty
  obtain ⟨o,ho,hc,hdat⟩ := x
  refine wpAny_pyIter_slot hT PySem.F.slot_dict_iter (wpAny_call_entry PySem.F.slot_dict_iter hT PySem.F.entry_dict_iter ?_ (PySem.F.args_dict_iter_1 _))
  unfold Builtin.«dict.__iter__»
  refine wpAny_bind ?_
  unfold Builtin.Dict.dictSlotNone
  refine wpAny_bind (wpAny_notOrdered_dict hT ?_)
  show wpAny _ _ (pure (Value.ref d)) _ _ s
  refine wpAny_pure ?_
  show wpAny _ _ (Builtin.Dict.showsAll d >>= _) _ _ s
  unfold Builtin.Dict.showsAll
  rw [if_neg (show ¬ ((d == sysModules) = true) by rw [hd]; exact Bool.false_ne_true)]
  refine wpAny_bind (wpAny_pure (wpAny_bind (wpAny_dictEntries ho hdat (wpAny_bind (wpAny_dictEpoch ho hdat ?_)))))
  refine wpAny_bind (wpAny_newObj_type (wpAny_pure ⟨_,rfl,"dict_keyiterator",_,⟨_,Heap.get?_push_size _ rfl,rfl⟩,PySem.F.slot_dict_keyiterator_next.lookup,?_⟩))
  simpa [rawInt] using hQ
theorem next_keys {e : DictEntry}{Q : Option Value -> Shared -> Prop}(hit : s.heap.IsKeyIter it d i ds.size ep)(x : RawD s.heap d ds ep)(hx : ds[i]? = some e)
    (hQ : ∀ h',h'.IsKeyIter it d (i + 1) ds.size ep -> Heap.SameBut it s.heap h' -> Q (some e.key) { s with heap := h' }) : wpAny (model prog w) A (pyNext (.ref it)) Q E s := by
  obtain ⟨o,ho,hc,hd⟩ := id hit
  obtain ⟨od,hod,hcd,hdd⟩ := x
  unfold pyNext
  refine wpAny_bind (wpAny_attempt (wpAny_callSpecial?_slot (name := Str.ofString "__next__") hit.typeIs PySem.F.slot_dict_keyiterator_next (wpAny_call_entry PySem.F.slot_dict_keyiterator_next hit.typeIs PySem.F.entry_dict_keyiterator_next ?_ (PySem.F.args_dict_keyiterator_next_1 _))))
  refine wpAny_bind (wpAny_pure ?_); refine wpAny_bind ?_; refine wpAny_bind ?_
  first | refine wpAny_bind (wpAny_typeNameOfWhole_keyiter hit.typeIs (wpAny_pure (wpAny_bind (wpAny_fieldsOf ho hd ?_)))) | refine wpAny_bind (wpAny_typeNameOf_keyiter hit.typeIs (wpAny_pure (wpAny_bind (wpAny_fieldsOf ho hd ?_))))
  simp only [show Builtin.Dict_items.ownsTuple "dict_keyiterator" = false from by decide,Bool.false_eq_true,if_false]
  show wpAny _ _ (if (Value.ref d == Value.none) = true then _ else _) _ _ s
  rw [if_neg (show ¬ ((Value.ref d == Value.none) = true) from fun z => nomatch z)]
  refine wpAny_bind (wpAny_pure (wpAny_bind (wpAny_dictEntries hod hdd ?_)))
  rw [if_neg (show ¬ _ by simp)]
  refine wpAny_bind (wpAny_pure (wpAny_bind (wpAny_dictEpoch hod hdd ?_)))
  rw [if_neg (show ¬ _ by simp)]; refine wpAny_pure ?_
  simp only [show ¬ ((i : Int) < 0) from (by omega),if_false,Int.toNat_natCast,hx]
  refine wpAny_bind ?_
  first | refine wpAny_bind (wpAny_typeNameOfWhole_keyiter hit.typeIs (wpAny_pure (wpAny_bind (wpAny_isOneOf_keyiter hit.typeIs ?_)))) | refine wpAny_bind (wpAny_typeNameOf_keyiter hit.typeIs (wpAny_pure (wpAny_bind (wpAny_isOneOf_keyiter hit.typeIs ?_))))
  show wpAny _ _ (setField (.ref it) 1 (rawInt ((i : Int) + 1)) >>= _) _ _ s; refine wpAny_bind (wpAny_setField ho hd (by simp) ?_)
  have hit' : (s.heap.update it (Obj.mapFields (·.setIfInBounds 1 (rawInt ((i : Int) + 1))))).IsKeyIter it d (i + 1) ds.size ep := ⟨_,Heap.get?_update_self _ ho (Obj.isFreed_of_fields (Obj.data_mapFields hd _)),(Obj.cls_mapFields ..).trans hc,by rw [Obj.data_mapFields hd]; simp [rawInt]⟩
  refine wpAny_bind (wpAny_holding (wpAny_bind (wpAny_isOneOf_keyiter (s := { s with heap := s.heap.update it (Obj.mapFields (·.setIfInBounds 1 (rawInt ((i : Int) + 1)))) }) hit'.typeIs ?_)))
  show wpAny _ _ (pure e.key) _ _ _; exact wpAny_pure (wpAny_pure ⟨_,rfl,wpAny_pure (hQ _ hit' (Heap.SameBut.update ..))⟩)
theorem end_keys {Q : Option Value -> Shared -> Prop}(hh : A.handled = none)(hit : s.heap.IsKeyIter it d i ds.size ep)(x : RawD s.heap d ds ep)(hx : ds.size <= i)
    (hQ : ∀ h',Heap.ExtBut it s.heap h' -> Q none { s with heap := h' }) : wpAny (model prog w) A (pyNext (.ref it)) Q E s := by
  obtain ⟨o,ho,hc,hd⟩ := id hit
  obtain ⟨od,hod,hcd,hdd⟩ := x
  unfold pyNext
  refine wpAny_bind (wpAny_attempt (wpAny_callSpecial?_slot (name := Str.ofString "__next__") hit.typeIs PySem.F.slot_dict_keyiterator_next (wpAny_call_entry PySem.F.slot_dict_keyiterator_next hit.typeIs PySem.F.entry_dict_keyiterator_next ?_ (PySem.F.args_dict_keyiterator_next_1 _))))
  refine wpAny_bind (wpAny_pure ?_); refine wpAny_bind ?_; refine wpAny_bind ?_
  first | refine wpAny_bind (wpAny_typeNameOfWhole_keyiter hit.typeIs (wpAny_pure (wpAny_bind (wpAny_fieldsOf ho hd ?_)))) | refine wpAny_bind (wpAny_typeNameOf_keyiter hit.typeIs (wpAny_pure (wpAny_bind (wpAny_fieldsOf ho hd ?_))))
  simp only [show Builtin.Dict_items.ownsTuple "dict_keyiterator" = false from by decide,Bool.false_eq_true,if_false]
  show wpAny _ _ (if (Value.ref d == Value.none) = true then _ else _) _ _ s
  rw [if_neg (show ¬ ((Value.ref d == Value.none) = true) from fun z => nomatch z)]
  refine wpAny_bind (wpAny_pure (wpAny_bind (wpAny_dictEntries hod hdd ?_)))
  rw [if_neg (show ¬ _ by simp)]
  refine wpAny_bind (wpAny_pure (wpAny_bind (wpAny_dictEpoch hod hdd ?_)))
  rw [if_neg (show ¬ _ by simp)]; refine wpAny_pure ?_
  simp only [show ¬ ((i : Int) < 0) from (by omega),if_false,Int.toNat_natCast,Array.getElem?_eq_none hx]
  refine wpAny_bind ?_
  first | refine wpAny_bind (wpAny_typeNameOfWhole_keyiter hit.typeIs (wpAny_pure ?_)) | refine wpAny_bind (wpAny_typeNameOf_keyiter hit.typeIs (wpAny_pure ?_))
  show wpAny _ _ (setField (.ref it) 0 .none >>= _) _ _ s; refine wpAny_bind (wpAny_setField ho hd (by simp) ?_)
  show wpAny _ _ (newExc (.type "StopIteration") [] >>= _) _ _ _; refine wpAny_bind ?_
  simp only [newExc,newTuple]; refine wpAny_bind (wpAny_newObj_type ?_ (by size_fits))
  refine wpAny_bind (m := firstArgMember _ _) (wpAny_of_eq (a := Value.none) (by first | rfl | (simp only [firstArgMember]; rfl)) (wpAny_newObj_type ?_ (by size_fits)))
  simp only [raiseNew]; refine wpAny_bind (wpAny_handled ?_)
  rw [show A.in1.handled = none from hh]; refine wpAny_bind (wpAny_pure (wpAny_throw ?_))
  refine wpAny_bind (wpAny_isInstance (T := "StopIteration") (b := true) ⟨_,Heap.get?_push_size _ rfl,rfl⟩ isSubtype_stop (wpAny_pure (hQ _ (((Heap.SameBut.update ..).extBut.push _).push _))))
end
end L2
set_option Elab.async false
set_option linter.all false
set_option maxRecDepth 100000
set_option maxHeartbeats 4000000
namespace L2
open PySem PySem.Spec PyProof.Rows
def Idk (a : Addr)(es : Ens)(ep : Nat) : It :=
  ⟨fun i H => H a = some (DOb a es ep) /\ i < es.length,fun i H x H' => H' = H /\ ∃ e,es[i]? = some e /\ x = .ref e.2.1,fun i H => H a = some (DOb a es ep) /\ es.length <= i⟩
section
variable {X : Cx}{pins : List (Addr × Obj)}{σ : St}{H : Hp}{s : Shared}{a : Addr}{es : Ens}{ep : Nat}{tg : Expr}
theorem Inv.raw (I : Inv X pins σ H s)(h : H a = some (DOb a es ep)) : ((a == sysModules) = false /\ es.length <= sizeLine) /\ ∃ ds,RawD s.heap a ds ep /\ ds.size = es.length /\ ∀ (i : Nat) e,es[i]? = some e -> ds[i]? = some (dEnt e) := by
  obtain ⟨⟨⟨h1,h2,h3⟩,o,ds,e1,e2,e3,e4⟩,_⟩ := I.hok a _ h
  refine ⟨⟨h1,h2⟩,ds,⟨o,e1,e2,e3⟩,?_,fun i e q => ?_⟩
  · have := congrArg List.length e4
    simpa using this
  · rw [<- Array.getElem?_toList,e4,List.getElem?_map,q]; rfl
theorem turn_dk {P : Program}{w : World}{K : PySem.W.Frag}(it : Addr) : Turn P w K tg (Idk a es ep) [it] it (fun i h => h.IsKeyIter it a i es.length ep) where
  mem := by simp
  obj := fun i h st b hb => by
    rw [List.mem_singleton.mp hb]
    obtain ⟨o,e,c,d⟩ := st
    exact ⟨o,e,fun v z => by rw [d] at z; cases z⟩
  keep := fun i h h' st k => by
    obtain ⟨o,e,q⟩ := st
    exact ⟨o,k it (by simp) o e,q⟩
  item := by
    intro X hP hw hK hc i pins s σ H E I hf st hg
    subst hP hw hK
    obtain ⟨hd,hi⟩ := hg
    obtain ⟨e,he⟩ : ∃ e,es[i]? = some e := ⟨es[i],List.getElem?_eq_getElem hi⟩
    obtain ⟨⟨h1,h2⟩,ds,raw,hsz,hat⟩ := I.raw hd
    obtain ⟨f0,f1,f2,f3,f4,f5⟩ := hf it (by simp)
    rw [<- hsz] at st
    refine next_keys st raw (hat i e he) fun h' st' sb => ?_
    have I1 : Inv X pins σ H { s with heap := h' } := I.turned (t' := s.toks) (fun b o hb e => (sb.2 b hb).trans e) f0 f1 f3 f4 f5
    obtain ⟨o,e',c,d⟩ := id st'
    rw [hsz] at st'
    exact ⟨_,rfl,go_of (s := { s with heap := h' }) e' c d (by decide) ⟨.ref e.2.1,H,I1,rfl,⟨rfl,e,he,rfl⟩,st',fun b hb => (hf b hb).1⟩⟩
  done := by
    intro X hP hw hK hc i pins s σ H E I hf st hg
    subst hP hw hK
    obtain ⟨hd,hi⟩ := hg
    obtain ⟨⟨h1,h2⟩,ds,raw,hsz,hat⟩ := I.raw hd
    obtain ⟨f0,f1,f2,f3,f4,f5⟩ := hf it (by simp)
    rw [<- hsz] at st
    exact end_keys (I.ok.hd hc) st raw (by omega) fun h' eb => ⟨rfl,I.turned (t' := s.toks) (fun b o hb e => eb b o hb e) f0 f1 f3 f4 f5⟩
  self := fun _ _ s Q E st h => wpAny_pyIter_keyiter st h
def iKeys (to : TE) : TI := fun σ H R => to σ H fun x H1 => ∃ a es ep,x = .ref a /\ H1 a = some (DOb a es ep) /\ R (Idk a es ep) H1
theorem pi_keys {o : Expr}{to : TE}(ho : PE X o to) : PI X tg o (iKeys to) := by
  intro pins s σ H R I h
  refine thn (ho pins s σ H _ I h) fun v s1 hx => ?_
  obtain ⟨x,H1,I1,r1,a,es,ep,rfl,hd,q⟩ := hx
  cases r1
  obtain ⟨⟨h1,h2⟩,ds,raw,hsz,hat⟩ := I1.raw hd
  refine iter_keys h1 raw ?_
  rw [hsz]
  refine ⟨_,[_],_,_,H1,rfl,I1.kept (t' := s1.toks) fun b o e => Heap.get?_push_of_some _ e,turn_dk _,⟨_,Heap.get?_push_size _ rfl,rfl,rfl⟩,fun b hb => ?_,q⟩
  rw [List.mem_singleton.mp hb]
  exact I1.fpOk (Nat.le_refl _) (I1.hok.fresh (Nat.le_refl _))
end
end L2
set_option Elab.async false
set_option linter.all false
set_option maxRecDepth 100000
set_option maxHeartbeats 4000000
namespace L2
open PySem PySem.Spec PyProof.Rows
section
variable {X : Cx}{W : Wd}{e o f tg : Expr}{es : List Expr}{pos : Pos}{dA : DA}{de dk df : DE}
def oIxD (K : PySem.W.Frag) : D -> D -> (D -> Prop) -> Prop := fun x y P => ∃ t ks xs ns d,asD K x t ks xs /\ y = .tup (ns.map D.int) /\ findD ks xs ns = some d /\ P d
theorem tup_key {M : Addr -> Prop}{b : Option Addr}{H : Hp}{ns : List Int}{v : V}(r : RepX W M b H (.tup (ns.map D.int)) v) : ∃ c,v = .ref c /\ SqT W.K H c (ns.map V.int) := by
  obtain ⟨c,us,rfl,hb,rks⟩ := (show Rep W.K M H (.tup (ns.map D.int)) v from r)
  cases rks.ints
  exact ⟨c,rfl,hb.sq⟩
theorem od_ixD : OpD W (rIxD W.K) (oIxD W.K) := by
  intro M b H x y v u P Q hs rx ry ho k
  obtain ⟨t,ks,xs,ns,d,hx,rfl,hf,hP⟩ := ho
  obtain ⟨a,vs,rfl,hd,hE,rr⟩ := hx.rep rx
  obtain ⟨c,rfl,hc⟩ := tup_key ry
  have q := findD_rep ns hE.1 hE.2.2 rr
  rw [hf] at q
  obtain ⟨p,v,e1,rv,r1⟩ := q
  exact ⟨a,c,t.1,t.2,ns,p,v,rfl,rfl,hd,hE.keys,hc,e1,rv,k d v H hP r1.x (Kp.refl _ _) hs.ok⟩
theorem ix_dctK (K : PySem.W.Frag)(h : X.K = K)(hu : X.A.units + 64 < cLine) : IxR X (rIxD K) := by subst h; exact ix_dct (by omega)
def keysT (ks : List (List Int)) : List D := ks.map fun k => .tup (k.map D.int)
def iDct (K : PySem.W.Frag)(fz : Bool)(g : List (List Int) -> List D -> List D)(de : DE) : DA := fun ρ P => de ρ fun x => ∃ t ks xs,(x = .dct t ks xs \/ (fz = false /\ ∃ a,x = dcg K a t ks xs)) /\ P (g ks xs)
theorem Reps.ofInts {K : PySem.W.Frag}{M : Addr -> Prop}{H : Hp} : ∀ ns : List Int,Reps K M H (ns.map D.int) (ns.map V.int)
  | [] => rfl
  | n :: ns => ⟨_,_,rfl,rfl,Reps.ofInts ns⟩
theorem it_keys {x : D}{t : Tg}{ks : List (List Int)}{xs : List D}{a : Addr}(hx : asD W.K x t ks xs) : ItOk W (Idk a t.1 t.2) [(x,.ref a)] (keysT ks) := by
  intro M b H hs hn
  obtain ⟨a',vs,e,hd,hE,rr⟩ := hx.rep (hn _ (List.mem_singleton.mpr rfl))
  cases e
  have hl : t.1.length = ks.length := by rw [<- hE.1]; simp
  have hk : (keysT ks).length = ks.length := by unfold keysT; simp
  refine ⟨fun i d e => ?_,fun i hi => ⟨hd,by rw [hl,<- hk]; exact hi⟩⟩
  have hi : i < t.1.length := by rw [hl,<- hk]; exact (List.getElem?_eq_some_iff.mp e).1
  refine ⟨⟨hd,hi⟩,fun y H3 ⟨eH,en,e5,ry⟩ => ?_⟩
  subst eH ry
  refine ⟨Same.refl _,?_⟩
  have ed : d = .tup (en.1.map D.int) := by
    unfold keysT at e
    rw [<- hE.1,List.map_map,List.getElem?_map,e5] at e
    exact (Option.some.inj e).symm
  subst ed
  exact ⟨en.2.1,en.1.map V.int,rfl,hE.2.1 en (List.mem_of_getElem? e5),Reps.ofInts en.1⟩
theorem keysT_plain (ks : List (List Int)) : (keysT ks).all plain = true := by
  unfold keysT
  rw [List.all_map]
  exact List.all_eq_true.mpr fun k _ => rfl
theorem jdi_keys {fz : Bool}(hK : X.K = W.K)(h : JE X W o de) : JI X W fz tg o (iDct W.K fz (fun ks _ => keysT ks) de) :=
  ⟨(pi_keys h.h).mono fun σ H R hh => hh.elim fun pn M b ρ P st h k => by
    refine ⟨pn,M,b,ρ,_,st,h,fun x v H1 hx rx k1 o1 => ?_⟩
    obtain ⟨t,ks,xs,hx,hP⟩ := hx
    have hA : asD W.K x t ks xs := hx.imp id fun z => z.2
    obtain ⟨a,vs,rfl,hd,hE,rr⟩ := hA.rep rx
    refine ⟨a,t.1,t.2,rfl,hd,k _ _ _ H1 hP (keysT_plain ks) (it_keys hA) (fun q hq => ?_) k1 o1⟩
    rw [List.mem_singleton.mp hq]
    exact ⟨rx,fun z => hx.elim (fun e => by rw [e]; rfl) fun e => by rw [z] at e; cases e.1⟩⟩
def dGet3 (K : PySem.W.Frag)(i : Nat)(dk df : DE) : DE := fun ρ P => ∃ x t ks xs,ρ[i]? = some (some x) /\ asD K x t ks xs /\ dk ρ fun y => ∃ ns,y = .tup (ns.map D.int) /\ df ρ fun z => P ((findD ks xs ns).getD z)
theorem jde_get3 {i : Nat}{x : Str}{npos apos cpos : Pos}(hK : X.K = W.K)(hu : X.A.units + 64 < cLine)(hk : JE X W e dk)(hf : JE X W f df)(hN : X.N[i]? = some x)(hv : Vis X.env.scope x)(m : M2 X (.Name x npos) "get" apos e f cpos) (hd : (x == ("__debug__" : Str)) = false := by decide)
    (hcd : (x == ("__classdict__" : Str)) = false := by decide) : JE X W (.Call (.Attribute (.Name x npos) "get" apos) [e,f] [] cpos) (dGet3 W.K i dk df) :=
  ⟨(pe_dgetE (by omega) (pe_var hN hv hd hcd) hk.h hf.h m).mono fun σ H Q hh => hh.elim fun pn M b ρ P st h k => by
    rw [hK]
    obtain ⟨x,t,ks,xs,ex,hA,h⟩ := h
    obtain ⟨v,ev,rx⟩ := st.env i _ ex
    obtain ⟨a,vs,rfl,hd,hE,rr⟩ := hA.rep rx
    refine ⟨.ref a,ev,a,t.1,t.2,rfl,hd,hE.keys,pn,M,b,ρ,_,st,h,fun y vy H1 hy ry k1 o1 => ?_⟩
    obtain ⟨ns,rfl,hy⟩ := hy
    have st1 := st.step k1 o1
    refine ⟨pn,M,b,ρ,_,st1,hy,fun z u H3 hz rz k3 o3 => ?_⟩
    have kk := k1.trans k3
    have rx3 := rx.step st.bagM kk
    obtain ⟨a',vs3,e3,hd3,hE3,rr3⟩ := hA.rep rx3
    cases e3
    have ry3 := ry.step st.bagM k3
    obtain ⟨c,rfl,hc⟩ := tup_key ry3
    have q := findD_rep ns hE3.1 hE3.2.2 rr3
    refine ⟨c,ns,rfl,hd3,hE3.keys,hc,fun hn => ?_,fun p hs => ?_⟩
    · cases ef : findD ks xs ns with
      | none => rw [ef] at hz; exact k _ _ H3 hz rz kk o3
      | some d => rw [ef] at q; obtain ⟨p,v,e1,_⟩ := q; rw [hn] at e1; cases e1
    · cases ef : findD ks xs ns with
      | none => rw [ef] at q; rw [show atKey t.1 ns = none from q] at hs; cases hs
      | some d =>
        rw [ef] at q hz
        obtain ⟨p',v,e1,rv,r1⟩ := q
        rw [hs] at e1; cases e1
        exact ⟨v,rv,k _ _ H3 hz r1.x kk o3⟩⟩
end
end L2
set_option Elab.async false
set_option linter.all false
set_option maxRecDepth 100000
set_option maxHeartbeats 4000000
namespace L2
open PySem PySem.Spec PyProof.Rows
section
variable {gd gd2 : D -> Ev -> (Ev -> Prop) -> Prop}{dt : DT}{de : DE}{ρc : Ev}{items acc0 : List D}{P : List D -> Prop}{mp2 : List (Option Nat)}{di2 : DA}
end
section
variable {X : Cx}{W : Wd}{pos : Pos}{a : Expr}{dA : DA}
def dListF (dA : DA) : DA := fun ρ P => dA ρ fun xs => match xs with
  | [x] => (match asS x with | some ys => P ys | none => False)
  | _ => False
theorem jdf_list {lpos npos : Pos}(ha : JA X W [a] dA)(h : PE X (.Call (.Name "list" npos) [a] [] lpos) (tCB (fun xs H Q => ∃ p ys,xs = [.ref p] /\ (SqL W.K H p ys \/ SqT W.K H p ys) /\ ∀ l,H l = none -> Q (.ref l) (upd H l (.lst ys))) (dnA W dA))) : JF X W (.Call (.Name "list" npos) [a] [] lpos) (dListF dA) := ⟨h.mono fun σ H Q hh => by
  obtain ⟨pn,M,b,ρ,P,st,h,k⟩ := hh
  refine ⟨pn,M,b,ρ,_,st,h,fun xs vs H1 hx rx k1 o1 => ?_⟩
  match xs,hx with
  | [x],hx =>
    obtain ⟨v,rfl,r⟩ := rx1 rx
    cases e1 : asS x with
    | none => simp only [e1] at hx
    | some ys =>
      simp only [e1] at hx
      obtain ⟨a1,us,rfl,h1,r1⟩ := asS.rep r e1
      refine ⟨a1,us,rfl,h1,fun p hp => ?_⟩
      exact k _ _ p _ hx (was_new k1 o1 hp) upd_same (Reps.keep (fun c o _ e => Same.upd hp c o e) _ _ (Reps.avoid (fun c z => z.imp id fun y => by rw [y]; exact hp) _ _ r1)) (k1.trans (Kp.upd hp)) ((st.step k1 o1).toHs.okU hp)⟩
end
end L2
set_option Elab.async false
set_option linter.all false
set_option maxRecDepth 100000
set_option maxHeartbeats 4000000
namespace L2
open PySem PySem.Spec PyProof.Rows
end L2
set_option Elab.async false
set_option linter.all false
set_option maxRecDepth 100000
set_option maxHeartbeats 4000000
namespace L2
open PySem PySem.Spec PyProof.Rows
section
variable {X : Cx}{W : Wd}{pos : Pos}{dA : DA}
end
end L2
set_option Elab.async false
set_option linter.all false
set_option maxRecDepth 100000
set_option maxHeartbeats 4000000
namespace L2
open PySem PySem.Spec PyProof.Rows
section
variable {prog : Program}{w : World}{A : Around}{R : Result -> Shared -> Prop}{I S : Addr}{fp wr : List Addr}{n : Nat}{P : Nat -> Value -> Prop}{St : Nat -> Heap -> Prop}{J : Heap -> Prop}{bt : Nat -> Nat -> Bool}
end
section
variable {prog : Program}{w : World}{A : Around}{E : Value -> Shared -> Prop}{s : Shared}
end
section
variable {prog : Program}{w : World}{A : Around}
theorem RawD.at {h h' : Heap}{d : Addr}{ds : Array DictEntry}{ep : Nat}(x : RawD h d ds ep)(k : ∀ o,h.get? d = some o -> h'.get? d = some o) : RawD h' d ds ep := let ⟨o,e,q⟩ := x; ⟨o,k o e,q⟩
end
section
variable {X : Cx}
end
end L2
set_option Elab.async false
set_option linter.all false
set_option maxRecDepth 100000
set_option maxHeartbeats 4000000
namespace L2
open PySem PySem.Spec PyProof.Rows
section
variable {X : Cx}{W : Wd}
end
end L2
set_option Elab.async false
set_option linter.all false
set_option maxRecDepth 100000
set_option maxHeartbeats 4000000
namespace L2
open PySem PySem.Spec PyProof.Rows
end L2
set_option Elab.async false
set_option linter.all false
set_option maxRecDepth 100000
set_option maxHeartbeats 4000000
namespace L2
open PySem PySem.Spec PyProof.Rows
section
variable {X : Cx}{W : Wd}{dt : DT}{dA dA1 dA2 : DA}{S S1 : DSO}{S2 : DSG}{st : Stmt}
end
end L2
set_option Elab.async false
set_option linter.all false
set_option maxRecDepth 100000
set_option maxHeartbeats 4000000
namespace L2
open PySem PySem.Spec PyProof.Rows
abbrev DST := List D -> (List (List D) -> Int -> Prop) -> (Addr -> Prop) -> Prop
section
variable {X : Cx}{W : Wd}{e a : Expr}{es : List Expr}{pos p : Pos}{dA : DA}{x : Str}{k : Nat}{ps : List Str}{S : DST}
end
end L2
set_option Elab.async false
set_option linter.all false
set_option maxRecDepth 100000
set_option maxHeartbeats 4000000
namespace L2
open PySem PySem.Spec PyProof.Rows
section
variable {X : Cx}{W : Wd}{e o a b : Expr}{es : List Expr}{pos : Pos}{dO de : DE}{dA : DA}
variable {r : V -> List V -> Hp -> VK -> Prop}{f : Str -> List D -> (D -> Prop) -> Prop}{name : Str}{id : String}{apos cpos : Pos}
end
end L2
set_option Elab.async false
set_option linter.all false
set_option maxRecDepth 100000
set_option maxHeartbeats 4000000
namespace L2
open PySem PySem.Spec PyProof.Rows
end L2
set_option Elab.async false
set_option linter.all false
set_option maxRecDepth 100000
set_option maxHeartbeats 4000000
namespace L2
open PySem PySem.Spec PyProof.Rows
section
variable {X : Cx}{W : Wd}{e o a b l tg : Expr}{es : List Expr}{pos : Pos}{dO de da db dl : DE}{dA : DA}{fz : Bool}
end
end L2
set_option Elab.async false
set_option linter.all false
set_option maxRecDepth 100000
set_option maxHeartbeats 4000000
namespace L2
open PySem PySem.Spec PyProof.Rows
section
variable {X : Cx}
end
section
variable {X : Cx}{W : Wd}{ke ve iter tg : Expr}{ifs : List Expr}{scope : Scope}{pos : Pos}{N' : List Str}{map : List (Option Nat)}{g : TG}{gd : D -> Ev -> (Ev -> Prop) -> Prop}{di : DA}{dt : DT}{dk de : DE}
end
end L2
set_option Elab.async false
set_option linter.all false
set_option maxRecDepth 100000
set_option maxHeartbeats 4000000
namespace L2
open PySem PySem.Spec PyProof.Rows
theorem vals_refs : ∀ {as : List Addr} {us : List Value},Vals (as.map V.ref) us -> us = as.map Value.ref
  | [],us,r => by cases r; rfl
  | a :: as,us,r => by
    cases r with
    | cons r1 r2 =>
      cases r1
      rw [vals_refs r2]
      rfl
theorem refs_vals : ∀ as : List Addr,Vals (as.map V.ref) (as.map Value.ref)
  | [] => .nil
  | a :: as => .cons rfl (refs_vals as)
theorem ints_of_vals : ∀ {ns : List Int} {us : List Value},Vals (ns.map V.int) us -> IntsAre us ns
  | [],us,r => by cases r; exact .nil
  | n :: ns,us,r => by
    cases r with
    | cons r1 r2 =>
      obtain ⟨t,rfl⟩ := r1
      exact .cons n t (ints_of_vals r2)
section
variable {prog : Program}{w : World}{A : Around}{E : Value -> Shared -> Prop}{s : Shared}
theorem sorted_tups {l : Addr}{vs : List Value}{m : Nat}{rows : Value -> List Int}{Q : Value -> Shared -> Prop}(il : s.heap.IsList l vs.toArray)
    (ht : ∀ v ∈ vs,TupZ s.heap v (rows v)) (hm : ∀ v ∈ vs,(rows v).length = m /\ ∀ z ∈ rows v,SmallZ z) (m0 : 0 < m) (h128 : vs.length < 128)
    (h : ∀ (out : Array Value) (L : Addr) (e : Nat) h',out.toList.Perm vs -> out.toList.Pairwise (fun x y => encA 0 (rows x) <= encA 0 (rows y)) -> h'.get? L = some (seqObj "list" out e) -> s.heap.objs.size <= L -> (∀ b o,s.heap.get? b = some o -> h'.get? b = some o) -> Q (.ref L) { s with heap := h' }) :
    wpAny (model prog w) A (call (.builtin "sorted") [.ref l]) Q E s := by
  refine Calls.call_function_entry kind_sorted plain_sorted entry_sorted (args_sorted1 _) ?_
  unfold Builtin.«sorted»
  refine wpAny_bind (m := checkCount "sorted" 1 1 _) (wpAny_pure ?_)
  refine wpAny_bind (collect_list il ?_ (by rw [sizeLine_eq]; omega))
  refine wpAny_bind (wpAny_newList ?_)
  have z1 : ((s.heap.push (seqObj "list" #[] 0)).update s.heap.objs.size (Obj.mapSeq (· ++ vs.toArray))).objs.size = s.heap.objs.size + 1 := by
    rw [Heap.size_update,size_push']
  generalize hH : (s.heap.push (seqObj "list" #[] 0)).update s.heap.objs.size (Obj.mapSeq (· ++ vs.toArray)) = H1 at z1
  have k1 : ∀ b o,s.heap.get? b = some o -> H1.get? b = some o := fun b o e => by
    have hlt : b < s.heap.objs.size := Heap.lt_size e
    rw [<- hH,Heap.get?_update_ne _ _ _ _ (Nat.ne_of_lt hlt),Heap.get?_push_ne _ _ _ (Nat.ne_of_lt hlt)]
    exact e
  have g2 : (H1.push (seqObj "list" vs.toArray 0)).get? H1.objs.size = some (seqObj "list" vs.toArray 0) := Heap.get?_push_size _ rfl
  have t2 : ∀ v ∈ vs,TupZ (H1.push (seqObj "list" vs.toArray 0)) v (rows v) := fun v hv => by
    obtain ⟨a,o,xs,n,e,g,c,d,i⟩ := ht v hv
    exact ⟨a,o,xs,n,e,Heap.get?_push_of_some _ (k1 a o g),c,d,i⟩
  refine wpAny_bind (wpAny_holding (wpAny_call_entry (s := { s with heap := H1.push (seqObj "list" vs.toArray 0) }) slot_list_sort ⟨_,g2,rfl⟩ entry_list_sort (list_sort_tups g2 t2 hm m0 h128 fun out a1 a2 => ⟨_,rfl,?_⟩) (args_list_sort _)))
  refine wpAny_pure ⟨_,rfl,?_⟩
  show Q (.ref H1.objs.size) { s with heap := sortedHeap (H1.push (seqObj "list" vs.toArray 0)) H1.objs.size vs out }
  unfold sortedHeap
  obtain ⟨e1,q1⟩ : ∃ e1,((H1.push (seqObj "list" vs.toArray 0)).update H1.objs.size (Obj.mapSeq fun _ => #[])).get? H1.objs.size = some (seqObj "list" #[] e1) := ⟨_,get?_update_seq g2 (fun _ => #[])⟩
  have q2 := Heap.get?_push_of_some (seqObj "list" #[] 0) (Heap.get?_push_of_some (seqObj "tuple" vs.toArray 0) q1)
  obtain ⟨e3,q3⟩ : ∃ e3,(((((H1.push (seqObj "list" vs.toArray 0)).update H1.objs.size (Obj.mapSeq fun _ => #[])).push (seqObj "tuple" vs.toArray 0)).push (seqObj "list" #[] 0)).update H1.objs.size (Obj.mapSeq fun _ => out)).get? H1.objs.size = some (seqObj "list" out e3) := ⟨_,get?_update_seq q2 (fun _ => out)⟩
  refine h out H1.objs.size e3 _ a1 a2 q3 (by omega) fun b q e => ?_
  have bl := Heap.lt_size e
  have nb : b ≠ H1.objs.size := by
    intro z
    rw [z,z1] at bl
    exact Nat.lt_irrefl _ (Nat.lt_of_succ_lt bl)
  rw [Heap.get?_update_ne _ _ _ _ nb]
  refine Heap.get?_push_of_some _ (Heap.get?_push_of_some _ ?_)
  rw [Heap.get?_update_ne _ _ _ _ nb]
  exact Heap.get?_push_of_some _ (k1 b q e)
end
section
variable {X : Cx}
theorem call_sortedT (K : PySem.W.Frag)(hK : X.K = K)(hc : X.calm = true) : CallR X (.builtin "sorted") (fun xs H Q => ∃ (D : Addr) (ps : List (Addr × List Int)) (m : Nat),xs = [.ref D] /\ SqL K H D (ps.map fun p => V.ref p.1) /\ (∀ p ∈ ps,SqT K H p.1 (p.2.map V.int) /\ p.2.length = m /\ ∀ z ∈ p.2,SmallZ z) /\ 0 < m /\ ps.length < 128 /\
    ∀ (p : Addr) (qs : List (Addr × List Int)),H p = none -> qs.Perm ps -> qs.Pairwise (fun x y => encA 0 x.2 <= encA 0 y.2) -> Q (.ref p) (upd H p (.lst (qs.map fun q => V.ref q.1)))) := by
  subst hK
  intro pins s σ H xs us Q I r h
  obtain ⟨D,ps,m,rfl,hD,hr,m0,h128,q⟩ := h
  obtain ⟨u,rfl,rx⟩ := vals1 r
  cases rx
  obtain ⟨its,rv,pl,hz⟩ := I.list hD
  rw [show (ps.map fun p => V.ref p.1) = (ps.map (·.1)).map V.ref by rw [List.map_map]; rfl] at rv
  have e := vals_refs rv
  subst e
  have hl := pl.isList
  let row : Addr -> List Int := fun a => match ps.find? (fun p => p.1 == a) with | some p => p.2 | none => []
  have rw_ : ∀ p ∈ ps,row p.1 = p.2 := fun p hp => by
    show (match ps.find? (fun q => q.1 == p.1) with | some p => p.2 | none => []) = p.2
    cases f : ps.find? (fun q => q.1 == p.1) with
    | none => exact absurd (List.find?_eq_none.mp f p hp) (by simp)
    | some p' =>
      have m1 := List.mem_of_find?_eq_some f
      have m2 : p'.1 = p.1 := by simpa using List.find?_some f
      have h1 := (hr p' m1).1
      rw [m2] at h1
      have := I.tuple_inj h1 (hr p hp).1
      exact (List.map_inj_right (fun x y e => by cases e; rfl)).mp this
  refine sorted_tups (rows := fun v => match v with | .ref a => row a | _ => []) hl (fun v hv => ?_) (fun v hv => ?_) m0 (by rw [List.length_map,List.length_map]; exact h128) fun out L ep h' a1 a2 g zL k => ?_
  · obtain ⟨a,ha,rfl⟩ := List.mem_map.mp hv
    obtain ⟨p,hp,rfl⟩ := List.mem_map.mp ha
    obtain ⟨its,rv,⟨o,g,c,n,d⟩,_⟩ := I.tuple (hr p hp).1
    exact ⟨p.1,o,its.toArray,n,rfl,g,c,d,by show IntsAre _ (row p.1); rw [rw_ p hp]; exact ints_of_vals rv⟩
  · obtain ⟨a,ha,rfl⟩ := List.mem_map.mp hv
    obtain ⟨p,hp,rfl⟩ := List.mem_map.mp ha
    show (row p.1).length = m /\ ∀ z ∈ row p.1,SmallZ z
    rw [rw_ p hp]
    exact (hr p hp).2
  · obtain ⟨bs,eb⟩ : ∃ bs : List Addr,out.toList = bs.map Value.ref := by
      have : ∀ l : List Value,(∀ v ∈ l,∃ a,v = Value.ref a) -> ∃ bs : List Addr,l = bs.map Value.ref := by
        intro l
        induction l with
        | nil => exact fun _ => ⟨[],rfl⟩
        | cons v l ih =>
          intro h
          obtain ⟨a,rfl⟩ := h v (List.mem_cons_self ..)
          obtain ⟨bs,rfl⟩ := ih fun v hv => h v (List.mem_cons_of_mem _ hv)
          exact ⟨a :: bs,rfl⟩
      refine this _ fun v hv => ?_
      obtain ⟨a,_,e⟩ := List.mem_map.mp (a1.mem_iff.mp hv)
      exact ⟨a,e.symm⟩
    have pb : bs.Perm (ps.map (·.1)) := by
      have := a1
      rw [eb] at this
      have := this.map (fun v => match v with | Value.ref a => a | _ => 0)
      rw [List.map_map,List.map_map] at this
      simpa [Function.comp_def] using this
    have hL : H L = none := I.hok.fresh zL
    have eq : (bs.map fun a => (a,row a)).map (fun q => V.ref q.1) = bs.map V.ref := by
      rw [List.map_map]; rfl
    have pq : (bs.map fun a => (a,row a)).Perm ps := by
      have := pb.map fun a => (a,row a)
      rw [List.map_map] at this
      have e : ps.map ((fun a => (a,row a)) ∘ fun x => x.1) = ps := by
        conv => rhs; rw [<- List.map_id ps]
        exact List.map_congr_left fun p hp => by show (p.1,row p.1) = p; rw [rw_ p hp]
      rwa [e] at this
    have J := I.laid (a := L) (o := .lst (bs.map V.ref)) (t' := s.toks) (h' := h') k zL ⟨by rw [List.length_map,pb.length_eq,List.length_map,sizeLine_eq]; omega,out.toList,ep,by rw [eb]; exact refs_vals bs,by simpa using g⟩
    have fin := q L (bs.map fun a => (a,row a)) hL pq (by
      rw [eb,List.pairwise_map] at a2
      rw [List.pairwise_map]
      exact a2)
    rw [eq] at fin
    exact ⟨.ref L,_,J,rfl,fin⟩
end
def rowD (r : List Int) : D := .tup (r.map D.int)
theorem reps_rows {K : PySem.W.Frag}{M : Addr -> Prop}{H : Hp} : ∀ {rows : List (List Int)} {vs : List V},Reps K M H (rows.map rowD) vs -> ∃ ps : List (Addr × List Int),vs = ps.map (fun p => V.ref p.1) /\ rows = ps.map (·.2) /\ ∀ p ∈ ps,Rep K M H (rowD p.2) (.ref p.1)
  | [],vs,h => ⟨[],h,rfl,fun p hp => by simp at hp⟩
  | r :: rows,vs,h => by
    obtain ⟨v,rest,rfl,h1,h2⟩ := h
    obtain ⟨ps,rfl,hl,hr⟩ := reps_rows h2
    obtain ⟨a,us,rfl,h3⟩ := (show ∃ a us,v = V.ref a /\ TpA K M H a us /\ Reps K M H _ us from h1)
    refine ⟨(a,r) :: ps,rfl,by rw [List.map_cons,<- hl],fun p hp => ?_⟩
    rcases List.mem_cons.mp hp with rfl | hp
    · exact h1
    · exact hr p hp
theorem rows_reps {K : PySem.W.Frag}{M : Addr -> Prop}{H : Hp} : ∀ {qs : List (Addr × List Int)},(∀ q ∈ qs,Rep K M H (rowD q.2) (.ref q.1)) -> Reps K M H ((qs.map (·.2)).map rowD) (qs.map fun q => V.ref q.1)
  | [],_ => rfl
  | q :: qs,h => ⟨.ref q.1,qs.map fun q => V.ref q.1,rfl,h q (List.mem_cons_self ..),rows_reps fun x hx => h x (List.mem_cons_of_mem _ hx)⟩
theorem row_of {K : PySem.W.Frag}{M : Addr -> Prop}{H : Hp}{r : List Int}{a : Addr}(h : Rep K M H (rowD r) (.ref a)) : SqT K H a (r.map V.int) := by
  obtain ⟨a',us,e,h1,h2⟩ := (show ∃ a' us,V.ref a = V.ref a' /\ TpA K M H a' us /\ Reps K M H (r.map D.int) us from h)
  cases e
  rw [reps_ints h2] at h1
  exact h1.sq
def srtTP (xs : List D)(P : List D -> Prop) : Prop := ∃ (rows : List (List Int)) (m : Nat),xs = rows.map rowD /\ 0 < m /\ rows.length < 128 /\ (∀ r ∈ rows,r.length = m /\ ∀ z ∈ r,SmallZ z) /\ ∀ rows' : List (List Int),rows'.Perm rows -> rows'.Pairwise (fun x y => encA 0 x <= encA 0 y) -> P (rows'.map rowD)
section
variable {X : Cx}{W : Wd}{a e : Expr}{pos : Pos}{dA : DA}
def rSortT (K : PySem.W.Frag) : List V -> Hp -> VK -> Prop := fun xs H Q => ∃ (D : Addr) (ps : List (Addr × List Int)) (m : Nat),xs = [.ref D] /\ SqL K H D (ps.map fun p => V.ref p.1) /\ (∀ p ∈ ps,SqT K H p.1 (p.2.map V.int) /\ p.2.length = m /\ ∀ z ∈ p.2,SmallZ z) /\ 0 < m /\ ps.length < 128 /\
    ∀ (p : Addr) (qs : List (Addr × List Int)),H p = none -> qs.Perm ps -> qs.Pairwise (fun x y => encA 0 x.2 <= encA 0 y.2) -> Q (.ref p) (upd H p (.lst (qs.map fun q => V.ref q.1)))
theorem call_sortT (K : PySem.W.Frag)(hK : X.K = K)(hc : X.calm = true) : CallR X (.builtin "sorted") (rSortT K) := call_sortedT K hK hc
def dSrtF (da : DA) : DA := fun ρ P => da ρ fun xs => match xs with
  | [x] => (asL x).elim False fun ys => srtTP ys P
  | _ => False
theorem jdf_sortT {lpos npos : Pos}(ha : JA X W [a] dA)(h : PE X (.Call (.Name "sorted" npos) [a] [] lpos) (tCB (rSortT W.K) (dnA W dA))) : JF X W (.Call (.Name "sorted" npos) [a] [] lpos) (dSrtF dA) := ⟨h.mono fun σ H Q hh => by
  obtain ⟨pn,M,b,ρ,P,st,h,k⟩ := hh
  refine ⟨pn,M,b,ρ,_,st,h,fun xs vs H1 hx rx k1 o1 => ?_⟩
  match xs,hx with
  | [x],hx =>
    obtain ⟨v,rfl,r⟩ := rx1 rx
    cases e1 : asL x with
    | none => simp only [e1] at hx; exact hx.elim
    | some ys =>
      simp only [e1] at hx
      obtain ⟨rows,m,rfl,m0,h128,hb,hP⟩ := hx
      obtain ⟨a1,us,rfl,h1,r1⟩ := asL.rep r e1
      obtain ⟨ps,rfl,rfl,hr⟩ := reps_rows r1
      refine ⟨a1,ps,m,rfl,SqL.of h1,fun p hp => ⟨row_of (hr p hp),hb _ (List.mem_map.mpr ⟨p,hp,rfl⟩)⟩,m0,by rw [List.length_map] at h128; exact h128,fun p qs hp pq so => ?_⟩
      have rq : Reps W.K M H1 ((qs.map (·.2)).map rowD) (qs.map fun q => V.ref q.1) := rows_reps fun q hq => hr q (pq.mem_iff.mp hq)
      exact k _ _ p _ (hP (qs.map (·.2)) (pq.map _) (by rw [List.pairwise_map]; exact so)) (was_new k1 o1 hp) upd_same (Reps.keep (fun c o _ e => Same.upd hp c o e) _ _ (Reps.avoid (fun c z => z.imp id fun y => by rw [y]; exact hp) _ _ rq)) (k1.trans (Kp.upd hp)) ((st.step k1 o1).toHs.okU hp)⟩
def dNewD (dF : DA) : DE := fun ρ P => dF ρ fun xs => P (.lst xs)
theorem jde_new (h : JF X W e dA) : JE X W e (dNewD dA) := ⟨h.h.mono fun σ H Q hh => by
  obtain ⟨pn,M,b,ρ,P,st,h,k⟩ := hh
  refine ⟨pn,M,b,ρ,_,st,h,fun xs vs p H' hx n1 e1 r1 k1 o1 => ?_⟩
  exact k _ _ H' hx ⟨p,vs,rfl,⟨st.toHs.new n1,e1⟩,Reps.avoid (fun c m => .inl (.inl m)) _ _ r1⟩ k1 o1⟩
def dRetF (dF : DA) : DS := fun F ρ => dF ρ fun xs => F.ro xs
theorem jds_retF (h : JF X W e dA) : JS X W (.Return (some e) pos) (dRetF dA) := ⟨(ps_ret h.h).mono fun E σ H hh => hh.elim fun pn M b ρ F s l hd => by
  refine ⟨pn,M,b,ρ,_,s.toSta,hd,fun xs vs p H' hx n1 e1 r1 k1 o1 => ?_⟩
  have s' := s.toSta.step k1 o1
  obtain ⟨h0,m0⟩ := s.toSta.fresh0 n1
  exact l.ro _ _ _ H' hx h0 m0 e1 (Reps.avoid (fun c z => z.elim (fun y => .inl (.inl (s'.m0 c y))) fun y => .inl (.inr y)) _ _ r1) s'.kp s'.ok0⟩
end
end L2
set_option Elab.async false
set_option linter.all false
set_option maxRecDepth 100000
set_option maxHeartbeats 4000000
namespace L2
open PySem PySem.Spec PyProof.Rows
section
variable {prog : Program}{w : World}{A : Around}{E : Value -> Shared -> Prop}{s : Shared}{d : Addr}{ds : Array DictEntry}{ep : Nat}
theorem RawD.frame {h h' : Heap}(x : RawD h d ds ep)(k : ∀ o,h.get? d = some o -> h'.get? d = some o) : RawD h' d ds ep := by
  obtain ⟨o,e,q⟩ := x
  exact ⟨o,k o e,q⟩
end
end L2
set_option Elab.async false
set_option linter.all false
set_option maxRecDepth 100000
set_option maxHeartbeats 4000000
namespace L2
open PySem PySem.Spec PyProof.Rows
section
variable {prog : Program}{w : World}{A : Around}{E : Value -> Shared -> Prop}{s : Shared}
end
section
variable {X : Cx}
end
section
variable {X : Cx}{W : Wd}{a e : Expr}{pos : Pos}{dA : DA}
end
end L2
set_option Elab.async false
set_option linter.all false
set_option maxRecDepth 100000
set_option maxHeartbeats 4000000
namespace L2
open PySem PySem.Spec PyProof.Rows
section
variable {prog : Program}{w : World}{A : Around}{E : Value -> Shared -> Prop}{s : Shared}
theorem sorted_nums {l : Addr}{vs : List Value}{zs : List Int}{Q : Value -> Shared -> Prop}(il : s.heap.IsList l vs.toArray)(vi : IntsAre vs zs)(h64 : vs.length < 64)
    (h : ∀ (out : Array Value) (ks : List Int) (L : Addr) (e : Nat) h' tk,IntsAre out.toList ks -> ks.Perm zs -> ks.Pairwise (· <= ·) -> h'.get? L = some (seqObj "list" out e) -> s.heap.objs.size <= L -> (∀ b o,s.heap.get? b = some o -> h'.get? b = some o) -> Q (.ref L) { s with heap := h',toks := tk }) :
    wpAny (model prog w) A (call (.builtin "sorted") [.ref l]) Q E s := by
  refine Calls.call_function_entry kind_sorted plain_sorted entry_sorted (args_sorted1 _) ?_
  unfold Builtin.«sorted»
  refine wpAny_bind (m := checkCount "sorted" 1 1 _) (wpAny_pure ?_)
  refine wpAny_bind (collect_list il ?_ (by rw [sizeLine_eq]; omega))
  refine wpAny_bind (wpAny_newList ?_)
  have z1 : ((s.heap.push (seqObj "list" #[] 0)).update s.heap.objs.size (Obj.mapSeq (· ++ vs.toArray))).objs.size = s.heap.objs.size + 1 := by
    rw [Heap.size_update,size_push']
  generalize hH : (s.heap.push (seqObj "list" #[] 0)).update s.heap.objs.size (Obj.mapSeq (· ++ vs.toArray)) = H1 at z1
  have k1 : ∀ b o,s.heap.get? b = some o -> H1.get? b = some o := fun b o e => by
    have hlt : b < s.heap.objs.size := Heap.lt_size e
    rw [<- hH,Heap.get?_update_ne _ _ _ _ (Nat.ne_of_lt hlt),Heap.get?_push_ne _ _ _ (Nat.ne_of_lt hlt)]
    exact e
  have g2 : (H1.push (seqObj "list" vs.toArray 0)).get? H1.objs.size = some (seqObj "list" vs.toArray 0) := Heap.get?_push_size _ rfl
  refine wpAny_bind (wpAny_holding (wpAny_call_entry (s := { s with heap := H1.push (seqObj "list" vs.toArray 0) }) slot_list_sort ⟨_,g2,rfl⟩ entry_list_sort (list_sort_tree g2 vi h64 fun out ks a1 a2 a3 => ⟨_,rfl,?_⟩) (args_list_sort _)))
  refine wpAny_pure ⟨_,rfl,?_⟩
  show Q (.ref H1.objs.size) { s with heap := sortedHeap (H1.push (seqObj "list" vs.toArray 0)) H1.objs.size vs out }
  unfold sortedHeap
  obtain ⟨e1,q1⟩ : ∃ e1,((H1.push (seqObj "list" vs.toArray 0)).update H1.objs.size (Obj.mapSeq fun _ => #[])).get? H1.objs.size = some (seqObj "list" #[] e1) := ⟨_,get?_update_seq g2 (fun _ => #[])⟩
  have q2 := Heap.get?_push_of_some (seqObj "list" #[] 0) (Heap.get?_push_of_some (seqObj "tuple" vs.toArray 0) q1)
  obtain ⟨e3,q3⟩ : ∃ e3,(((((H1.push (seqObj "list" vs.toArray 0)).update H1.objs.size (Obj.mapSeq fun _ => #[])).push (seqObj "tuple" vs.toArray 0)).push (seqObj "list" #[] 0)).update H1.objs.size (Obj.mapSeq fun _ => out)).get? H1.objs.size = some (seqObj "list" out e3) := ⟨_,get?_update_seq q2 (fun _ => out)⟩
  refine h out ks H1.objs.size e3 _ _ a1 a2 a3 q3 (by omega) fun b q e => ?_
  have bl := Heap.lt_size e
  have nb : b ≠ H1.objs.size := by
    intro z
    rw [z,z1] at bl
    exact Nat.lt_irrefl _ (Nat.lt_of_succ_lt bl)
  rw [Heap.get?_update_ne _ _ _ _ nb]
  refine Heap.get?_push_of_some _ (Heap.get?_push_of_some _ ?_)
  rw [Heap.get?_update_ne _ _ _ _ nb]
  exact Heap.get?_push_of_some _ (k1 b q e)
end
def rSortN (K : PySem.W.Frag) : List V -> Hp -> VK -> Prop := fun xs H Q => ∃ (D : Addr) (zs : List Int),xs = [.ref D] /\ SqL K H D (zs.map V.int) /\ zs.length < 64 /\ ∀ (p : Addr) (ks : List Int),H p = none -> ks.Perm zs -> ks.Pairwise (· <= ·) -> Q (.ref p) (upd H p (.lst (ks.map V.int)))
theorem call_sortN {X : Cx}(K : PySem.W.Frag)(hK : X.K = K) : CallR X (.builtin "sorted") (rSortN K) := by
  subst hK
  intro pins s σ H xs us Q I r h
  obtain ⟨D,zs,rfl,hD,h64,q⟩ := h
  obtain ⟨u,rfl,rx⟩ := vals1 r
  cases rx
  obtain ⟨its,rv,pl,hz⟩ := I.list hD
  have vi := ints_of_vals rv
  have hl := rv.length
  rw [List.length_map] at hl
  refine sorted_nums pl.isList vi (by omega) fun out ks L ep h' tk a1 a2 a3 g zL k => ?_
  have hL : H L = none := I.hok.fresh zL
  have J := I.laid (a := L) (o := .lst (ks.map V.int)) (t' := tk) (h' := h') k zL ⟨by rw [List.length_map,a2.length_eq,sizeLine_eq]; omega,out.toList,ep,vals_of_ints a1,by simpa using g⟩
  exact ⟨.ref L,_,J,rfl,q L ks hL a2 a3⟩
def srtNP (xs : List D)(P : List D -> Prop) : Prop := ∃ zs : List Int,xs = zs.map D.int /\ zs.length < 64 /\ ∀ ks : List Int,ks.Perm zs -> ks.Pairwise (· <= ·) -> P (ks.map D.int)
section
variable {X : Cx}{W : Wd}{a e : Expr}{pos : Pos}{dA : DA}
def dSrtN (da : DA) : DA := fun ρ P => da ρ fun xs => match xs with
  | [x] => (asL x).elim False fun ys => srtNP ys P
  | _ => False
theorem reps_of_ints {K : PySem.W.Frag}{M : Addr -> Prop}{H : Hp} : ∀ ns : List Int,Reps K M H (ns.map D.int) (ns.map V.int)
  | [] => rfl
  | n :: ns => ⟨.int n,ns.map V.int,rfl,rfl,reps_of_ints ns⟩
theorem jdf_sortN {lpos npos : Pos}(ha : JA X W [a] dA)(h : PE X (.Call (.Name "sorted" npos) [a] [] lpos) (tCB (rSortN W.K) (dnA W dA))) : JF X W (.Call (.Name "sorted" npos) [a] [] lpos) (dSrtN dA) := ⟨h.mono fun σ H Q hh => by
  obtain ⟨pn,M,b,ρ,P,st,h,k⟩ := hh
  refine ⟨pn,M,b,ρ,_,st,h,fun xs vs H1 hx rx k1 o1 => ?_⟩
  match xs,hx with
  | [x],hx =>
    obtain ⟨v,rfl,r⟩ := rx1 rx
    cases e1 : asL x with
    | none => simp only [e1] at hx; exact hx.elim
    | some ys =>
      simp only [e1] at hx
      obtain ⟨zs,rfl,h64,hP⟩ := hx
      obtain ⟨a1,us,rfl,h1,r1⟩ := asL.rep r e1
      cases reps_ints r1
      refine ⟨a1,zs,rfl,SqL.of h1,h64,fun p ks hp pq so => ?_⟩
      exact k _ _ p _ (hP ks pq so) (was_new k1 o1 hp) upd_same (reps_of_ints ks) (k1.trans (Kp.upd hp)) ((st.step k1 o1).toHs.okU hp)⟩
end
end L2
set_option Elab.async false
set_option linter.all false
set_option maxRecDepth 100000
set_option maxHeartbeats 4000000
namespace L2
open PySem PySem.Spec PyProof.Rows
section
variable {X : Cx}{W : Wd}{pos : Pos}
end
end L2
set_option Elab.async false
set_option linter.all false
set_option maxRecDepth 100000
set_option maxHeartbeats 4000000
namespace L2
open PySem PySem.Spec PyProof.Rows
section
variable {X : Cx}{W : Wd}{e o : Expr}{es : List Expr}{dA : DA3}{r : V -> List V -> Hp -> VK -> Prop}{f : Str -> List D -> (D -> Prop) -> Prop}{name : Str}{apos cpos : Pos}{z : Str}
end
end L2
set_option Elab.async false
set_option linter.all false
set_option maxRecDepth 100000
set_option maxHeartbeats 4000000
namespace L2
open PySem PySem.Spec PyProof.Rows
section
variable {X : Cx}{W : Wd}{dA : DA3}
end
end L2
set_option Elab.async false
set_option linter.all false
set_option maxRecDepth 100000
set_option maxHeartbeats 4000000
namespace L2
open PySem PySem.Spec PyProof.Rows
def asc (z : Str) : Prop := ∀ c ∈ z.cps.toList,c < 128
end L2
set_option Elab.async false
set_option linter.all false
set_option maxRecDepth 100000
set_option maxHeartbeats 4000000
namespace L2
open PySem PySem.Spec PyProof.Rows
section
variable {X : Cx}{W : Wd}{e o a b : Expr}{es : List Expr}{pos : Pos}{dO de : DE}{dA : DA}
end
end L2
set_option Elab.async false
set_option linter.all false
set_option maxRecDepth 100000
set_option maxHeartbeats 4000000
namespace L2
open PySem PySem.Spec PyProof.Rows
section
variable {X : Cx}
theorem call_minT (K : PySem.W.Frag)(hK : X.K = K)(hc : X.calm = true) : CallR X (.builtin "min") (fun xs H Q => ∃ (p : Addr) (ns : List Int),xs = [.ref p] /\ SqT K H p (ns.map V.int) /\ 0 < ns.length /\ ∀ M : Int,M ∈ ns -> (∀ a ∈ ns,M <= a) -> Q (.int M) H) := by
  subst hK
  intro pins s σ H xs us Q I r h
  obtain ⟨p,ns,rfl,hq,hn,q⟩ := h
  obtain ⟨u,rfl,rx⟩ := vals1 r
  cases rx
  obtain ⟨its,rv,pl,hz⟩ := I.tuple hq
  obtain ⟨ps,e1,e2⟩ := ints_pairs rv
  subst e1
  have hlen : ps.length = ns.length := by rw [<- e2,List.length_map]
  have hl : s.heap.IsTuple p _ := pl
  rw [<- intItems_toArray] at hl
  refine min_intTup (xs := ps.toArray) (I.ok.hd hc) hl (by simp; omega) fun v h' tk hv k => ?_
  obtain ⟨t,e⟩ := intItems_at hv
  obtain ⟨b1,b2⟩ := argBest_lt (numAt ps.toArray) (ps.toArray.size - 1)
  subst e
  refine ⟨.int _,H,I.kept k,⟨t,rfl⟩,q _ ?_ ?_⟩
  · rw [numAt_toArray,e2]
    have hj : argBest (fun i j => decide (numAt ps.toArray i < numAt ps.toArray j)) (ps.toArray.size - 1) < ns.length := by
      have : ps.toArray.size = ns.length := by simp [hlen]
      omega
    rw [List.getElem?_eq_getElem hj]
    exact List.getElem_mem hj
  · intro a ha
    obtain ⟨j,hj,rfl⟩ := List.mem_iff_getElem.mp ha
    have := b2 j (by simp; omega)
    rw [numAt_toArray ps j,e2,List.getElem?_eq_getElem hj] at this
    exact this
end
end L2
set_option Elab.async false
set_option linter.all false
set_option maxRecDepth 100000
set_option maxHeartbeats 4000000
namespace L2
open PySem PySem.Spec PyProof.Rows
section
variable {X : Cx}{W : Wd}
end
end L2
set_option Elab.async false
set_option linter.all false
set_option maxRecDepth 100000
set_option maxHeartbeats 4000000
namespace L2
open PySem PySem.Spec PyProof.Rows
section
variable {X : Cx}{W : Wd}{e : Expr}{dA : DA}
end
end L2
set_option Elab.async false
set_option linter.all false
set_option maxRecDepth 100000
set_option maxHeartbeats 4000000
namespace L2
open PySem PySem.Spec PyProof.Rows
end L2
set_option Elab.async false
set_option linter.all false
set_option maxRecDepth 100000
set_option maxHeartbeats 4000000
namespace L2
open PySem PySem.Spec PyProof.Rows
def tpF (K : PySem.W.Frag)(p : Addr)(rs : List Addr)(rows : List (List D)) : Frg where
  ads := rs
  R := fun M H v => v = .ref p /\ ¬ M p /\ rs.Nodup /\ H p = some (.tup (rs.map V.ref)) /\ RowsR K M H rs rows
  keep := fun M H H' v k h => ⟨h.1,h.2.1,h.2.2.1,k _ _ (.inl h.2.1) h.2.2.2.1,RowsR.keep rs rows k h.2.2.2.2⟩
  avoid := fun M M' H v k h => ⟨h.1,fun m => (k p m).elim h.2.1 (fun z => by rw [h.2.2.2.1] at z; cases z),h.2.2.1,h.2.2.2.1,RowsR.avoid k rs rows h.2.2.2.2⟩
  ref := fun M H v h => ⟨p,h.1⟩
  nt := fun M H v h c m => by
    obtain ⟨us,e⟩ := h.2.2.2.2.lst c m
    exact ⟨_,e,fun _ y => by cases y⟩
def tpd (K : PySem.W.Frag)(p : Addr)(rs : List Addr)(rows : List (List D)) : D := .frg (tpF K p rs rows) (.tup (rows.map D.lst))
theorem tp_rep {K : PySem.W.Frag}{M : Addr -> Prop}{H : Hp}{p : Addr}{rs : List Addr}{rows : List (List D)}(np : ¬ M p)(hp : H p = some (.tup (rs.map V.ref)))(hr : RowsR K M H rs rows) : Rep K (fun c => M c /\ c ∉ rs) H (.tup (rows.map D.lst)) (.ref p) :=
  ⟨p,_,rfl,.inl ⟨fun m => np m.1,hp⟩,RowsR.reps (A := rs) rs rows (fun r m => m) hr⟩
abbrev DSPX := List D -> (Frg -> D -> Prop) -> (Addr -> Prop) -> Prop
def liftSpPX (K : PySem.W.Frag)(B : BagT)(S : DSPX) : Sp := fun vs H Q E => ∃ (M : Addr -> Prop) (b : Option Addr) (ds : List D) (P : Frg -> D -> Prop) (Ed : Addr -> Prop),S ds P Ed /\ RepAs K M b H ds vs /\ okB B b H /\ (∀ p,b = some p -> M p) /\ (∀ c,M c -> ∃ o,H c = some o) /\
  (∀ f d v H',P f d -> PNew K M H H' f d v -> Kp b H H' -> okB B b H' -> Q v H') /\ ∀ C H',Ed C -> Kp b H H' -> okB B b H' -> E (.ref C) none H'
theorem liftSpPX.len {K : PySem.W.Frag}{B : BagT}{S : DSPX}{n : Nat}(h : ∀ ds P Ed,S ds P Ed -> ds.length = n) : ∀ vs H Q E,liftSpPX K B S vs H Q E -> vs.length = n := fun vs H Q E ⟨M,b,ds,P,Ed,hS,hr,_⟩ => by rw [hr.length]; exact h _ _ _ hS
abbrev DPX := (Frg -> D -> Prop) -> DS
def snPX (W : Wd)(d : DPX) : TS := fun E σ H => ∃ pn M b ρ F P,StS W pn M b H σ ρ /\ Link W pn E F /\ (∀ f d v H',P f d -> PNew W.K W.M0 W.H0 H' f d v -> Kp W.b0 W.H0 H' -> okB W.B W.b0 H' -> E.rt v H') /\ d P F ρ
structure JPXs (X : Cx)(W : Wd)(sts : List Stmt)(d : DPX) : Prop where
  h : PSs X sts (snPX W d)
theorem jpx_cons {X : Cx}{W : Wd}{st : Stmt}{rest : List Stmt}{d1 : DS}{d2 : DPX}(h1 : JS X W st d1)(h2 : JPXs X W rest d2) : JPXs X W (st :: rest) (fun P F => d1 { F with nx := d2 P F }) := ⟨(pss_cons h1.h h2.h).mono fun E σ H hh => by
  obtain ⟨pn,M,b,ρ,F,P,s,l,lg,h⟩ := hh
  exact ⟨pn,M,b,ρ,{ F with nx := d2 P F },s,⟨fun M b ρ σ H s' h' => ⟨pn,M,b,ρ,F,P,s',l,lg,h'⟩,l.rt,l.bk,l.ct,l.ro⟩,h⟩⟩
theorem Fun.okDXP {P : Program}{w : World}{K : PySem.W.Frag}{mg : Str -> Option Value}{base : Heap}{CX : CXT}{x qual : Str}{st : Stmt}{f : Addr}{fd : FuncData}{N ps : List Str}{k : Nat}{B : BagT}{Sd : DSPX}(F : Fun K x qual st f fd)(S : FnScope N ps (defScope st))(len : ∀ ds PP Ed,Sd ds PP Ed -> ds.length = ps.length)
    (hbody : ∀ (cdv : Value) (A : Around) (outer : List Env) (s : Shared) (H : Hp) (E : XK) (M : Addr -> Prop) (bg : Option Addr) (ds : List D) (PP : Frg -> D -> Prop) (Ed : Addr -> Prop),Room k (A.deeper (envOfC qual (defScope st) s.heap.objs.size f cdv)) -> ELink ⟨K,B,H,M,bg⟩ E Ed -> Sd ds PP Ed ->
      ∃ d : DPX,JPXs (cxOf CX P w K mg base N qual (defScope st) f cdv A outer s H E) ⟨K,B,H,M,bg⟩ (defBody st) d /\ d PP { nx := fun _ => False,rt := fun _ => False } (startD N ds)) : FnOk P w K mg base CX (k + 1) f fd ps (liftSpPX K B Sd) :=
  F.okX S (liftSpPX.len len) fun cdv A outer s H vs Q E hr h => by
    obtain ⟨M,bg,ds,PP,Ed,hS,hR,ho,hb,hd,hq,hx⟩ := h
    obtain ⟨d,J,q⟩ := hbody cdv A outer s H E M bg ds PP Ed hr (fun C H' e k o => hx C H' e k o) hS
    exact ⟨_,J.h,[],M,bg,startD N ds,{ nx := fun _ => False,rt := fun _ => False },PP,enter hR ho hb hd,⟨fun _ _ _ _ _ _ h => h.elim,fun _ _ _ h => h.elim,fun _ _ _ _ _ _ h => h.elim,fun _ _ _ _ _ _ h => h.elim,fun _ _ _ _ h => h.elim⟩,fun f d v H' hp gn k o => hq f d v H' hp gn k o,q⟩
section
variable {X : Cx}{W : Wd}{e a b c tg iter l : Expr}{es : List Expr}{pos p : Pos}{dA : DA}{x : Str}{k : Nat}{ps : List Str}{S : DSO}{Sp' : DSPX}
theorem pair_new {pn : List (D × V)}{M : Addr -> Prop}{b : Option Addr}{H H1 H2 : Hp}{σ : St}{ρ : Ev}{xs ys : List D}{vs us : List V}{p1 p2 p : Addr}(s : Sta W pn M b H σ ρ)(n1 : H p1 = none)(e1 : H1 p1 = some (.lst vs))(r1 : Reps W.K (fun c => M c \/ c = p1) H1 xs vs)(k1 : Kp b H H1)(o1 : okB W.B b H1)(n2 : H1 p2 = none)(e2 : H2 p2 = some (.lst us))(r2 : Reps W.K (fun c => (M c \/ c = p1) \/ c = p2) H2 ys us)(k2 : Kp b H1 H2)(o2 : okB W.B b H2)(hp : H2 p = none) :
    PNew W.K M H (upd H2 p (.tup [.ref p1,.ref p2])) (tpF W.K p [p1,p2] [xs,ys]) (.tup ([xs,ys].map D.lst)) (.ref p) := by
  have n2' : H p2 = none := was_new k1 o1 n2
  have b1 : b ≠ some p1 := fun z => by
    obtain ⟨o,e⟩ := W.B.dm p1 H (s.ok p1 z)
    rw [n1] at e; cases e
  have e1' : H2 p1 = some (.lst vs) := k2 p1 _ b1 e1
  have n12 : p1 ≠ p2 := fun z => by rw [z,n2] at e1; cases e1
  have np1 : p ≠ p1 := fun z => by rw [z,e1'] at hp; cases hp
  have np2 : p ≠ p2 := fun z => by rw [z,e2] at hp; cases hp
  have npM : ¬ M p := ((s.step k1 o1).step k2 o2).toHs.new hp
  have bM : ∀ c,b = some c -> M c := s.bagM
  have cl : ∀ c,c ∈ [p1,p2] ↔ c = p1 \/ c = p2 := fun c => by simp
  have hr : RowsR W.K (fun c => M c \/ c ∈ [p1,p2]) (upd H2 p (.tup [.ref p1,.ref p2])) [p1,p2] [xs,ys] := by
    refine ⟨xs,[ys],vs,rfl,Same.upd hp _ _ e1',Reps.keep (fun c o n e => Same.upd hp c o (k2 c o (fun z => n (.inl (bM c z))) e)) _ _ (Reps.avoid (fun c m => ?_) _ _ r1),ys,[],us,rfl,Same.upd hp _ _ e2,Reps.keep (fun c o n e => Same.upd hp c o e) _ _ (Reps.avoid (fun c m => .inl ?_) _ _ r2),rfl⟩
    · rcases m with m | m
      · exact .inl (.inl m)
      · rcases (cl c).mp m with z | z
        · exact .inl (.inr z)
        · exact .inr (by rw [z]; exact n2)
    · rcases m with m | m
      · exact .inl (.inl m)
      · rcases (cl c).mp m with z | z
        · exact .inl (.inr z)
        · exact .inr z
  have np : ¬ (M p \/ p ∈ [p1,p2]) := fun m => m.elim npM fun z => ((cl p).mp z).elim np1 np2
  have new : ∀ c ∈ [p1,p2],H c = none := fun c m => ((cl c).mp m).elim (fun z => by rw [z]; exact n1) fun z => by rw [z]; exact n2'
  refine ⟨new,⟨rfl,np,by simp [n12],upd_same,hr⟩,Rep.avoid (fun c m => .inl ⟨.inl m,fun z => ?_⟩) _ _ (tp_rep np upd_same hr)⟩
  obtain ⟨o,e⟩ := s.dom c m
  rw [new c z] at e; cases e
end
end L2
set_option Elab.async false
set_option linter.all false
set_option maxRecDepth 100000
set_option maxHeartbeats 4000000
namespace L2
open PySem PySem.Spec PyProof.Rows
section
variable {X : Cx}{W : Wd}{e a b c tg iter l : Expr}{es : List Expr}{pos p : Pos}{dA : DA}{x : Str}{k : Nat}{ps : List Str}{S : DSPX}
structure TpAt (W : Wd)(M : Addr -> Prop)(b : Option Addr)(H : Hp)(v : V)(p : Addr)(rs : List Addr)(rows : List (List D)) : Prop where
  ev : v = .ref p
  np : ¬ M p
  hp : H p = some (.tup (rs.map V.ref))
  ho : ∀ c ∈ rs,M c /\ b ≠ some c /\ W.H0 c = none /\ ¬ W.M0 c
  nd : rs.Nodup
  hr : RowsR W.K M H rs rows
theorem TpAt.of {M : Addr -> Prop}{b : Option Addr}{H : Hp}{v : V}{p : Addr}{rs : List Addr}{rows : List (List D)}(r : RepX W M b H (tpd W.K p rs rows) v) : TpAt W M b H v p rs rows := by
  obtain ⟨ho,⟨e,np,nd,hp,hr⟩,_⟩ := r
  exact ⟨e,np,hp,ho,nd,hr⟩
theorem TpAt.get {M : Addr -> Prop}{b : Option Addr}{H : Hp}{v : V}{p : Addr}{rs : List Addr}{rows : List (List D)}{k : Nat}{row : List D}(t : TpAt W M b H v p rs rows)(er : rows[k]? = some row) : ∃ r us,rs[k]? = some r /\ H r = some (.lst us) /\ Reps W.K M H row us := by
  have hk : k < rs.length := by rw [<- t.hr.length]; exact (List.getElem?_eq_some_iff.mp er).1
  obtain ⟨row',us,er',hh,rr⟩ := t.hr.at (List.getElem?_eq_getElem hk)
  rw [er] at er'; cases er'
  exact ⟨_,us,List.getElem?_eq_getElem hk,hh,rr⟩
def tpTell (K : PySem.W.Frag)(P : Addr -> List Addr -> List (List D) -> Prop) : Frg -> D -> Prop := fun f d => ∃ p rs rows,f = tpF K p rs rows /\ d = .tup (rows.map D.lst) /\ (∀ r ∈ rows,noLs r = true) /\ P p rs rows
theorem call_tp {pn : List (D × V)}{M : Addr -> Prop}{b : Option Addr}{H1 : Hp}{σ : St}{ρ : Ev}{xs : List D}{vs : List V}{P : Addr -> List Addr -> List (List D) -> Prop}{Q : VK}{E : XK}{Ed : Addr -> Prop}(hE : ELink W E Ed)(st1 : Sta W pn M b H1 σ ρ)(rx : RepXs W M b H1 xs vs)(hS : S (xs.map bor) (tpTell W.K P) Ed)
    (k : ∀ p rs rows v H',P p rs rows -> PNew W.K M H1 H' (tpF W.K p rs rows) (.tup (rows.map D.lst)) v -> Kp b H1 H' -> okB W.B b H' -> Q v H') : liftSpPX W.K W.B S vs H1 Q E := by
  refine ⟨fun c => M c /\ ¬ BorAt xs vs c,b,xs.map bor,_,Ed,hS,RepXs.bor2 (fun c h => h.1) _ _ (fun c h z => z.2 h) rx,st1.ok,fun p h => ⟨st1.bagM p h,fun z => (BorAt.lst xs vs rx z).1 h⟩,fun c hc => st1.dom c hc.1,fun f d v H' hp gn k2 o2 => ?_,fun C H' hC k2 o2 => ?_⟩
  · obtain ⟨p,rs,rows,rfl,rfl,nl,hp⟩ := hp
    obtain ⟨e,np,nd,hh,hr⟩ := gn.R
    have lst : ∀ c,M c -> (M c /\ ¬ BorAt xs vs c) \/ ∃ o,H' c = some o /\ ∀ vs,o ≠ .tup vs := fun c m => by
      by_cases z : BorAt xs vs c
      · obtain ⟨nb,us',e,nt⟩ := BorAt.lst xs vs rx z
        exact .inr ⟨us',k2 c _ nb e,nt⟩
      · exact .inl ⟨m,z⟩
    have np2 : ¬ (M p \/ p ∈ rs) := fun z => z.elim (fun m => (lst p m).elim (fun y => np (.inl y)) fun y => by
      obtain ⟨o,e1,e2⟩ := y
      rw [hh] at e1
      exact e2 _ (Option.some.inj e1).symm) fun m => np (.inr m)
    have hr2 : RowsR W.K (fun c => M c \/ c ∈ rs) H' rs rows := RowsR.unbor (fun c m => m.elim (fun z => (lst c z).imp .inl id) fun z => .inl (.inr z)) rs rows nl hr
    refine k p rs rows v H' hp ⟨gn.new,⟨e,np2,nd,hh,hr2⟩,?_⟩ k2 o2
    rw [e]
    exact Rep.avoid (fun c m => .inl ⟨.inl m,fun z => by
      obtain ⟨o,y⟩ := st1.dom c m
      rw [gn.new c z] at y; cases y⟩) _ _ (tp_rep np2 hh hr2)
  · have st2 := st1.step k2 o2
    exact hE C H' hC st2.kp st2.ok0
def dCallPX (K : PySem.W.Frag)(S : DSPX)(Ed : Addr -> Prop)(dA : DA) : DE := fun ρ P => dA ρ fun ds => S (ds.map bor) (tpTell K fun _ _ rows => P (.tup (rows.map D.lst))) Ed
theorem jde_ownPX {CX : CXT}{E : XK}{Ed : Addr -> Prop}(hE : ELink W E Ed)(hp : Passes CX X E)(G : Callee X.prog X.w X.K X.mg X.base CX x k ps (liftSpPX W.K W.B S))(hr : Room k X.A)(hg : Gl X x)(ha : JA X W (e :: es) dA)
    (hdb : (x == ("__debug__" : Str)) = false := by decide) (he : starEach (e :: es) X.env = (false,eval e X.env) :: starEach es X.env := by rfl) (hpl : (backTo pos (starEach es X.env)).any (·.1) = false := by rfl) :
    JE X W (.Call (.Name x p) (e :: es) [] pos) (dCallPX W.K S Ed dA) := ⟨(pe_ownX hp G hr hg ha.h hdb he hpl).mono fun σ H Q hh => hh.elim fun pn M b ρ P st h k => by
  refine ⟨pn,M,b,ρ,_,st,h,fun xs vs H1 hx rx k1 o1 => ?_⟩
  have st1 := st.step k1 o1
  show liftSpPX W.K W.B S (vs ++ []) H1 _ E
  rw [List.append_nil]
  exact call_tp hE st1 rx hx fun p rs rows v H' hp gn k2 o2 => k _ _ H' hp gn.rep (k1.trans k2) o2⟩
def dRetTp (K : PySem.W.Frag)(d1 d2 : DA) : DPX := fun P _ ρ => d1 ρ fun xs => d2 ρ fun ys => ∀ p rs,P (tpF K p rs [xs,ys]) (.tup ([xs,ys].map D.lst))
theorem PNew.out {pn : List (D × V)}{M : Addr -> Prop}{b : Option Addr}{H H' : Hp}{σ : St}{ρ : Ev}{f : Frg}{d : D}{v : V}(s : Sta W pn M b H σ ρ)(gn : PNew W.K M H H' f d v) : PNew W.K W.M0 W.H0 H' f d v :=
  ⟨fun c m => (s.fresh0 (gn.new c m)).1,f.avoid _ _ H' v (fun c z => .inl (z.imp (s.m0 c) id)) gn.R,Rep.avoid (fun c m => .inl (s.m0 c m)) _ _ gn.rep⟩
theorem jpx_retTp {d1 d2 : DA}{e1 e2 : Expr}{x1}{tpos : Pos}(hpa : PA X [e1,e2] (tCons (dnF W d1) (tCons (dnF W d2) tNil))) : JPXs X W [.Return (some (.Tuple [e1,e2] x1 tpos)) pos] (dRetTp W.K d1 d2) := ⟨(pss_one (ps_ret (pe_tup hpa))).mono fun E σ H hh => by
  obtain ⟨pn,M,b,ρ,F,P,s,l,lg,h⟩ := hh
  refine ⟨pn,M,b,ρ,_,s.toSta,h,fun xs vs p1 H1 hx n1 e1 r1 k1 o1 => ?_⟩
  have t1 : Sta W pn (fun c => M c \/ c = p1) b H1 σ ρ := s.toSta.grow (fun c z => z.imp id fun y => by rw [y]; exact n1) (fun c z => .inl z) k1 o1 fun c z => z.elim ((s.toSta.step k1 o1).dom c) fun y => by rw [y]; exact ⟨_,e1⟩
  refine ⟨pn,_,b,ρ,_,t1,hx,fun ys us p2 H2 hy n2 e2 r2 k2 o2 => ⟨Nat.le_trans (Nat.le_of_ble_eq_true rfl) le1000,fun p hp => ?_⟩⟩
  have gn := pair_new (W := W) s.toSta n1 e1 r1 k1 o1 n2 e2 r2 k2 o2 hp
  have s3 := ((s.toSta.step k1 o1).step k2 o2).step (Kp.upd (o := .tup [.ref p1,.ref p2]) hp) (((s.toSta.step k1 o1).step k2 o2).toHs.okU hp)
  exact lg _ _ _ _ (hy p [p1,p2]) (gn.out s.toSta) s3.kp s3.ok0⟩
def dRetTn (K : PySem.W.Frag)(i j : Nat) : DPX := fun P _ ρ => ∃ xs ys,i ≠ j /\ ρ[i]? = some (some (.own xs)) /\ ρ[j]? = some (some (.own ys)) /\ ∀ p rs,P (tpF K p rs [xs,ys]) (.tup ([xs,ys].map D.lst))
theorem jpx_retTn {i j : Nat}{e1 e2 : Expr}{x1}{tpos : Pos}(hpa : PA X [e1,e2] (tCons (tVar i) (tCons (tVar j) tNil))) : JPXs X W [.Return (some (.Tuple [e1,e2] x1 tpos)) pos] (dRetTn W.K i j) := ⟨(pss_one (ps_ret (pe_tup hpa))).mono fun E σ H hh => by
  obtain ⟨pn,M,b,ρ,F,P,s,l,lg,xs,ys,hij,e1,e2,hP⟩ := hh
  obtain ⟨v1,ev1,a1,us,rfl,m1,nb1,h01,m01,hh1,r1⟩ := s.env i _ e1
  obtain ⟨v2,ev2,a2,ws,rfl,m2,nb2,h02,m02,hh2,r2⟩ := s.env j _ e2
  refine ⟨.ref a1,ev1,.ref a2,ev2,Nat.le_trans (Nat.le_of_ble_eq_true rfl) le1000,fun p hp => ?_⟩
  have n12 : a1 ≠ a2 := fun z => hij (s.own i j xs ys a1 e1 e2 ev1 (by rw [z]; exact ev2))
  have np1 : p ≠ a1 := fun z => by rw [z,hh1] at hp; cases hp
  have np2 : p ≠ a2 := fun z => by rw [z,hh2] at hp; cases hp
  have npM : ¬ M p := s.toHs.new hp
  have cl : ∀ c,c ∈ [a1,a2] ↔ c = a1 \/ c = a2 := fun c => by simp
  have inM : ∀ c,(W.M0 c \/ c ∈ [a1,a2]) -> M c := fun c z => z.elim (s.m0 c) fun y => ((cl c).mp y).elim (fun z => by rw [z]; exact m1) fun z => by rw [z]; exact m2
  have s3 := s.toSta.step (Kp.upd (o := .tup [.ref a1,.ref a2]) hp) (s.toHs.okU hp)
  have hr : RowsR W.K (fun c => W.M0 c \/ c ∈ [a1,a2]) (upd H p (.tup [.ref a1,.ref a2])) [a1,a2] [xs,ys] :=
    ⟨xs,[ys],us,rfl,Same.upd hp _ _ hh1,Reps.keep (fun c o _ e => Same.upd hp c o e) _ _ (Reps.avoid (fun c m => .inl (inM c m)) _ _ r1),ys,[],ws,rfl,Same.upd hp _ _ hh2,Reps.keep (fun c o _ e => Same.upd hp c o e) _ _ (Reps.avoid (fun c m => .inl (inM c m)) _ _ r2),rfl⟩
  have np : ¬ (W.M0 p \/ p ∈ [a1,a2]) := fun z => npM (inM p z)
  refine lg _ _ (.ref p) _ (hP p [a1,a2]) ⟨fun c m => ((cl c).mp m).elim (fun z => by rw [z]; exact h01) fun z => by rw [z]; exact h02,⟨rfl,np,by simp [n12],upd_same,hr⟩,Rep.avoid (fun c m => .inl ⟨.inl m,fun z => ?_⟩) _ _ (tp_rep np upd_same hr)⟩ s3.kp s3.ok0
  exact ((cl c).mp z).elim (fun y => m01 (by rw [<- y]; exact m)) fun y => m02 (by rw [<- y]; exact m)⟩
end
end L2
set_option Elab.async false
set_option linter.all false
set_option maxRecDepth 100000
set_option maxHeartbeats 4000000
namespace L2
open PySem PySem.Spec PyProof.Rows
theorem jds_popN {X : Cx}{W : Wd}{e : Expr}{pos : Pos}{dA : DA}{i j : Nat}{x y : Str}{npos apos cpos pos' : Pos}(hK : X.K = W.K)(hN : X.N.Nodup)(hi : X.N[j]? = some y)(hx : Loc X.env.scope y)(ha : JA X W [e] dA)
    (h : PE X (.Call (.Attribute (.Name x npos) "pop" apos) [e] [] cpos) (tBM X.K "list" rPopAt (tVar i) (dnA W dA))) (hs : swapsWith (.Call (.Attribute (.Name x npos) "pop" apos) [e] [] cpos) (some (.Name y pos')) pos.line X.env = pure false := by rfl) (hf : X.fn y = true \/ X.env.scope.names.lookup y = some .local := by first | exact .inl rfl | exact .inr rfl | assumption) :
    JS X W (.Assign [.Name y pos'] (.Call (.Attribute (.Name x npos) "pop" apos) [e] [] cpos) pos) (dPopT i (gdN j) dA) := ⟨(ps_set hN hi hx (by rw [hK] at h; exact h) hs hf).mono (up_popT (gd_name j))⟩
end L2
set_option Elab.async false
set_option linter.all false
set_option maxRecDepth 100000
set_option maxHeartbeats 4000000
namespace L2
open PySem PySem.Spec PyProof.Rows
end L2
set_option Elab.async false
set_option linter.all false
set_option maxRecDepth 100000
set_option maxHeartbeats 4000000
namespace L2
open PySem PySem.Spec PyProof.Rows
def tLR1 (ta : TA) : TE := fun σ H Q => ta σ H fun vs H1 => ∃ j,vs = [.int j] /\ (-(2 ^ 20) <= j /\ j <= 1000) /\ ∀ p,H1 p = none -> Q (.ref p) (upd H1 p (.lst (rngV 0 j.toNat)))
theorem pe_listRange1 {X : Cx}{b : Expr}{ta : TA}{p1 p2 pos2 pos : Pos}(hc : X.calm = true)(hg1 : Gl X "list") (hm1 : X.mg "list" = none) (hg2 : Gl X "range") (hm2 : X.mg "range" = none) (ha : PA X [b] ta) (hs2 : starEach [b] X.env = [(false,eval b X.env)] := by rfl)
    (hsl : starEach [.Call (.Name "range" p2) [b] [] pos2] X.env = [(false,eval (.Call (.Name "range" p2) [b] [] pos2) X.env)] := by rfl) : PE X (.Call (.Name "list" p1) [.Call (.Name "range" p2) [b] [] pos2] [] pos) (tLR1 ta) := by
  intro pins s σ H Q I h
  refine Call_ (ld_blt I hg1 hm1 bt_list (PyProof.Rows.callWith_type1 ?_ hsl rfl))
  rw [hsl]
  show wpAny _ _ (spliced ((false,eval (.Call (.Name "range" p2) [b] [] pos2) X.env) :: backTo pos [])) _ _ s
  refine Calls.spliced_cons ?_
  refine Call_ (ld_blt I hg2 hm2 boot_range (PyProof.Rows.callWith_type1 (thn (ha pos2 pins s σ H _ I h) fun us s1 ⟨vs,H1,I1,r1,q1⟩ => ?_) (by rw [hs2]; rfl) (by rfl)))
  obtain ⟨j,rfl,⟨b1,b2⟩,q⟩ := q1
  obtain ⟨u1,rfl,t1⟩ := vals1 r1
  obtain ⟨t,rfl⟩ := t1
  refine call_range_1 ?_
  refine Calls.spliced_nil ?_
  have I2 : Inv X pins σ H1 { s1 with heap := s1.heap.push { cls := .type "range",data := .fields #[.int 0 s1.toks,.int j t,.int 1 (s1.toks + 1)] },toks := s1.toks + 1 + 1 } := I1.kept fun b o e => Heap.get?_push_of_some _ e
  refine call_list_range (n := j.toNat) (I1.ok.hd hc) (IsRange.new ..) (small_one (by omega) (by omega) (by omega) (by omega)) (by rw [rangeSize_one]; split <;> omega) (by omega) fun h' tk acc' c' kp e it => ?_
  refine ⟨.ref _,_,I2.laid (t' := tk) (o := .lst (rngV 0 j.toNat)) kp (Nat.le_refl _) ⟨?_,acc'.toList,c',?_,by simpa using e⟩,rfl,q _ (I2.hok.fresh (Nat.le_refl _))⟩
  · unfold rngV
    rw [List.length_map,List.length_range]
    exact Nat.le_trans (show j.toNat <= 1000 by omega) le1000
  · refine Vals.of_get (by unfold rngV; rw [List.length_map,List.length_range,Array.length_toList,it.1]) fun k x v e1 e2 => ?_
    unfold rngV at e1
    rw [List.getElem?_map] at e1
    have hk : k < j.toNat := by
      have := (List.getElem?_eq_some_iff.mp e2).1
      rw [Array.length_toList,it.1] at this
      exact this
    rw [List.getElem?_range hk] at e1
    cases e1
    obtain ⟨t',rfl⟩ := it.2 k v (by simpa using e2)
    exact ⟨t',by rw [Int.mul_one]⟩
section
variable {X : Cx}{W : Wd}{e a b : Expr}{pos : Pos}{dA : DA}
def dRng1 (dA : DA) : DA := fun ρ P => dA ρ fun xs => match xs with
  | [.int j] => (-(2 ^ 20) <= j /\ j <= 1000) /\ P (rangeD 0 j.toNat)
  | _ => False
theorem jdf_listRange1 {p1 p2 pos2 : Pos}(h : PE X (.Call (.Name "list" p1) [.Call (.Name "range" p2) [b] [] pos2] [] pos) (tLR1 (dnA W dA))) : JF X W (.Call (.Name "list" p1) [.Call (.Name "range" p2) [b] [] pos2] [] pos) (dRng1 dA) := ⟨h.mono fun σ H Q hh => by
  obtain ⟨pn,M,b,ρ,P,st,h,k⟩ := hh
  refine ⟨pn,M,b,ρ,_,st,h,fun xs vs H1 hx rx k1 o1 => ?_⟩
  match xs,hx with
  | [.int j],hx =>
    obtain ⟨v,rfl,r⟩ := rx1 rx
    cases (show _ = _ from r)
    have st1 := st.step k1 o1
    exact ⟨j,rfl,hx.1,fun p hp => k _ _ p _ hx.2 (was_new k1 o1 hp) upd_same (reps_range 0 _) (k1.trans (Kp.upd hp)) (st1.okU hp)⟩⟩
end
end L2
set_option Elab.async false
set_option linter.all false
set_option maxRecDepth 100000
set_option maxHeartbeats 4000000
namespace K
open PySem PySem.Spec PyProof.Rows L2
local macro_rules | `(tactic| walk_at "o") => `(tactic| first | exact Or.inl rfl | exact Or.inr rfl)
local macro_rules | `(tactic| walk_at "v") => `(tactic| first | exact Or.inl rfl | exact Or.inr (Or.inl rfl) | exact Or.inr (Or.inr rfl))
local macro_rules | `(tactic| walk_at "bg") => `(tactic| first | assumption | exact Bag.same (by walk_at "bg") (Same.upd (by assumption)) | exact Bag.same (by walk_at "bg") (by assumption))
local macro_rules | `(tactic| walk_at "hp") => `(tactic| first | assumption | exact upd_same | (refine Same.get (Same.upd (by assumption)) ?_; walk_at "hp") | (refine Same.get (by assumption) ?_; walk_at "hp") | (refine Keep.tup (by assumption) (by walk_at "bg") ?_; (walk_at "hp")))
local macro_rules | `(tactic| walk_at "sm") => `(tactic| first | exact Same.refl _ | assumption | (refine Same.trans ?_ (Same.upd (by assumption)); walk_at "sm") | (refine Same.trans ?_ (by assumption); walk_at "sm"))
local macro_rules | `(tactic| walk_at "kp") => `(tactic| first | exact Keep.refl _ _ | assumption | (refine Keep.trans ?_ (Same.keep (Same.upd (by assumption))); walk_at "kp") | (refine Keep.trans ?_ (by assumption); walk_at "kp") | (refine Keep.trans ?_ (Same.keep (by assumption)); walk_at "kp"))
local macro_rules | `(tactic| walk_at "bd") => `(tactic| first | assumption | exact Bd.mul (by walk_at "bd") (by walk_at "bd") | exact Bd.add (by walk_at "bd") (by walk_at "bd") | exact Bd.sub (by walk_at "bd") (by walk_at "bd") | exact Bd.neg (by walk_at "bd") | exact Bd.num _ (by decide))
local macro_rules | `(tactic| walk_at "rd1") => `(tactic| first | refine ⟨_,_,rfl,rfl,?_⟩ | refine ⟨_,rfl,?_⟩ | (refine' ⟨_,?xs,_,?vv,rfl,rfl,SqT.of ?ia,?ib,?_⟩; (case ia => walk_at "hp"); (case ib => rfl)) | refine And.intro (CMulB.right (Bd.num _ (by decide))) ?_ | (refine' rd_mul ?m1 ?m2 ?m3 ?_; (case m1 => walk_at "bd"); (case m2 => walk_at "bd"); (case m3 => first | decide | omega)) | refine ⟨rfl,?_⟩)
local macro_rules | `(tactic| walk_at "rd") => `(tactic| repeat (walk_at "rd1"))
local macro_rules | `(tactic| walk_at "al") => `(tactic| (refine ⟨(Nat.le_trans (Nat.le_of_ble_eq_true rfl) le1000),?_⟩; intro p en))
local macro_rules | `(tactic| walk_at "w") => `(tactic| (conv => whnf))
local macro_rules | `(tactic| walk_at "go1") => `(tactic| first | refine And.intro (by exact rfl) ?_ | refine IfP.t (by exact rfl) ?_ | refine IfP.f (by exact rfl) ?_ | refine And.intro (by exact Nat.le_of_ble_eq_true rfl) ?_ | refine And.intro (by decide) ?_ | refine And.intro (by dsimp only; decide) ?_ | refine And.intro (CMulB.right (Bd.num _ (by decide))) ?_ | refine And.intro (Or.inl ⟨_,_,by walk_at "bd",by walk_at "bd",by first | decide | omega⟩) ?_| refine And.intro ⟨by decide,by decide⟩ ?_)
local macro_rules | `(tactic| walk_at "go") => `(tactic| ((conv => whnf); repeat (walk_at "go1"; (conv => whnf))))
local macro_rules | `(tactic| walk_at "nz") => `(tactic| simp only [startD,List.map_cons,List.map_nil,List.length_cons,List.length_nil,List.replicate,List.cons_append,List.nil_append,List.set_cons_succ,List.set_cons_zero,captD,List.getElem?_cons_succ,List.getElem?_cons_zero,Option.bind_some,Option.bind_none,Option.join_some,Option.join_none,setAll,Nat.reduceAdd,Nat.reduceSub,Int.reduceAdd,Nat.zero_add])
local macro_rules | `(tactic| walk_at "gr") => `(tactic| ((try walk_at "nz"); refine for_rec ?_; walk_at "go"))
local macro_rules | `(tactic| walk_at "gc") => `(tactic| ((try walk_at "nz"); refine comp_rec ?_; walk_at "go"))
local macro_rules | `(tactic| walk_at "sp") => `(tactic| (refine IfP.of (fun h => ?_) (fun h => ?_) <;> (try simp only [decide_eq_true_eq,Bool.bne_false,Bool.bne_true,Bool.not_eq_true',decide_eq_false_iff_not,Bool.not_true,Bool.not_false,Bool.not_eq_false',bne_iff_ne,ne_eq,Bool.not_not] at h)))
def top (i : Nat) : Stmt := PySem.Challenge.pw_onceshade_k13_whole_closed_bodies.main.body.getD i (.Pass ⟨0,0,0,0⟩)
structure Bi (mg : Str -> Option Value) : Prop where
  abs_ : mg "abs" = none
  len_ : mg "len" = none
  max_ : mg "max" = none
  min_ : mg "min" = none
  range_ : mg "range" = none
  isinstance_ : mg "isinstance" = none
  int_ : mg "int" = none
  bool_ : mg "bool" = none
  tuple_ : mg "tuple" = none
  zip_ : mg "zip" = none
  sum_ : mg "sum" = none
  all_ : mg "all" = none
  any_ : mg "any" = none
  list_ : mg "list" = none
  sorted_ : mg "sorted" = none
  enumerate_ : mg "enumerate" = none
  MOST_ : ∃ t,mg "MOST" = some (.int 24 t)
  GREATEST_COORDINATE_ : ∃ t,mg "GREATEST_COORDINATE" = some (.int 999999 t)
structure Cs where
  ShadeError : Addr
  NoBody : Addr
  TooMany : Addr
structure Ex (K : PySem.W.Frag)(mg : Str -> Option Value)(base : Heap)(c : Cs) : Prop where
  g_ShadeError : mg "ShadeError" = some (.ref c.ShadeError)
  g_NoBody : mg "NoBody" = some (.ref c.NoBody)
  g_TooMany : mg "TooMany" = some (.ref c.TooMany)
  o_NoBody : OwnCls "NoBody" c.NoBody bmV "ValueError.__new__" mg base
  x_NoBody : XCls K c.NoBody
  v_NoBody : PySem.W.subIn K (.ref c.NoBody) (.type "ValueError") = some true
  s_NoBody : PySem.W.subIn K (.ref c.NoBody) (.ref c.ShadeError) = some true
  n_NoBody_TooMany : PySem.W.kin_not K c.NoBody c.TooMany = true
  o_TooMany : OwnCls "TooMany" c.TooMany bmV "ValueError.__new__" mg base
  x_TooMany : XCls K c.TooMany
  v_TooMany : PySem.W.subIn K (.ref c.TooMany) (.type "ValueError") = some true
  s_TooMany : PySem.W.subIn K (.ref c.TooMany) (.ref c.ShadeError) = some true
  n_TooMany_NoBody : PySem.W.kin_not K c.TooMany c.NoBody = true
  sh : XBase K c.ShadeError
def BagP (H : Hp)(p : Addr) : Prop := ∃ f m q : Int,H p = some (.lst [.int f,.int m,.int q]) /\ 0 <= f /\ 0 <= m /\ m < 4294967296 /\ 2147483353 <= q /\ q <= 2147483629
theorem BagP.same {H H' : Hp}{p : Addr}(b : BagP H p)(S : Same H H') : BagP H' p := by
  obtain ⟨f,m,st,e,q⟩ := b
  exact ⟨f,m,st,S _ _ e,q⟩
theorem BagP.ne {H : Hp}{p a : Addr}{xs : List V}(b : BagP H p)(h : H a = some (.tup xs)) : a ≠ p := by
  obtain ⟨f,m,st,e,_⟩ := b
  exact ne_of h e (by intro z; cases z)
def DigP (p : Addr)(many : Int)(H : Hp)(Q : VK) : Prop := ∀ (r : Int) H',0 <= r -> r < many -> BagP H' p -> Keep p H H' -> Q (.int r) H'
abbrev s__law_bag : Stmt := top 24
theorem sc__law_bag : FnScope ["_law_script","_law_at","_law_cell","_law_prime","_law_great"] ["_law_script","_law_at"] (defScope s__law_bag) := ⟨rfl,rfl,rfl,by decide +kernel,rfl,by decide +kernel,by decide +kernel⟩
def sp_bag (K : PySem.W.Frag) : Sp := fun vs H Q _ => ∃ (a : Addr) (ns : List Int) (i : Nat),vs = [.ref a,.int i] /\ SqL K H a (ns.map V.int) /\ i <= 1000 /\ ∀ p H',H p = none -> Same H H' -> BagP H' p -> Q (.ref p) H'
theorem ok0__law_bag {P : Program}{w : World}{K : PySem.W.Frag}{mg : Str -> Option Value}{base : Heap}{f : Addr}{fd : FuncData}(F : Fun K "_law_bag" "_law_bag" s__law_bag f fd) (Z : Bi mg) {c : Cs} (Y : Ex K mg base c) : FnOk P w K mg base CX0 1 f fd ["_law_script","_law_at"] (sp_bag K) := by
  refine F.ok sc__law_bag (fun vs H Q E h => ?_) (fun cdv A outer s H vs Q E hr h => ?_)
  · obtain ⟨a,ns,i,rfl,hS,hi,k⟩ := h
    rfl
  · obtain ⟨a,ns,i,rfl,hS,hi,k⟩ := h
    obtain ⟨es1,hes1⟩ : ∃ es : List Expr,es = List.map (fun c : Int × Nat × Pos => Expr.Constant (.int c.1) c.2.1 c.2.2) [(2147483629,0,⟨90,18,90,28⟩),(2147483587,0,⟨90,30,90,40⟩),(2147483579,0,⟨90,42,90,52⟩),(2147483563,0,⟨90,54,90,64⟩),(2147483549,0,⟨90,66,90,76⟩),(2147483543,0,⟨90,78,90,88⟩),(2147483497,0,⟨90,90,90,100⟩),(2147483489,0,⟨90,102,90,112⟩),(2147483477,0,⟨90,114,90,124⟩),(2147483423,0,⟨90,126,90,136⟩),(2147483399,0,⟨90,138,90,148⟩),(2147483353,0,⟨90,150,90,160⟩)] := ⟨_,rfl⟩
    have hT1 : PS (cxOf CX0 P w K mg base ["_law_script","_law_at","_law_cell","_law_prime","_law_great"] "_law_bag" (defScope s__law_bag) f cdv A outer s H E).nox (Stmt.Assign [Expr.Name "_law_prime" ⟨90,4,90,14⟩] (Expr.Subscript (Expr.Tuple es1 0 ⟨90,17,90,161⟩) (Expr.BinOp (Expr.Name "_law_at" ⟨90,162,90,169⟩) .Mod (Expr.Constant (Const.int 12) 0 ⟨90,172,90,174⟩) ⟨90,162,90,174⟩) ⟨90,17,90,175⟩) ⟨90,4,90,175⟩) _ := ps_set (i := 3) sc__law_bag.nd rfl (by walk_at "o") (pe_ix (ix_tupK K (by rfl)) (pe_tupInts (x1 := 0) (pos := ⟨90,17,90,161⟩) [(2147483629,0,⟨90,18,90,28⟩),(2147483587,0,⟨90,30,90,40⟩),(2147483579,0,⟨90,42,90,52⟩),(2147483563,0,⟨90,54,90,64⟩),(2147483549,0,⟨90,66,90,76⟩),(2147483543,0,⟨90,78,90,88⟩),(2147483497,0,⟨90,90,90,100⟩),(2147483489,0,⟨90,102,90,112⟩),(2147483477,0,⟨90,114,90,124⟩),(2147483423,0,⟨90,126,90,136⟩),(2147483399,0,⟨90,138,90,148⟩),(2147483353,0,⟨90,150,90,160⟩)] hes1) (pe_op op_mod (pv 1) pe_int) (fun _ _ => rfl)) rfl (.inl rfl)
    generalize hst1 : Stmt.Assign [Expr.Name "_law_prime" ⟨90,4,90,14⟩] (Expr.Subscript (Expr.Tuple es1 0 ⟨90,17,90,161⟩) (Expr.BinOp (Expr.Name "_law_at" ⟨90,162,90,169⟩) .Mod (Expr.Constant (Const.int 12) 0 ⟨90,172,90,174⟩) ⟨90,162,90,174⟩) ⟨90,17,90,175⟩) ⟨90,4,90,175⟩ = st1 at hT1
    have hR1 := ((pss_cons (ps_set (i := 4) sc__law_bag.nd rfl (by walk_at "o") pe_int)
      (pss_cons (ps_if (pt_cmpR op_ge (pv 2) (pe_op op_pow pe_int pe_int) (nomark _)) (pss_one (ps_set (i := 4) sc__law_bag.nd rfl (by walk_at "o") (pv 2))) pss_nil)
      (pss_one (ps_ret (pe_lst (pa_cons (pv 4) (pa_cons (pe_op op_mod (pe_op op_pow (pe_op op_add (pe_op op_mod (pv 2) (pv 3)) pe_int) pe_int) (pv 3)) (pa_cons (pv 3) pa_nil)))))))) : PSs (cxOf CX0 P w K mg base ["_law_script","_law_at","_law_cell","_law_prime","_law_great"] "_law_bag" (defScope s__law_bag) f cdv A outer s H E).nox ((defBody s__law_bag).drop 3) _)
    have hV1 := @pss_says _ _ _ (pss_cons hT1 hR1)
    refine ⟨_,(pss_cons (ps_set (i := 2) sc__law_bag.nd rfl (by walk_at "o") pe_int)
      (pss_cons (ps_if (pt_cmpR op_lt (pv 1) (pe_callB (call_len_seqK K (by rfl)) rfl Z.len_ bt_len (pa_cons (pv 0) pa_nil)) (nomark _)) (pss_one (ps_set (i := 2) sc__law_bag.nd rfl (by walk_at "o") (pe_ix (ix_listK K (by rfl)) (pv 0) (pv 1) (fun _ _ => rfl)))) pss_nil)
      hV1)),?_⟩
    have ixp : ∀ j : Int,∃ q : Int,atI [.int 2147483629,.int 2147483587,.int 2147483579,.int 2147483563,.int 2147483549,.int 2147483543,.int 2147483497,.int 2147483489,.int 2147483477,.int 2147483423,.int 2147483399,.int 2147483353] (j % 12) = some (V.int q) /\ 2147483353 <= q /\ q <= 2147483629 := fun j => by
      obtain ⟨v,ev,mv⟩ := atI_some (xs := [.int 2147483629,.int 2147483587,.int 2147483579,.int 2147483563,.int 2147483549,.int 2147483543,.int 2147483497,.int 2147483489,.int 2147483477,.int 2147483423,.int 2147483399,.int 2147483353]) (i := j % 12) (Int.emod_nonneg _ (by decide)) (Int.emod_lt_of_pos _ (by decide))
      simp only [List.mem_cons,List.not_mem_nil,or_false] at mv
      rcases mv with e | e | e | e | e | e | e | e | e | e | e | e <;> exact ⟨_,e ▸ ev,by decide,by decide⟩
    obtain ⟨q,xq,q0,q1⟩ := ixp (i : Int)
    have fin : ∀ (cv f : Int) (H1 : Hp),Same H H1 -> 0 <= f -> ∀ p,H1 p = none -> Q (.ref p) (upd H1 p (.lst [.int f,.int ((cv % q + 7919) ^ (3 : Int).toNat % q),.int q])) := fun cv f H1 S hf p hp => by
      have h1 := Int.emod_nonneg ((cv % q + 7919) ^ (3 : Int).toNat) (show q ≠ 0 by omega)
      have h2 := Int.emod_lt_of_pos ((cv % q + 7919) ^ (3 : Int).toNat) (show 0 < q by omega)
      exact k p _ (S.free hp) (S.trans (Same.upd hp)) ⟨_,_,_,upd_same,hf,h1,by omega,q0,q1⟩
    have hpw : ∀ cv : Int,(cv % q + 7919).natAbs < 2 ^ 64 := fun cv => by
      have h1 := Int.emod_nonneg cv (show q ≠ 0 by omega)
      have h2 := Int.emod_lt_of_pos cv (show 0 < q by omega)
      omega
    walk_at "rd"
    refine ⟨_,_,rfl,.inl hS,?_⟩
    walk_at "rd"
    refine iteB (fun h => ?_) (fun h => ?_)
    · have h : (i : Int) < ((ns.map V.int).length : Nat) := dec_t h
      have hi' : i < ns.length := by rw [List.length_map] at h; omega
      walk_at "rd"
      refine ⟨_,_,_,_,rfl,rfl,hS,atI_nat (v := V.int ns[i]) (by rw [List.getElem?_map,List.getElem?_eq_getElem hi']; rfl),?_⟩
      walk_at "rd"
      refine ⟨by rw [<- hst1,hes1]; rfl,?_⟩
      walk_at "al"
      rename_i pr npr
      walk_at "rd"
      refine ⟨(by show (0 : Int) < 12; decide),?_⟩
      refine ⟨_,_,_,_,rfl,rfl,SqT.of upd_same,xq,?_⟩
      walk_at "rd"
      refine ⟨⟨by decide,by decide,by decide⟩,?_⟩
      walk_at "rd"
      refine iteB (fun h => ?_) (fun h => ?_)
      all_goals
        walk_at "rd"
        refine ⟨(by show 0 < q; omega),?_⟩
        walk_at "rd"
        refine ⟨⟨by decide,by decide,hpw _⟩,?_⟩
        walk_at "rd"
        refine ⟨(by show 0 < q; omega),?_⟩
        walk_at "rd"
        refine ⟨(Nat.le_trans (Nat.le_of_ble_eq_true rfl) le1000),?_⟩
      · exact fin _ _ _ (Same.upd npr) (by have h : (10 : Int) ^ Int.toNat 18 <= _ := dec_t h; have e : (10 : Int) ^ Int.toNat 18 = 1000000000000000000 := (by decide); omega)
      · exact fin _ _ _ (Same.upd npr) (by decide)
    · walk_at "rd"
      refine ⟨by rw [<- hst1,hes1]; rfl,?_⟩
      walk_at "al"
      rename_i pr npr
      walk_at "rd"
      refine ⟨(by show (0 : Int) < 12; decide),?_⟩
      refine ⟨_,_,_,_,rfl,rfl,SqT.of upd_same,xq,?_⟩
      walk_at "rd"
      refine ⟨⟨by decide,by decide,by decide⟩,?_⟩
      walk_at "rd"
      refine ⟨(by show 0 < q; omega),?_⟩
      walk_at "rd"
      refine ⟨⟨by decide,by decide,hpw _⟩,?_⟩
      walk_at "rd"
      refine ⟨(by show 0 < q; omega),?_⟩
      walk_at "rd"
      refine ⟨(Nat.le_trans (Nat.le_of_ble_eq_true rfl) le1000),?_⟩
      exact fin _ _ _ (Same.upd npr) (by decide)
abbrev s__law_digit : Stmt := top 25
theorem sc__law_digit : FnScope ["_law_bag_here","_law_many","_law_found"] ["_law_bag_here","_law_many"] (defScope s__law_digit) := ⟨rfl,rfl,rfl,by decide +kernel,rfl,by decide +kernel,by decide +kernel⟩
def sp_digit : Sp := fun vs H Q _ => ∃ (p : Addr) (many : Int) (n : Nat),vs = [.ref p,.int many] /\ BagP H p /\ 0 < many /\ Bd n many /\ n <= 9000 /\ DigP p many H Q
theorem ok0__law_digit {P : Program}{w : World}{K : PySem.W.Frag}{mg : Str -> Option Value}{base : Heap}{f : Addr}{fd : FuncData}(F : Fun K "_law_digit" "_law_digit" s__law_digit f fd) (Z : Bi mg) {c : Cs} (Y : Ex K mg base c) : FnOk P w K mg base CX0 1 f fd ["_law_bag_here","_law_many"] sp_digit := by
  refine F.ok sc__law_digit (fun vs H Q E h => ?_) (fun cdv A outer s H vs Q E hr h => ?_)
  · obtain ⟨p,many,n,rfl,⟨fg,m,q,hp,hf,hm,hm2,q0,q1⟩,h0,hb,hn,k⟩ := h
    rfl
  · obtain ⟨p,many,n,rfl,⟨fg,m,q,hp,hf,hm,hm2,q0,q1⟩,h0,hb,hn,k⟩ := h
    refine ⟨_,(pss_cons (ps_if (pt_cmpR op_gt (pe_ix (ix_listK K (by rfl)) (pv 0) pe_int (fun _ _ => rfl)) pe_int (nomark _)) (pss_cons (ps_set (i := 2) sc__law_digit.nd rfl (by walk_at "o") (pe_op op_mod (pe_ix (ix_listK K (by rfl)) (pv 0) pe_int (fun _ _ => rfl)) (pv 1)))
      (pss_cons (ps_asg (pe_op op_fdivB (pe_ix (ix_listK K (by rfl)) (pv 0) pe_int (fun _ _ => rfl)) (pv 1)) (pg_sub (pv 0) pe_int set_list))
      (pss_one (ps_ret (pv 2))))) pss_nil)
      (pss_cons (ps_asg (pe_op op_mod (pe_op op_add (pe_op op_mulB (pe_ix (ix_listK K (by rfl)) (pv 0) pe_int (fun _ _ => rfl)) pe_int) pe_int) (pe_ix (ix_listK K (by rfl)) (pv 0) pe_int (fun _ _ => rfl))) (pg_sub (pv 0) pe_int set_list))
      (pss_one (ps_ret (pe_op op_mod (pe_op op_fdivB (pe_op op_mod (pe_op op_pow (pe_ix (ix_listK K (by rfl)) (pv 0) pe_int (fun _ _ => rfl)) pe_int) pe_int) pe_int) (pv 1)))))),?_⟩
    have md : ∀ x : Int,0 <= x % many /\ x % many < many := fun x => ⟨Int.emod_nonneg _ (by omega),Int.emod_lt_of_pos _ h0⟩
    walk_at "rd"
    refine ⟨_,_,_,_,rfl,rfl,SqL.of hp,rfl,?_⟩
    walk_at "rd"
    refine iteB (fun h => ?_) (fun h => ?_)
    · have h : 0 < fg := dec_t h
      walk_at "rd"
      refine ⟨_,_,_,_,rfl,rfl,SqL.of hp,rfl,?_⟩
      walk_at "rd"
      refine ⟨h0,?_⟩
      walk_at "rd"
      refine ⟨_,_,_,_,rfl,rfl,SqL.of hp,rfl,?_⟩
      walk_at "rd"
      refine ⟨⟨h0,n,hb,hn⟩,?_⟩
      walk_at "rd"
      refine ⟨_,_,_,0,rfl,rfl,hp,rfl,?_⟩
      walk_at "rd"
      exact k _ _ (md fg).1 (md fg).2 ⟨_,_,_,upd_same,Int.ediv_nonneg hf (by omega),hm,hm2,q0,q1⟩ Keep.upd
    · have bm : Bd 32 m := Bd.of (by omega) (by omega)
      walk_at "rd"
      refine ⟨_,_,_,_,rfl,rfl,SqL.of hp,rfl,?_⟩
      walk_at "rd"
      refine ⟨_,_,_,_,rfl,rfl,SqL.of hp,rfl,?_⟩
      walk_at "rd"
      refine ⟨(by show 0 < q; omega),?_⟩
      walk_at "rd"
      refine ⟨_,_,_,1,rfl,rfl,hp,rfl,?_⟩
      have h1 := Int.emod_nonneg (m * 48271 + 7919) (show q ≠ 0 by omega)
      have h2 := Int.emod_lt_of_pos (m * 48271 + 7919) (show 0 < q by omega)
      walk_at "rd"
      refine ⟨_,_,_,_,rfl,rfl,SqL.of upd_same,rfl,?_⟩
      walk_at "rd"
      refine ⟨⟨by decide,by decide,(by show ((m * 48271 + 7919) % q).natAbs < 2 ^ 64; omega)⟩,?_⟩
      walk_at "rd"
      refine ⟨(by show (0 : Int) < 2147483647; decide),?_⟩
      walk_at "rd"
      refine ⟨⟨by decide,64,Bd.num _ (by decide),by decide⟩,?_⟩
      walk_at "rd"
      refine ⟨h0,?_⟩
      exact k _ _ (md _).1 (md _).2 ⟨_,_,_,upd_same,hf,h1,by omega,q0,q1⟩ Keep.upd
def BT : BagT := ⟨fun p H => BagP H p,fun p H H' b k => by
  obtain ⟨f,m,q,e,r⟩ := b
  exact ⟨f,m,q,k _ e,r⟩,fun p H b => by
  obtain ⟨f,m,q,e,r⟩ := b
  exact ⟨_,e⟩⟩
theorem keep_kp {p : Addr}{H H' : Hp}(k : Keep p H H') : Kp (some p) H H' := fun c o n e => k c o (fun z => n (by rw [z])) e
def pre_bag : List D -> Prop := fun ds => ∃ (ns : List Int) (i : Nat),ds = [.scr ns,.int i] /\ i <= 1000
theorem up__law_bag {K : PySem.W.Frag} : ∀ vs H Q E,(bagSp K BT pre_bag) vs H Q E -> (sp_bag K) vs H Q E := by
  rintro vs H Q E ⟨M,b,ds,hr,⟨ns,i,rfl,hi⟩,k⟩
  obtain ⟨v,r,rfl,⟨a,rfl,hS⟩,u,r',rfl,h2,h3⟩ := hr
  cases (show _ = _ from h2)
  cases (show _ = _ from h3)
  exact ⟨a,ns,i,rfl,hS.imp (·.2) id,hi,k⟩
theorem ok__law_bag {P : Program}{w : World}{K : PySem.W.Frag}{mg : Str -> Option Value}{base : Heap}{f : Addr}{fd : FuncData}(F : Fun K "_law_bag" "_law_bag" s__law_bag f fd) (Z : Bi mg) {c : Cs} (Y : Ex K mg base c) : FnOk P w K mg base CX0 1 f fd ["_law_script","_law_at"] (bagSp K BT pre_bag) := FnOk.imp (ok0__law_bag F Z Y) up__law_bag
def S_digit : DSp := fun ds P _ => ∃ (many : Int) (n : Nat),ds = [.bag,.int many] /\ 0 < many /\ Bd n many /\ n <= 9000 /\ ∀ r,0 <= r -> r < many -> P (.int r)
theorem up__law_digit {K : PySem.W.Frag} : ∀ vs H Q E,(liftSp K BT S_digit) vs H Q E -> sp_digit vs H Q E := by
  rintro vs H Q E ⟨M,b,ds,P,Ed,⟨many,n,rfl,h0,hbd,hn,hP⟩,⟨v,r,rfl,⟨p,rfl,rfl⟩,u,r',rfl,h2,h3⟩,ho,hb,hd,hq,hx⟩
  cases (show _ = _ from h2)
  cases (show _ = _ from h3)
  exact ⟨p,many,n,rfl,ho p rfl,h0,hbd,hn,fun r H' r0 r1 b' k => hq _ _ H' (hP r r0 r1) rfl (keep_kp k) fun q e => by cases e; exact b'⟩
theorem ok__law_digit {P : Program}{w : World}{K : PySem.W.Frag}{mg : Str -> Option Value}{base : Heap}{f : Addr}{fd : FuncData}(F : Fun K "_law_digit" "_law_digit" s__law_digit f fd) (Z : Bi mg) {c : Cs} (Y : Ex K mg base c) : FnOk P w K mg base CX0 1 f fd ["_law_bag_here","_law_many"] (liftSp K BT S_digit) := FnOk.imp (ok0__law_digit F Z Y) up__law_digit
structure R3 where
  x : Int
  y : Int
  z : Int
abbrev R3.d (r : R3) : D := t3 r.x r.y r.z
structure F3i where
  i : Nat
  j : Nat
  k : Nat
abbrev F3i.d (f : F3i) : D := t3 f.i f.j f.k
def F3i.has (f : F3i)(n : Nat) : Prop := n = f.i \/ n = f.j \/ n = f.k
theorem get_of {α : Type}{g : α -> D}{l : List α}{i : Nat}{x : D}(h : (l.map g)[i]? = some x) : ∃ a,l[i]? = some a /\ x = g a := by
  rw [List.getElem?_map] at h
  obtain ⟨a,e,rfl⟩ := Option.map_eq_some_iff.mp h
  exact ⟨a,e,rfl⟩
structure R3.sm (r : R3) : Prop where
  x : -999999 <= r.x /\ r.x <= 999999
  y : -999999 <= r.y /\ r.y <= 999999
  z : -999999 <= r.z /\ r.z <= 999999
structure F3i.ok (f : F3i)(n : Nat) : Prop where
  i : f.i < n
  j : f.j < n
  k : f.k < n
  ij : f.i ≠ f.j
  jk : f.j ≠ f.k
  ki : f.k ≠ f.i
def cb (ex : List Int)(n : Nat) : Nat := (ex.filter fun z : Int => decide (z < (n : Int))).length
theorem cb_mono (ex : List Int)(n : Nat) : cb ex n <= cb ex (n + 1) := by
  induction ex with
  | nil => exact Nat.le_refl _
  | cons z ex ih =>
    unfold cb at ih ⊢
    rw [List.filter_cons,List.filter_cons]
    by_cases h : z < (n : Int)
    · have h' : z < ((n + 1 : Nat) : Int) := by omega
      simp only [h,h',decide_true,if_true,List.length_cons]
      omega
    · by_cases h' : z < ((n + 1 : Nat) : Int)
      · simp only [h,h',decide_true,decide_false,if_true,Bool.false_eq_true,if_false,List.length_cons]
        omega
      · simp only [h,h',decide_false,Bool.false_eq_true,if_false]
        exact ih
theorem cb_in {ex : List Int}{n : Nat}(h : (n : Int) ∈ ex) : cb ex n + 1 <= cb ex (n + 1) := by
  induction ex with
  | nil => cases h
  | cons z ex ih =>
    have mo := cb_mono ex n
    unfold cb at ih mo ⊢
    rw [List.filter_cons,List.filter_cons]
    by_cases e : z = (n : Int)
    · have h1 : ¬ z < (n : Int) := by omega
      have h2 : z < ((n + 1 : Nat) : Int) := by omega
      simp only [h1,h2,decide_true,decide_false,if_true,Bool.false_eq_true,if_false,List.length_cons]
      omega
    · have ih := ih ((List.mem_cons.mp h).resolve_left fun z => e z.symm)
      by_cases h1 : z < (n : Int)
      · have h2 : z < ((n + 1 : Nat) : Int) := by omega
        simp only [h1,h2,decide_true,if_true,List.length_cons]
        omega
      · have h2 : ¬ z < ((n + 1 : Nat) : Int) := by omega
        simp only [h1,h2,decide_false,Bool.false_eq_true,if_false]
        exact ih
def Left (ex : List Int)(n : Nat)(acc : List D) : Prop := ∃ ns : List Int,acc = ns.map D.int /\ (∀ z ∈ ns,z ∉ ex /\ 0 <= z /\ z < n) /\ n <= ns.length + cb ex n /\ ns.length <= n
theorem Left.nil (ex : List Int) : Left ex 0 [] := ⟨[],rfl,by simp,Nat.zero_le _,Nat.le_refl _⟩
theorem Left.add {ex : List Int}{n : Nat}{acc : List D}(h : Left ex n acc)(ni : (n : Int) ∉ ex) : Left ex (n + 1) (acc ++ [.int n]) := by
  obtain ⟨ns,rfl,h1,h2,h3⟩ := h
  refine ⟨ns ++ [(n : Int)],by simp,fun z hz => ?_,?_,by simp; omega⟩
  · rcases List.mem_append.mp hz with q | q
    · have := h1 z q
      exact ⟨this.1,this.2.1,by omega⟩
    · rw [List.mem_singleton.mp q]
      exact ⟨ni,by omega,by omega⟩
  · have := cb_mono ex n
    rw [List.length_append,List.length_singleton]
    omega
theorem Left.skip {ex : List Int}{n : Nat}{acc : List D}(h : Left ex n acc)(m : (n : Int) ∈ ex) : Left ex (n + 1) acc := by
  obtain ⟨ns,rfl,h1,h2,h3⟩ := h
  have := cb_in m
  exact ⟨ns,rfl,fun z hz => ⟨(h1 z hz).1,(h1 z hz).2.1,by have := (h1 z hz).2.2; omega⟩,by omega,by omega⟩
theorem Left.len {ex : List Int}{n : Nat}{acc : List D}(h : Left ex n acc) : n <= acc.length + ex.length := by
  obtain ⟨ns,rfl,h1,h2,h3⟩ := h
  have : cb ex n <= ex.length := List.length_filter_le ..
  rw [List.length_map]
  omega
theorem Left.mem {ex : List Int}{n : Nat}{acc : List D}(h : Left ex n acc){d : D}(m : d ∈ acc) : ∃ z : Nat,d = .int z /\ (z : Int) ∉ ex /\ z < n := by
  obtain ⟨ns,rfl,h1,h2,h3⟩ := h
  obtain ⟨z,hz,rfl⟩ := List.mem_map.mp m
  obtain ⟨q1,q2,q3⟩ := h1 z hz
  exact ⟨z.toNat,by rw [Int.toNat_of_nonneg q2],by rw [Int.toNat_of_nonneg q2]; exact q1,by omega⟩
theorem wrap_mod {a m : Int}(h0 : 0 <= a)(h : a < 2 * m) : (a < m /\ a % m = a) \/ (m <= a /\ a % m = a - m) := by
  by_cases c : a < m
  · exact .inl ⟨c,Int.emod_eq_of_lt h0 c⟩
  · refine .inr ⟨by omega,?_⟩
    rw [show a % m = (a - m) % m by rw [Int.sub_emod,Int.emod_self,Int.sub_zero,Int.emod_emod]]
    exact Int.emod_eq_of_lt (by omega) (by omega)
theorem cut_to {xs : List D}{k : Nat}(h : k <= xs.length) : L2.cutD xs none (some (k : Int)) = xs.take k := by
  unfold L2.cutD
  have e1 : HT.sIx xs.length 0 none = 0 := rfl
  have e2 : HT.sIx xs.length xs.length (some (k : Int)) = k := by rw [HT.sIx_nat,Nat.min_eq_left h]
  rw [e1,e2,List.drop_zero,Nat.sub_zero]
theorem cut_from {xs : List D}{k : Nat}(h : k <= xs.length) : L2.cutD xs (some (k : Int)) none = xs.drop k := by
  unfold L2.cutD
  have e1 : HT.sIx xs.length 0 (some (k : Int)) = k := by rw [HT.sIx_nat,Nat.min_eq_left h]
  have e2 : HT.sIx xs.length xs.length none = xs.length := rfl
  rw [e1,e2]
  exact List.take_of_length_le (by simp)
abbrev s__law_corner : Stmt := top 26
theorem sc__law_corner : FnScope ["_law_bag_here"] ["_law_bag_here"] (defScope s__law_corner) := ⟨rfl,rfl,rfl,by decide +kernel,rfl,by decide +kernel,by decide +kernel⟩
def S_crn : DSp := fun ds P _ => ds = [.bag] /\ ∀ r : R3,r.sm -> P r.d
structure C__law_corner (P : Program)(w : World)(K : PySem.W.Frag)(mg : Str -> Option Value)(base : Heap)(c : Cs) : Prop where
  _law_digit_ : Callee P w K mg base CX0 "_law_digit" 1 ["_law_bag_here","_law_many"] (liftSp K BT S_digit)
theorem ok__law_corner {P : Program}{w : World}{K : PySem.W.Frag}{mg : Str -> Option Value}{base : Heap}{f : Addr}{fd : FuncData}(F : Fun K "_law_corner" "_law_corner" s__law_corner f fd) (Z : Bi mg) {c : Cs} (Y : Ex K mg base c) (G : C__law_corner P w K mg base c) : FnOk P w K mg base CX0 2 f fd ["_law_bag_here"] (liftSp K BT S_crn) := by
  refine F.okD sc__law_corner (fun ds PP Ed h => ?_) (fun cdv A outer s H E M bg ds PP Ed hr hS_ => ?_)
  · obtain ⟨rfl,hP⟩ := h
    rfl
  · obtain ⟨rfl,hP⟩ := hS_
    refine ⟨_,(jdss_cons (jds_if (jdt_cmp op_eq od_eqS (jde_own G._law_digit_ (hr.mono (by decide)) rfl (jda_cons (jdv 0) (jda_cons jde_int jda_nil))) jde_int (nomark _)) (jdss_one (jds_ret (jde_tup (jda_cons (jde_own G._law_digit_ (hr.mono (by decide)) rfl (jda_cons (jdv 0) (jda_cons jde_int jda_nil))) (jda_cons (jde_own G._law_digit_ (hr.mono (by decide)) rfl (jda_cons (jdv 0) (jda_cons jde_int jda_nil))) (jda_cons (jde_own G._law_digit_ (hr.mono (by decide)) rfl (jda_cons (jdv 0) (jda_cons jde_int jda_nil))) jda_nil)))))) jdss_nil)
      (jdss_one (jds_ret (jde_callTy (call_tuple_ofK K (by rfl)) cd_tuple rfl Z.tuple_ bt_tuple (jda_cons (jde_comp (X := (cxOf CX0 P w K mg base ["_law_bag_here"] "_law_corner" (defScope s__law_corner) f cdv A outer s H E).nox) (gd_name 0) (blkJ (X := (cxOf CX0 P w K mg base ["_law_bag_here"] "_law_corner" (defScope s__law_corner) f cdv A outer s H E).nox) (N' := ["_law_k","_law_bag_here"]) (map := [none,some 0]) (by rfl) (by rfl) (by decide +kernel) (by rfl) ⟨⟨rfl,rfl,rfl,by walk_at "o"⟩,True.intro⟩ (gkeep_name rfl) fun cl0 C0 fp0 s0 H0 => ⟨(pg_name (X := (cxComp (cxOf CX0 P w K mg base ["_law_bag_here"] "_law_corner" (defScope s__law_corner) f cdv A outer s H E).nox ["_law_k","_law_bag_here"] _ cl0 C0 fp0 s0 H0)) (i := 0) (nodupS ["_law_k","_law_bag_here"] (by decide +kernel)) rfl (by walk_at "o")),jdif_nil,(jde_op (X := (cxComp (cxOf CX0 P w K mg base ["_law_bag_here"] "_law_corner" (defScope s__law_corner) f cdv A outer s H E).nox ["_law_k","_law_bag_here"] _ cl0 C0 fp0 s0 H0)) op_sub od_I0 (jde_own G._law_digit_ (hr.mono (by decide)) rfl (jda_cons (jdv 1) (jda_cons jde_int jda_nil))) jde_int)⟩) (jdi_range1 rfl Z.range_ (jda_cons jde_int jda_nil))) jda_nil))))),?_⟩
    walk_at "go"
    refine ⟨_,64,rfl,by decide,Bd.num _ (by decide),by decide,fun q q0 q1 => ?_⟩
    walk_at "go"
    walk_at "sp"
    · walk_at "go"
      refine ⟨_,64,rfl,by decide,Bd.num _ (by decide),by decide,fun a a0 a1 => ?_⟩
      walk_at "go"
      refine ⟨_,64,rfl,by decide,Bd.num _ (by decide),by decide,fun b b0 b1 => ?_⟩
      walk_at "go"
      refine ⟨_,64,rfl,by decide,Bd.num _ (by decide),by decide,fun c c0 c1 => ?_⟩
      walk_at "go"
      exact hP ⟨a,b,c⟩ ⟨⟨by dsimp only; omega,by dsimp only; omega⟩,⟨by dsimp only; omega,by dsimp only; omega⟩,⟨by dsimp only; omega,by dsimp only; omega⟩⟩
    · walk_at "go"
      walk_at "gc"
      refine ⟨_,64,rfl,by decide,Bd.num _ (by decide),by decide,fun a a0 a1 => ?_⟩
      walk_at "go"
      refine ⟨_,64,rfl,by decide,Bd.num _ (by decide),by decide,fun b b0 b1 => ?_⟩
      walk_at "go"
      refine ⟨_,64,rfl,by decide,Bd.num _ (by decide),by decide,fun c c0 c1 => ?_⟩
      walk_at "go"
      exact hP ⟨a - 999999,b - 999999,c - 999999⟩ ⟨⟨by dsimp only; omega,by dsimp only; omega⟩,⟨by dsimp only; omega,by dsimp only; omega⟩,⟨by dsimp only; omega,by dsimp only; omega⟩⟩
abbrev s__law_face : Stmt := top 27
theorem sc__law_face : FnScope ["_law_bag_here","_law_many","_law_i","_law_j","_law_k"] ["_law_bag_here","_law_many"] (defScope s__law_face) := ⟨rfl,rfl,rfl,by decide +kernel,rfl,by decide +kernel,by decide +kernel⟩
def S_bfc : DSp := fun ds P _ => ∃ m : Nat,ds = [.bag,.int m] /\ 3 <= m /\ m <= 24 /\ ∀ f : F3i,f.ok m -> P f.d
structure C__law_face (P : Program)(w : World)(K : PySem.W.Frag)(mg : Str -> Option Value)(base : Heap)(c : Cs) : Prop where
  _law_digit_ : Callee P w K mg base CX0 "_law_digit" 1 ["_law_bag_here","_law_many"] (liftSp K BT S_digit)
theorem ok__law_face {P : Program}{w : World}{K : PySem.W.Frag}{mg : Str -> Option Value}{base : Heap}{f : Addr}{fd : FuncData}(F : Fun K "_law_face" "_law_face" s__law_face f fd) (Z : Bi mg) {c : Cs} (Y : Ex K mg base c) (G : C__law_face P w K mg base c) : FnOk P w K mg base CX0 2 f fd ["_law_bag_here","_law_many"] (liftSp K BT S_bfc) := by
  refine F.okD sc__law_face (fun ds PP Ed h => ?_) (fun cdv A outer s H E M bg ds PP Ed hr hS_ => ?_)
  · obtain ⟨m,rfl,m3,m24,hP⟩ := h
    rfl
  · obtain ⟨m,rfl,m3,m24,hP⟩ := hS_
    refine ⟨_,(jdss_cons (jds_set (i := 2) sc__law_face.nd rfl (by walk_at "o") (jde_own G._law_digit_ (hr.mono (by decide)) rfl (jda_cons (jdv 0) (jda_cons (jdv 1) jda_nil))))
      (jdss_cons (jds_set (i := 3) sc__law_face.nd rfl (by walk_at "o") (jde_op op_mod od_I (jde_op op_add od_I0 (jde_op op_add od_I0 (jdv 2) jde_int) (jde_own G._law_digit_ (hr.mono (by decide)) rfl (jda_cons (jdv 0) (jda_cons (jde_op op_sub od_I0 (jdv 1) jde_int) jda_nil)))) (jdv 1)))
      (jdss_cons (jds_set (i := 4) sc__law_face.nd rfl (by walk_at "o") (jde_ix (ix_any K (by rfl)) od_ix (jde_comp (X := (cxOf CX0 P w K mg base ["_law_bag_here","_law_many","_law_i","_law_j","_law_k"] "_law_face" (defScope s__law_face) f cdv A outer s H E).nox) (gd_name 0) (blkJ (X := (cxOf CX0 P w K mg base ["_law_bag_here","_law_many","_law_i","_law_j","_law_k"] "_law_face" (defScope s__law_face) f cdv A outer s H E).nox) (N' := ["_law_one","_law_i","_law_j"]) (map := [none,some 2,some 3]) (by rfl) (by rfl) (by decide +kernel) (by rfl) ⟨⟨rfl,rfl,rfl,by walk_at "o"⟩,⟨⟨rfl,rfl,rfl,by walk_at "o"⟩,True.intro⟩⟩ (gkeep_name rfl) fun cl0 C0 fp0 s0 H0 => ⟨(pg_name (X := (cxComp (cxOf CX0 P w K mg base ["_law_bag_here","_law_many","_law_i","_law_j","_law_k"] "_law_face" (defScope s__law_face) f cdv A outer s H E).nox ["_law_one","_law_i","_law_j"] _ cl0 C0 fp0 s0 H0)) (i := 0) (nodupS ["_law_one","_law_i","_law_j"] (by decide +kernel)) rfl (by walk_at "o")),(jdif_one (jdt_cmp (op_notinG K (by rfl) hr.units) od_inG (jdv 0) (jde_tup (jda_cons (jdv 1) (jda_cons (jdv 2) jda_nil))) (by with_unfolding_all rfl))),(jdv (X := (cxComp (cxOf CX0 P w K mg base ["_law_bag_here","_law_many","_law_i","_law_j","_law_k"] "_law_face" (defScope s__law_face) f cdv A outer s H E).nox ["_law_one","_law_i","_law_j"] _ cl0 C0 fp0 s0 H0)) 0)⟩) (jdi_range1 rfl Z.range_ (jda_cons (jdv 1) jda_nil))) (jde_own G._law_digit_ (hr.mono (by decide)) rfl (jda_cons (jdv 0) (jda_cons (jde_op op_sub od_I0 (jdv 1) jde_int) jda_nil))) (fun _ _ => rfl)))
      (jdss_one (jds_ret (jde_tup (jda_cons (jdv 2) (jda_cons (jdv 3) (jda_cons (jdv 4) jda_nil))))))))),?_⟩
    have bm : Bd 64 (m : Int) := Bd.of (by omega) (by omega)
    walk_at "go"
    refine ⟨(m : Int),64,rfl,by omega,bm,by decide,fun i i0 i1 => ?_⟩
    walk_at "go"
    refine ⟨(m : Int) - 1,64,rfl,by omega,Bd.of (by omega) (by omega),by decide,fun j j0 j1 => ?_⟩
    have wr := wrap_mod (a := i + 1 + j) (m := m) (by omega) (by omega)
    have bi : Bd 64 (i + 1 + j) := Bd.of (by omega) (by omega)
    walk_at "go"
    refine And.intro (show (0 : Int) < m by omega) ?_
    walk_at "go"
    obtain ⟨jn,ej,jm,jne⟩ : ∃ jn : Nat,(i + 1 + j) % (m : Int) = jn /\ jn < m /\ (jn : Int) ≠ i := by
      rcases wr with ⟨w1,w2⟩ | ⟨w1,w2⟩
      · exact ⟨(i + 1 + j).toNat,by omega,by omega,by omega⟩
      · exact ⟨(i + 1 + j - m).toNat,by omega,by omega,by omega⟩
    rw [ej]
    obtain ⟨iN,rfl⟩ : ∃ iN : Nat,i = iN := ⟨i.toNat,by omega⟩
    clear wr bi
    refine And.intro ⟨by omega,by omega⟩ ?_
    refine And.intro (by rw [rangeD_len]; omega) ?_
    refine ⟨fun n acc => Left [(iN : Int),(jn : Int)] n acc,Left.nil _,?_,?_⟩
    · rintro n x acc e hI
      obtain ⟨rfl,hn⟩ := rangeD_get e
      clear e
      rw [Int.zero_add]
      walk_at "go"
      refine inG_ints (ns := [(iN : Int),(jn : Int)]) (.inl rfl) ?_
      walk_at "go"
      by_cases z : (n : Int) ∈ [(iN : Int),(jn : Int)]
      · refine IfP.f (by simp [z]) ?_
        exact hI.skip z
      · refine IfP.t (by simp [z]) ?_
        walk_at "go"
        exact hI.add z
    · rintro acc hI
      rw [rangeD_len,Int.toNat_natCast] at hI
      have hl := hI.len
      have hl : m <= acc.length + 2 := hl
      walk_at "go"
      refine ⟨(m : Int) - 2,64,rfl,by omega,Bd.of (by omega) (by omega),by decide,fun k k0 k1 => ?_⟩
      walk_at "go"
      refine ixm k0 (by omega) fun d md => ?_
      obtain ⟨kn,rfl,k2,k3⟩ := hI.mem md
      simp only [List.mem_cons,List.not_mem_nil,or_false,not_or] at k2
      walk_at "go"
      exact hP ⟨iN,jn,kn⟩ ⟨by dsimp only; omega,jm,k3,by dsimp only; omega,by dsimp only; omega,by dsimp only; omega⟩
theorem R3s_of : ∀ {acc : List D},(∀ y ∈ acc,∃ t : R3,t.sm /\ y = t.d) -> ∃ ts : List R3,acc = ts.map R3.d /\ ∀ t ∈ ts,t.sm
  | [],_ => ⟨[],rfl,by simp⟩
  | y :: r,h => by
    obtain ⟨t,ht,rfl⟩ := h y (by simp)
    obtain ⟨ts,rfl,hts⟩ := R3s_of (acc := r) fun y' h' => h y' (List.mem_cons_of_mem _ h')
    exact ⟨t :: ts,rfl,fun t' h' => by
      rcases List.mem_cons.mp h' with rfl | q
      · exact ht
      · exact hts t' q⟩
def sdR (f : F3i) : List (List Int) := [[(f.i : Int),(f.j : Int)],[(f.j : Int),(f.k : Int)],[(f.k : Int),(f.i : Int)]]
def sdsR (fs : List F3i) : List (List Int) := fs.flatMap sdR
def felR : List Int -> List Int
  | [a,b] => [b,a]
  | r => r
theorem sdsR_len (fs : List F3i) : (sdsR fs).length = 3 * fs.length := by
  induction fs with
  | nil => rfl
  | cons f fs ih =>
    show (sdR f ++ sdsR fs).length = _
    rw [List.length_append,ih,List.length_cons]
    show 3 + _ = _
    omega
theorem sdsR_mem {fs : List F3i}{r : List Int}(h : r ∈ sdsR fs) : ∃ (f : F3i) (a b : Nat),f ∈ fs /\ f.has a /\ f.has b /\ r = [(a : Int),(b : Int)] := by
  obtain ⟨f,hf,hr⟩ := List.mem_flatMap.mp h
  simp only [sdR,List.mem_cons,List.not_mem_nil,or_false] at hr
  rcases hr with rfl | rfl | rfl
  · exact ⟨f,f.i,f.j,hf,.inl rfl,.inr (.inl rfl),rfl⟩
  · exact ⟨f,f.j,f.k,hf,.inr (.inl rfl),.inr (.inr rfl),rfl⟩
  · exact ⟨f,f.k,f.i,hf,.inr (.inr rfl),.inl rfl,rfl⟩
structure Cnt (L : List (List Int))(ks : List (List Int))(xs : List D) : Prop where
  len : ks.length = xs.length
  nd : ks.Nodup
  get : ∀ r,findD ks xs r = if r ∈ L then some (.int (L.count r)) else none
  mem : ∀ r,r ∈ ks ↔ r ∈ L
theorem Cnt.nil : Cnt [] [] [] := ⟨rfl,List.nodup_nil,fun r => by simp [findD],fun r => Iff.rfl⟩
theorem Cnt.add {L ks : List (List Int)}{xs : List D}(h : Cnt L ks xs)(n : List Int) : Cnt (L ++ [n]) (putD ks xs n (.int (L.count n + 1))).1 (putD ks xs n (.int (L.count n + 1))).2 := by
  refine ⟨putD_len ks xs h.len,putD_nodup h.nd,fun r => ?_,fun r => ?_⟩
  · rw [putD_find ks xs h.len,h.get r]
    by_cases e : n = r
    · subst e
      rw [if_pos rfl,if_pos (by simp),List.count_append,List.count_singleton]
      simp
    · rw [if_neg e]
      by_cases m : r ∈ L
      · rw [if_pos m,if_pos (List.mem_append_left _ m),List.count_append,List.count_singleton,if_neg (by simpa using e)]
        rfl
      · rw [if_neg m,if_neg (fun z => (List.mem_append.mp z).elim m fun y => e (List.mem_singleton.mp y).symm)]
  · rw [putD_keys]
    by_cases q : n ∈ ks
    · rw [if_pos q,h.mem r]
      constructor
      · exact fun m => List.mem_append_left _ m
      · intro m
        rcases List.mem_append.mp m with m | m
        · exact m
        · rw [List.mem_singleton.mp m]; exact (h.mem n).mp q
    · rw [if_neg q,List.mem_append,List.mem_append,h.mem r]
theorem Cnt.getD {L ks : List (List Int)}{xs : List D}(h : Cnt L ks xs)(r : List Int) : (findD ks xs r).getD (.int 0) = .int (L.count r) := by
  rw [h.get r]
  by_cases m : r ∈ L
  · rw [if_pos m]; rfl
  · rw [if_neg m,List.count_eq_zero_of_not_mem m]; rfl
theorem Cnt.small {L ks : List (List Int)}{xs : List D}(h : Cnt L ks xs) : ks.length <= L.length := by
  have : ∀ (ks L : List (List Int)),ks.Nodup -> (∀ r ∈ ks,r ∈ L) -> ks.length <= L.length := by
    intro ks
    induction ks with
    | nil => exact fun _ _ _ => Nat.zero_le _
    | cons k ks ih =>
      intro L nd h
      have hk := h k (List.mem_cons_self ..)
      have := ih (L.erase k) (List.nodup_cons.mp nd).2 fun r hr => (List.mem_erase_of_ne (fun (z : r = k) => (List.nodup_cons.mp nd).1 (by rw [<- z]; exact hr))).mpr (h r (List.mem_cons_of_mem _ hr))
      rw [List.length_erase_of_mem hk] at this
      have := List.length_pos_of_mem hk
      rw [List.length_cons]
      omega
  exact this ks L h.nd fun r hr => (h.mem r).mp hr
def lackN (L : List (List Int))(r : List Int) : Nat := L.count r - L.count (felR r)
def lackL (L ks : List (List Int)) : List (List Int) := ks.flatMap fun r => List.replicate (lackN L r) r
theorem lackL_count {L : List (List Int)} : ∀ {ks : List (List Int)},ks.Nodup -> ∀ r,(lackL L ks).count r = if r ∈ ks then lackN L r else 0
  | [],_,r => by simp [lackL]
  | k :: ks,nd,r => by
    obtain ⟨n1,n2⟩ := List.nodup_cons.mp nd
    have ih := lackL_count (L := L) n2 r
    show (List.replicate (lackN L k) k ++ lackL L ks).count r = _
    rw [List.count_append,ih,List.count_replicate]
    by_cases e : k = r
    · subst e
      rw [if_neg n1,if_pos (by simp)]
      simp
    · have e2 : ¬ r = k := fun z => e z.symm
      simp [e,e2]
theorem sum_count : ∀ {ks : List (List Int)} (L : List (List Int)),ks.Nodup -> (ks.map fun k => L.count k).sum <= L.length
  | [],L,_ => Nat.zero_le _
  | k :: ks,L,nd => by
    obtain ⟨n1,n2⟩ := List.nodup_cons.mp nd
    have ih := sum_count (ks := ks) (L.filter fun x => x != k) n2
    have e1 : (ks.map fun q => (L.filter fun x => x != k).count q) = ks.map fun q => L.count q := List.map_congr_left fun q hq => by
      have : q ≠ k := fun z => n1 (z ▸ hq)
      rw [List.count_filter (by simpa using this)]
    rw [e1] at ih
    have e2 : (L.filter fun x => x != k).length + L.count k = L.length := by
      have h1 := List.length_eq_countP_add_countP (fun x => x != k) (l := L)
      have h2 : L.count k = L.countP (fun a => decide (¬ (a != k) = true)) := by
        unfold List.count
        refine List.countP_congr fun x _ => ?_
        simp
      rw [List.countP_eq_length_filter] at h1
      omega
    rw [List.map_cons,List.sum_cons]
    omega
theorem lackL_len {L ks : List (List Int)}(nd : ks.Nodup) : (lackL L ks).length <= L.length := by
  refine Nat.le_trans ?_ (sum_count L nd)
  clear nd
  induction ks with
  | nil => exact Nat.zero_le _
  | cons k ks ih =>
    show (List.replicate (lackN L k) k ++ lackL L ks).length <= _
    rw [List.length_append,List.length_replicate,List.map_cons,List.sum_cons]
    have : lackN L k <= L.count k := Nat.sub_le ..
    omega
theorem lackL_take {L ks : List (List Int)}{i : Nat}{r : List Int}(e : ks[i]? = some r) : lackL L (ks.take (i + 1)) = lackL L (ks.take i) ++ List.replicate (lackN L r) r := by
  unfold lackL
  rw [List.take_add_one,e,Option.toList_some,List.flatMap_append]
  simp
structure Lack (fs : List F3i)(rows : List (List Int)) : Prop where
  srt : rows.Pairwise (fun x y => encA 0 x <= encA 0 y)
  cnt : ∀ r,rows.count r = lackN (sdsR fs) r
theorem lack_mem {fs : List F3i}{rows : List (List Int)}(h : Lack fs rows){r : List Int}(m : r ∈ rows) : r ∈ sdsR fs := by
  have h1 := h.cnt r
  have h2 := List.count_pos_iff.mpr m
  apply Decidable.byContradiction
  intro n
  have := List.count_eq_zero_of_not_mem n
  unfold lackN at h1
  omega
theorem row2_small {fs : List F3i}{n : Nat}(hn : n <= 1000)(hi : ∀ f ∈ fs,∀ q,f.has q -> q < n){r : List Int}(m : r ∈ sdsR fs) : r.length = 2 /\ ∀ z ∈ r,SmallZ z := by
  obtain ⟨f,a,b,hf,ha,hb,rfl⟩ := sdsR_mem m
  have := hi f hf a ha
  have := hi f hf b hb
  refine ⟨rfl,fun z hz => ?_⟩
  simp only [List.mem_cons,List.not_mem_nil,or_false] at hz
  unfold SmallZ
  omega
theorem lack_one {fs : List F3i}{n : Nat}(hn : n <= 1000)(hi : ∀ f ∈ fs,∀ q,f.has q -> q < n){xs ys : List (List Int)}(hx : Lack fs xs)(hy : Lack fs ys) : xs = ys := by
  have hp : xs.Perm ys := List.perm_iff_count.mpr fun r => by rw [hx.cnt,hy.cnt]
  refine List.Perm.eq_of_pairwise (le := fun r s => encA 0 r <= encA 0 s) (fun a b ha hb h1 h2 => ?_) hx.srt hy.srt hp
  have a1 := row2_small hn hi (lack_mem hx ha)
  have b1 := row2_small hn hi (lack_mem hy hb)
  exact (encA_inj a b 0 0 (by rw [a1.1,b1.1]) a1.2 b1.2 (Int.le_antisymm h1 h2)).2
theorem noLs_rows (rows : List (List Int)) : noLs (rows.map rowD) = true := by
  induction rows with
  | nil => rfl
  | cons r rows ih =>
    rw [List.map_cons]
    unfold noLs
    rw [ih]
    have : noL (rowD r) = true := by
      unfold rowD noL
      induction r with
      | nil => rfl
      | cons a r ih => rw [List.map_cons]; unfold noLs; rw [ih]; rfl
    rw [this]; rfl
theorem fine_rows (rows : List (List Int)) : finesD 2 (rows.map rowD) = true := by
  induction rows with
  | nil => rfl
  | cons r rows ih =>
    rw [List.map_cons]
    unfold finesD
    rw [ih]
    have : fineD 2 (rowD r) = true := by
      unfold rowD fineD
      induction r with
      | nil => rfl
      | cons a r ih => rw [List.map_cons]; unfold finesD; rw [ih]; rfl
    rw [this]; rfl
theorem rep_row (n : Nat)(d : D) : (List.replicate n [d]).flatten = List.replicate n d := by
  induction n with
  | zero => rfl
  | succ n ih => rw [List.replicate_succ,List.flatten_cons,ih,List.replicate_succ]; rfl
abbrev s_sides_of : Stmt := top 13
theorem sc_sides_of : FnScope ["face","i","j","k"] ["face"] (defScope s_sides_of) := ⟨rfl,rfl,rfl,by decide +kernel,rfl,by decide +kernel,by decide +kernel⟩
def S_sd : DSp := fun ds P _ => ∃ f : F3i,ds = [f.d] /\ P (.lst ((sdR f).map rowD))
theorem ok_sides_of {P : Program}{w : World}{K : PySem.W.Frag}{mg : Str -> Option Value}{base : Heap}{f : Addr}{fd : FuncData}(F : Fun K "sides_of" "sides_of" s_sides_of f fd) (Z : Bi mg) {c : Cs} (Y : Ex K mg base c) : FnOk P w K mg base CX0 1 f fd ["face"] (liftSp K BT S_sd) := by
  refine F.okD sc_sides_of (fun ds PP Ed h => ?_) (fun cdv A outer s H E M bg ds PP Ed hr hS_ => ?_)
  · obtain ⟨f_,rfl,hP⟩ := h
    rfl
  · obtain ⟨f_,rfl,hP⟩ := hS_
    refine ⟨_,(jdss_cons (jds_asg (gd_seq [1,2,3]) (jdv 0) (PG.or (pg_tupK (n := 3) K (by rfl) (by rfl) (pgs_cons (pg_name (i := 1) sc_sides_of.nd rfl (by walk_at "o")) (pgs_cons (pg_name (i := 2) sc_sides_of.nd rfl (by walk_at "o")) (pgs_cons (pg_name (i := 3) sc_sides_of.nd rfl (by walk_at "o")) pgs_nil)))) (pg_lstK (n := 3) K (by rfl) (by rfl) (pgs_cons (pg_name (i := 1) sc_sides_of.nd rfl (by walk_at "o")) (pgs_cons (pg_name (i := 2) sc_sides_of.nd rfl (by walk_at "o")) (pgs_cons (pg_name (i := 3) sc_sides_of.nd rfl (by walk_at "o")) pgs_nil))))))
      (jdss_one (jds_ret (jde_lst (jda_cons (jde_tup (jda_cons (jdv 1) (jda_cons (jdv 2) jda_nil))) (jda_cons (jde_tup (jda_cons (jdv 2) (jda_cons (jdv 3) jda_nil))) (jda_cons (jde_tup (jda_cons (jdv 3) (jda_cons (jdv 1) jda_nil))) jda_nil))))))),?_⟩
    walk_at "go"
    exact hP
abbrev s_fellow : Stmt := top 14
theorem sc_fellow : FnScope ["pair"] ["pair"] (defScope s_fellow) := ⟨rfl,rfl,rfl,by decide +kernel,rfl,by decide +kernel,by decide +kernel⟩
def S_fel : DSp := fun ds P _ => ∃ a b : Int,ds = [t2 a b] /\ P (t2 b a)
theorem ok_fellow {P : Program}{w : World}{K : PySem.W.Frag}{mg : Str -> Option Value}{base : Heap}{f : Addr}{fd : FuncData}(F : Fun K "fellow" "fellow" s_fellow f fd) (Z : Bi mg) {c : Cs} (Y : Ex K mg base c) : FnOk P w K mg base CX0 1 f fd ["pair"] (liftSp K BT S_fel) := by
  refine F.okD sc_fellow (fun ds PP Ed h => ?_) (fun cdv A outer s H E M bg ds PP Ed hr hS_ => ?_)
  · obtain ⟨a,b,rfl,hP⟩ := h
    rfl
  · obtain ⟨a,b,rfl,hP⟩ := hS_
    refine ⟨_,(jdss_one (jds_ret (jde_tup (jda_cons (jde_ix (ix_any K (by rfl)) od_ix (jdv 0) jde_int (fun _ _ => rfl)) (jda_cons (jde_ix (ix_any K (by rfl)) od_ix (jdv 0) jde_int (fun _ _ => rfl)) jda_nil))))),?_⟩
    walk_at "go"
    exact hP
abbrev s_side_counts : Stmt := top 15
theorem sc_side_counts : FnScope ["faces","counts","face","pair"] ["faces"] (defScope s_side_counts) := ⟨rfl,rfl,rfl,by decide +kernel,rfl,by decide +kernel,by decide +kernel⟩
def S_scnt : DSp := fun ds P _ => ∃ fs : List F3i,ds = [.lst (fs.map F3i.d)] /\ fs.length <= 300 /\ ∀ t ks xs,Cnt (sdsR fs) ks xs -> P (.dct t ks xs)
theorem sds_take {fs : List F3i}{i : Nat}{f : F3i}(e : fs[i]? = some f) : sdsR (fs.take (i + 1)) = sdsR (fs.take i) ++ sdR f := by
  unfold sdsR
  rw [List.take_add_one,e,Option.toList_some,List.flatMap_append]
  simp
structure C_side_counts (P : Program)(w : World)(K : PySem.W.Frag)(mg : Str -> Option Value)(base : Heap)(c : Cs) : Prop where
  sides_of_ : Callee P w K mg base CX0 "sides_of" 1 ["face"] (liftSp K BT S_sd)
theorem ok_side_counts {P : Program}{w : World}{K : PySem.W.Frag}{mg : Str -> Option Value}{base : Heap}{f : Addr}{fd : FuncData}(F : Fun K "side_counts" "side_counts" s_side_counts f fd) (Z : Bi mg) {c : Cs} (Y : Ex K mg base c) (G : C_side_counts P w K mg base c) : FnOk P w K mg base CX0 2 f fd ["faces"] (liftSp K BT S_scnt) := by
  refine F.okD sc_side_counts (fun ds PP Ed h => ?_) (fun cdv A outer s H E M bg ds PP Ed hr hS_ => ?_)
  · obtain ⟨fs,rfl,hl,hP⟩ := h
    rfl
  · obtain ⟨fs,rfl,hl,hP⟩ := hS_
    refine ⟨_,(jdss_cons (jds_setDN (i := 1) sc_side_counts.nd rfl (by walk_at "o"))
      (jdss_cons (jds_for (gd_name 2) PassesOwn.never rfl (jdi_seq (by rfl) (jdv 0)) (pg_name (i := 2) sc_side_counts.nd rfl (by walk_at "o")) (jdss_one (jds_for (gd_name 3) PassesOwn.never rfl (jdi_seq (by rfl) (jde_own G.sides_of_ (hr.mono (by decide)) rfl (jda_cons (jdv 2) jda_nil))) (pg_name (i := 3) sc_side_counts.nd rfl (by walk_at "o")) (jdss_one (jds_setD (i := 1) (by rfl) (jde_op op_add od_I0 (jde_get3 (i := 1) (by rfl) hr.units (jdv 3) jde_int rfl (by walk_at "v") ⟨rfl,rfl,rfl,rfl⟩) jde_int) (pg_sub (pv 1) (JE.h (jdv 3)) (set_dct K (by rfl) hr.units)))))))
      (jdss_thaw 1 (jdss_one (jds_ret (jdv 1)))))),?_⟩
    walk_at "go"
    intro a t
    walk_at "go"
    refine ⟨fun i ρ => ∃ a t ks xs v2 v3,ρ = [some (.lst (fs.map F3i.d)),some (dcg K a t ks xs),v2,v3] /\ Cnt (sdsR (fs.take i)) ks xs,⟨a,t,[],[],_,_,rfl,Cnt.nil⟩,?_,?_⟩
    · rintro i x ρ e ⟨a,t,ks,xs,v2,v3,rfl,hc⟩
      obtain ⟨f_,ef,rfl⟩ := get_of e
      have hi : i < fs.length := (List.getElem?_eq_some_iff.mp ef).1
      rw [sds_take ef]
      have hz : (sdsR (fs.take i)).length <= 900 := by rw [sdsR_len,List.length_take]; omega
      generalize sdsR (fs.take i) = L at *
      walk_at "go"
      refine ⟨f_,rfl,?_⟩
      walk_at "go"
      refine ⟨fun n ρ => ∃ a t ks xs v3,ρ = [some (.lst (fs.map F3i.d)),some (dcg K a t ks xs),some f_.d,v3] /\ Cnt (L ++ (sdR f_).take n) ks xs,⟨a,t,ks,xs,_,rfl,by rw [List.take_zero,List.append_nil]; exact hc⟩,?_,?_⟩
      · rintro n y ρ e2 ⟨a,t,ks,xs,v3,rfl,hc⟩
        obtain ⟨r,er,rfl⟩ := get_of e2
        have hn : n < 3 := (List.getElem?_eq_some_iff.mp er).1
        have es : (sdR f_).take (n + 1) = (sdR f_).take n ++ [r] := by rw [List.take_add_one,er,Option.toList_some]
        rw [es,<- List.append_assoc]
        have hz : ks.length < 1000 := by
          have := hc.small
          rw [List.length_append,List.length_take] at this
          have : (sdR f_).length = 3 := rfl
          omega
        obtain ⟨p,q,rfl⟩ : ∃ p q : Int,r = [p,q] := by
          have := List.mem_of_getElem? er
          simp only [sdR,List.mem_cons,List.not_mem_nil,or_false] at this
          rcases this with rfl | rfl | rfl <;> exact ⟨_,_,rfl⟩
        generalize L ++ (sdR f_).take n = L' at *
        walk_at "go"
        refine ⟨a,t,ks,xs,rfl,?_⟩
        walk_at "go"
        refine ⟨_,t,ks,xs,rfl,.inr ⟨a,rfl⟩,?_⟩
        walk_at "go"
        refine ⟨[p,q],rfl,?_⟩
        walk_at "go"
        rw [hc.getD]
        walk_at "go"
        refine ⟨[p,q],rfl,hz,fun t' => ?_⟩
        walk_at "go"
        exact ⟨a,t',_,_,_,rfl,hc.add _⟩
      · rintro ρ ⟨a,t,ks,xs,v3,rfl,hc⟩
        have e3 : (sdR f_).take ((sdR f_).map rowD).length = sdR f_ := rfl
        rw [e3] at hc
        exact ⟨a,t,ks,xs,_,_,rfl,hc⟩
    · rintro ρ ⟨a,t,ks,xs,v2,v3,rfl,hc⟩
      rw [List.length_map,List.take_length] at hc
      walk_at "go"
      exact hP t ks xs hc
abbrev s_lacking : Stmt := top 16
theorem sc_lacking : FnScope ["body","counts","told","pair","more"] ["body"] (defScope s_lacking) := ⟨rfl,rfl,rfl,by decide +kernel,rfl,by decide +kernel,by decide +kernel⟩
def S_lacking : DSO := fun ds P _ => ∃ (cs : List D) (fs : List F3i) (n : Nat),ds = [.tup [.lst cs,.lst (fs.map F3i.d)]] /\ fs.length <= 42 /\ n <= 1000 /\ (∀ f ∈ fs,∀ q,f.has q -> q < n) /\ ∀ rows,Lack fs rows -> P (rows.map rowD)
structure C_lacking (P : Program)(w : World)(K : PySem.W.Frag)(mg : Str -> Option Value)(base : Heap)(c : Cs) : Prop where
  side_counts_ : Callee P w K mg base CX0 "side_counts" 2 ["faces"] (liftSp K BT S_scnt)
  fellow_ : Callee P w K mg base CX0 "fellow" 1 ["pair"] (liftSp K BT S_fel)
theorem ok_lacking {P : Program}{w : World}{K : PySem.W.Frag}{mg : Str -> Option Value}{base : Heap}{f : Addr}{fd : FuncData}(F : Fun K "lacking" "lacking" s_lacking f fd) (Z : Bi mg) {c : Cs} (Y : Ex K mg base c) (G : C_lacking P w K mg base c) : FnOk P w K mg base CX0 3 f fd ["body"] (liftSpO K BT S_lacking) := by
  refine F.okDO sc_lacking (fun ds PP Ed h => ?_) (fun cdv A outer s H E M bg ds PP Ed hr hS_ => ?_)
  · obtain ⟨cs,fs,n_,rfl,hl,hn_,hi,hP⟩ := h
    rfl
  · obtain ⟨cs,fs,n_,rfl,hl,hn_,hi,hP⟩ := hS_
    refine ⟨_,(jdss_cons (jds_set (i := 1) sc_lacking.nd rfl (by walk_at "o") (jde_own G.side_counts_ (hr.mono (by decide)) rfl (jda_cons (jde_ix (ix_any K (by rfl)) od_ix (jdv 0) jde_int (fun _ _ => rfl)) jda_nil)))
      (jdss_cons (jds_ownL (i := 2) sc_lacking.nd rfl (by walk_at "o") jda_nil)
      (jdss_cons (jds_for (gd_name 3) PassesOwn.never rfl (jdi_keys (by rfl) (jdv 1)) (pg_name (i := 3) sc_lacking.nd rfl (by walk_at "o")) (jdss_cons (jds_set (i := 4) sc_lacking.nd rfl (by walk_at "o") (jde_op op_sub od_I0 (jde_ix (ix_dctK K (by rfl) hr.units) od_ixD (jdv 1) (jdv 3) (fun _ _ => rfl)) (jde_get3 (i := 1) (by rfl) hr.units (jde_own G.fellow_ (hr.mono (by decide)) rfl (jda_cons (jdv 3) jda_nil)) jde_int rfl (by walk_at "v") ⟨rfl,rfl,rfl,rfl⟩)))
      (jdss_one (jds_extend (i := 2) (by rfl) (jda_cons (jde_op op_rep od_rep (jde_lst (jda_cons (jdv 3) jda_nil)) (jde_callB (call_max2 (by rfl)) cd_2I rfl Z.max_ bt_max (jda_cons (jdv 4) (jda_cons jde_int jda_nil)))) jda_nil) (pe_bm PySem.F.plainAttrs_list PySem.F.slot_list_extend PySem.F.type_list_extend mt_extend (pv 2) (JA.h (jda_cons (jde_op op_rep od_rep (jde_lst (jda_cons (jdv 3) jda_nil)) (jde_callB (call_max2 (by rfl)) cd_2I rfl Z.max_ bt_max (jda_cons (jdv 4) (jda_cons jde_int jda_nil)))) jda_nil)))))))
      (jdss_one (jds_retF (jdf_sortT (X := (cxOf CX0 P w K mg base ["body","counts","told","pair","more"] "lacking" (defScope s_lacking) f cdv A outer s H E).nox) (jda_cons (jdv 2) jda_nil) (pe_callB (call_sortT K (by rfl) (by rfl)) rfl Z.sorted_ bt_sorted (JA.h (jda_cons (jdv 2) jda_nil))))))))),?_⟩
    walk_at "go"
    refine ⟨fs,rfl,by omega,fun t ks xs hc => ?_⟩
    walk_at "go"
    refine ⟨t,ks,xs,.inl rfl,?_⟩
    have zl := sdsR_len fs
    have sm := fun {r} => row2_small (r := r) hn_ hi
    have lr : ∀ rows : List (List Int),rows.Perm (lackL (sdsR fs) ks) -> rows.Pairwise (fun x y => encA 0 x <= encA 0 y) -> Lack fs rows := fun rows p so => ⟨so,fun r => by
      rw [p.count_eq,lackL_count hc.nd]
      by_cases m : r ∈ ks
      · rw [if_pos m]
      · rw [if_neg m]
        have : (sdsR fs).count r = 0 := List.count_eq_zero_of_not_mem fun z => m ((hc.mem r).mpr z)
        unfold lackN
        omega⟩
    have lm : ∀ r ∈ lackL (sdsR fs) ks,r ∈ sdsR fs := fun r hr => by
      obtain ⟨k,hk,hr⟩ := List.mem_flatMap.mp hr
      rw [List.eq_of_mem_replicate hr]
      exact (hc.mem k).mp hk
    have zz := lackL_len (L := sdsR fs) hc.nd
    generalize sdsR fs = L at *
    refine ⟨fun i ρ => ∃ v3 v4,ρ = [some (.tup [.lst cs,.lst (fs.map F3i.d)]),some (.dct t ks xs),some (.own ((lackL L (ks.take i)).map rowD)),v3,v4],⟨_,_,rfl⟩,?_,?_⟩
    · rintro i x ρ e ⟨v3,v4,rfl⟩
      have e' : (keysT ks)[i]? = some x := e
      unfold keysT at e'
      rw [List.getElem?_map] at e'
      obtain ⟨r,er,rfl⟩ := Option.map_eq_some_iff.mp e'
      have rm : r ∈ L := (hc.mem r).mp (List.mem_of_getElem? er)
      obtain ⟨p,q,rfl⟩ : ∃ p q : Int,r = [p,q] := by
        have := (sm rm).1
        match r,this with
        | [p,q],_ => exact ⟨p,q,rfl⟩
      have g1 : findD ks xs [p,q] = some (.int (L.count [p,q])) := by rw [hc.get,if_pos rm]
      have tk : (lackL L (ks.take i)).length <= L.length := lackL_len (List.Sublist.nodup (List.take_sublist i ks) hc.nd)
      have nk : lackN L [p,q] <= L.length := Nat.le_trans (Nat.sub_le ..) List.count_le_length
      have nm : ((fun i j => if j > i then j else i) ((L.count [p,q] : Int) - (L.count [q,p] : Int)) 0 : Int) = (lackN L [p,q] : Int) := by
        dsimp only
        show _ = ((L.count [p,q] - L.count [q,p] : Nat) : Int)
        split <;> omega
      clear e e'
      walk_at "go"
      refine ⟨t,ks,xs,[p,q],_,.inl rfl,rfl,g1,?_⟩
      walk_at "go"
      refine ⟨_,t,ks,xs,rfl,.inl rfl,?_⟩
      walk_at "go"
      refine ⟨p,q,rfl,?_⟩
      walk_at "go"
      refine ⟨[q,p],rfl,?_⟩
      walk_at "go"
      rw [hc.getD]
      walk_at "go"
      rw [nm]
      refine And.intro ⟨by omega,by omega,by rw [Int.toNat_natCast]; simp; omega⟩ ?_
      rw [Int.toNat_natCast]
      walk_at "go"
      refine And.intro (by simp; omega) ?_
      rw [lackL_take er]
      exact ⟨_,_,by rw [rep_row,List.map_append,List.map_replicate]; rfl⟩
    · rintro ρ ⟨v3,v4,rfl⟩
      walk_at "go"
      have e3 : (lackL L (List.take ((fun ks x => keysT ks) ks xs).length ks)) = lackL L ks := by
        show lackL L (ks.take (keysT ks).length) = _
        unfold keysT
        rw [List.length_map,List.take_length]
      rw [e3]
      exact ⟨_,2,rfl,by decide,by omega,fun r hr => sm (lm r hr),fun rows' p so => hP rows' (lr rows' p so)⟩
abbrev s_is_closed : Stmt := top 17
theorem sc_is_closed : FnScope ["body"] ["body"] (defScope s_is_closed) := ⟨rfl,rfl,rfl,by decide +kernel,rfl,by decide +kernel,by decide +kernel⟩
def S_isc : DSp := fun ds P _ => ∃ (cs : List D) (fs : List F3i) (n : Nat),ds = [.tup [.lst cs,.lst (fs.map F3i.d)]] /\ fs.length <= 42 /\ n <= 1000 /\ (∀ f ∈ fs,∀ q,f.has q -> q < n) /\ ∀ rows,Lack fs rows -> P (.bl rows.isEmpty)
structure C_is_closed (P : Program)(w : World)(K : PySem.W.Frag)(mg : Str -> Option Value)(base : Heap)(c : Cs) : Prop where
  lacking_ : Callee P w K mg base CX0 "lacking" 3 ["body"] (liftSpO K BT S_lacking)
theorem ok_is_closed {P : Program}{w : World}{K : PySem.W.Frag}{mg : Str -> Option Value}{base : Heap}{f : Addr}{fd : FuncData}(F : Fun K "is_closed" "is_closed" s_is_closed f fd) (Z : Bi mg) {c : Cs} (Y : Ex K mg base c) (G : C_is_closed P w K mg base c) : FnOk P w K mg base CX0 4 f fd ["body"] (liftSp K BT S_isc) := by
  refine F.okD sc_is_closed (fun ds PP Ed h => ?_) (fun cdv A outer s H E M bg ds PP Ed hr hS_ => ?_)
  · obtain ⟨cs,fs,n_,rfl,hl,hn_,hi,hP⟩ := h
    rfl
  · obtain ⟨cs,fs,n_,rfl,hl,hn_,hi,hP⟩ := hS_
    refine ⟨_,(jdss_one (jds_ret (jde_cmp (op_eqG K (by rfl) hr.units) od_eqG (jde_ownO G.lacking_ (hr.mono (by decide)) rfl (jda_cons (jdv 0) jda_nil)) (jde_lst jda_nil) (nomark _)))),?_⟩
    walk_at "go"
    refine ⟨cs,fs,n_,rfl,hl,hn_,hi,fun rows lk => ?_⟩
    have hP := hP rows lk
    refine ⟨noLs_rows rows,?_⟩
    walk_at "go"
    refine eqG_nilL 2 (fine_rows rows) ?_
    have e : ((rows.map rowD).isEmpty != false) = rows.isEmpty := by cases rows <;> rfl
    rw [e]
    walk_at "go"
    exact hP
theorem noL_r3 (cs : List R3) : noLs (cs.map R3.d) = true := noLs_all fun d hd => by
  obtain ⟨t,_,rfl⟩ := List.mem_map.mp hd
  rfl
theorem noL_f3 (fs : List F3i) : noLs (fs.map F3i.d) = true := noLs_all fun d hd => by
  obtain ⟨t,_,rfl⟩ := List.mem_map.mp hd
  rfl
theorem noL_bd (cs : List R3)(fs : List F3i) : ∀ r ∈ [cs.map R3.d,fs.map F3i.d],noLs r = true := fun r hr => by
  rcases List.mem_cons.mp hr with rfl | hr
  · exact noL_r3 cs
  · rw [List.mem_singleton.mp hr]
    exact noL_f3 fs
theorem fine_r3 (cs : List R3) : finesD 2 (cs.map R3.d) = true := fines_all (fun d hd => by obtain ⟨t,_,rfl⟩ := List.mem_map.mp hd; rfl)
theorem fine_f3 (fs : List F3i) : finesD 2 (fs.map F3i.d) = true := fines_all (fun d hd => by obtain ⟨t,_,rfl⟩ := List.mem_map.mp hd; rfl)
theorem fine_body (cs : List R3)(fs : List F3i) : fineD 4 (.tup [.lst (cs.map R3.d),.lst (fs.map F3i.d)]) = true := by
  have e1 : fineD 3 (.lst (cs.map R3.d)) = true := by unfold fineD; exact fine_r3 cs
  have e2 : fineD 3 (.lst (fs.map F3i.d)) = true := by unfold fineD; exact fine_f3 fs
  show (fineD 3 (.lst (cs.map R3.d)) && (fineD 3 (.lst (fs.map F3i.d)) && finesD 3 [])) = true
  rw [e1,e2]
  rfl
def F3i.flip (f : F3i) : F3i := ⟨f.i,f.k,f.j⟩
def flD : D -> D
  | .tup [a,b,c] => .tup [a,c,b]
  | d => d
theorem flD_map (fs : List F3i) : (fs.map F3i.d).map flD = (fs.map F3i.flip).map F3i.d := by
  rw [List.map_map,List.map_map]
  exact List.map_congr_left fun f _ => rfl
theorem felR_felR (r : List Int) : felR (felR r) = r := by
  match r with
  | [] => rfl
  | [_] => rfl
  | [_,_] => rfl
  | _ :: _ :: _ :: _ => rfl
theorem count_fel (L : List (List Int))(r : List Int) : (L.map felR).count r = L.count (felR r) := by
  induction L with
  | nil => rfl
  | cons k L ih =>
    rw [List.map_cons,List.count_cons,List.count_cons,ih]
    have : (felR k == r) = (k == felR r) := by
      rw [Bool.eq_iff_iff]
      simp only [beq_iff_eq]
      exact ⟨fun h => by rw [<- h,felR_felR],fun h => by rw [h,felR_felR]⟩
    rw [this]
theorem sds_flip (fs : List F3i) : (sdsR (fs.map F3i.flip)).Perm ((sdsR fs).map felR) := by
  induction fs with
  | nil => exact List.Perm.refl _
  | cons f fs ih =>
    show (sdR f.flip ++ sdsR (fs.map F3i.flip)).Perm ((sdR f ++ sdsR fs).map felR)
    rw [List.map_append]
    refine List.Perm.append ?_ ih
    show List.Perm [[(f.i : Int),(f.k : Int)],[(f.k : Int),(f.j : Int)],[(f.j : Int),(f.i : Int)]] ([[(f.j : Int),(f.i : Int)],[(f.k : Int),(f.j : Int)],[(f.i : Int),(f.k : Int)]])
    exact (List.reverse_perm _).symm
theorem flip_has {fs : List F3i}{n : Nat}(hi : ∀ f ∈ fs,∀ q,f.has q -> q < n) : ∀ f ∈ fs.map F3i.flip,∀ q,f.has q -> q < n := fun f hf q hq => by
  obtain ⟨f0,h0,rfl⟩ := List.mem_map.mp hf
  refine hi f0 h0 q ?_
  rcases hq with z | z | z
  · exact .inl z
  · exact .inr (.inr z)
  · exact .inr (.inl z)
def swD : D -> D
  | .tup [a,b] => .tup [b,a]
  | d => d
def closedB (fs : List F3i) : Prop := ∀ r,(sdsR fs).count r = (sdsR fs).count (felR r)
theorem closed_lack {fs : List F3i}(h : closedB fs) : Lack fs [] := ⟨List.Pairwise.nil,fun r => by
  unfold lackN
  rw [h r]
  simp⟩
theorem closed_flip {fs : List F3i}(h : closedB fs) : closedB (fs.map F3i.flip) := fun r => by
  rw [(sds_flip fs).count_eq,(sds_flip fs).count_eq,count_fel,count_fel]
  exact h _
theorem sds_cons (f : F3i)(fs : List F3i) : sdsR (f :: fs) = sdR f ++ sdsR fs := rfl
theorem sds_app' (xs ys : List F3i) : sdsR (xs ++ ys) = sdsR xs ++ sdsR ys := List.flatMap_append
structure F3i.un (f : F3i) : Prop where
  ij : f.i ≠ f.j
  jk : f.j ≠ f.k
  ki : f.k ≠ f.i
theorem sd_one {f : F3i}(u : f.un)(r : List Int) : (sdR f).count r + (sdR f).count (felR r) <= 1 := by
  have a1 := u.ij
  have a2 := u.jk
  have a3 := u.ki
  unfold sdR
  simp only [List.count_cons,List.count_nil,beq_iff_eq]
  match r with
  | [] => simp [felR]
  | [_] => simp [felR]
  | _ :: _ :: _ :: _ => simp [felR]
  | [p,q] =>
    show _ + _ + (0 + (if _ = [q,p] then 1 else 0) + (if _ = [q,p] then 1 else 0) + (if _ = [q,p] then 1 else 0)) <= 1
    simp only [List.cons.injEq,and_true]
    repeat' split
    all_goals omega
theorem gone_lack {xs ys : List F3i}{f : F3i}(u : f.un)(h : closedB (xs ++ f :: ys)){rows : List (List Int)}(p : rows.Perm ((sdR f).map felR))(so : rows.Pairwise (fun x y => encA 0 x <= encA 0 y)) : Lack (xs ++ ys) rows := ⟨so,fun r => by
  rw [p.count_eq,count_fel]
  unfold lackN
  have h := h r
  rw [sds_app',sds_cons,List.count_append,List.count_append,List.count_append,List.count_append] at h
  rw [sds_app',List.count_append,List.count_append]
  have := sd_one u r
  omega⟩
theorem sd_flip (f : F3i) : (sdR f.flip).Perm ((sdR f).map felR) := by
  have := sds_flip [f]
  simpa [sdsR] using this
theorem turned_lack {xs ys : List F3i}{f : F3i}(u : f.un)(h : closedB (xs ++ f :: ys)){rows : List (List Int)}(p : rows.Perm ((sdR f).map felR ++ (sdR f).map felR))(so : rows.Pairwise (fun x y => encA 0 x <= encA 0 y)) : Lack (xs ++ ys ++ [f.flip]) rows := ⟨so,fun r => by
  rw [p.count_eq,List.count_append,count_fel]
  unfold lackN
  have h := h r
  rw [sds_app',sds_cons,List.count_append,List.count_append,List.count_append,List.count_append] at h
  rw [sds_app',sds_app',List.count_append,List.count_append,List.count_append,List.count_append]
  rw [show sdsR [f.flip] = sdR f.flip from List.append_nil _,(sd_flip f).count_eq,(sd_flip f).count_eq,count_fel,count_fel,felR_felR]
  have := sd_one u r
  omega⟩
theorem again_lack {fs : List F3i}{f : F3i}(u : f.un)(h : closedB fs){rows : List (List Int)}(p : rows.Perm (sdR f))(so : rows.Pairwise (fun x y => encA 0 x <= encA 0 y)) : Lack (fs ++ [f]) rows := ⟨so,fun r => by
  rw [p.count_eq]
  unfold lackN
  have h := h r
  rw [sds_app',List.count_append,List.count_append]
  rw [show sdsR [f] = sdR f from List.append_nil _]
  have := sd_one u r
  omega⟩
theorem closed_of {fs : List F3i}(σ : Nat -> Int)(L : List (Nat × Nat))(h : (L.map Prod.swap).Perm L)(e : sdsR fs = L.map fun p => [σ p.1,σ p.2]) : closedB fs := fun r => by
  rw [<- count_fel,e,List.map_map]
  have : (felR ∘ fun p : Nat × Nat => [σ p.1,σ p.2]) = (fun p : Nat × Nat => [σ p.1,σ p.2]) ∘ Prod.swap := rfl
  rw [this,<- List.map_map]
  exact ((h.map _).count_eq r).symm
theorem closed_four (i j k t : Nat) : closedB [⟨i,k,j⟩,⟨i,j,t⟩,⟨j,k,t⟩,⟨k,i,t⟩] :=
  closed_of (fun n => match n with | 0 => (i : Int) | 1 => (j : Int) | 2 => (k : Int) | _ => (t : Int)) [(0,2),(2,1),(1,0),(0,1),(1,3),(3,0),(1,2),(2,3),(3,1),(2,0),(0,3),(3,2)] (by decide) rfl
theorem closed_six (i j k t l : Nat) : closedB [⟨i,j,t⟩,⟨j,k,t⟩,⟨k,i,t⟩,⟨j,i,l⟩,⟨k,j,l⟩,⟨i,k,l⟩] :=
  closed_of (fun n => match n with | 0 => (i : Int) | 1 => (j : Int) | 2 => (k : Int) | 3 => (t : Int) | _ => (l : Int)) [(0,1),(1,3),(3,0),(1,2),(2,3),(3,1),(2,0),(0,3),(3,2),(1,0),(0,4),(4,1),(2,1),(1,4),(4,2),(0,2),(2,4),(4,0)] (by decide) rfl
theorem closed_two {fs gs : List F3i}(h : closedB fs)(k : closedB gs) : closedB (fs ++ gs) := fun r => by
  rw [sds_app',List.count_append,List.count_append,h r,k r]
abbrev s_inside_out : Stmt := top 18
theorem sc_inside_out : FnScope ["body","corners","faces"] ["body"] (defScope s_inside_out) := ⟨rfl,rfl,rfl,by decide +kernel,rfl,by decide +kernel,by decide +kernel⟩
def S_io (K : PySem.W.Frag) : DSPX := fun ds P _ => ∃ (xs : List D) (fs : List F3i),ds = [.tup [.lst xs,.lst (fs.map F3i.d)]] /\ fs.length <= 42 /\ ∀ p rs,P (tpF K p rs [xs,(fs.map F3i.flip).map F3i.d]) (.tup ([xs,(fs.map F3i.flip).map F3i.d].map D.lst))
theorem ok_inside_out {P : Program}{w : World}{K : PySem.W.Frag}{mg : Str -> Option Value}{base : Heap}{f : Addr}{fd : FuncData}(F : Fun K "inside_out" "inside_out" s_inside_out f fd) (Z : Bi mg) {c : Cs} (Y : Ex K mg base c) : FnOk P w K mg base (CX1 P w base) 1 f fd ["body"] (liftSpPX K BT (S_io K)) := by
  refine F.okDXP sc_inside_out (fun ds PP Ed h => ?_) (fun cdv A outer s H E M bg ds PP Ed hr hE hS_ => ?_)
  · obtain ⟨xs,fs,rfl,hl,hP⟩ := h
    rfl
  · obtain ⟨xs,fs,rfl,hl,hP⟩ := hS_
    refine ⟨_,(jpx_cons (jds_asg (gd_seq [1,2]) (jdv 0) (PG.or (pg_tupK (n := 2) K (by rfl) (by rfl) (pgs_cons (pg_name (i := 1) sc_inside_out.nd rfl (by walk_at "o")) (pgs_cons (pg_name (i := 2) sc_inside_out.nd rfl (by walk_at "o")) pgs_nil))) (pg_lstK (n := 2) K (by rfl) (by rfl) (pgs_cons (pg_name (i := 1) sc_inside_out.nd rfl (by walk_at "o")) (pgs_cons (pg_name (i := 2) sc_inside_out.nd rfl (by walk_at "o")) pgs_nil)))))
      (jpx_retTp (pa_cons (JF.h (jdf_list (jda_cons (jdv 1) jda_nil) (pe_callTy (call_list_ofK K (by rfl)) rfl Z.list_ bt_list (JA.h (jda_cons (jdv 1) jda_nil))))) (pa_cons (JF.h (jdf_comp (X := (cxOf (CX1 P w base) P w K mg base ["body","corners","faces"] "inside_out" (defScope s_inside_out) f cdv A outer s H E)) (gd_seq [0,1,2]) (blkJ (X := (cxOf (CX1 P w base) P w K mg base ["body","corners","faces"] "inside_out" (defScope s_inside_out) f cdv A outer s H E)) (N' := ["i","j","k"]) (map := [none,none,none]) (by rfl) (by rfl) (by decide +kernel) (by rfl) True.intro (gkeep_seq (js := [0,1,2]) (by decide)) fun cl0 C0 fp0 s0 H0 => ⟨(PG.or (pg_tupK (n := 3) K (by rfl) (by rfl) (pgs_cons (pg_name (i := 0) (nodupS ["i","j","k"] (by decide +kernel)) rfl (by walk_at "o")) (pgs_cons (pg_name (i := 1) (nodupS ["i","j","k"] (by decide +kernel)) rfl (by walk_at "o")) (pgs_cons (pg_name (i := 2) (nodupS ["i","j","k"] (by decide +kernel)) rfl (by walk_at "o")) pgs_nil)))) (pg_lstK (n := 3) K (by rfl) (by rfl) (pgs_cons (pg_name (i := 0) (nodupS ["i","j","k"] (by decide +kernel)) rfl (by walk_at "o")) (pgs_cons (pg_name (i := 1) (nodupS ["i","j","k"] (by decide +kernel)) rfl (by walk_at "o")) (pgs_cons (pg_name (i := 2) (nodupS ["i","j","k"] (by decide +kernel)) rfl (by walk_at "o")) pgs_nil))))),jdif_nil,(jde_tup (X := (cxComp (cxOf (CX1 P w base) P w K mg base ["body","corners","faces"] "inside_out" (defScope s_inside_out) f cdv A outer s H E) ["i","j","k"] _ cl0 C0 fp0 s0 H0)) (jda_cons (jdv 0) (jda_cons (jdv 2) (jda_cons (jdv 1) jda_nil))))⟩) (jdi_seq (by rfl) (jdv 2)))) pa_nil)))),?_⟩
    walk_at "go"
    refine And.intro (by rw [List.length_map]; omega) ?_
    refine comp_map flD (fun x Q hx hQ => ?_) (fun x hx => ?_) ?_
    · obtain ⟨f,_,rfl⟩ := List.mem_map.mp hx
      walk_at "go"
      exact hQ
    · obtain ⟨f,_,rfl⟩ := List.mem_map.mp hx
      rfl
    rw [flD_map]
    exact hP
def F3i.sh (n : Nat)(f : F3i) : F3i := ⟨f.i + n,f.j + n,f.k + n⟩
def shD (n : Nat) : D -> D
  | .tup [.int a,.int b,.int c] => .tup [.int (a + n),.int (b + n),.int (c + n)]
  | d => d
theorem shD_map (n : Nat)(fs : List F3i) : (fs.map F3i.d).map (shD n) = (fs.map (F3i.sh n)).map F3i.d := by
  rw [List.map_map,List.map_map]
  exact List.map_congr_left fun f _ => rfl
abbrev bdD (cs : List R3)(fs : List F3i) : D := .tup [.lst (cs.map R3.d),.lst (fs.map F3i.d)]
structure TwoB (cs1 cs2 : List R3)(fs1 fs2 : List F3i) : Prop where
  c1 : cs1.length <= 24
  c2 : cs2.length <= 24
  f1 : fs1.length <= 24
  f2 : fs2.length <= 24
def big (cs1 cs2 : List R3)(fs1 fs2 : List F3i) : Prop := 24 < cs1.length + cs2.length \/ 24 < fs1.length + fs2.length
abbrev s_together : Stmt := top 22
theorem sc_together : FnScope ["one","other","corners","ahead","faces"] ["one","other"] (defScope s_together) := ⟨rfl,rfl,rfl,by decide +kernel,rfl,by decide +kernel,by decide +kernel⟩
def S_tog (c : Cs)(K : PySem.W.Frag) : DSPX := fun ds P Ed => ∃ (cs1 cs2 : List R3) (fs1 fs2 : List F3i),ds = [bdD cs1 fs1,bdD cs2 fs2] /\ TwoB cs1 cs2 fs1 fs2 /\ (big cs1 cs2 fs1 fs2 -> Ed c.TooMany) /\ (¬ big cs1 cs2 fs1 fs2 -> ∀ p rs,P (tpF K p rs [(cs1 ++ cs2).map R3.d,(fs1 ++ fs2.map (F3i.sh cs1.length)).map F3i.d]) (.tup ([(cs1 ++ cs2).map R3.d,(fs1 ++ fs2.map (F3i.sh cs1.length)).map F3i.d].map D.lst)))
theorem ok_together {P : Program}{w : World}{K : PySem.W.Frag}{mg : Str -> Option Value}{base : Heap}{f : Addr}{fd : FuncData}(F : Fun K "together" "together" s_together f fd) (Z : Bi mg) {c : Cs} (Y : Ex K mg base c) : FnOk P w K mg base (CX1 P w base) 1 f fd ["one","other"] (liftSpPX K BT (S_tog c K)) := by
  refine F.okDXP sc_together (fun ds PP Ed h => ?_) (fun cdv A outer s H E M bg ds PP Ed hr hE hS_ => ?_)
  · obtain ⟨cs1,cs2,fs1,fs2,rfl,hB,hE1,hP⟩ := h
    rfl
  · obtain ⟨cs1,cs2,fs1,fs2,rfl,hB,hE1,hP⟩ := hS_
    refine ⟨_,(jpx_cons (jds_ownCat (i := 2) sc_together.nd rfl (by walk_at "o") (jde_ix (ix_any K (by rfl)) od_ix (jdv 0) jde_int (fun _ _ => rfl)) (jde_ix (ix_any K (by rfl)) od_ix (jdv 1) jde_int (fun _ _ => rfl)) (pe_op op_cat (JE.h (jde_ix (ix_any K (by rfl)) od_ix (jdv 0) jde_int (fun _ _ => rfl))) (JE.h (jde_ix (ix_any K (by rfl)) od_ix (jdv 1) jde_int (fun _ _ => rfl)))))
      (jpx_cons (jds_set (i := 3) sc_together.nd rfl (by walk_at "o") (jde_callB (call_len_seqK K (by rfl)) cd_len rfl Z.len_ bt_len (jda_cons (jde_ix (ix_any K (by rfl)) od_ix (jdv 0) jde_int (fun _ _ => rfl)) jda_nil)))
      (jpx_cons (jds_ownCat (i := 4) sc_together.nd rfl (by walk_at "o") (jde_ix (ix_any K (by rfl)) od_ix (jdv 0) jde_int (fun _ _ => rfl)) (jde_comp (X := (cxOf (CX1 P w base) P w K mg base ["one","other","corners","ahead","faces"] "together" (defScope s_together) f cdv A outer s H E)) (gd_seq [0,1,2]) (blkJ (X := (cxOf (CX1 P w base) P w K mg base ["one","other","corners","ahead","faces"] "together" (defScope s_together) f cdv A outer s H E)) (N' := ["i","j","k","ahead"]) (map := [none,none,none,some 3]) (by rfl) (by rfl) (by decide +kernel) (by rfl) ⟨⟨rfl,rfl,rfl,by walk_at "o"⟩,True.intro⟩ (gkeep_seq (js := [0,1,2]) (by decide)) fun cl0 C0 fp0 s0 H0 => ⟨(PG.or (pg_tupK (n := 3) K (by rfl) (by rfl) (pgs_cons (pg_name (i := 0) (nodupS ["i","j","k","ahead"] (by decide +kernel)) rfl (by walk_at "o")) (pgs_cons (pg_name (i := 1) (nodupS ["i","j","k","ahead"] (by decide +kernel)) rfl (by walk_at "o")) (pgs_cons (pg_name (i := 2) (nodupS ["i","j","k","ahead"] (by decide +kernel)) rfl (by walk_at "o")) pgs_nil)))) (pg_lstK (n := 3) K (by rfl) (by rfl) (pgs_cons (pg_name (i := 0) (nodupS ["i","j","k","ahead"] (by decide +kernel)) rfl (by walk_at "o")) (pgs_cons (pg_name (i := 1) (nodupS ["i","j","k","ahead"] (by decide +kernel)) rfl (by walk_at "o")) (pgs_cons (pg_name (i := 2) (nodupS ["i","j","k","ahead"] (by decide +kernel)) rfl (by walk_at "o")) pgs_nil))))),jdif_nil,(jde_tup (X := (cxComp (cxOf (CX1 P w base) P w K mg base ["one","other","corners","ahead","faces"] "together" (defScope s_together) f cdv A outer s H E) ["i","j","k","ahead"] _ cl0 C0 fp0 s0 H0)) (jda_cons (jde_op op_add od_I0 (jdv 0) (jdv 3)) (jda_cons (jde_op op_add od_I0 (jdv 1) (jdv 3)) (jda_cons (jde_op op_add od_I0 (jdv 2) (jdv 3)) jda_nil))))⟩) (jdi_seq (by rfl) (jde_ix (ix_any K (by rfl)) od_ix (jdv 1) jde_int (fun _ _ => rfl)))) (pe_op op_cat (JE.h (jde_ix (ix_any K (by rfl)) od_ix (jdv 0) jde_int (fun _ _ => rfl))) (JE.h (jde_comp (X := (cxOf (CX1 P w base) P w K mg base ["one","other","corners","ahead","faces"] "together" (defScope s_together) f cdv A outer s H E)) (gd_seq [0,1,2]) (blkJ (X := (cxOf (CX1 P w base) P w K mg base ["one","other","corners","ahead","faces"] "together" (defScope s_together) f cdv A outer s H E)) (N' := ["i","j","k","ahead"]) (map := [none,none,none,some 3]) (by rfl) (by rfl) (by decide +kernel) (by rfl) ⟨⟨rfl,rfl,rfl,by walk_at "o"⟩,True.intro⟩ (gkeep_seq (js := [0,1,2]) (by decide)) fun cl0 C0 fp0 s0 H0 => ⟨(PG.or (pg_tupK (n := 3) K (by rfl) (by rfl) (pgs_cons (pg_name (i := 0) (nodupS ["i","j","k","ahead"] (by decide +kernel)) rfl (by walk_at "o")) (pgs_cons (pg_name (i := 1) (nodupS ["i","j","k","ahead"] (by decide +kernel)) rfl (by walk_at "o")) (pgs_cons (pg_name (i := 2) (nodupS ["i","j","k","ahead"] (by decide +kernel)) rfl (by walk_at "o")) pgs_nil)))) (pg_lstK (n := 3) K (by rfl) (by rfl) (pgs_cons (pg_name (i := 0) (nodupS ["i","j","k","ahead"] (by decide +kernel)) rfl (by walk_at "o")) (pgs_cons (pg_name (i := 1) (nodupS ["i","j","k","ahead"] (by decide +kernel)) rfl (by walk_at "o")) (pgs_cons (pg_name (i := 2) (nodupS ["i","j","k","ahead"] (by decide +kernel)) rfl (by walk_at "o")) pgs_nil))))),jdif_nil,(jde_tup (X := (cxComp (cxOf (CX1 P w base) P w K mg base ["one","other","corners","ahead","faces"] "together" (defScope s_together) f cdv A outer s H E) ["i","j","k","ahead"] _ cl0 C0 fp0 s0 H0)) (jda_cons (jde_op op_add od_I0 (jdv 0) (jdv 3)) (jda_cons (jde_op op_add od_I0 (jdv 1) (jdv 3)) (jda_cons (jde_op op_add od_I0 (jdv 2) (jdv 3)) jda_nil))))⟩) (jdi_seq (by rfl) (jde_ix (ix_any K (by rfl)) od_ix (jdv 1) jde_int (fun _ _ => rfl)))))))
      (jpx_cons (jds_if (jdt_or (jdt_cmp op_gt od_B0 (jde_callB (call_len_seqK K (by rfl)) cd_len rfl Z.len_ bt_len (jda_cons (jdv 2) jda_nil)) (jde_globI rfl Z.MOST_) (nomark _)) (jdw_or1 (jdt_cmp op_gt od_B0 (jde_callB (call_len_seqK K (by rfl)) cd_len rfl Z.len_ bt_len (jda_cons (jdv 4) jda_nil)) (jde_globI rfl Z.MOST_) (nomark _)))) (jdss_one (jds_raise hE (ps_raise1 Y.o_TooMany rfl))) jdss_nil)
      (jpx_retTn (i := 2) (j := 4) (pa_cons (pv 2) (pa_cons (pv 4) pa_nil))))))),?_⟩
    have hc1 := hB.c1
    have hc2 := hB.c2
    have hf1 := hB.f1
    have hf2 := hB.f2
    walk_at "go"
    refine And.intro (by rw [List.length_map,List.length_map]; omega) ?_
    rw [<- List.map_append]
    walk_at "go"
    rw [show (cs1.map R3.d).length = cs1.length from List.length_map ..]
    refine And.intro (by rw [List.length_map]; omega) ?_
    refine comp_map (shD cs1.length) (fun x Q hx hQ => ?_) (fun x hx => ?_) ?_
    · obtain ⟨f,_,rfl⟩ := List.mem_map.mp hx
      walk_at "go"
      exact hQ
    · obtain ⟨f,_,rfl⟩ := List.mem_map.mp hx
      rfl
    rw [shD_map]
    walk_at "go"
    refine And.intro (by simp only [List.length_map]; omega) ?_
    rw [<- List.map_append]
    walk_at "go"
    by_cases q1 : 24 < cs1.length + cs2.length
    · refine IfP.t (by simp only [List.length_map,List.length_append]; simp; omega) ?_
      walk_at "go"
      exact hE1 (.inl q1)
    refine IfP.f (by simp only [List.length_map,List.length_append]; simp; omega) ?_
    walk_at "go"
    by_cases q2 : 24 < fs1.length + fs2.length
    · refine IfP.t (by simp only [List.length_map,List.length_append]; simp; omega) ?_
      walk_at "go"
      exact hE1 (.inr q2)
    refine IfP.f (by simp only [List.length_map,List.length_append]; simp; omega) ?_
    walk_at "go"
    exact ⟨_,_,by decide,rfl,rfl,hP fun z => z.elim q1 q2⟩
theorem eqvAll_ints : ∀ s r : List Int,PyData.eqvAll (s.map PyData.int) (r.map PyData.int) = decide (s = r)
  | [],[] => by simp [PyData.eqvAll]
  | [],_ :: _ => by simp [PyData.eqvAll]
  | _ :: _,[] => by simp [PyData.eqvAll]
  | a :: s,b :: r => by
    simp only [List.map_cons]
    unfold PyData.eqvAll
    rw [eqvAll_ints s r]
    have : PyData.eqv (.int a) (.int b) = decide (a = b) := by simp only [PyData.eqv]; rfl
    rw [this]
    by_cases h1 : a = b <;> by_cases h2 : s = r <;> simp [h1,h2]
theorem any_rows (L : List (List Int))(r : List Int) : ((L.map fun s => PyData.tuple (s.map PyData.int)).any fun y => PyData.eqv y (.tuple (r.map PyData.int))) = decide (r ∈ L) := by
  induction L with
  | nil => rfl
  | cons s L ih =>
    rw [List.map_cons,List.any_cons,ih]
    have : PyData.eqv (.tuple (s.map PyData.int)) (.tuple (r.map PyData.int)) = decide (s = r) := by rw [<- eqvAll_ints]; unfold PyData.eqv; rfl
    rw [this]
    by_cases z : r = s
    · simp [z]
    · have : ¬ s = r := fun y => z y.symm
      simp [z,this]
theorem pys_rows : ∀ L : List (List Int),pysOf (L.map rowD) = some (L.map fun s => PyData.tuple (s.map PyData.int))
  | [] => rfl
  | r :: L => by
    rw [List.map_cons]
    unfold pysOf
    rw [pys_rows L]
    have : pyOf (rowD r) = some (.tuple (r.map PyData.int)) := by unfold rowD pyOf; rw [pys_ints]; rfl
    rw [this]
    rfl
theorem inG_rows {neg : Bool}{r : List Int}{L : List (List Int)}{P : D -> Prop}(h : P (.bl (decide (r ∈ L) != neg))) : InG neg (rowD r) (.lst (L.map rowD)) P := by
  have e : pyOf (rowD r) = some (.tuple (r.map PyData.int)) := by unfold rowD pyOf; rw [pys_ints]; rfl
  have f : fineD 2 (rowD r) = true := by
    have := fine_rows [r]
    rw [List.map_cons] at this
    unfold finesD at this
    exact ((Bool.and_eq_true _ _).mp this).1
  obtain ⟨p,e1,d1,_⟩ := fine_py 2 (rowD r) f
  rw [e] at e1
  cases e1
  exact ⟨_,_,_,e,by unfold pyOf; rw [pys_rows]; rfl,rfl,Nat.le_trans (Nat.min_le_right _ _) (Nat.le_trans d1 (by decide)),by rw [any_rows]; exact h⟩
def joinB (f h : F3i) : Bool := (sdR f).any fun r => decide (r ∈ sdR h) || decide (felR r ∈ sdR h)
def jnV (h : F3i) : D -> D
  | .tup [.int a,.int b] => .bl (decide ([a,b] ∈ sdR h) || decide ([b,a] ∈ sdR h))
  | d => d
abbrev s_are_joined : Stmt := top 19
theorem sc_are_joined : FnScope ["one","other","sides"] ["one","other"] (defScope s_are_joined) := ⟨rfl,rfl,rfl,by decide +kernel,rfl,by decide +kernel,by decide +kernel⟩
def S_join : DSp := fun ds P _ => ∃ f h : F3i,ds = [f.d,h.d] /\ P (.bl (joinB f h))
structure C_are_joined (P : Program)(w : World)(K : PySem.W.Frag)(mg : Str -> Option Value)(base : Heap)(c : Cs) : Prop where
  sides_of_ : Callee P w K mg base CX0 "sides_of" 1 ["face"] (liftSp K BT S_sd)
  fellow_ : Callee P w K mg base CX0 "fellow" 1 ["pair"] (liftSp K BT S_fel)
theorem ok_are_joined {P : Program}{w : World}{K : PySem.W.Frag}{mg : Str -> Option Value}{base : Heap}{f : Addr}{fd : FuncData}(F : Fun K "are_joined" "are_joined" s_are_joined f fd) (Z : Bi mg) {c : Cs} (Y : Ex K mg base c) (G : C_are_joined P w K mg base c) : FnOk P w K mg base CX0 2 f fd ["one","other"] (liftSp K BT S_join) := by
  refine F.okD sc_are_joined (fun ds PP Ed h => ?_) (fun cdv A outer s H E M bg ds PP Ed hr hS_ => ?_)
  · obtain ⟨fa,fb,rfl,hP⟩ := h
    rfl
  · obtain ⟨fa,fb,rfl,hP⟩ := hS_
    refine ⟨_,(jdss_cons (jds_set (i := 2) sc_are_joined.nd rfl (by walk_at "o") (jde_own G.sides_of_ (hr.mono (by decide)) rfl (jda_cons (jdv 1) jda_nil)))
      (jdss_one (jds_ret (jde_callB (call_anyL K (by rfl) (by rfl)) cd_bls rfl Z.any_ bt_any (jda_cons (jde_comp (X := (cxOf CX0 P w K mg base ["one","other","sides"] "are_joined" (defScope s_are_joined) f cdv A outer s H E).nox) (gd_name 0) (blkJ (X := (cxOf CX0 P w K mg base ["one","other","sides"] "are_joined" (defScope s_are_joined) f cdv A outer s H E).nox) (N' := ["pair","sides"]) (map := [none,some 2]) (by rfl) (by rfl) (by decide +kernel) (by rfl) ⟨⟨rfl,rfl,rfl,by walk_at "o"⟩,True.intro⟩ (gkeep_name rfl) fun cl0 C0 fp0 s0 H0 => ⟨(pg_name (X := (cxComp (cxOf CX0 P w K mg base ["one","other","sides"] "are_joined" (defScope s_are_joined) f cdv A outer s H E).nox ["pair","sides"] _ cl0 C0 fp0 s0 H0)) (i := 0) (nodupS ["pair","sides"] (by decide +kernel)) rfl (by walk_at "o")),jdif_nil,(jde_or (X := (cxComp (cxOf CX0 P w K mg base ["one","other","sides"] "are_joined" (defScope s_are_joined) f cdv A outer s H E).nox ["pair","sides"] _ cl0 C0 fp0 s0 H0)) (jde_cmp (op_inG K (by rfl) hr.units) od_inG (jdv 0) (jdv 1) (by with_unfolding_all rfl)) (jde_one (jde_cmp (op_inG K (by rfl) hr.units) od_inG (jde_own G.fellow_ (hr.mono (by decide)) rfl (jda_cons (jdv 0) jda_nil)) (jdv 1) (by with_unfolding_all rfl))))⟩) (jdi_seq (by rfl) (jde_own G.sides_of_ (hr.mono (by decide)) rfl (jda_cons (jdv 0) jda_nil)))) jda_nil))))),?_⟩
    walk_at "go"
    refine ⟨fb,rfl,?_⟩
    walk_at "go"
    refine ⟨fa,rfl,?_⟩
    walk_at "go"
    refine comp_map (jnV fb) (fun x Q hx hQ => ?_) (fun x hx => ?_) ?_
    · obtain ⟨p,q,rfl⟩ : ∃ p q : Int,x = rowD [p,q] := by
        simp only [List.map_cons,List.map_nil,List.mem_cons,List.not_mem_nil,or_false,sdR] at hx
        rcases hx with rfl | rfl | rfl <;> exact ⟨_,_,rfl⟩
      walk_at "go"
      refine inG_rows (r := [p,q]) (L := sdR fb) ?_
      by_cases z : [p,q] ∈ sdR fb
      · refine IfP.t (by simp [z]) ?_
        have hQ : Q (.bl (decide ([p,q] ∈ sdR fb) || decide ([q,p] ∈ sdR fb))) := hQ
        simpa [z] using hQ
      · refine IfP.f (by simp [z]) ?_
        walk_at "go"
        refine ⟨p,q,rfl,?_⟩
        walk_at "go"
        refine inG_rows (r := [q,p]) (L := sdR fb) ?_
        have hQ : Q (.bl (decide ([p,q] ∈ sdR fb) || decide ([q,p] ∈ sdR fb))) := hQ
        simpa [z] using hQ
    · simp only [List.map_cons,List.map_nil,List.mem_cons,List.not_mem_nil,or_false,sdR] at hx
      rcases hx with rfl | rfl | rfl <;> rfl
    walk_at "go"
    exact hP
def joinN (fs : List F3i)(m n : Nat) : Prop := ∃ f h,fs[m]? = some f /\ fs[n]? = some h /\ joinB f h = true
structure Comp (fs : List F3i)(a : Nat)(C : Nat -> Prop) : Prop where
  st : C a
  lt : ∀ n,C n -> n < fs.length
  cl : ∀ m n,C m -> joinN fs m n -> C n
  re : ∀ S : Nat -> Prop,S a -> (∀ m n,S m -> joinN fs m n -> S n) -> ∀ n,C n -> S n
def nD (ns : List Nat) : List Int := ns.map fun n : Nat => (n : Int)
theorem nD_mem {ns : List Nat}{n : Nat} : (n : Int) ∈ nD ns ↔ n ∈ ns := ⟨fun h => by
  obtain ⟨m,hm,e⟩ := List.mem_map.mp h
  have e : m = n := by omega
  rw [<- e]; exact hm,fun h => List.mem_map.mpr ⟨n,h,rfl⟩⟩
theorem nD_nodup {ns : List Nat}(h : ns.Nodup) : (nD ns).Nodup := by
  unfold nD
  exact List.Pairwise.map _ (fun a b q e => q (by omega)) h
theorem nD_len (ns : List Nat) : (nD ns).length = ns.length := List.length_map ..
theorem nD_app (ns ms : List Nat) : nD (ns ++ ms) = nD ns ++ nD ms := List.map_append
theorem nat_bound {N : Nat}{ns : List Nat}(h : ns.Nodup)(k : ∀ n ∈ ns,n < N) : ns.length <= N := by
  have := nodup_bound N (nD ns) (nD_nodup h) fun z hz => by
    obtain ⟨m,hm,rfl⟩ := List.mem_map.mp hz
    have := k m hm
    omega
  rwa [nD_len] at this
theorem nD_at {ns : List Nat}{d : Nat}(h : d < ns.length) : atI ((nD ns).map D.int) (d : Int) = some (.int (ns[d]'h : Nat)) := atI_nat (j := d) (by
  unfold nD
  rw [List.map_map,List.getElem?_map,List.getElem?_eq_getElem h]
  rfl)
theorem enumF {fs : List F3i}{i : Nat}{x : D}(e : (enumD (fs.map F3i.d))[i]? = some x) : ∃ h,fs[i]? = some h /\ x = .tup [.int i,h.d] := by
  unfold enumD at e
  rw [List.getElem?_mapIdx] at e
  obtain ⟨y,e1,rfl⟩ := Option.map_eq_some_iff.mp e
  obtain ⟨h,e2,rfl⟩ := get_of e1
  exact ⟨h,e2,rfl⟩
abbrev s_part_from : Stmt := top 20
theorem sc_part_from : FnScope ["faces","first","part","done","face"] ["faces","first"] (defScope s_part_from) := ⟨rfl,rfl,rfl,by decide +kernel,rfl,by decide +kernel,by decide +kernel⟩
def S_pfrom : DSO := fun ds P _ => ∃ (fs : List F3i) (a : Nat) (C : Nat -> Prop),ds = [.lst (fs.map F3i.d),.int a] /\ fs.length <= 24 /\ Comp fs a C /\ ∀ ks : List Int,ks.Pairwise (· < ·) -> (∀ z,z ∈ ks ↔ ∃ n : Nat,C n /\ z = n) -> P (ks.map D.int)
structure C_part_from (P : Program)(w : World)(K : PySem.W.Frag)(mg : Str -> Option Value)(base : Heap)(c : Cs) : Prop where
  are_joined_ : Callee P w K mg base CX0 "are_joined" 2 ["one","other"] (liftSp K BT S_join)
theorem ok_part_from {P : Program}{w : World}{K : PySem.W.Frag}{mg : Str -> Option Value}{base : Heap}{f : Addr}{fd : FuncData}(F : Fun K "part_from" "part_from" s_part_from f fd) (Z : Bi mg) {c : Cs} (Y : Ex K mg base c) (G : C_part_from P w K mg base c) : FnOk P w K mg base CX0 3 f fd ["faces","first"] (liftSpO K BT S_pfrom) := by
  refine F.okDO sc_part_from (fun ds PP Ed h => ?_) (fun cdv A outer s H E M bg ds PP Ed hr hS_ => ?_)
  · obtain ⟨fs,a,C,rfl,hl,hC,hP⟩ := h
    rfl
  · obtain ⟨fs,a,C,rfl,hl,hC,hP⟩ := hS_
    refine ⟨_,(jdss_cons (jds_ownL (i := 2) sc_part_from.nd rfl (by walk_at "o") (jda_cons (jdv 1) jda_nil))
      (jdss_cons (jds_set (i := 3) sc_part_from.nd rfl (by walk_at "o") jde_int)
      (jdss_cons (jds_while PassesOwn.never (jdt_cmp op_lt od_B0 (jdv 3) (jde_callB (call_len_seqK K (by rfl)) cd_len rfl Z.len_ bt_len (jda_cons (jdv 2) jda_nil)) (nomark _)) (jdss_cons (jds_set (i := 4) sc_part_from.nd rfl (by walk_at "o") (jde_ix (ix_any K (by rfl)) od_ix (jdv 0) (jde_ix (ix_any K (by rfl)) od_ix (jdv 2) (jdv 3) (fun _ _ => rfl)) (fun _ _ => rfl)))
      (jdss_cons (jds_aug (i := 3) sc_part_from.nd rfl (by walk_at "o") jde_int ip_add)
      (jdss_one (jds_extend (i := 2) (by rfl) (jda_cons (jde_comp (X := (cxOf CX0 P w K mg base ["faces","first","part","done","face"] "part_from" (defScope s_part_from) f cdv A outer s H E).nox) (gd_seq [0,1]) (blkJ (X := (cxOf CX0 P w K mg base ["faces","first","part","done","face"] "part_from" (defScope s_part_from) f cdv A outer s H E).nox) (N' := ["at","other","part","face"]) (map := [none,none,some 2,some 4]) (by rfl) (by rfl) (by decide +kernel) (by rfl) ⟨⟨rfl,rfl,rfl,by walk_at "o"⟩,⟨⟨rfl,rfl,rfl,by walk_at "o"⟩,True.intro⟩⟩ (gkeep_seq (js := [0,1]) (by decide)) fun cl0 C0 fp0 s0 H0 => ⟨(PG.or (pg_tupK (n := 2) K (by rfl) (by rfl) (pgs_cons (pg_name (i := 0) (nodupS ["at","other","part","face"] (by decide +kernel)) rfl (by walk_at "o")) (pgs_cons (pg_name (i := 1) (nodupS ["at","other","part","face"] (by decide +kernel)) rfl (by walk_at "o")) pgs_nil))) (pg_lstK (n := 2) K (by rfl) (by rfl) (pgs_cons (pg_name (i := 0) (nodupS ["at","other","part","face"] (by decide +kernel)) rfl (by walk_at "o")) (pgs_cons (pg_name (i := 1) (nodupS ["at","other","part","face"] (by decide +kernel)) rfl (by walk_at "o")) pgs_nil)))),(jdif_one (jdt_and (jdt_cmp (op_notinG K (by rfl) hr.units) od_inG (jdv 0) (jdv 2) (by with_unfolding_all rfl)) (jdw_and1 (jdt_truth (by rfl) (jde_own G.are_joined_ (hr.mono (by decide)) rfl (jda_cons (jdv 3) (jda_cons (jdv 1) jda_nil))) (fun _ => rfl))))),(jdv (X := (cxComp (cxOf CX0 P w K mg base ["faces","first","part","done","face"] "part_from" (defScope s_part_from) f cdv A outer s H E).nox ["at","other","part","face"] _ cl0 C0 fp0 s0 H0)) 0)⟩) (jdi_enum (by rfl) (jda_cons (jdv 0) jda_nil) (pi_enum K (by rfl) rfl Z.enumerate_ (JA.h (jda_cons (jdv 0) jda_nil))))) jda_nil) (pe_bm PySem.F.plainAttrs_list PySem.F.slot_list_extend PySem.F.type_list_extend mt_extend (pv 2) (JA.h (jda_cons (jde_comp (X := (cxOf CX0 P w K mg base ["faces","first","part","done","face"] "part_from" (defScope s_part_from) f cdv A outer s H E).nox) (gd_seq [0,1]) (blkJ (X := (cxOf CX0 P w K mg base ["faces","first","part","done","face"] "part_from" (defScope s_part_from) f cdv A outer s H E).nox) (N' := ["at","other","part","face"]) (map := [none,none,some 2,some 4]) (by rfl) (by rfl) (by decide +kernel) (by rfl) ⟨⟨rfl,rfl,rfl,by walk_at "o"⟩,⟨⟨rfl,rfl,rfl,by walk_at "o"⟩,True.intro⟩⟩ (gkeep_seq (js := [0,1]) (by decide)) fun cl0 C0 fp0 s0 H0 => ⟨(PG.or (pg_tupK (n := 2) K (by rfl) (by rfl) (pgs_cons (pg_name (i := 0) (nodupS ["at","other","part","face"] (by decide +kernel)) rfl (by walk_at "o")) (pgs_cons (pg_name (i := 1) (nodupS ["at","other","part","face"] (by decide +kernel)) rfl (by walk_at "o")) pgs_nil))) (pg_lstK (n := 2) K (by rfl) (by rfl) (pgs_cons (pg_name (i := 0) (nodupS ["at","other","part","face"] (by decide +kernel)) rfl (by walk_at "o")) (pgs_cons (pg_name (i := 1) (nodupS ["at","other","part","face"] (by decide +kernel)) rfl (by walk_at "o")) pgs_nil)))),(jdif_one (jdt_and (jdt_cmp (op_notinG K (by rfl) hr.units) od_inG (jdv 0) (jdv 2) (by with_unfolding_all rfl)) (jdw_and1 (jdt_truth (by rfl) (jde_own G.are_joined_ (hr.mono (by decide)) rfl (jda_cons (jdv 3) (jda_cons (jdv 1) jda_nil))) (fun _ => rfl))))),(jdv (X := (cxComp (cxOf CX0 P w K mg base ["faces","first","part","done","face"] "part_from" (defScope s_part_from) f cdv A outer s H E).nox ["at","other","part","face"] _ cl0 C0 fp0 s0 H0)) 0)⟩) (jdi_enum (by rfl) (jda_cons (jdv 0) jda_nil) (pi_enum K (by rfl) rfl Z.enumerate_ (JA.h (jda_cons (jdv 0) jda_nil))))) jda_nil))))))))
      (jdss_one (jds_retF (jdf_sortN (X := (cxOf CX0 P w K mg base ["faces","first","part","done","face"] "part_from" (defScope s_part_from) f cdv A outer s H E).nox) (jda_cons (jdv 2) jda_nil) (pe_callB (call_sortN K (by rfl)) rfl Z.sorted_ bt_sorted (JA.h (jda_cons (jdv 2) jda_nil))))))))),?_⟩
    walk_at "go"
    refine ⟨fun m ρ => ∃ (ns : List Nat) (d : Nat) (v4 : Option D),ρ = [some (.lst (fs.map F3i.d)),some (.int a),some (.own ((nD ns).map D.int)),some (.int d),v4] /\ m = fs.length - d /\ d <= ns.length /\ ns.Nodup /\ a ∈ ns /\ (∀ n ∈ ns,C n) /\ ∀ i (hi : i < ns.length),i < d -> ∀ n,joinN fs ns[i] n -> n ∈ ns,fs.length,⟨[a],0,_,rfl,rfl,Nat.zero_le _,by simp,by simp,fun n hn => by rw [List.mem_singleton.mp hn]; exact hC.st,fun i _ z => absurd z (Nat.not_lt_zero i)⟩,?_⟩
    rintro m ρ ⟨ns,d,v4,rfl,rfl,hd,nd,ha,hc,hj⟩
    have nb : ns.length <= fs.length := nat_bound nd fun n hn => hC.lt n (hc n hn)
    walk_at "go"
    by_cases q : d < ns.length
    · refine IfP.t (by rw [List.length_map,nD_len]; simp; omega) ?_
      walk_at "go"
      rw [nD_at q]
      walk_at "go"
      have hm := hc _ (List.getElem_mem q)
      have hlt := hC.lt _ hm
      have hx : atI (fs.map F3i.d) ((ns[d] : Nat) : Int) = some (fs[ns[d]]'hlt).d := atI_nat (j := ns[d]) (by rw [List.getElem?_map,List.getElem?_eq_getElem hlt]; rfl)
      rw [hx]
      have hjn : ∀ n h,fs[n]? = some h -> (joinN fs ns[d] n ↔ joinB (fs[ns[d]]'hlt) h = true) := fun n h e => ⟨fun ⟨f',h',e1,e2,j⟩ => by
        rw [List.getElem?_eq_getElem hlt] at e1
        rw [e] at e2
        cases e1; cases e2
        exact j,fun j => ⟨_,h,List.getElem?_eq_getElem hlt,e,j⟩⟩
      have hm0 : ns[d] ∈ ns := List.getElem_mem q
      generalize hmm : ns[d] = m0 at *
      generalize hff : fs[m0]'hlt = f0 at *
      walk_at "go"
      refine And.intro (by unfold enumD; rw [List.length_mapIdx,List.length_map]; omega) ?_
      refine ⟨fun i acc => ∃ ms : List Nat,acc = (nD ms).map D.int /\ ms.Nodup /\ ∀ n,n ∈ ms ↔ n < i /\ n ∉ ns /\ joinN fs m0 n,⟨[],rfl,List.nodup_nil,by simp⟩,?_,?_⟩
      · rintro i x acc e ⟨ms,rfl,nm,hms⟩
        obtain ⟨h,eh,rfl⟩ := enumF e
        clear e
        have hb : ms.length <= fs.length := nat_bound nm fun n hn => by
          have := (List.getElem?_eq_some_iff.mp eh).1
          have := ((hms n).mp hn).1
          omega
        have skip : ¬ (i ∉ ns /\ joinN fs m0 i) -> ∀ n,n ∈ ms ↔ n < i + 1 /\ n ∉ ns /\ joinN fs m0 n := fun z n => by
          rw [hms n]
          constructor
          · rintro ⟨h1,h2⟩
            exact ⟨by omega,h2⟩
          · rintro ⟨h1,h2⟩
            refine ⟨?_,h2⟩
            by_cases e : n = i
            · rw [e] at h2; exact absurd h2 z
            · omega
        walk_at "go"
        refine inG_ints (ns := nD ns) (.inr (.inr rfl)) ?_
        by_cases z : i ∈ ns
        · refine IfP.f (by simp [nD_mem.mpr z]) ?_
          walk_at "go"
          exact ⟨ms,rfl,nm,skip fun y => y.1 z⟩
        · refine IfP.t (by have : ¬ (i : Int) ∈ nD ns := fun y => z (nD_mem.mp y); simp [this]) ?_
          walk_at "go"
          refine ⟨f0,h,rfl,?_⟩
          walk_at "go"
          by_cases j : joinB f0 h = true
          · refine IfP.t j ?_
            have mi : i ∉ ms := fun y => by
              have := ((hms i).mp y).1
              omega
            refine ⟨rfl,ms ++ [i],by rw [nD_app,List.map_append]; rfl,by rw [List.nodup_append]; exact ⟨nm,by simp,fun u hu v hv e => by rw [List.mem_singleton.mp hv] at e; rw [e] at hu; exact mi hu⟩,fun n => ?_⟩
            rw [List.mem_append,List.mem_singleton,hms n]
            constructor
            · rintro (⟨h1,h2⟩ | rfl)
              · exact ⟨by omega,h2⟩
              · exact ⟨by omega,z,(hjn _ h eh).mpr j⟩
            · rintro ⟨h1,h2⟩
              by_cases e : n = i
              · exact .inr e
              · exact .inl ⟨by omega,h2⟩
          · refine IfP.f (by simpa using j) ?_
            exact ⟨ms,rfl,nm,skip fun y => j ((hjn _ h eh).mp y.2)⟩
      · rintro acc ⟨ms,rfl,nm,hms⟩
        have hel : (enumD (fs.map F3i.d)).length = fs.length := by unfold enumD; rw [List.length_mapIdx,List.length_map]
        rw [hel] at hms
        have hb : ms.length <= fs.length := nat_bound nm fun n hn => ((hms n).mp hn).1
        walk_at "go"
        refine And.intro (by rw [List.length_map,List.length_map,nD_len,nD_len]; omega) ?_
        refine ⟨fs.length - (d + 1),by omega,ns ++ ms,d + 1,_,by rw [nD_app,List.map_append]; rfl,rfl,by rw [List.length_append]; omega,?_,List.mem_append_left _ ha,fun n hn => ?_,fun i hi hid n hjo => ?_⟩
        · rw [List.nodup_append]
          exact ⟨nd,nm,fun u hu v hv e => ((hms v).mp hv).2.1 (by rw [<- e]; exact hu)⟩
        · rcases List.mem_append.mp hn with hn | hn
          · exact hc n hn
          · exact hC.cl m0 n hm ((hms n).mp hn).2.2
        · have hin : i < ns.length := by omega
          rw [List.getElem_append_left hin] at hjo
          by_cases e : i = d
          · subst e
            rw [hmm] at hjo
            by_cases z : n ∈ ns
            · exact List.mem_append_left _ z
            · obtain ⟨f',h',e1,e2,_⟩ := id hjo
              exact List.mem_append_right _ ((hms n).mpr ⟨(List.getElem?_eq_some_iff.mp e2).1,z,hjo⟩)
          · exact List.mem_append_left _ (hj i hin (by omega) n hjo)
    · refine IfP.f (by rw [List.length_map,nD_len]; simp; omega) ?_
      walk_at "go"
      refine ⟨nD ns,rfl,by rw [nD_len]; omega,fun ks pm so => hP ks ?_ fun z => ?_⟩
      · have kn : ks.Nodup := pm.nodup_iff.mpr (nD_nodup nd)
        exact (List.pairwise_and_iff.mpr ⟨so,kn⟩).imp fun {a b} q => by obtain ⟨q1,q2⟩ := q; omega
      · rw [pm.mem_iff]
        constructor
        · intro hz
          obtain ⟨n,hn,rfl⟩ := List.mem_map.mp hz
          exact ⟨n,hc n hn,rfl⟩
        · rintro ⟨n,hn,rfl⟩
          refine nD_mem.mpr (hC.re (· ∈ ns) ha (fun m n hm hjo => ?_) n hn)
          obtain ⟨i,hi,rfl⟩ := List.mem_iff_getElem.mp hm
          exact hj i hi (by omega) n hjo
theorem rng_nD (n : Nat) : rangeD 0 n = (nD (List.range n)).map D.int := by
  unfold rangeD nD
  rw [List.map_map]
  exact List.map_congr_left fun i _ => by show D.int (0 + i) = D.int i; rw [Int.zero_add]
theorem nD_get {L : List Nat}{i : Nat}{x : D}(e : ((nD L).map D.int)[i]? = some x) : ∃ n,L[i]? = some n /\ x = .int (n : Nat) := by
  unfold nD at e
  rw [List.map_map] at e
  obtain ⟨n,e1,e2⟩ := get_of e
  exact ⟨n,e1,e2⟩
theorem noL_ints (ns : List Int) : noLs (ns.map D.int) = true := noLs_all fun d hd => by
  obtain ⟨t,_,rfl⟩ := List.mem_map.mp hd
  rfl
def pInv (n1 n2 m : Nat)(L : List Nat)(ts : List D) : Prop := (m = 2 /\ L = List.range (n1 + n2) /\ ts = []) \/ (m = 1 /\ L = (List.range n2).map (n1 + ·) /\ ∃ a,ts = [.lst a]) \/ (m = 0 /\ L = [] /\ ∃ a b,ts = [.lst a,.lst b])
abbrev s_parts : Stmt := top 21
theorem sc_parts : FnScope ["body","faces","left","told","part"] ["body"] (defScope s_parts) := ⟨rfl,rfl,rfl,by decide +kernel,rfl,by decide +kernel,by decide +kernel⟩
def S_parts : DSp := fun ds P _ => ∃ (cs : List D) (fs gs : List F3i),ds = [.tup [.lst cs,.lst ((fs ++ gs).map F3i.d)]] /\ (fs ++ gs).length <= 24 /\ fs ≠ [] /\ gs ≠ [] /\ Comp (fs ++ gs) 0 (fun n => n < fs.length) /\ Comp (fs ++ gs) fs.length (fun n => fs.length <= n /\ n < (fs ++ gs).length) /\ ∀ a b,P (.lst [.lst a,.lst b])
structure C_parts (P : Program)(w : World)(K : PySem.W.Frag)(mg : Str -> Option Value)(base : Heap)(c : Cs) : Prop where
  part_from_ : Callee P w K mg base CX0 "part_from" 3 ["faces","first"] (liftSpO K BT S_pfrom)
theorem ok_parts {P : Program}{w : World}{K : PySem.W.Frag}{mg : Str -> Option Value}{base : Heap}{f : Addr}{fd : FuncData}(F : Fun K "parts" "parts" s_parts f fd) (Z : Bi mg) {c : Cs} (Y : Ex K mg base c) (G : C_parts P w K mg base c) : FnOk P w K mg base CX0 4 f fd ["body"] (liftSp K BT S_parts) := by
  refine F.okD sc_parts (fun ds PP Ed h => ?_) (fun cdv A outer s H E M bg ds PP Ed hr hS_ => ?_)
  · obtain ⟨cs,fs,gs,rfl,hl,hf,hg,h1,h2,hP⟩ := h
    rfl
  · obtain ⟨cs,fs,gs,rfl,hl,hf,hg,h1,h2,hP⟩ := hS_
    refine ⟨_,(jdss_cons (jds_set (i := 1) sc_parts.nd rfl (by walk_at "o") (jde_ix (ix_any K (by rfl)) od_ix (jdv 0) jde_int (fun _ _ => rfl)))
      (jdss_cons (jds_set (i := 2) sc_parts.nd rfl (by walk_at "o") (jde_new (jdf_listRange1 (pe_listRange1 rfl rfl Z.list_ rfl Z.range_ (JA.h (jda_cons (jde_callB (call_len_seqK K (by rfl)) cd_len rfl Z.len_ bt_len (jda_cons (jdv 1) jda_nil)) jda_nil))))))
      (jdss_cons (jds_ownL (i := 3) sc_parts.nd rfl (by walk_at "o") jda_nil)
      (jdss_cons (jds_while PassesOwn.never (jdt_truth (by rfl) (jdv 2) (fun _ => rfl)) (jdss_cons (jds_set (i := 4) sc_parts.nd rfl (by walk_at "o") (jde_ownO G.part_from_ (hr.mono (by decide)) rfl (jda_cons (jdv 1) (jda_cons (jde_ix (ix_any K (by rfl)) od_ix (jdv 2) jde_int (fun _ _ => rfl)) jda_nil))))
      (jdss_cons (jds_append (i := 3) (by rfl) rfl (by walk_at "v") (jda_cons (jdv 4) jda_nil) (pe_bm PySem.F.plainAttrs_list PySem.F.slot_list_append PySem.F.type_list_append mt_append (pv 3) (JA.h (jda_cons (jdv 4) jda_nil))))
      (jdss_one (jds_setC (X := (cxOf CX0 P w K mg base ["body","faces","left","told","part"] "parts" (defScope s_parts) f cdv A outer s H E).nox) false (i := 2) sc_parts.nd rfl (by walk_at "o") (gd_name 0) (blkJ (X := (cxOf CX0 P w K mg base ["body","faces","left","told","part"] "parts" (defScope s_parts) f cdv A outer s H E).nox) (N' := ["at","part"]) (map := [none,some 4]) (by rfl) (by rfl) (by decide +kernel) (by rfl) ⟨⟨rfl,rfl,rfl,by walk_at "o"⟩,True.intro⟩ (gkeep_name rfl) fun cl0 C0 fp0 s0 H0 => ⟨(pg_name (X := (cxComp (cxOf CX0 P w K mg base ["body","faces","left","told","part"] "parts" (defScope s_parts) f cdv A outer s H E).nox ["at","part"] _ cl0 C0 fp0 s0 H0)) (i := 0) (nodupS ["at","part"] (by decide +kernel)) rfl (by walk_at "o")),(jdif_one (jdt_cmp (op_notinG K (by rfl) hr.units) od_inG (jdv 0) (jdv 1) (by with_unfolding_all rfl))),(jdv (X := (cxComp (cxOf CX0 P w K mg base ["body","faces","left","told","part"] "parts" (defScope s_parts) f cdv A outer s H E).nox ["at","part"] _ cl0 C0 fp0 s0 H0)) 0)⟩) (jdi_seq (by rfl) (jdv 2)))))))
      (jdss_frz 3 (jdss_one (jds_ret (jdv 3)))))))),?_⟩
    walk_at "go"
    refine And.intro ⟨by omega,by rw [List.length_map]; omega⟩ ?_
    rw [Int.toNat_natCast,List.length_map,rng_nD]
    have ln : (fs ++ gs).length = fs.length + gs.length := List.length_append
    have fp : 0 < fs.length := List.length_pos_iff.mpr hf
    have gp : 0 < gs.length := List.length_pos_iff.mpr hg
    rw [ln] at h2 hl
    rw [ln]
    generalize hF : fs ++ gs = F at *
    generalize fs.length = n1 at *
    generalize gs.length = n2 at *
    walk_at "go"
    refine ⟨fun m ρ => ∃ (L : List Nat) (ts : List D) (v4 : Option D),ρ = [some (.tup [.lst cs,.lst (F.map F3i.d)]),some (.lst (F.map F3i.d)),some (.lst ((nD L).map D.int)),some (.own ts),v4] /\ pInv n1 n2 m L ts,2,⟨_,[],_,rfl,.inl ⟨rfl,rfl,rfl⟩⟩,?_⟩
    rintro m ρ ⟨L,ts,v4,rfl,hI⟩
    by_cases hL : L = []
    · subst hL
      have ht : ∃ a b,ts = [.lst a,.lst b] := by
        rcases hI with ⟨_,e,_⟩ | ⟨_,e,_⟩ | ⟨_,_,e⟩
        · have := congrArg List.length e
          rw [List.length_range,List.length_nil] at this
          omega
        · have := congrArg List.length e
          rw [List.length_map,List.length_range,List.length_nil] at this
          omega
        · exact e
      obtain ⟨a,b,rfl⟩ := ht
      walk_at "go"
      exact hP a b
    obtain ⟨x,rest,p,C,rfl,hC,hp,tl,m',hm',nx⟩ : ∃ (x : Nat) (rest : List Nat) (p : Nat -> Bool) (C : Nat -> Prop),L = x :: rest /\ Comp F x C /\ (∀ n,p n = true ↔ C n) /\ ts.length <= 2 /\ ∃ m',m' < m /\ ∀ a,pInv n1 n2 m' (L.filter fun n => !p n) (ts ++ [.lst a]) := by
      rcases hI with ⟨rfl,rfl,rfl⟩ | ⟨rfl,rfl,a,rfl⟩ | ⟨_,e,_⟩
      · refine ⟨0,(List.range (n1 + n2)).tail,fun n => decide (n < n1),fun n => n < n1,?_,h1,fun n => by simp,by simp,1,by decide,fun a => .inr (.inl ⟨rfl,?_,a,rfl⟩)⟩
        · obtain ⟨k,ek⟩ : ∃ k,n1 + n2 = k + 1 := ⟨n1 + n2 - 1,by omega⟩
          rw [ek,List.range_succ_eq_map]
          rfl
        · rw [List.range_add,List.filter_append]
          rw [List.filter_eq_nil_iff.mpr fun n hn => by simp [List.mem_range.mp hn],List.nil_append]
          refine List.filter_eq_self.mpr fun n hn => ?_
          obtain ⟨k,_,rfl⟩ := List.mem_map.mp hn
          simp
      · refine ⟨n1,((List.range n2).map (n1 + ·)).tail,fun n => decide (n1 <= n /\ n < n1 + n2),fun n => n1 <= n /\ n < n1 + n2,?_,h2,fun n => by simp,by simp,0,by decide,fun b => .inr (.inr ⟨rfl,?_,a,b,rfl⟩)⟩
        · obtain ⟨k,ek⟩ : ∃ k,n2 = k + 1 := ⟨n2 - 1,by omega⟩
          rw [ek,List.range_succ_eq_map]
          rfl
        · refine List.filter_eq_nil_iff.mpr fun n hn => ?_
          obtain ⟨k,hk,rfl⟩ := List.mem_map.mp hn
          have := List.mem_range.mp hk
          simp
          omega
      · exact absurd e hL
    have ll : (x :: rest).length <= 1000 := by
      have : ∀ n1 n2 m L ts,pInv n1 n2 m L ts -> L.length <= n1 + n2 := fun n1 n2 m L ts h => by
        rcases h with ⟨_,e,_⟩ | ⟨_,e,_⟩ | ⟨_,e,_⟩
        · rw [e,List.length_range]; exact Nat.le_refl _
        · rw [e,List.length_map,List.length_range]; omega
        · rw [e]; exact Nat.zero_le _
      have := this _ _ _ _ _ hI
      omega
    walk_at "go"
    rw [show atI ((nD (x :: rest)).map D.int) 0 = some (.int (x : Nat)) from atI_nat (j := 0) rfl]
    walk_at "go"
    refine ⟨F,x,C,rfl,by rw [ln]; exact hl,hC,fun ks so me => ⟨noL_ints ks,?_⟩⟩
    walk_at "go"
    refine And.intro (by show (true && decide (_ < 1000)) = true; simp; omega) ?_
    walk_at "go"
    refine And.intro (by rw [List.length_map,nD_len]; exact ll) ?_
    generalize hLL : x :: rest = L at *
    refine ⟨fun i acc => acc = (nD ((L.take i).filter fun n => !p n)).map D.int,rfl,?_,?_⟩
    · rintro i y acc e rfl
      obtain ⟨n,en,rfl⟩ := nD_get e
      clear e
      rw [List.take_add_one,en,Option.toList_some,List.filter_append]
      walk_at "go"
      refine inG_ints (ns := ks) (.inr (.inl rfl)) ?_
      have ek : (n : Int) ∈ ks ↔ p n = true := by
        rw [me,hp n]
        constructor
        · rintro ⟨k,h,e⟩
          have : n = k := by omega
          rw [this]; exact h
        · exact fun h => ⟨n,h,rfl⟩
      by_cases z : p n = true
      · refine IfP.f (by simp [ek.mpr z]) ?_
        show _ = _
        rw [List.filter_cons]
        simp [z]
      · refine IfP.t (by have : ¬ (n : Int) ∈ ks := fun y => z (ek.mp y); simp [this]) ?_
        walk_at "go"
        rw [List.filter_cons]
        simp [z,nD]
    · rintro acc rfl
      rw [List.length_map,nD_len,List.take_length]
      walk_at "go"
      exact ⟨m',hm',_,_,_,rfl,nx _⟩
structure Tr where
  a : Int
  b : Int
  c : Int
abbrev Tr.d (t : Tr) : D := t3 t.a t.b t.c
abbrev s_is_whole : Stmt := top 5
theorem sc_is_whole : FnScope ["thing"] ["thing"] (defScope s_is_whole) := ⟨rfl,rfl,rfl,by decide +kernel,rfl,by decide +kernel,by decide +kernel⟩
def S_whole : DSp := fun ds P _ => (∃ i : Int,ds = [.int i]) /\ P (.bl true)
theorem ok_is_whole {P : Program}{w : World}{K : PySem.W.Frag}{mg : Str -> Option Value}{base : Heap}{f : Addr}{fd : FuncData}(F : Fun K "is_whole" "is_whole" s_is_whole f fd) (Z : Bi mg) {c : Cs} (Y : Ex K mg base c) : FnOk P w K mg base CX0 1 f fd ["thing"] (liftSp K BT S_whole) := by
  refine F.okD sc_is_whole (fun ds PP Ed h => ?_) (fun cdv A outer s H E M bg ds PP Ed hr hS_ => ?_)
  · obtain ⟨⟨i,rfl⟩,hP⟩ := h
    rfl
  · obtain ⟨⟨i,rfl⟩,hP⟩ := hS_
    refine ⟨_,(jdss_one (jds_ret (jde_and (jde_callB (call_isinstA K (by rfl)) cd_isinst rfl Z.isinstance_ bt_isinstance (jda_cons (jdv 0) (jda_cons (jde_bltn rfl Z.int_ bt_int) jda_nil))) (jde_one (jde_not (jde_callB (call_isinstA K (by rfl)) cd_isinst rfl Z.isinstance_ bt_isinstance (jda_cons (jdv 0) (jda_cons (jde_bltn rfl Z.bool_ bt_bool) jda_nil)))))))),?_⟩
    walk_at "go"
    refine ⟨true,by rfl,?_⟩
    walk_at "go"
    refine ⟨false,by rfl,?_⟩
    walk_at "go"
    exact hP
abbrev s_is_whole_tuple : Stmt := top 6
theorem sc_is_whole_tuple : FnScope ["thing","many"] ["thing","many"] (defScope s_is_whole_tuple) := ⟨rfl,rfl,rfl,by decide +kernel,rfl,by decide +kernel,by decide +kernel⟩
def S_wt : DSp := fun ds P _ => ∃ t : Tr,ds = [t.d,.int 3] /\ P (.bl true)
structure C_is_whole_tuple (P : Program)(w : World)(K : PySem.W.Frag)(mg : Str -> Option Value)(base : Heap)(c : Cs) : Prop where
  is_whole_ : Callee P w K mg base CX0 "is_whole" 1 ["thing"] (liftSp K BT S_whole)
theorem ok_is_whole_tuple {P : Program}{w : World}{K : PySem.W.Frag}{mg : Str -> Option Value}{base : Heap}{f : Addr}{fd : FuncData}(F : Fun K "is_whole_tuple" "is_whole_tuple" s_is_whole_tuple f fd) (Z : Bi mg) {c : Cs} (Y : Ex K mg base c) (G : C_is_whole_tuple P w K mg base c) : FnOk P w K mg base CX0 2 f fd ["thing","many"] (liftSp K BT S_wt) := by
  refine F.okD sc_is_whole_tuple (fun ds PP Ed h => ?_) (fun cdv A outer s H E M bg ds PP Ed hr hS_ => ?_)
  · obtain ⟨t,rfl,hP⟩ := h
    rfl
  · obtain ⟨t,rfl,hP⟩ := hS_
    refine ⟨_,(jdss_one (jds_ret (jde_and (jde_callB (call_isinstA K (by rfl)) cd_isinst rfl Z.isinstance_ bt_isinstance (jda_cons (jdv 0) (jda_cons (jde_bltn rfl Z.tuple_ bt_tuple) jda_nil))) (jde_and (jde_cmp op_eq od_eqS (jde_callB (call_len_seqK K (by rfl)) cd_len rfl Z.len_ bt_len (jda_cons (jdv 0) jda_nil)) (jdv 1) (nomark _)) (jde_one (jde_callB (call_allL K (by rfl) (by rfl)) cd_bls rfl Z.all_ bt_all (jda_cons (jde_comp (X := (cxOf CX0 P w K mg base ["thing","many"] "is_whole_tuple" (defScope s_is_whole_tuple) f cdv A outer s H E).nox) (gd_name 0) (blkJ (X := (cxOf CX0 P w K mg base ["thing","many"] "is_whole_tuple" (defScope s_is_whole_tuple) f cdv A outer s H E).nox) (N' := ["part"]) (map := [none]) (by rfl) (by rfl) (by decide +kernel) (by rfl) True.intro (gkeep_name rfl) fun cl0 C0 fp0 s0 H0 => ⟨(pg_name (X := (cxComp (cxOf CX0 P w K mg base ["thing","many"] "is_whole_tuple" (defScope s_is_whole_tuple) f cdv A outer s H E).nox ["part"] _ cl0 C0 fp0 s0 H0)) (i := 0) (nodupS ["part"] (by decide +kernel)) rfl (by walk_at "o")),jdif_nil,(jde_own (X := (cxComp (cxOf CX0 P w K mg base ["thing","many"] "is_whole_tuple" (defScope s_is_whole_tuple) f cdv A outer s H E).nox ["part"] _ cl0 C0 fp0 s0 H0)) G.is_whole_ (hr.mono (by decide)) rfl (jda_cons (jdv 0) jda_nil))⟩) (jdi_seq (by rfl) (jdv 0))) jda_nil))))))),?_⟩
    walk_at "go"
    refine ⟨true,by rfl,?_⟩
    walk_at "go"
    walk_at "gc"
    refine ⟨⟨_,rfl⟩,?_⟩
    walk_at "go"
    refine ⟨⟨_,rfl⟩,?_⟩
    walk_at "go"
    refine ⟨⟨_,rfl⟩,?_⟩
    walk_at "go"
    exact hP
abbrev s_is_corner : Stmt := top 10
theorem sc_is_corner : FnScope ["thing"] ["thing"] (defScope s_is_corner) := ⟨rfl,rfl,rfl,by decide +kernel,rfl,by decide +kernel,by decide +kernel⟩
def in6 (a : Int) : Bool := decide (-1000000 < a /\ a < 1000000)
def crnOk (t : Tr) : Bool := in6 t.a && (in6 t.b && in6 t.c)
theorem in6_abs (a : Int) : decide ((if a < 0 then -a else a) <= 999999) = in6 a := by
  unfold in6
  by_cases h : a < 0
  · rw [if_pos h]; exact decide_eq_decide.mpr ⟨fun _ => ⟨by omega,by omega⟩,fun _ => by omega⟩
  · rw [if_neg h]; exact decide_eq_decide.mpr ⟨fun _ => ⟨by omega,by omega⟩,fun _ => by omega⟩
def S_crn74 : DSp := fun ds P _ => ∃ t : Tr,ds = [t.d] /\ P (.bl (crnOk t))
structure C_is_corner (P : Program)(w : World)(K : PySem.W.Frag)(mg : Str -> Option Value)(base : Heap)(c : Cs) : Prop where
  is_whole_tuple_ : Callee P w K mg base CX0 "is_whole_tuple" 2 ["thing","many"] (liftSp K BT S_wt)
theorem ok_is_corner {P : Program}{w : World}{K : PySem.W.Frag}{mg : Str -> Option Value}{base : Heap}{f : Addr}{fd : FuncData}(F : Fun K "is_corner" "is_corner" s_is_corner f fd) (Z : Bi mg) {c : Cs} (Y : Ex K mg base c) (G : C_is_corner P w K mg base c) : FnOk P w K mg base CX0 3 f fd ["thing"] (liftSp K BT S_crn74) := by
  refine F.okD sc_is_corner (fun ds PP Ed h => ?_) (fun cdv A outer s H E M bg ds PP Ed hr hS_ => ?_)
  · obtain ⟨t,rfl,hP⟩ := h
    rfl
  · obtain ⟨t,rfl,hP⟩ := hS_
    refine ⟨_,(jdss_one (jds_ret (jde_and (jde_own G.is_whole_tuple_ (hr.mono (by decide)) rfl (jda_cons (jdv 0) (jda_cons jde_int jda_nil))) (jde_one (jde_callB (call_allL K (by rfl) (by rfl)) cd_bls rfl Z.all_ bt_all (jda_cons (jde_comp (X := (cxOf CX0 P w K mg base ["thing"] "is_corner" (defScope s_is_corner) f cdv A outer s H E).nox) (gd_name 0) (blkJ (X := (cxOf CX0 P w K mg base ["thing"] "is_corner" (defScope s_is_corner) f cdv A outer s H E).nox) (N' := ["number"]) (map := [none]) (by rfl) (by rfl) (by decide +kernel) (by rfl) True.intro (gkeep_name rfl) fun cl0 C0 fp0 s0 H0 => ⟨(pg_name (X := (cxComp (cxOf CX0 P w K mg base ["thing"] "is_corner" (defScope s_is_corner) f cdv A outer s H E).nox ["number"] _ cl0 C0 fp0 s0 H0)) (i := 0) (nodupS ["number"] (by decide +kernel)) rfl (by walk_at "o")),jdif_nil,(jde_cmp (X := (cxComp (cxOf CX0 P w K mg base ["thing"] "is_corner" (defScope s_is_corner) f cdv A outer s H E).nox ["number"] _ cl0 C0 fp0 s0 H0)) op_le od_B0 (jde_callB call_abs cd_abs rfl Z.abs_ bt_abs (jda_cons (jdv 0) jda_nil)) (jde_globI rfl Z.GREATEST_COORDINATE_) (nomark _))⟩) (jdi_seq (by rfl) (jdv 0))) jda_nil)))))),?_⟩
    walk_at "go"
    refine ⟨t,rfl,?_⟩
    walk_at "go"
    walk_at "gc"
    unfold crnOk at hP
    rw [<- in6_abs,<- in6_abs,<- in6_abs,<- Bool.and_true (decide ((if t.c < 0 then -t.c else t.c) <= 999999))] at hP
    exact hP
abbrev s_is_face : Stmt := top 11
theorem sc_is_face : FnScope ["thing","many","i","j","k"] ["thing","many"] (defScope s_is_face) := ⟨rfl,rfl,rfl,by decide +kernel,rfl,by decide +kernel,by decide +kernel⟩
def facOk (t : Tr)(n : Int) : Bool := decide (t.a ≠ t.b /\ t.b ≠ t.c /\ t.c ≠ t.a /\ (0 <= t.a /\ 0 <= t.b /\ 0 <= t.c) /\ t.a < n /\ t.b < n /\ t.c < n)
def S_fac : DSp := fun ds P _ => ∃ (t : Tr) (n : Int),ds = [t.d,.int n] /\ P (.bl (facOk t n))
structure C_is_face (P : Program)(w : World)(K : PySem.W.Frag)(mg : Str -> Option Value)(base : Heap)(c : Cs) : Prop where
  is_whole_tuple_ : Callee P w K mg base CX0 "is_whole_tuple" 2 ["thing","many"] (liftSp K BT S_wt)
theorem ok_is_face {P : Program}{w : World}{K : PySem.W.Frag}{mg : Str -> Option Value}{base : Heap}{f : Addr}{fd : FuncData}(F : Fun K "is_face" "is_face" s_is_face f fd) (Z : Bi mg) {c : Cs} (Y : Ex K mg base c) (G : C_is_face P w K mg base c) : FnOk P w K mg base CX0 3 f fd ["thing","many"] (liftSp K BT S_fac) := by
  refine F.okD sc_is_face (fun ds PP Ed h => ?_) (fun cdv A outer s H E M bg ds PP Ed hr hS_ => ?_)
  · obtain ⟨t,n,rfl,hP⟩ := h
    rfl
  · obtain ⟨t,n,rfl,hP⟩ := hS_
    refine ⟨_,(jdss_cons (jds_if (jdt_not (jdt_truth (by rfl) (jde_own G.is_whole_tuple_ (hr.mono (by decide)) rfl (jda_cons (jdv 0) (jda_cons jde_int jda_nil))) (fun _ => rfl))) (jdss_one (jds_ret jde_bl)) jdss_nil)
      (jdss_cons (jds_asg (gd_seq [2,3,4]) (jdv 0) (PG.or (pg_tupK (n := 3) K (by rfl) (by rfl) (pgs_cons (pg_name (i := 2) sc_is_face.nd rfl (by walk_at "o")) (pgs_cons (pg_name (i := 3) sc_is_face.nd rfl (by walk_at "o")) (pgs_cons (pg_name (i := 4) sc_is_face.nd rfl (by walk_at "o")) pgs_nil)))) (pg_lstK (n := 3) K (by rfl) (by rfl) (pgs_cons (pg_name (i := 2) sc_is_face.nd rfl (by walk_at "o")) (pgs_cons (pg_name (i := 3) sc_is_face.nd rfl (by walk_at "o")) (pgs_cons (pg_name (i := 4) sc_is_face.nd rfl (by walk_at "o")) pgs_nil))))))
      (jdss_one (jds_ret (jde_and (jde_cmp op_ne od_neS (jdv 2) (jdv 3) (nomark _)) (jde_and (jde_cmp op_ne od_neS (jdv 3) (jdv 4) (nomark _)) (jde_and (jde_cmp op_ne od_neS (jdv 4) (jdv 2) (nomark _)) (jde_and (jde_cmp op_ge od_B0 (jde_callB (call_minT K (by rfl) (by rfl)) cd_extT rfl Z.min_ bt_min (jda_cons (jdv 0) jda_nil)) jde_int (nomark _)) (jde_one (jde_cmp op_lt od_B0 (jde_callB (call_maxT K (by rfl) (by rfl)) cd_extT rfl Z.max_ bt_max (jda_cons (jdv 0) jda_nil)) (jdv 1) (nomark _))))))))))),?_⟩
    have hf : (¬ (t.a ≠ t.b /\ t.b ≠ t.c /\ t.c ≠ t.a /\ (0 <= t.a /\ 0 <= t.b /\ 0 <= t.c) /\ t.a < n /\ t.b < n /\ t.c < n)) -> PP (.bl false) := fun q => by
      unfold facOk at hP
      rw [decide_eq_false q] at hP
      exact hP
    walk_at "go"
    refine ⟨t,rfl,?_⟩
    walk_at "go"
    by_cases e1 : t.a = t.b
    · refine IfP.f (by rw [decide_eq_true e1]; rfl) ?_
      exact hf fun q => q.1 e1
    refine IfP.t (by rw [decide_eq_false e1]; rfl) ?_
    walk_at "go"
    by_cases e2 : t.b = t.c
    · refine IfP.f (by rw [decide_eq_true e2]; rfl) ?_
      exact hf fun q => q.2.1 e2
    refine IfP.t (by rw [decide_eq_false e2]; rfl) ?_
    walk_at "go"
    by_cases e3 : t.c = t.a
    · refine IfP.f (by rw [decide_eq_true e3]; rfl) ?_
      exact hf fun q => q.2.2.1 e3
    refine IfP.t (by rw [decide_eq_false e3]; rfl) ?_
    walk_at "go"
    intro m hm hle
    have hm0 : m = t.a \/ m = t.b \/ m = t.c := by simpa using hm
    have la := hle t.a (by simp)
    have lb := hle t.b (by simp)
    have lc := hle t.c (by simp)
    walk_at "go"
    by_cases e4 : 0 <= m
    · refine IfP.t (decide_eq_true e4) ?_
      walk_at "go"
      intro M hM hge
      have hM0 : M = t.a \/ M = t.b \/ M = t.c := by simpa using hM
      have ga := hge t.a (by simp)
      have gb := hge t.b (by simp)
      have gc := hge t.c (by simp)
      walk_at "go"
      have : facOk t n = decide (M < n) := by
        unfold facOk
        exact decide_eq_decide.mpr ⟨fun q => by omega,fun q => ⟨e1,e2,e3,⟨by omega,by omega,by omega⟩,by omega,by omega,by omega⟩⟩
      rw [this] at hP
      exact hP
    · refine IfP.f (decide_eq_false e4) ?_
      exact hf fun q => e4 (by omega)
abbrev s_check_body : Stmt := top 12
theorem sc_check_body : FnScope ["thing","corners","faces"] ["thing"] (defScope s_check_body) := ⟨rfl,rfl,rfl,by decide +kernel,rfl,by decide +kernel,by decide +kernel⟩
def bodyOk (cs fs : List Tr) : Bool := decide (cs.length <= 24) && (cs.all crnOk && (decide (fs.length <= 24) && fs.all fun f => facOk f cs.length))
def crD : D -> D
  | .tup [.int a,.int b,.int c] => .bl (crnOk ⟨a,b,c⟩)
  | d => d
def faD (n : Int) : D -> D
  | .tup [.int a,.int b,.int c] => .bl (facOk ⟨a,b,c⟩ n)
  | d => d
theorem crD_map (cs : List Tr) : (cs.map Tr.d).map crD = (cs.map crnOk).map D.bl := by rw [List.map_map,List.map_map]; exact List.map_congr_left fun _ _ => rfl
theorem faD_map (n : Int)(cs : List Tr) : (cs.map Tr.d).map (faD n) = (cs.map fun f => facOk f n).map D.bl := by rw [List.map_map,List.map_map]; exact List.map_congr_left fun _ _ => rfl
abbrev bd (cs fs : List Tr) : D := .tup [.lst (cs.map Tr.d),.lst (fs.map Tr.d)]
def S_chk (c : Cs) : DSp := fun ds P Ed => ∃ cs fs : List Tr,ds = [bd cs fs] /\ cs ≠ [] /\ cs.length <= 600 /\ fs.length <= 600 /\ (bodyOk cs fs = false -> Ed c.NoBody) /\ (bodyOk cs fs = true -> P .non)
structure C_check_body (P : Program)(w : World)(K : PySem.W.Frag)(mg : Str -> Option Value)(base : Heap)(c : Cs) : Prop where
  is_corner_ : Callee P w K mg base CX0 "is_corner" 3 ["thing"] (liftSp K BT S_crn74)
  is_face_ : Callee P w K mg base CX0 "is_face" 3 ["thing","many"] (liftSp K BT S_fac)
theorem ok_check_body {P : Program}{w : World}{K : PySem.W.Frag}{mg : Str -> Option Value}{base : Heap}{f : Addr}{fd : FuncData}(F : Fun K "check_body" "check_body" s_check_body f fd) (Z : Bi mg) {c : Cs} (Y : Ex K mg base c) (G : C_check_body P w K mg base c) : FnOk P w K mg base (CX1 P w base) 4 f fd ["thing"] (liftSp K BT (S_chk c)) := by
  refine F.okDX sc_check_body (fun ds PP Ed h => ?_) (fun cdv A outer s H E M bg ds PP Ed hr hE hS_ => ?_)
  · obtain ⟨cs,fs,rfl,hn,hl1,hl2,h0,h1⟩ := h
    rfl
  · obtain ⟨cs,fs,rfl,hn,hl1,hl2,h0,h1⟩ := hS_
    refine ⟨_,(jdss_cons (jds_if (jdt_or (jdt_not (jdt_truth (by rfl) (jde_callB (call_isinstA K (by rfl)) cd_isinst rfl Z.isinstance_ bt_isinstance (jda_cons (jdv 0) (jda_cons (jde_bltn rfl Z.tuple_ bt_tuple) jda_nil))) (fun _ => rfl))) (jdw_or1 (jdt_cmp op_ne od_neS (jde_callB (call_len_seqK K (by rfl)) cd_len rfl Z.len_ bt_len (jda_cons (jdv 0) jda_nil)) jde_int (nomark _)))) (jdss_one (jds_raise hE (ps_raise1 Y.o_NoBody rfl))) jdss_nil)
      (jdss_cons (jds_asg (gd_seq [1,2]) (jdv 0) (PG.or (pg_tupK (n := 2) K (by rfl) (by rfl) (pgs_cons (pg_name (i := 1) sc_check_body.nd rfl (by walk_at "o")) (pgs_cons (pg_name (i := 2) sc_check_body.nd rfl (by walk_at "o")) pgs_nil))) (pg_lstK (n := 2) K (by rfl) (by rfl) (pgs_cons (pg_name (i := 1) sc_check_body.nd rfl (by walk_at "o")) (pgs_cons (pg_name (i := 2) sc_check_body.nd rfl (by walk_at "o")) pgs_nil)))))
      (jdss_cons (jds_if (jdt_or (jdt_not (jdt_truth (by rfl) (jde_callB (call_isinstA K (by rfl)) cd_isinst rfl Z.isinstance_ bt_isinstance (jda_cons (jdv 1) (jda_cons (jde_bltn rfl Z.list_ bt_list) jda_nil))) (fun _ => rfl))) (jdw_or (jdt_cmp op_lt od_B0 (jde_callB (call_len_seqK K (by rfl)) cd_len rfl Z.len_ bt_len (jda_cons (jdv 1) jda_nil)) jde_int (nomark _)) (jdw_or1 (jdt_cmp op_gt od_B0 (jde_callB (call_len_seqK K (by rfl)) cd_len rfl Z.len_ bt_len (jda_cons (jdv 1) jda_nil)) (jde_globI rfl Z.MOST_) (nomark _))))) (jdss_one (jds_raise hE (ps_raise1 Y.o_NoBody rfl))) jdss_nil)
      (jdss_cons (jds_if (jdt_not (jdt_truth (by rfl) (jde_callB (call_allL K (by rfl) (by rfl)) cd_bls rfl Z.all_ bt_all (jda_cons (jde_comp (X := (cxOf (CX1 P w base) P w K mg base ["thing","corners","faces"] "check_body" (defScope s_check_body) f cdv A outer s H E)) (gd_name 0) (blkJ (X := (cxOf (CX1 P w base) P w K mg base ["thing","corners","faces"] "check_body" (defScope s_check_body) f cdv A outer s H E)) (N' := ["corner"]) (map := [none]) (by rfl) (by rfl) (by decide +kernel) (by rfl) True.intro (gkeep_name rfl) fun cl0 C0 fp0 s0 H0 => ⟨(pg_name (X := (cxComp (cxOf (CX1 P w base) P w K mg base ["thing","corners","faces"] "check_body" (defScope s_check_body) f cdv A outer s H E) ["corner"] _ cl0 C0 fp0 s0 H0)) (i := 0) (nodupS ["corner"] (by decide +kernel)) rfl (by walk_at "o")),jdif_nil,(jde_own (X := (cxComp (cxOf (CX1 P w base) P w K mg base ["thing","corners","faces"] "check_body" (defScope s_check_body) f cdv A outer s H E) ["corner"] _ cl0 C0 fp0 s0 H0)) G.is_corner_ (hr.mono (by decide)) rfl (jda_cons (jdv 0) jda_nil))⟩) (jdi_seq (by rfl) (jdv 1))) jda_nil)) (fun _ => rfl))) (jdss_one (jds_raise hE (ps_raise1 Y.o_NoBody rfl))) jdss_nil)
      (jdss_cons (jds_if (jdt_or (jdt_not (jdt_truth (by rfl) (jde_callB (call_isinstA K (by rfl)) cd_isinst rfl Z.isinstance_ bt_isinstance (jda_cons (jdv 2) (jda_cons (jde_bltn rfl Z.list_ bt_list) jda_nil))) (fun _ => rfl))) (jdw_or1 (jdt_cmp op_gt od_B0 (jde_callB (call_len_seqK K (by rfl)) cd_len rfl Z.len_ bt_len (jda_cons (jdv 2) jda_nil)) (jde_globI rfl Z.MOST_) (nomark _)))) (jdss_one (jds_raise hE (ps_raise1 Y.o_NoBody rfl))) jdss_nil)
      (jdss_one (jds_if (jdt_not (jdt_truth (by rfl) (jde_callB (call_allL K (by rfl) (by rfl)) cd_bls rfl Z.all_ bt_all (jda_cons (jde_comp (X := (cxOf (CX1 P w base) P w K mg base ["thing","corners","faces"] "check_body" (defScope s_check_body) f cdv A outer s H E)) (gd_name 0) (blkJ (X := (cxOf (CX1 P w base) P w K mg base ["thing","corners","faces"] "check_body" (defScope s_check_body) f cdv A outer s H E)) (N' := ["face","corners"]) (map := [none,some 1]) (by rfl) (by rfl) (by decide +kernel) (by rfl) ⟨⟨rfl,rfl,rfl,by walk_at "o"⟩,True.intro⟩ (gkeep_name rfl) fun cl0 C0 fp0 s0 H0 => ⟨(pg_name (X := (cxComp (cxOf (CX1 P w base) P w K mg base ["thing","corners","faces"] "check_body" (defScope s_check_body) f cdv A outer s H E) ["face","corners"] _ cl0 C0 fp0 s0 H0)) (i := 0) (nodupS ["face","corners"] (by decide +kernel)) rfl (by walk_at "o")),jdif_nil,(jde_own (X := (cxComp (cxOf (CX1 P w base) P w K mg base ["thing","corners","faces"] "check_body" (defScope s_check_body) f cdv A outer s H E) ["face","corners"] _ cl0 C0 fp0 s0 H0)) G.is_face_ (hr.mono (by decide)) rfl (jda_cons (jdv 0) (jda_cons (jde_callB (call_len_seqK K (by rfl)) cd_len rfl Z.len_ bt_len (jda_cons (jdv 1) jda_nil)) jda_nil)))⟩) (jdi_seq (by rfl) (jdv 2))) jda_nil)) (fun _ => rfl))) (jdss_one (jds_raise hE (ps_raise1 Y.o_NoBody rfl))) jdss_nil))))))),?_⟩
    have hn0 : 0 < cs.length := List.length_pos_iff.mpr hn
    unfold bodyOk at h0 h1
    walk_at "go"
    refine ⟨true,by rfl,?_⟩
    walk_at "go"
    refine ⟨true,by rfl,?_⟩
    walk_at "go"
    refine IfP.f (by rw [List.length_map]; simp; omega) ?_
    walk_at "go"
    by_cases l1 : cs.length <= 24
    · refine IfP.f (by rw [List.length_map]; simp; omega) ?_
      walk_at "go"
      refine And.intro (by rw [List.length_map]; omega) ?_
      refine L2.comp_map crD (fun d Q hd hQ => ?_) (fun d hd => ?_) ?_
      · obtain ⟨t,ht,rfl⟩ := List.mem_map.mp hd
        walk_at "go"
        exact ⟨t,rfl,hQ⟩
      · obtain ⟨t,ht,rfl⟩ := List.mem_map.mp hd
        rfl
      · rw [crD_map]
        walk_at "go"
        rw [blsOf_map]
        walk_at "go"
        have ea : ((cs.map crnOk).all id) = cs.all crnOk := by rw [List.all_map]; rfl
        by_cases l2 : cs.all crnOk = true
        · refine IfP.f (by show (!(cs.map crnOk).all id) = false; rw [ea,l2]; rfl) ?_
          walk_at "go"
          refine ⟨true,by rfl,?_⟩
          walk_at "go"
          by_cases l3 : fs.length <= 24
          · refine IfP.f (by rw [List.length_map]; simp; omega) ?_
            walk_at "go"
            refine And.intro (by rw [List.length_map]; omega) ?_
            refine L2.comp_map (faD cs.length) (fun d Q hd hQ => ?_) (fun d hd => ?_) ?_
            · obtain ⟨t,ht,rfl⟩ := List.mem_map.mp hd
              walk_at "go"
              refine ⟨t,cs.length,by rw [List.length_map],hQ⟩
            · obtain ⟨t,ht,rfl⟩ := List.mem_map.mp hd
              rfl
            · rw [faD_map]
              walk_at "go"
              rw [blsOf_map]
              walk_at "go"
              have eb : ((fs.map fun f => facOk f cs.length).all id) = fs.all fun f => facOk f cs.length := by rw [List.all_map]; rfl
              by_cases l4 : (fs.all fun f => facOk f cs.length) = true
              · refine IfP.f (by show (!(fs.map fun f => facOk f cs.length).all id) = false; rw [eb,l4]; rfl) ?_
                walk_at "go"
                exact h1 (by rw [decide_eq_true l1,l2,decide_eq_true l3,l4]; rfl)
              · refine IfP.t (by show (!(fs.map fun f => facOk f cs.length).all id) = true; rw [eb]; simpa using l4) ?_
                walk_at "go"
                refine h0 ?_
                rw [show (fs.all fun f => facOk f cs.length) = false by simpa using l4]
                simp
          · refine IfP.t (by rw [List.length_map]; simp; omega) ?_
            walk_at "go"
            refine h0 ?_
            rw [decide_eq_false l3]
            simp
        · refine IfP.t (by show (!(cs.map crnOk).all id) = true; rw [ea]; simpa using l2) ?_
          walk_at "go"
          refine h0 ?_
          rw [show cs.all crnOk = false by simpa using l2]
          simp
    · refine IfP.t (by rw [List.length_map]; simp; omega) ?_
      walk_at "go"
      refine h0 ?_
      rw [decide_eq_false l1]
      simp
def Shape (fs : List F3i) : Prop := (∃ i j k t,fs = [⟨i,k,j⟩,⟨i,j,t⟩,⟨j,k,t⟩,⟨k,i,t⟩]) \/ ∃ i j k t l,fs = [⟨i,j,t⟩,⟨j,k,t⟩,⟨k,i,t⟩,⟨j,i,l⟩,⟨k,j,l⟩,⟨i,k,l⟩]
structure ClB (cs : List R3)(fs : List F3i) : Prop where
  l5 : 5 <= cs.length
  l12 : cs.length <= 12
  sm : ∀ r ∈ cs,r.sm
  ok : ∀ f ∈ fs,f.ok cs.length
  sh : Shape fs
theorem Shape.closed {fs : List F3i}(h : Shape fs) : closedB fs := by
  rcases h with ⟨i,j,k,t,rfl⟩ | ⟨i,j,k,t,l,rfl⟩
  · exact closed_four i j k t
  · exact closed_six i j k t l
theorem Shape.map {fs : List F3i}(h : Shape fs)(n : Nat) : Shape (fs.map (F3i.sh n)) := by
  rcases h with ⟨i,j,k,t,rfl⟩ | ⟨i,j,k,t,l,rfl⟩
  · exact .inl ⟨i + n,j + n,k + n,t + n,rfl⟩
  · exact .inr ⟨i + n,j + n,k + n,t + n,l + n,rfl⟩
theorem Shape.len {fs : List F3i}(h : Shape fs) : 0 < fs.length /\ fs.length <= 6 := by
  rcases h with ⟨i,j,k,t,rfl⟩ | ⟨i,j,k,t,l,rfl⟩
  · exact ⟨by simp,by simp⟩
  · exact ⟨by simp,by simp⟩
theorem Shape.conn {fs : List F3i}(h : Shape fs)(S : Nat -> Prop)(s0 : S 0)(st : ∀ m n,S m -> joinN fs m n -> S n) : ∀ n,n < fs.length -> S n := by
  have go : ∀ {m n : Nat} {f h : F3i},S m -> fs[m]? = some f -> fs[n]? = some h -> joinB f h = true -> S n := fun hm e1 e2 j => st _ _ hm ⟨_,_,e1,e2,j⟩
  rcases h with ⟨i,j,k,t,rfl⟩ | ⟨i,j,k,t,l,rfl⟩
  · have s1 : S 1 := go s0 rfl rfl (by simp [joinB,sdR,felR])
    have s2 : S 2 := go s0 rfl rfl (by simp [joinB,sdR,felR])
    have s3 : S 3 := go s0 rfl rfl (by simp [joinB,sdR,felR])
    intro n hn
    match n,hn with
    | 0,_ => exact s0
    | 1,_ => exact s1
    | 2,_ => exact s2
    | 3,_ => exact s3
  · have s1 : S 1 := go s0 rfl rfl (by simp [joinB,sdR,felR])
    have s2 : S 2 := go s0 rfl rfl (by simp [joinB,sdR,felR])
    have s3 : S 3 := go s0 rfl rfl (by simp [joinB,sdR,felR])
    have s4 : S 4 := go s1 rfl rfl (by simp [joinB,sdR,felR])
    have s5 : S 5 := go s2 rfl rfl (by simp [joinB,sdR,felR])
    intro n hn
    match n,hn with
    | 0,_ => exact s0
    | 1,_ => exact s1
    | 2,_ => exact s2
    | 3,_ => exact s3
    | 4,_ => exact s4
    | 5,_ => exact s5
theorem sd_has {f : F3i}{r : List Int}(h : r ∈ sdR f) : ∃ a b : Nat,f.has a /\ f.has b /\ r = [(a : Int),(b : Int)] := by
  have h : r ∈ sdsR [f] := by rw [show sdsR [f] = sdR f from List.append_nil _]; exact h
  obtain ⟨g,a,b,hg,ha,hb,e⟩ := sdsR_mem h
  rw [List.mem_singleton.mp hg] at ha hb
  exact ⟨a,b,ha,hb,e⟩
theorem join_side {f h : F3i}(j : joinB f h = true) : ∃ a,f.has a /\ h.has a := by
  unfold joinB at j
  obtain ⟨r,hr,q⟩ := List.any_eq_true.mp j
  obtain ⟨a,b,ha,hb,rfl⟩ := sd_has hr
  simp only [Bool.or_eq_true,decide_eq_true_eq] at q
  rcases q with q | q
  · obtain ⟨c,d,hc,hd,e⟩ := sd_has q
    have : a = c := by
      have : (a : Int) = c := by simpa using congrArg (fun l => l.headD 0) e
      omega
    exact ⟨a,ha,by rw [this]; exact hc⟩
  · obtain ⟨c,d,hc,hd,e⟩ := sd_has q
    have : b = c := by
      have : (b : Int) = c := by simpa [felR] using congrArg (fun l => l.headD 0) e
      omega
    exact ⟨b,hb,by rw [this]; exact hc⟩
theorem comp_two {fs gs : List F3i}{N : Nat}(h1 : Shape fs)(h2 : Shape gs)(a1 : ∀ f ∈ fs,∀ q,f.has q -> q < N)(a2 : ∀ f ∈ gs,∀ q,f.has q -> N <= q) : Comp (fs ++ gs) 0 (fun n => n < fs.length) /\ Comp (fs ++ gs) fs.length (fun n => fs.length <= n /\ n < (fs ++ gs).length) := by
  have l1 := h1.len.1
  have l2 := h2.len.1
  have ln : (fs ++ gs).length = fs.length + gs.length := List.length_append
  have low : ∀ {m : Nat} {f : F3i},(fs ++ gs)[m]? = some f -> m < fs.length -> ∀ q,f.has q -> q < N := fun e h => by
    rw [List.getElem?_append_left h] at e
    exact a1 _ (List.mem_of_getElem? e)
  have up : ∀ {m : Nat} {f : F3i},(fs ++ gs)[m]? = some f -> fs.length <= m -> ∀ q,f.has q -> N <= q := fun e h => by
    rw [List.getElem?_append_right h] at e
    exact a2 _ (List.mem_of_getElem? e)
  refine ⟨⟨l1,fun n h => by omega,fun m n hm j => ?_,fun S s0 st n hn => ?_⟩,⟨⟨Nat.le_refl _,by omega⟩,fun n h => h.2,fun m n hm j => ?_,fun S s0 st n hn => ?_⟩⟩
  · obtain ⟨f,h,e1,e2,j⟩ := j
    obtain ⟨a,fa,ha⟩ := join_side j
    apply Decidable.byContradiction
    intro z
    have := low e1 hm a fa
    have := up e2 (by omega) a ha
    omega
  · exact h1.conn S s0 (fun m n hm ⟨f,h,e1,e2,j⟩ => st m n hm ⟨f,h,by rw [List.getElem?_append_left (List.getElem?_eq_some_iff.mp e1).1]; exact e1,by rw [List.getElem?_append_left (List.getElem?_eq_some_iff.mp e2).1]; exact e2,j⟩) n hn
  · obtain ⟨f,h,e1,e2,j⟩ := j
    obtain ⟨a,fa,ha⟩ := join_side j
    refine ⟨?_,(List.getElem?_eq_some_iff.mp e2).1⟩
    apply Decidable.byContradiction
    intro z
    have := up e1 hm.1 a fa
    have := low e2 (by omega) a ha
    omega
  · have := h2.conn (fun n => S (fs.length + n)) s0 (fun m n hm ⟨f,h,e1,e2,j⟩ => st _ _ hm ⟨f,h,by rw [List.getElem?_append_right (by omega),Nat.add_sub_cancel_left]; exact e1,by rw [List.getElem?_append_right (by omega),Nat.add_sub_cancel_left]; exact e2,j⟩) (n - fs.length) (by omega)
    rw [show fs.length + (n - fs.length) = n by omega] at this
    exact this
theorem F3i.ok.un {f : F3i}{n : Nat}(h : f.ok n) : f.un := ⟨h.ij,h.jk,h.ki⟩
theorem F3i.ok.lt {f : F3i}{n : Nat}(o : f.ok n) : ∀ q,f.has q -> q < n := fun q hq => by
  rcases hq with z | z | z
  · rw [z]; exact o.i
  · rw [z]; exact o.j
  · rw [z]; exact o.k
abbrev s__law_fellows : Stmt := top 29
theorem sc__law_fellows : FnScope ["_law_face_here","_law_i","_law_j","_law_k"] ["_law_face_here"] (defScope s__law_fellows) := ⟨rfl,rfl,rfl,by decide +kernel,rfl,by decide +kernel,by decide +kernel⟩
def S_flw : DSO := fun ds P _ => ∃ f : F3i,ds = [f.d] /\ (∃ n,n <= 1000 /\ ∀ q,f.has q -> q < n) /\ ∀ rows : List (List Int),rows.Perm ((sdR f).map felR) -> rows.Pairwise (fun x y => encA 0 x <= encA 0 y) -> P (rows.map rowD)
theorem ok__law_fellows {P : Program}{w : World}{K : PySem.W.Frag}{mg : Str -> Option Value}{base : Heap}{f : Addr}{fd : FuncData}(F : Fun K "_law_fellows" "_law_fellows" s__law_fellows f fd) (Z : Bi mg) {c : Cs} (Y : Ex K mg base c) : FnOk P w K mg base CX0 1 f fd ["_law_face_here"] (liftSpO K BT S_flw) := by
  refine F.okDO sc__law_fellows (fun ds PP Ed h => ?_) (fun cdv A outer s H E M bg ds PP Ed hr hS_ => ?_)
  · obtain ⟨f_,rfl,⟨n_,hn_,hi⟩,hP⟩ := h
    rfl
  · obtain ⟨f_,rfl,⟨n_,hn_,hi⟩,hP⟩ := hS_
    refine ⟨_,(jdss_cons (jds_asg (gd_seq [1,2,3]) (jdv 0) (PG.or (pg_tupK (n := 3) K (by rfl) (by rfl) (pgs_cons (pg_name (i := 1) sc__law_fellows.nd rfl (by walk_at "o")) (pgs_cons (pg_name (i := 2) sc__law_fellows.nd rfl (by walk_at "o")) (pgs_cons (pg_name (i := 3) sc__law_fellows.nd rfl (by walk_at "o")) pgs_nil)))) (pg_lstK (n := 3) K (by rfl) (by rfl) (pgs_cons (pg_name (i := 1) sc__law_fellows.nd rfl (by walk_at "o")) (pgs_cons (pg_name (i := 2) sc__law_fellows.nd rfl (by walk_at "o")) (pgs_cons (pg_name (i := 3) sc__law_fellows.nd rfl (by walk_at "o")) pgs_nil))))))
      (jdss_one (jds_retF (jdf_sortT (X := (cxOf CX0 P w K mg base ["_law_face_here","_law_i","_law_j","_law_k"] "_law_fellows" (defScope s__law_fellows) f cdv A outer s H E).nox) (jda_cons (jde_lst (jda_cons (jde_tup (jda_cons (jdv 2) (jda_cons (jdv 1) jda_nil))) (jda_cons (jde_tup (jda_cons (jdv 3) (jda_cons (jdv 2) jda_nil))) (jda_cons (jde_tup (jda_cons (jdv 1) (jda_cons (jdv 3) jda_nil))) jda_nil)))) jda_nil) (pe_callB (call_sortT K (by rfl) (by rfl)) rfl Z.sorted_ bt_sorted (JA.h (jda_cons (jde_lst (jda_cons (jde_tup (jda_cons (jdv 2) (jda_cons (jdv 1) jda_nil))) (jda_cons (jde_tup (jda_cons (jdv 3) (jda_cons (jdv 2) jda_nil))) (jda_cons (jde_tup (jda_cons (jdv 1) (jda_cons (jdv 3) jda_nil))) jda_nil)))) jda_nil))))))),?_⟩
    walk_at "go"
    refine ⟨(sdR f_).map felR,2,rfl,by decide,by show 3 < 128; decide,fun r hr => ?_,hP⟩
    obtain ⟨r0,h0,rfl⟩ := List.mem_map.mp hr
    obtain ⟨a,b,ha,hb,rfl⟩ := sd_has h0
    have := hi a ha
    have := hi b hb
    refine ⟨rfl,fun z hz => ?_⟩
    have hz : z = (b : Int) \/ z = (a : Int) := by simpa [felR] using hz
    unfold SmallZ
    omega
abbrev s__law_without : Stmt := top 30
theorem sc__law_without : FnScope ["_law_body","_law_at","_law_faces","_law_face_here","_law_gone","_law_turned_face"] ["_law_body","_law_at"] (defScope s__law_without) := ⟨rfl,rfl,rfl,by decide +kernel,rfl,by decide +kernel,by decide +kernel⟩
def S_wo : DSp := fun ds P _ => ∃ (cs : List R3) (fs : List F3i) (n : Nat),ds = [bdD cs fs,.int n] /\ n < fs.length /\ ClB cs fs /\ P (.bl true)
structure C__law_without (P : Program)(w : World)(K : PySem.W.Frag)(mg : Str -> Option Value)(base : Heap)(c : Cs) : Prop where
  _law_fellows_ : Callee P w K mg base CX0 "_law_fellows" 1 ["_law_face_here"] (liftSpO K BT S_flw)
  is_closed_ : Callee P w K mg base CX0 "is_closed" 4 ["body"] (liftSp K BT S_isc)
  lacking_ : Callee P w K mg base CX0 "lacking" 3 ["body"] (liftSpO K BT S_lacking)
theorem ok__law_without {P : Program}{w : World}{K : PySem.W.Frag}{mg : Str -> Option Value}{base : Heap}{f : Addr}{fd : FuncData}(F : Fun K "_law_without" "_law_without" s__law_without f fd) (Z : Bi mg) {c : Cs} (Y : Ex K mg base c) (G : C__law_without P w K mg base c) : FnOk P w K mg base CX0 5 f fd ["_law_body","_law_at"] (liftSp K BT S_wo) := by
  refine F.okD sc__law_without (fun ds PP Ed h => ?_) (fun cdv A outer s H E M bg ds PP Ed hr hS_ => ?_)
  · obtain ⟨cs,fs,n,rfl,hn,hB,hP⟩ := h
    rfl
  · obtain ⟨cs,fs,n,rfl,hn,hB,hP⟩ := hS_
    refine ⟨_,(jdss_cons (jds_set (i := 2) sc__law_without.nd rfl (by walk_at "o") (jde_op op_cat od_cat (jde_slice (sl_any K (by rfl)) (jde_ix (ix_any K (by rfl)) od_ix (jdv 0) jde_int (fun _ _ => rfl)) jdo_none (jdo_some (jdv 1))) (jde_slice (sl_any K (by rfl)) (jde_ix (ix_any K (by rfl)) od_ix (jdv 0) jde_int (fun _ _ => rfl)) (jdo_some (jde_op op_add od_I0 (jdv 1) jde_int)) jdo_none)))
      (jdss_cons (jds_set (i := 3) sc__law_without.nd rfl (by walk_at "o") (jde_ix (ix_any K (by rfl)) od_ix (jde_ix (ix_any K (by rfl)) od_ix (jdv 0) jde_int (fun _ _ => rfl)) (jdv 1) (fun _ _ => rfl)))
      (jdss_cons (jds_set (i := 4) sc__law_without.nd rfl (by walk_at "o") (jde_ownO G._law_fellows_ (hr.mono (by decide)) rfl (jda_cons (jdv 3) jda_nil)))
      (jdss_cons (jds_if (jdt_or (jdt_cmp (op_neG K (by rfl) hr.units) od_eqG (jde_ownO G.lacking_ (hr.mono (by decide)) rfl (jda_cons (jde_tup (jda_cons (jde_ix (ix_any K (by rfl)) od_ix (jdv 0) jde_int (fun _ _ => rfl)) (jda_cons (jdv 2) jda_nil))) jda_nil)) (jdv 4) (nomark _)) (jdw_or1 (jdt_truth (by rfl) (jde_own G.is_closed_ (hr.mono (by decide)) rfl (jda_cons (jde_tup (jda_cons (jde_ix (ix_any K (by rfl)) od_ix (jdv 0) jde_int (fun _ _ => rfl)) (jda_cons (jdv 2) jda_nil))) jda_nil)) (fun _ => rfl)))) (jdss_one (jds_ret jde_bl)) jdss_nil)
      (jdss_cons (jds_set (i := 5) sc__law_without.nd rfl (by walk_at "o") (jde_tup (jda_cons (jde_ix (ix_any K (by rfl)) od_ix (jdv 3) jde_int (fun _ _ => rfl)) (jda_cons (jde_ix (ix_any K (by rfl)) od_ix (jdv 3) jde_int (fun _ _ => rfl)) (jda_cons (jde_ix (ix_any K (by rfl)) od_ix (jdv 3) jde_int (fun _ _ => rfl)) jda_nil)))))
      (jdss_cons (jds_if (jdt_cmp (op_neG K (by rfl) hr.units) od_eqG (jde_ownO G.lacking_ (hr.mono (by decide)) rfl (jda_cons (jde_tup (jda_cons (jde_ix (ix_any K (by rfl)) od_ix (jdv 0) jde_int (fun _ _ => rfl)) (jda_cons (jde_op op_cat od_cat (jdv 2) (jde_lst (jda_cons (jdv 5) jda_nil))) jda_nil))) jda_nil)) (jde_new (jdf_sortT (X := (cxOf CX0 P w K mg base ["_law_body","_law_at","_law_faces","_law_face_here","_law_gone","_law_turned_face"] "_law_without" (defScope s__law_without) f cdv A outer s H E).nox) (jda_cons (jde_op op_cat od_cat (jdv 4) (jdv 4)) jda_nil) (pe_callB (call_sortT K (by rfl) (by rfl)) rfl Z.sorted_ bt_sorted (JA.h (jda_cons (jde_op op_cat od_cat (jdv 4) (jdv 4)) jda_nil))))) (nomark _)) (jdss_one (jds_ret jde_bl)) jdss_nil)
      (jdss_one (jds_ret (jde_cmp (op_eqG K (by rfl) hr.units) od_eqG (jde_ownO G.lacking_ (hr.mono (by decide)) rfl (jda_cons (jde_tup (jda_cons (jde_ix (ix_any K (by rfl)) od_ix (jdv 0) jde_int (fun _ _ => rfl)) (jda_cons (jde_op op_cat od_cat (jde_ix (ix_any K (by rfl)) od_ix (jdv 0) jde_int (fun _ _ => rfl)) (jde_lst (jda_cons (jdv 3) jda_nil))) jda_nil))) jda_nil)) (jde_new (jdf_sortT (X := (cxOf CX0 P w K mg base ["_law_body","_law_at","_law_faces","_law_face_here","_law_gone","_law_turned_face"] "_law_without" (defScope s__law_without) f cdv A outer s H E).nox) (jda_cons (jde_comp (X := (cxOf CX0 P w K mg base ["_law_body","_law_at","_law_faces","_law_face_here","_law_gone","_law_turned_face"] "_law_without" (defScope s__law_without) f cdv A outer s H E).nox) (gd_seq [0,1]) (blkJ (X := (cxOf CX0 P w K mg base ["_law_body","_law_at","_law_faces","_law_face_here","_law_gone","_law_turned_face"] "_law_without" (defScope s__law_without) f cdv A outer s H E).nox) (N' := ["_law_i","_law_j"]) (map := [none,none]) (by rfl) (by rfl) (by decide +kernel) (by rfl) True.intro (gkeep_seq (js := [0,1]) (by decide)) fun cl0 C0 fp0 s0 H0 => ⟨(PG.or (pg_tupK (n := 2) K (by rfl) (by rfl) (pgs_cons (pg_name (i := 0) (nodupS ["_law_i","_law_j"] (by decide +kernel)) rfl (by walk_at "o")) (pgs_cons (pg_name (i := 1) (nodupS ["_law_i","_law_j"] (by decide +kernel)) rfl (by walk_at "o")) pgs_nil))) (pg_lstK (n := 2) K (by rfl) (by rfl) (pgs_cons (pg_name (i := 0) (nodupS ["_law_i","_law_j"] (by decide +kernel)) rfl (by walk_at "o")) (pgs_cons (pg_name (i := 1) (nodupS ["_law_i","_law_j"] (by decide +kernel)) rfl (by walk_at "o")) pgs_nil)))),jdif_nil,(jde_tup (X := (cxComp (cxOf CX0 P w K mg base ["_law_body","_law_at","_law_faces","_law_face_here","_law_gone","_law_turned_face"] "_law_without" (defScope s__law_without) f cdv A outer s H E).nox ["_law_i","_law_j"] _ cl0 C0 fp0 s0 H0)) (jda_cons (jdv 1) (jda_cons (jdv 0) jda_nil)))⟩) (jdi_seq (by rfl) (jdv 4))) jda_nil) (pe_callB (call_sortT K (by rfl) (by rfl)) rfl Z.sorted_ bt_sorted (JA.h (jda_cons (jde_comp (X := (cxOf CX0 P w K mg base ["_law_body","_law_at","_law_faces","_law_face_here","_law_gone","_law_turned_face"] "_law_without" (defScope s__law_without) f cdv A outer s H E).nox) (gd_seq [0,1]) (blkJ (X := (cxOf CX0 P w K mg base ["_law_body","_law_at","_law_faces","_law_face_here","_law_gone","_law_turned_face"] "_law_without" (defScope s__law_without) f cdv A outer s H E).nox) (N' := ["_law_i","_law_j"]) (map := [none,none]) (by rfl) (by rfl) (by decide +kernel) (by rfl) True.intro (gkeep_seq (js := [0,1]) (by decide)) fun cl0 C0 fp0 s0 H0 => ⟨(PG.or (pg_tupK (n := 2) K (by rfl) (by rfl) (pgs_cons (pg_name (i := 0) (nodupS ["_law_i","_law_j"] (by decide +kernel)) rfl (by walk_at "o")) (pgs_cons (pg_name (i := 1) (nodupS ["_law_i","_law_j"] (by decide +kernel)) rfl (by walk_at "o")) pgs_nil))) (pg_lstK (n := 2) K (by rfl) (by rfl) (pgs_cons (pg_name (i := 0) (nodupS ["_law_i","_law_j"] (by decide +kernel)) rfl (by walk_at "o")) (pgs_cons (pg_name (i := 1) (nodupS ["_law_i","_law_j"] (by decide +kernel)) rfl (by walk_at "o")) pgs_nil)))),jdif_nil,(jde_tup (X := (cxComp (cxOf CX0 P w K mg base ["_law_body","_law_at","_law_faces","_law_face_here","_law_gone","_law_turned_face"] "_law_without" (defScope s__law_without) f cdv A outer s H E).nox ["_law_i","_law_j"] _ cl0 C0 fp0 s0 H0)) (jda_cons (jdv 1) (jda_cons (jdv 0) jda_nil)))⟩) (jdi_seq (by rfl) (jdv 4))) jda_nil))))) (nomark _)))))))))),?_⟩
    have l6 := hB.sh.len.2
    have l12 := hB.l12
    have cB := hB.sh.closed
    have ok := hB.ok
    walk_at "go"
    have e1 : L2.cutD (fs.map F3i.d) none (some (n : Int)) = (fs.take n).map F3i.d := by rw [cut_to (by rw [List.length_map]; omega),List.map_take]
    have e2 : L2.cutD (fs.map F3i.d) (some ((n : Int) + 1)) none = (fs.drop (n + 1)).map F3i.d := by rw [show (n : Int) + 1 = ((n + 1 : Nat) : Int) by omega,cut_from (by rw [List.length_map]; omega),List.map_drop]
    rw [e1,e2]
    refine And.intro (by rw [List.length_map,List.length_map,List.length_take,List.length_drop]; omega) ?_
    rw [<- List.map_append]
    obtain ⟨f0,ef⟩ : ∃ f0,fs[n]? = some f0 := ⟨fs[n],List.getElem?_eq_getElem hn⟩
    have fm := List.mem_of_getElem? ef
    have hsplit : fs = fs.take n ++ f0 :: fs.drop (n + 1) := by
      have := (List.take_append_drop n fs).symm
      rw [List.drop_eq_getElem_cons hn] at this
      rw [(List.getElem?_eq_some_iff.mp ef).2] at this
      exact this
    have hx : atI (fs.map F3i.d) (n : Int) = some f0.d := atI_nat (j := n) (by rw [List.getElem?_map,ef]; rfl)
    have cS : closedB (fs.take n ++ f0 :: fs.drop (n + 1)) := by rw [<- hsplit]; exact cB
    have mt : ∀ f ∈ fs.take n ++ fs.drop (n + 1),f ∈ fs := fun f hf => by
      rcases List.mem_append.mp hf with hf | hf
      · exact List.mem_of_mem_take hf
      · exact List.mem_of_mem_drop hf
    have lt' : (fs.take n ++ fs.drop (n + 1)).length <= 6 := by rw [List.length_append,List.length_take,List.length_drop]; omega
    generalize fs.take n = xs at *
    generalize fs.drop (n + 1) = ys at *
    have u := (ok f0 fm).un
    have hi : ∀ f ∈ fs,∀ q,f.has q -> q < cs.length := fun f hf => (ok f hf).lt
    have hi2 : ∀ f ∈ xs ++ ys,∀ q,f.has q -> q < cs.length := fun f hf => hi f (mt f hf)
    have nn : cs.length <= 1000 := by omega
    walk_at "go"
    rw [hx]
    walk_at "go"
    refine ⟨f0,rfl,⟨cs.length,nn,hi f0 fm⟩,fun gone gp gs => ⟨noLs_rows _,?_⟩⟩
    have gk := gone_lack u cS gp gs
    have gl : gone.length = 3 := by rw [gp.length_eq]; rfl
    have g2 : ∀ r ∈ gone,∃ a b : Nat,r = [(a : Int),(b : Int)] /\ a < cs.length /\ b < cs.length := fun r hr => by
      obtain ⟨r0,h0,rfl⟩ := List.mem_map.mp (gp.mem_iff.mp hr)
      obtain ⟨a,b,ha,hb,rfl⟩ := sd_has h0
      exact ⟨b,a,rfl,hi f0 fm b hb,hi f0 fm a ha⟩
    have gsm : ∀ r ∈ gone,r.length = 2 /\ ∀ z ∈ r,SmallZ z := fun r hr => by
      obtain ⟨a,b,rfl,ha,hb⟩ := g2 r hr
      refine ⟨rfl,fun z hz => ?_⟩
      have hz : z = (a : Int) \/ z = (b : Int) := by simpa using hz
      unfold SmallZ
      omega
    walk_at "go"
    refine ⟨_,xs ++ ys,cs.length,rfl,by omega,nn,hi2,fun rows lk => ⟨noLs_rows _,?_⟩⟩
    have e := lack_one nn hi2 lk gk
    subst e
    walk_at "go"
    refine eqG_same (x := .lst (rows.map rowD)) 3 (by unfold fineD; exact fine_rows _) rfl (by decide) ?_
    walk_at "go"
    refine ⟨_,xs ++ ys,cs.length,rfl,by omega,nn,hi2,fun rows' lk' => ?_⟩
    have e := lack_one nn hi2 lk' gk
    subst e
    have ne : rows'.isEmpty = false := by cases rows' with | nil => simp at gl | cons r l => rfl
    rw [ne]
    walk_at "go"
    refine And.intro (by rw [List.length_map]; show _ + 1 <= 1000; omega) ?_
    have hi3 : ∀ f ∈ xs ++ ys ++ [f0.flip],∀ q,f.has q -> q < cs.length := fun f hf q hq => by
      rcases List.mem_append.mp hf with hf | hf
      · exact hi2 f hf q hq
      · rw [List.mem_singleton.mp hf] at hq
        refine hi f0 fm q ?_
        rcases hq with z | z | z
        · exact .inl z
        · exact .inr (.inr z)
        · exact .inr (.inl z)
    walk_at "go"
    have em : (xs ++ ys ++ [f0.flip]).map F3i.d = (xs ++ ys).map F3i.d ++ [f0.flip.d] := List.map_append
    refine ⟨_,xs ++ ys ++ [f0.flip],cs.length,by rw [em]; rfl,by rw [List.length_append]; show _ + 1 <= 42; omega,nn,hi3,fun rows lk => ⟨noLs_rows _,?_⟩⟩
    walk_at "go"
    refine And.intro (by rw [List.length_map]; omega) ?_
    rw [<- List.map_append]
    walk_at "go"
    refine ⟨rows' ++ rows',2,rfl,by decide,by rw [List.length_append]; omega,fun r hr => gsm r ((List.mem_append.mp hr).elim id id),fun two p2 s2 => ?_⟩
    have e := lack_one nn hi3 lk (turned_lack u cS (p2.trans (gp.append gp)) s2)
    subst e
    walk_at "go"
    refine eqG_same (x := .lst (rows.map rowD)) 3 (by unfold fineD; exact fine_rows _) rfl (by decide) ?_
    walk_at "go"
    refine And.intro (by rw [List.length_map]; show _ + 1 <= 1000; omega) ?_
    have hi4 : ∀ f ∈ fs ++ [f0],∀ q,f.has q -> q < cs.length := fun f hf => by
      rcases List.mem_append.mp hf with hf | hf
      · exact hi f hf
      · rw [List.mem_singleton.mp hf]
        exact hi f0 fm
    walk_at "go"
    refine ⟨_,fs ++ [f0],cs.length,by rw [List.map_append]; rfl,by rw [List.length_append]; show _ + 1 <= 42; omega,nn,hi4,fun rows lk => ⟨noLs_rows _,?_⟩⟩
    walk_at "go"
    refine And.intro (by rw [List.length_map]; omega) ?_
    refine comp_map swD (fun x Q hx hQ => ?_) (fun x hx => ?_) ?_
    · obtain ⟨r,hr,rfl⟩ := List.mem_map.mp hx
      obtain ⟨a,b,rfl,_,_⟩ := g2 r hr
      walk_at "go"
      exact hQ
    · obtain ⟨r,hr,rfl⟩ := List.mem_map.mp hx
      obtain ⟨a,b,rfl,_,_⟩ := g2 r hr
      rfl
    have esw : (rows'.map rowD).map swD = (rows'.map felR).map rowD := by
      rw [List.map_map,List.map_map]
      refine List.map_congr_left fun r hr => ?_
      obtain ⟨a,b,rfl,_,_⟩ := g2 r hr
      rfl
    rw [esw]
    walk_at "go"
    refine ⟨rows'.map felR,2,rfl,by decide,by rw [List.length_map]; omega,fun r hr => ?_,fun two p2 s2 => ?_⟩
    · obtain ⟨r0,h0,rfl⟩ := List.mem_map.mp hr
      obtain ⟨a,b,rfl,ha,hb⟩ := g2 r0 h0
      refine ⟨rfl,fun z hz => ?_⟩
      have hz : z = (b : Int) \/ z = (a : Int) := by simpa [felR] using hz
      unfold SmallZ
      omega
    have pp : two.Perm (sdR f0) := by
      have := p2.trans (gp.map felR)
      rw [List.map_map,show felR ∘ felR = id from funext felR_felR,List.map_id] at this
      exact this
    have e := lack_one nn hi4 lk (again_lack u cB pp s2)
    subst e
    walk_at "go"
    refine eqG_same (x := .lst (rows.map rowD)) 3 (by unfold fineD; exact fine_rows _) rfl (by decide) ?_
    exact hP
abbrev s__law_closed : Stmt := top 28
theorem sc__law_closed : FnScope ["_law_bag_here","_law_many","_law_corners","_law_i","_law_j","_law_k","_law_left","_law_top","_law_last","_law_faces"] ["_law_bag_here"] (defScope s__law_closed) := ⟨rfl,rfl,rfl,by decide +kernel,rfl,by decide +kernel,by decide +kernel⟩
def S_cls : DSp := fun ds P _ => ds = [.bag] /\ ∀ cs fs,ClB cs fs -> P (bdD cs fs)
structure C__law_closed (P : Program)(w : World)(K : PySem.W.Frag)(mg : Str -> Option Value)(base : Heap)(c : Cs) : Prop where
  _law_face_ : Callee P w K mg base CX0 "_law_face" 2 ["_law_bag_here","_law_many"] (liftSp K BT S_bfc)
  _law_digit_ : Callee P w K mg base CX0 "_law_digit" 1 ["_law_bag_here","_law_many"] (liftSp K BT S_digit)
  _law_corner_ : Callee P w K mg base CX0 "_law_corner" 2 ["_law_bag_here"] (liftSp K BT S_crn)
theorem ok__law_closed {P : Program}{w : World}{K : PySem.W.Frag}{mg : Str -> Option Value}{base : Heap}{f : Addr}{fd : FuncData}(F : Fun K "_law_closed" "_law_closed" s__law_closed f fd) (Z : Bi mg) {c : Cs} (Y : Ex K mg base c) (G : C__law_closed P w K mg base c) : FnOk P w K mg base CX0 3 f fd ["_law_bag_here"] (liftSp K BT S_cls) := by
  refine F.okD sc__law_closed (fun ds PP Ed h => ?_) (fun cdv A outer s H E M bg ds PP Ed hr hS_ => ?_)
  · obtain ⟨rfl,hP⟩ := h
    rfl
  · obtain ⟨rfl,hP⟩ := hS_
    refine ⟨_,(jdss_cons (jds_set (i := 1) sc__law_closed.nd rfl (by walk_at "o") (jde_op op_add od_I0 jde_int (jde_own G._law_digit_ (hr.mono (by decide)) rfl (jda_cons (jdv 0) (jda_cons jde_int jda_nil)))))
      (jdss_cons (jds_setC (X := (cxOf CX0 P w K mg base ["_law_bag_here","_law_many","_law_corners","_law_i","_law_j","_law_k","_law_left","_law_top","_law_last","_law_faces"] "_law_closed" (defScope s__law_closed) f cdv A outer s H E).nox) false (i := 2) sc__law_closed.nd rfl (by walk_at "o") (gd_name 0) (blkJ (X := (cxOf CX0 P w K mg base ["_law_bag_here","_law_many","_law_corners","_law_i","_law_j","_law_k","_law_left","_law_top","_law_last","_law_faces"] "_law_closed" (defScope s__law_closed) f cdv A outer s H E).nox) (N' := ["_law_k","_law_bag_here"]) (map := [none,some 0]) (by rfl) (by rfl) (by decide +kernel) (by rfl) ⟨⟨rfl,rfl,rfl,by walk_at "o"⟩,True.intro⟩ (gkeep_name rfl) fun cl0 C0 fp0 s0 H0 => ⟨(pg_name (X := (cxComp (cxOf CX0 P w K mg base ["_law_bag_here","_law_many","_law_corners","_law_i","_law_j","_law_k","_law_left","_law_top","_law_last","_law_faces"] "_law_closed" (defScope s__law_closed) f cdv A outer s H E).nox ["_law_k","_law_bag_here"] _ cl0 C0 fp0 s0 H0)) (i := 0) (nodupS ["_law_k","_law_bag_here"] (by decide +kernel)) rfl (by walk_at "o")),jdif_nil,(jde_own (X := (cxComp (cxOf CX0 P w K mg base ["_law_bag_here","_law_many","_law_corners","_law_i","_law_j","_law_k","_law_left","_law_top","_law_last","_law_faces"] "_law_closed" (defScope s__law_closed) f cdv A outer s H E).nox ["_law_k","_law_bag_here"] _ cl0 C0 fp0 s0 H0)) G._law_corner_ (hr.mono (by decide)) rfl (jda_cons (jdv 1) jda_nil))⟩) (jdi_range1 rfl Z.range_ (jda_cons (jdv 1) jda_nil)))
      (jdss_cons (jds_asg (gd_seq [3,4,5]) (jde_own G._law_face_ (hr.mono (by decide)) rfl (jda_cons (jdv 0) (jda_cons (jdv 1) jda_nil))) (PG.or (pg_tupK (n := 3) K (by rfl) (by rfl) (pgs_cons (pg_name (i := 3) sc__law_closed.nd rfl (by walk_at "o")) (pgs_cons (pg_name (i := 4) sc__law_closed.nd rfl (by walk_at "o")) (pgs_cons (pg_name (i := 5) sc__law_closed.nd rfl (by walk_at "o")) pgs_nil)))) (pg_lstK (n := 3) K (by rfl) (by rfl) (pgs_cons (pg_name (i := 3) sc__law_closed.nd rfl (by walk_at "o")) (pgs_cons (pg_name (i := 4) sc__law_closed.nd rfl (by walk_at "o")) (pgs_cons (pg_name (i := 5) sc__law_closed.nd rfl (by walk_at "o")) pgs_nil))))))
      (jdss_cons (jds_setC (X := (cxOf CX0 P w K mg base ["_law_bag_here","_law_many","_law_corners","_law_i","_law_j","_law_k","_law_left","_law_top","_law_last","_law_faces"] "_law_closed" (defScope s__law_closed) f cdv A outer s H E).nox) true (i := 6) sc__law_closed.nd rfl (by walk_at "o") (gd_name 0) (blkJ (X := (cxOf CX0 P w K mg base ["_law_bag_here","_law_many","_law_corners","_law_i","_law_j","_law_k","_law_left","_law_top","_law_last","_law_faces"] "_law_closed" (defScope s__law_closed) f cdv A outer s H E).nox) (N' := ["_law_one","_law_i","_law_j","_law_k"]) (map := [none,some 3,some 4,some 5]) (by rfl) (by rfl) (by decide +kernel) (by rfl) ⟨⟨rfl,rfl,rfl,by walk_at "o"⟩,⟨⟨rfl,rfl,rfl,by walk_at "o"⟩,⟨⟨rfl,rfl,rfl,by walk_at "o"⟩,True.intro⟩⟩⟩ (gkeep_name rfl) fun cl0 C0 fp0 s0 H0 => ⟨(pg_name (X := (cxComp (cxOf CX0 P w K mg base ["_law_bag_here","_law_many","_law_corners","_law_i","_law_j","_law_k","_law_left","_law_top","_law_last","_law_faces"] "_law_closed" (defScope s__law_closed) f cdv A outer s H E).nox ["_law_one","_law_i","_law_j","_law_k"] _ cl0 C0 fp0 s0 H0)) (i := 0) (nodupS ["_law_one","_law_i","_law_j","_law_k"] (by decide +kernel)) rfl (by walk_at "o")),(jdif_one (jdt_cmp (op_notinG K (by rfl) hr.units) od_inG (jdv 0) (jde_tup (jda_cons (jdv 1) (jda_cons (jdv 2) (jda_cons (jdv 3) jda_nil)))) (by with_unfolding_all rfl))),(jdv (X := (cxComp (cxOf CX0 P w K mg base ["_law_bag_here","_law_many","_law_corners","_law_i","_law_j","_law_k","_law_left","_law_top","_law_last","_law_faces"] "_law_closed" (defScope s__law_closed) f cdv A outer s H E).nox ["_law_one","_law_i","_law_j","_law_k"] _ cl0 C0 fp0 s0 H0)) 0)⟩) (jdi_range1 rfl Z.range_ (jda_cons (jdv 1) jda_nil)))
      (jdss_cons (jds_popN (i := 6) (j := 7) (by rfl) sc__law_closed.nd rfl (by walk_at "o") (jda_cons (jde_own G._law_digit_ (hr.mono (by decide)) rfl (jda_cons (jdv 0) (jda_cons (jde_callB (call_len_seqK K (by rfl)) cd_len rfl Z.len_ bt_len (jda_cons (jdv 6) jda_nil)) jda_nil))) jda_nil) (pe_bm PySem.F.plainAttrs_list PySem.F.slot_list_pop PySem.F.type_list_pop mt_popAt (pv 6) (JA.h (jda_cons (jde_own G._law_digit_ (hr.mono (by decide)) rfl (jda_cons (jdv 0) (jda_cons (jde_callB (call_len_seqK K (by rfl)) cd_len rfl Z.len_ bt_len (jda_cons (jdv 6) jda_nil)) jda_nil))) jda_nil))))
      (jdss_cons (jds_set (i := 8) sc__law_closed.nd rfl (by walk_at "o") (jde_ix (ix_any K (by rfl)) od_ix (jdv 6) (jde_own G._law_digit_ (hr.mono (by decide)) rfl (jda_cons (jdv 0) (jda_cons (jde_callB (call_len_seqK K (by rfl)) cd_len rfl Z.len_ bt_len (jda_cons (jdv 6) jda_nil)) jda_nil))) (fun _ _ => rfl)))
      (jdss_cons (jds_set (i := 9) sc__law_closed.nd rfl (by walk_at "o") (jde_lst (jda_cons (jde_tup (jda_cons (jdv 3) (jda_cons (jdv 5) (jda_cons (jdv 4) jda_nil)))) (jda_cons (jde_tup (jda_cons (jdv 3) (jda_cons (jdv 4) (jda_cons (jdv 7) jda_nil)))) (jda_cons (jde_tup (jda_cons (jdv 4) (jda_cons (jdv 5) (jda_cons (jdv 7) jda_nil)))) (jda_cons (jde_tup (jda_cons (jdv 5) (jda_cons (jdv 3) (jda_cons (jdv 7) jda_nil)))) jda_nil))))))
      (jdss_cons (jds_if (jdt_cmp op_eq od_eqS (jde_own G._law_digit_ (hr.mono (by decide)) rfl (jda_cons (jdv 0) (jda_cons jde_int jda_nil))) jde_int (nomark _)) (jdss_one (jds_set (i := 9) sc__law_closed.nd rfl (by walk_at "o") (jde_op op_cat od_cat (jde_slice (sl_any K (by rfl)) (jdv 9) (jdo_some jde_int) jdo_none) (jde_lst (jda_cons (jde_tup (jda_cons (jdv 4) (jda_cons (jdv 3) (jda_cons (jdv 8) jda_nil)))) (jda_cons (jde_tup (jda_cons (jdv 5) (jda_cons (jdv 4) (jda_cons (jdv 8) jda_nil)))) (jda_cons (jde_tup (jda_cons (jdv 3) (jda_cons (jdv 5) (jda_cons (jdv 8) jda_nil)))) jda_nil))))))) jdss_nil)
      (jdss_one (jds_ret (jde_tup (jda_cons (jdv 2) (jda_cons (jdv 9) jda_nil))))))))))))),?_⟩
    walk_at "go"
    refine ⟨_,64,rfl,by decide,Bd.num _ (by decide),by decide,fun mm mm0 mm1 => ?_⟩
    walk_at "go"
    obtain ⟨many,em,m5,m12⟩ : ∃ many : Nat,5 + mm = many /\ 5 <= many /\ many <= 12 := ⟨(5 + mm).toNat,by omega,by omega,by omega⟩
    rw [em]
    clear em mm0 mm1
    refine And.intro ⟨by omega,by omega⟩ ?_
    refine And.intro (by rw [rangeD_len]; omega) ?_
    refine comp_all (fun _ y => ∃ t : R3,t.sm /\ y = t.d) (fun k y Q e hQ => ?_) (fun k y ⟨t,_,h⟩ => by rw [h]; rfl) (fun acc hla ha => ?_)
    · walk_at "go"
      exact fun r hr => hQ _ ⟨r,hr,rfl⟩
    obtain ⟨cs,rfl,hcs⟩ := R3s_of (acc := acc) (fun y hy => by obtain ⟨k,ek⟩ := List.getElem?_of_mem hy; exact ha k y ek)
    rw [List.length_map,rangeD_len] at hla
    have hla : cs.length = many := by omega
    clear ha
    walk_at "go"
    refine ⟨many,rfl,by omega,by omega,fun f fo => ?_⟩
    walk_at "go"
    refine And.intro ⟨by omega,by omega⟩ ?_
    refine And.intro (by rw [rangeD_len]; omega) ?_
    have fi := fo.i
    have fj := fo.j
    have fk := fo.k
    have fij := fo.ij
    have fjk := fo.jk
    have fki := fo.ki
    refine ⟨fun n acc => Left [(f.i : Int),(f.j : Int),(f.k : Int)] n acc,Left.nil _,?_,?_⟩
    · rintro n x acc e hI
      obtain ⟨rfl,hn⟩ := rangeD_get e
      clear e
      rw [Int.zero_add]
      walk_at "go"
      refine inG_ints (ns := [(f.i : Int),(f.j : Int),(f.k : Int)]) (.inl rfl) ?_
      walk_at "go"
      by_cases z : (n : Int) ∈ [(f.i : Int),(f.j : Int),(f.k : Int)]
      · refine IfP.f (by simp [z]) ?_
        exact hI.skip z
      · refine IfP.t (by simp [z]) ?_
        walk_at "go"
        exact hI.add z
    · rintro acc hI
      rw [rangeD_len,Int.toNat_natCast] at hI
      have hl : many <= acc.length + 3 := hI.len
      have hl2 : acc.length <= many := by
        obtain ⟨ns,rfl,_,_,h⟩ := hI
        rw [List.length_map]; exact h
      have hmem : ∀ d ∈ acc,∃ t : Nat,d = .int t /\ t < many /\ t ≠ f.i /\ t ≠ f.j /\ t ≠ f.k := fun d hd => by
        obtain ⟨t,rfl,h1,h2⟩ := hI.mem hd
        simp only [List.mem_cons,List.not_mem_nil,or_false,not_or] at h1
        exact ⟨t,rfl,h2,by omega,by omega,by omega⟩
      clear hI
      walk_at "go"
      refine ⟨(acc.length : Int),64,rfl,by omega,Bd.of (by omega) (by omega),by decide,fun u u0 u1 => ?_⟩
      have hu : u.toNat < acc.length := by omega
      walk_at "go"
      refine And.intro ⟨u0,u1,by omega⟩ ?_
      rw [List.getElem?_eq_getElem hu]
      obtain ⟨t,et,t1,t2,t3,t4⟩ := hmem _ (List.getElem_mem hu)
      rw [et]
      have hme : ∀ d ∈ acc.eraseIdx u.toNat,d ∈ acc := fun d hd => (List.eraseIdx_sublist acc u.toNat).mem hd
      have hle : (acc.eraseIdx u.toNat).length = acc.length - 1 := List.length_eraseIdx_of_lt hu
      generalize acc.eraseIdx u.toNat = acc2 at *
      walk_at "go"
      refine ⟨(acc2.length : Int),64,rfl,by omega,Bd.of (by omega) (by omega),by decide,fun v v0 v1 => ?_⟩
      walk_at "go"
      refine ixm v0 v1 fun d md => ?_
      obtain ⟨l,rfl,l1,l2,l3,l4⟩ := hmem d (hme d md)
      walk_at "go"
      refine ⟨_,64,rfl,by decide,Bd.num _ (by decide),by decide,fun b b0 b1 => ?_⟩
      walk_at "go"
      by_cases z : b = 1
      · refine IfP.t (by simp [z]) ?_
        walk_at "go"
        refine hP cs [⟨f.i,f.j,t⟩,⟨f.j,f.k,t⟩,⟨f.k,f.i,t⟩,⟨f.j,f.i,l⟩,⟨f.k,f.j,l⟩,⟨f.i,f.k,l⟩] ⟨by omega,by omega,hcs,fun g hg => ?_,.inr ⟨f.i,f.j,f.k,t,l,rfl⟩⟩
        simp only [List.mem_cons,List.not_mem_nil,or_false] at hg
        rcases hg with rfl | rfl | rfl | rfl | rfl | rfl <;> exact ⟨by dsimp only; omega,by dsimp only; omega,by dsimp only; omega,by dsimp only; omega,by dsimp only; omega,by dsimp only; omega⟩
      · refine IfP.f (by simp [z]) ?_
        walk_at "go"
        refine hP cs [⟨f.i,f.k,f.j⟩,⟨f.i,f.j,t⟩,⟨f.j,f.k,t⟩,⟨f.k,f.i,t⟩] ⟨by omega,by omega,hcs,fun g hg => ?_,.inl ⟨f.i,f.j,f.k,t,rfl⟩⟩
        simp only [List.mem_cons,List.not_mem_nil,or_false] at hg
        rcases hg with rfl | rfl | rfl | rfl <;> exact ⟨by dsimp only; omega,by dsimp only; omega,by dsimp only; omega,by dsimp only; omega,by dsimp only; omega,by dsimp only; omega⟩
theorem flip_sh (n : Nat)(fs gs : List F3i) : (fs ++ gs.map (F3i.sh n)).map F3i.flip = fs.map F3i.flip ++ (gs.map F3i.flip).map (F3i.sh n) := by
  rw [List.map_append,List.map_map,List.map_map]
  rfl
def R3.tr (r : R3) : Tr := ⟨r.x,r.y,r.z⟩
def F3i.tr (f : F3i) : Tr := ⟨f.i,f.j,f.k⟩
theorem bd_tr (cs : List R3)(fs : List F3i) : bd (cs.map R3.tr) (fs.map F3i.tr) = bdD cs fs := by
  have e1 : (cs.map R3.tr).map Tr.d = cs.map R3.d := by rw [List.map_map]; rfl
  have e2 : (fs.map F3i.tr).map Tr.d = fs.map F3i.d := by rw [List.map_map]; rfl
  show D.tup [.lst ((cs.map R3.tr).map Tr.d),.lst ((fs.map F3i.tr).map Tr.d)] = _
  rw [e1,e2]
theorem body_ok {cs : List R3}{fs : List F3i}(h1 : cs.length <= 24)(h2 : fs.length <= 24)(sm : ∀ r ∈ cs,r.sm)(ok : ∀ f ∈ fs,f.ok cs.length) : bodyOk (cs.map R3.tr) (fs.map F3i.tr) = true := by
  unfold bodyOk
  rw [List.length_map,List.length_map,decide_eq_true h1,decide_eq_true h2]
  have a1 : (cs.map R3.tr).all crnOk = true := by
    rw [List.all_map]
    refine List.all_eq_true.mpr fun r hr => ?_
    have s := sm r hr
    have := s.x
    have := s.y
    have := s.z
    show crnOk r.tr = true
    unfold crnOk in6 R3.tr
    simp
    omega
  have a2 : ((fs.map F3i.tr).all fun f => facOk f cs.length) = true := by
    rw [List.all_map]
    refine List.all_eq_true.mpr fun f hf => ?_
    have o := ok f hf
    have := o.i
    have := o.j
    have := o.k
    have := o.ij
    have := o.jk
    have := o.ki
    show facOk f.tr cs.length = true
    unfold facOk F3i.tr
    simp
    omega
  rw [a1,a2]
  rfl
abbrev s_law : Stmt := top 31
theorem sc_law : FnScope ["_law_script","_law_k","_law_bag_here","_law_one","_law_other","_law_both"] ["_law_script"] (defScope s_law) := ⟨rfl,rfl,rfl,by decide +kernel,rfl,by decide +kernel,by decide +kernel⟩
def sp_law (K : PySem.W.Frag) : Sp := fun vs H Q _ => ∃ (a : Addr) (ns : List Int),vs = [.ref a] /\ SqL K H a (ns.map V.int) /\ ns.length <= 63 /\ ∀ H',Q (.bl true) H'
structure C_law (P : Program)(w : World)(K : PySem.W.Frag)(mg : Str -> Option Value)(base : Heap)(c : Cs) : Prop where
  _law_bag_ : Callee P w K mg base CX0 "_law_bag" 1 ["_law_script","_law_at"] (bagSp K BT pre_bag)
  _law_closed_ : Callee P w K mg base CX0 "_law_closed" 3 ["_law_bag_here"] (liftSp K BT S_cls)
  together_ : Callee P w K mg base (CX1 P w base) "together" 1 ["one","other"] (liftSpPX K BT (S_tog c K))
  _law_without_ : Callee P w K mg base CX0 "_law_without" 5 ["_law_body","_law_at"] (liftSp K BT S_wo)
  is_closed_ : Callee P w K mg base CX0 "is_closed" 4 ["body"] (liftSp K BT S_isc)
  lacking_ : Callee P w K mg base CX0 "lacking" 3 ["body"] (liftSpO K BT S_lacking)
  check_body_ : Callee P w K mg base (CX1 P w base) "check_body" 4 ["thing"] (liftSp K BT (S_chk c))
  inside_out_ : Callee P w K mg base (CX1 P w base) "inside_out" 1 ["body"] (liftSpPX K BT (S_io K))
  _law_digit_ : Callee P w K mg base CX0 "_law_digit" 1 ["_law_bag_here","_law_many"] (liftSp K BT S_digit)
  parts_ : Callee P w K mg base CX0 "parts" 4 ["body"] (liftSp K BT S_parts)
theorem ok_law {P : Program}{w : World}{K : PySem.W.Frag}{mg : Str -> Option Value}{base : Heap}{f : Addr}{fd : FuncData}(F : Fun K "law" "law" s_law f fd) (Z : Bi mg) {c : Cs} (Y : Ex K mg base c) (G : C_law P w K mg base c) : FnOk P w K mg base CX0 6 f fd ["_law_script"] (sp_law K) := by
  refine F.okL BT sc_law (fun cdv A outer s H E ns hr hlen => ?_)
  · refine ⟨_,(jdss_cons (jds_for (gd_name 1) PassesOwn.never rfl (jdi_range1 rfl Z.range_ (jda_cons (jde_callB (call_max2 (by rfl)) cd_2I rfl Z.max_ bt_max (jda_cons jde_int (jda_cons (jde_callB (call_min2 (by rfl)) cd_2I rfl Z.min_ bt_min (jda_cons (jde_callB (call_len_seqK K (by rfl)) cd_len rfl Z.len_ bt_len (jda_cons (jdv 0) jda_nil)) (jda_cons jde_int jda_nil))) jda_nil))) jda_nil)) (pg_name (i := 1) sc_law.nd rfl (by walk_at "o")) (jdss_cons (jds_bag (i := 2) rfl sc_law.nd rfl (by walk_at "o") G._law_bag_ (hr.mono (by decide)) rfl (jda_cons (jdv 0) (jda_cons (jdv 1) jda_nil)))
      (jdss_cons (jds_set (i := 3) sc_law.nd rfl (by walk_at "o") (jde_own G._law_closed_ (hr.mono (by decide)) rfl (jda_cons (jdv 2) jda_nil)))
      (jdss_cons (jds_set (i := 4) sc_law.nd rfl (by walk_at "o") (jde_own G._law_closed_ (hr.mono (by decide)) rfl (jda_cons (jdv 2) jda_nil)))
      (jdss_cons (jds_set (i := 5) sc_law.nd rfl (by walk_at "o") (jde_ownPX elink0 pass10 G.together_ (hr.mono (by decide)) rfl (jda_cons (jdv 3) (jda_cons (jdv 4) jda_nil))))
      (jdss_cons (jds_if (jdt_or (jdt_not (jdt_truth (by rfl) (jde_own G.is_closed_ (hr.mono (by decide)) rfl (jda_cons (jdv 3) jda_nil)) (fun _ => rfl))) (jdw_or (jdt_cmp (op_neG K (by rfl) hr.units) od_eqG (jde_ownO G.lacking_ (hr.mono (by decide)) rfl (jda_cons (jdv 5) jda_nil)) (jde_lst jda_nil) (nomark _)) (jdw_or (jdt_cmp op_ne od_neS (jde_callB (call_len_seqK K (by rfl)) cd_len rfl Z.len_ bt_len (jda_cons (jde_own G.parts_ (hr.mono (by decide)) rfl (jda_cons (jdv 5) jda_nil)) jda_nil)) jde_int (nomark _)) (jdw_or1 (jdt_cmp op_notN od_notN (jde_ownX elink0 pass10 G.check_body_ (hr.mono (by decide)) rfl (jda_cons (jdv 5) jda_nil)) jde_non (nomark _)))))) (jdss_one (jds_ret jde_bl)) jdss_nil)
      (jdss_cons (jds_if (jdt_or (jdt_cmp (op_neG K (by rfl) hr.units) od_eqG (jde_ownPX elink0 pass10 G.inside_out_ (hr.mono (by decide)) rfl (jda_cons (jdv 5) jda_nil)) (jde_ownPX elink0 pass10 G.together_ (hr.mono (by decide)) rfl (jda_cons (jde_ownPX elink0 pass10 G.inside_out_ (hr.mono (by decide)) rfl (jda_cons (jdv 3) jda_nil)) (jda_cons (jde_ownPX elink0 pass10 G.inside_out_ (hr.mono (by decide)) rfl (jda_cons (jdv 4) jda_nil)) jda_nil))) (nomark _)) (jdw_or1 (jdt_not (jdt_truth (by rfl) (jde_own G.is_closed_ (hr.mono (by decide)) rfl (jda_cons (jde_ownPX elink0 pass10 G.inside_out_ (hr.mono (by decide)) rfl (jda_cons (jdv 5) jda_nil)) jda_nil)) (fun _ => rfl))))) (jdss_one (jds_ret jde_bl)) jdss_nil)
      (jdss_one (jds_if (jdt_not (jdt_truth (by rfl) (jde_own G._law_without_ (hr.mono (by decide)) rfl (jda_cons (jdv 3) (jda_cons (jde_own G._law_digit_ (hr.mono (by decide)) rfl (jda_cons (jdv 2) (jda_cons (jde_callB (call_len_seqK K (by rfl)) cd_len rfl Z.len_ bt_len (jda_cons (jde_ix (ix_any K (by rfl)) od_ix (jdv 3) jde_int (fun _ _ => rfl)) jda_nil)) jda_nil))) jda_nil))) (fun _ => rfl))) (jdss_one (jds_ret jde_bl)) jdss_nil)))))))))
      (jdss_one (jds_ret jde_bl))),?_⟩
    walk_at "go"
    have n3 : ∀ m : Int,((fun i j => if j > i then j else i) 2 ((fun i j => if j < i then j else i) m 8) : Int) <= 8 := by intro m; dsimp only; split <;> split <;> omega
    have n0 : ∀ m : Int,2 <= ((fun i j => if j > i then j else i) 2 ((fun i j => if j < i then j else i) m 8) : Int) := by intro m; dsimp only; split <;> split <;> omega
    replace n3 := n3 ns.length
    replace n0 := n0 ns.length
    refine And.intro ⟨by omega,by omega⟩ ?_
    refine ⟨fun i ρ => ∃ v1 v2 v3 v4 v5,ρ = [some (.scr ns),v1,v2,v3,v4,v5],⟨_,_,_,_,_,rfl⟩,?_,?_⟩
    · rintro i x ρ e ⟨v1,v2,v3,v4,v5,rfl⟩
      obtain ⟨rfl,hi⟩ := rangeD_get e
      have hi6 : i < 8 := by omega
      clear e n3 n0
      rw [Int.zero_add]
      walk_at "go"
      refine ⟨⟨ns,i,rfl,by omega⟩,?_⟩
      walk_at "go"
      intro cs1 fs1 B1
      walk_at "go"
      intro cs2 fs2 B2
      have c1 := B1.l12
      have c2 := B2.l12
      have f1 := B1.sh.len
      have f2 := B2.sh.len
      have nbig : ¬ big cs1 cs2 fs1 fs2 := fun z => z.elim (fun z => by omega) fun z => by omega
      walk_at "go"
      refine ⟨cs1,cs2,fs1,fs2,rfl,⟨by omega,by omega,by omega,by omega⟩,fun z => absurd z nbig,fun _ p rs => ⟨p,rs,_,rfl,rfl,noL_bd (cs1 ++ cs2) (fs1 ++ fs2.map (F3i.sh cs1.length)),?_⟩⟩
      have cB : closedB (fs1 ++ fs2.map (F3i.sh cs1.length)) := closed_two B1.sh.closed (B2.sh.map _).closed
      have oks : ∀ f ∈ fs1 ++ fs2.map (F3i.sh cs1.length),f.ok (cs1 ++ cs2).length := fun f hf => by
        rw [List.length_append]
        rcases List.mem_append.mp hf with hf | hf
        · have o := B1.ok f hf
          exact ⟨by have := o.i; omega,by have := o.j; omega,by have := o.k; omega,o.ij,o.jk,o.ki⟩
        · obtain ⟨f0,h0,rfl⟩ := List.mem_map.mp hf
          have o := B2.ok f0 h0
          exact ⟨by have := o.i; show f0.i + _ < _; omega,by have := o.j; show f0.j + _ < _; omega,by have := o.k; show f0.k + _ < _; omega,fun z => o.ij (by have z : f0.i + cs1.length = f0.j + cs1.length := z; omega),fun z => o.jk (by have z : f0.j + cs1.length = f0.k + cs1.length := z; omega),fun z => o.ki (by have z : f0.k + cs1.length = f0.i + cs1.length := z; omega)⟩
      have sms : ∀ r ∈ cs1 ++ cs2,r.sm := fun r hr => (List.mem_append.mp hr).elim (B1.sm r) (B2.sm r)
      have lc : (cs1 ++ cs2).length <= 24 := by rw [List.length_append]; omega
      have lf : (fs1 ++ fs2.map (F3i.sh cs1.length)).length <= 24 := by rw [List.length_append,List.length_map]; omega
      have hb : ∀ f ∈ fs1 ++ fs2.map (F3i.sh cs1.length),∀ q,f.has q -> q < (cs1 ++ cs2).length := fun f hf => (oks f hf).lt
      have nil_of : ∀ {fs : List F3i} {n : Nat} {rows : List (List Int)},n <= 1000 -> (∀ f ∈ fs,∀ q,f.has q -> q < n) -> closedB fs -> Lack fs rows -> rows = [] := fun h1 h2 h3 h4 => lack_one h1 h2 h4 (closed_lack h3)
      walk_at "go"
      refine ⟨_,fs1,cs1.length,rfl,by omega,by omega,fun f hf => (B1.ok f hf).lt,fun rows lk => ?_⟩
      cases nil_of (by omega) (fun f hf => (B1.ok f hf).lt) B1.sh.closed lk
      walk_at "go"
      refine ⟨_,_,_,rfl,by omega,by omega,hb,fun rows lk => ⟨noLs_rows _,?_⟩⟩
      cases nil_of (by omega) hb cB lk
      walk_at "go"
      refine eqG_nilL 2 rfl ?_
      walk_at "go"
      have cp := comp_two (N := cs1.length) B1.sh (B2.sh.map cs1.length) (fun f hf => (B1.ok f hf).lt) (fun f hf q hq => by
        obtain ⟨f0,h0,rfl⟩ := List.mem_map.mp hf
        rcases hq with z | z | z
        · rw [z]; exact Nat.le_add_left ..
        · rw [z]; exact Nat.le_add_left ..
        · rw [z]; exact Nat.le_add_left ..)
      refine ⟨_,fs1,fs2.map (F3i.sh cs1.length),rfl,by omega,List.ne_nil_of_length_pos f1.1,List.ne_nil_of_length_pos (by rw [List.length_map]; exact f2.1),cp.1,cp.2,fun pa pb => ?_⟩
      walk_at "go"
      refine ⟨(cs1 ++ cs2).map R3.tr,(fs1 ++ fs2.map (F3i.sh cs1.length)).map F3i.tr,by rw [bd_tr]; rfl,List.ne_nil_of_length_pos (by rw [List.length_map,List.length_append]; have := B1.l5; omega),by rw [List.length_map]; omega,by rw [List.length_map]; omega,fun z => Bool.noConfusion (z.symm.trans (body_ok lc lf sms oks)),fun _ => ?_⟩
      walk_at "go"
      refine ⟨_,fs1 ++ fs2.map (F3i.sh cs1.length),rfl,by omega,fun p3 rs3 => ⟨p3,rs3,_,rfl,rfl,noL_bd (cs1 ++ cs2) ((fs1 ++ fs2.map (F3i.sh cs1.length)).map F3i.flip),?_⟩⟩
      walk_at "go"
      refine ⟨_,fs1,rfl,by omega,fun p4 rs4 => ⟨p4,rs4,_,rfl,rfl,noL_bd cs1 (fs1.map F3i.flip),?_⟩⟩
      walk_at "go"
      refine ⟨_,fs2,rfl,by omega,fun p5 rs5 => ⟨p5,rs5,_,rfl,rfl,noL_bd cs2 (fs2.map F3i.flip),?_⟩⟩
      walk_at "go"
      refine ⟨cs1,cs2,fs1.map F3i.flip,fs2.map F3i.flip,rfl,⟨by omega,by omega,by rw [List.length_map]; omega,by rw [List.length_map]; omega⟩,fun z => absurd z (fun z => by unfold big at z; rw [List.length_map,List.length_map] at z; omega),fun _ p6 rs6 => ⟨p6,rs6,_,rfl,rfl,noL_bd (cs1 ++ cs2) (fs1.map F3i.flip ++ (fs2.map F3i.flip).map (F3i.sh cs1.length)),?_⟩⟩
      walk_at "go"
      refine eqG_same (x := bdD (cs1 ++ cs2) ((fs1 ++ fs2.map (F3i.sh cs1.length)).map F3i.flip)) (y := bdD (cs1 ++ cs2) (fs1.map F3i.flip ++ (fs2.map F3i.flip).map (F3i.sh cs1.length))) 4 (fine_body _ _) (by rw [flip_sh]) (by decide) ?_
      walk_at "go"
      refine ⟨_,fs1 ++ fs2.map (F3i.sh cs1.length),rfl,by omega,fun p7 rs7 => ⟨p7,rs7,_,rfl,rfl,noL_bd (cs1 ++ cs2) ((fs1 ++ fs2.map (F3i.sh cs1.length)).map F3i.flip),?_⟩⟩
      walk_at "go"
      refine ⟨_,(fs1 ++ fs2.map (F3i.sh cs1.length)).map F3i.flip,(cs1 ++ cs2).length,rfl,by rw [List.length_map]; omega,by omega,flip_has hb,fun rows lk => ?_⟩
      cases nil_of (by omega) (flip_has hb) (closed_flip cB) lk
      walk_at "go"
      rw [show (fs1.map F3i.d).length = fs1.length from List.length_map ..]
      refine ⟨(fs1.length : Int),64,rfl,by omega,Bd.of (by omega) (by omega),by decide,fun u u0 u1 => ?_⟩
      obtain ⟨un,rfl⟩ : ∃ un : Nat,u = un := ⟨u.toNat,by omega⟩
      walk_at "go"
      refine ⟨cs1,fs1,un,rfl,by omega,B1,?_⟩
      walk_at "go"
      exact ⟨_,_,_,_,_,rfl⟩
    · rintro ρ ⟨v1,v2,v3,v4,v5,rfl⟩
      walk_at "go"
end K
set_option Elab.async false
set_option linter.all false
set_option maxRecDepth 100000
set_option maxHeartbeats 4000000
namespace K
open PySem L2
structure FnIn (K : PySem.W.Frag)(x : Str)(st : Stmt) : Prop where
  ex : ∃ (f : Addr) (fd : FuncData),PySem.W.nsIn K mainGlobals x = some (some (.ref f)) /\ Fun K x x st f fd
theorem fn_in {K : PySem.W.Frag}{x : Str}{st : Stmt}{f : Addr}{oc : Value}{od an : Option Addr}{osl : Array (Option Value)}{kV doc pm cdv ct : Value}(a : PySem.W.nsIn K mainGlobals x = some (some (.ref f)))(l : K.lookup f = some ⟨oc,od,.func (PySem.W.fnOf x x (defArgs st) (defBody st) (defScope st) .none kV doc pm an cdv ct),osl⟩)(c : PySem.W.codeIn K cdv x = true)(k : PySem.W.keepIn K (.ref f) = true) : FnIn K x st := ⟨⟨_,_,a,fun_mk l c k⟩⟩
local macro_rules | `(tactic| walk_at "b1") => `(tactic| exact fun _ _ _ _ _ _ us hl => match us,hl with | [_],_ => rfl)
local macro_rules | `(tactic| walk_at "b2") => `(tactic| exact fun _ _ _ _ _ _ us hl => match us,hl with | [_,_],_ => rfl)
theorem all_mk {l : PySem.W.OpenLaw}{w : World}{K : PySem.W.Frag}{h : Heap}{mg : Str -> Option Value}{fa : Addr}(X : K.In h)(G : h.Ns mainGlobals mg)(hfa : mg "law" = some (.ref fa))
    (h0 : FnIn K "_law_bag" s__law_bag)
    (h1 : FnIn K "_law_digit" s__law_digit)
    (h2 : FnIn K "_law_face" s__law_face)
    (h3 : FnIn K "_law_corner" s__law_corner)
    (h4 : FnIn K "_law_closed" s__law_closed)
    (h5 : FnIn K "together" s_together)
    (h6 : FnIn K "_law_fellows" s__law_fellows)
    (h7 : FnIn K "sides_of" s_sides_of)
    (h8 : FnIn K "side_counts" s_side_counts)
    (h9 : FnIn K "fellow" s_fellow)
    (h10 : FnIn K "lacking" s_lacking)
    (h11 : FnIn K "is_closed" s_is_closed)
    (h12 : FnIn K "_law_without" s__law_without)
    (h13 : FnIn K "is_whole" s_is_whole)
    (h14 : FnIn K "is_whole_tuple" s_is_whole_tuple)
    (h15 : FnIn K "is_corner" s_is_corner)
    (h16 : FnIn K "is_face" s_is_face)
    (h17 : FnIn K "check_body" s_check_body)
    (h18 : FnIn K "inside_out" s_inside_out)
    (h19 : FnIn K "are_joined" s_are_joined)
    (h20 : FnIn K "part_from" s_part_from)
    (h21 : FnIn K "parts" s_parts)
    (h22 : FnIn K "law" s_law)
    (z_abs : PySem.W.nsIn K mainGlobals "abs" = some none)
    (z_len : PySem.W.nsIn K mainGlobals "len" = some none)
    (z_max : PySem.W.nsIn K mainGlobals "max" = some none)
    (z_min : PySem.W.nsIn K mainGlobals "min" = some none)
    (z_range : PySem.W.nsIn K mainGlobals "range" = some none)
    (z_isinstance : PySem.W.nsIn K mainGlobals "isinstance" = some none)
    (z_int : PySem.W.nsIn K mainGlobals "int" = some none)
    (z_bool : PySem.W.nsIn K mainGlobals "bool" = some none)
    (z_tuple : PySem.W.nsIn K mainGlobals "tuple" = some none)
    (z_zip : PySem.W.nsIn K mainGlobals "zip" = some none)
    (z_sum : PySem.W.nsIn K mainGlobals "sum" = some none)
    (z_all : PySem.W.nsIn K mainGlobals "all" = some none)
    (z_any : PySem.W.nsIn K mainGlobals "any" = some none)
    (z_list : PySem.W.nsIn K mainGlobals "list" = some none)
    (z_sorted : PySem.W.nsIn K mainGlobals "sorted" = some none)
    (z_enumerate : PySem.W.nsIn K mainGlobals "enumerate" = some none)
    {t_MOST : Tok} (z_MOST : PySem.W.nsIn K mainGlobals "MOST" = some (some (.int 24 t_MOST)))
    {t_GREATEST_COORDINATE : Tok} (z_GREATEST_COORDINATE : PySem.W.nsIn K mainGlobals "GREATEST_COORDINATE" = some (some (.int 999999 t_GREATEST_COORDINATE)))
    {c_ShadeError : Addr} (e_ShadeError : PySem.W.nsIn K mainGlobals "ShadeError" = some (some (.ref c_ShadeError)))
    {c_NoBody : Addr} (e_NoBody : PySem.W.nsIn K mainGlobals "NoBody" = some (some (.ref c_NoBody)))
    {c_TooMany : Addr} (e_TooMany : PySem.W.nsIn K mainGlobals "TooMany" = some (some (.ref c_TooMany)))
    (q_NoBody : PySem.W.excIn K c_NoBody bmV "ValueError.__new__" = true) (x1_NoBody : PySem.W.findIn K (.ref c_NoBody) "__getattribute__" = some (some (.builtin "BaseException.__getattribute__"))) (x5_NoBody : PySem.W.findIn K (.ref c_NoBody) "__getattr__" = some none) (x6_NoBody : PySem.W.subIn K (.ref c_NoBody) (.type "BaseException") = some true) (x2_NoBody : PySem.W.findObj K c_NoBody none "__class__" = some (.bind (.builtin "getset_descriptor.__get__") (.builtin "object.__class__"))) (x3_NoBody : PySem.W.mroIn K c_NoBody (.type "object") = some true) (x4_NoBody : (PySem.W.clsIn K c_NoBody).isSome = true) (v_NoBody : PySem.W.subIn K (.ref c_NoBody) (.type "ValueError") = some true) (s_NoBody : PySem.W.subIn K (.ref c_NoBody) (.ref c_ShadeError) = some true)
    (n_NoBody_TooMany : PySem.W.kin_not K c_NoBody c_TooMany = true)
    (q_TooMany : PySem.W.excIn K c_TooMany bmV "ValueError.__new__" = true) (x1_TooMany : PySem.W.findIn K (.ref c_TooMany) "__getattribute__" = some (some (.builtin "BaseException.__getattribute__"))) (x5_TooMany : PySem.W.findIn K (.ref c_TooMany) "__getattr__" = some none) (x6_TooMany : PySem.W.subIn K (.ref c_TooMany) (.type "BaseException") = some true) (x2_TooMany : PySem.W.findObj K c_TooMany none "__class__" = some (.bind (.builtin "getset_descriptor.__get__") (.builtin "object.__class__"))) (x3_TooMany : PySem.W.mroIn K c_TooMany (.type "object") = some true) (x4_TooMany : (PySem.W.clsIn K c_TooMany).isSome = true) (v_TooMany : PySem.W.subIn K (.ref c_TooMany) (.type "ValueError") = some true) (s_TooMany : PySem.W.subIn K (.ref c_TooMany) (.ref c_ShadeError) = some true)
    (n_TooMany_NoBody : PySem.W.kin_not K c_TooMany c_NoBody = true)
    (xb1 : (PySem.W.clsIn K c_ShadeError).isSome = true) (xb2 : PySem.W.typeIn K (.ref c_ShadeError) = some (.type "type")) (xb3 : PySem.W.subIn K (.ref c_ShadeError) (.type "BaseException") = some true)
    : ∃ fd : FuncData,(∀ (s : Shared) (v : Value),BindsTo s fd ⟨[v],[]⟩ [("_law_script",v)]) /\ ∀ base : Heap,K.In base -> base.Ns mainGlobals mg -> FnOk l.prog w K mg base CX0 6 fa fd ["_law_script"] (sp_law K) := by
  obtain ⟨f0,d0,a0,F0⟩ := h0.ex
  obtain ⟨f1,d1,a1,F1⟩ := h1.ex
  obtain ⟨f2,d2,a2,F2⟩ := h2.ex
  obtain ⟨f3,d3,a3,F3⟩ := h3.ex
  obtain ⟨f4,d4,a4,F4⟩ := h4.ex
  obtain ⟨f5,d5,a5,F5⟩ := h5.ex
  obtain ⟨f6,d6,a6,F6⟩ := h6.ex
  obtain ⟨f7,d7,a7,F7⟩ := h7.ex
  obtain ⟨f8,d8,a8,F8⟩ := h8.ex
  obtain ⟨f9,d9,a9,F9⟩ := h9.ex
  obtain ⟨f10,d10,a10,F10⟩ := h10.ex
  obtain ⟨f11,d11,a11,F11⟩ := h11.ex
  obtain ⟨f12,d12,a12,F12⟩ := h12.ex
  obtain ⟨f13,d13,a13,F13⟩ := h13.ex
  obtain ⟨f14,d14,a14,F14⟩ := h14.ex
  obtain ⟨f15,d15,a15,F15⟩ := h15.ex
  obtain ⟨f16,d16,a16,F16⟩ := h16.ex
  obtain ⟨f17,d17,a17,F17⟩ := h17.ex
  obtain ⟨f18,d18,a18,F18⟩ := h18.ex
  obtain ⟨f19,d19,a19,F19⟩ := h19.ex
  obtain ⟨f20,d20,a20,F20⟩ := h20.ex
  obtain ⟨f21,d21,a21,F21⟩ := h21.ex
  obtain ⟨f22,d22,a22,F22⟩ := h22.ex
  have e := hfa.symm.trans (PySem.W.mg_of X G a22)
  cases e
  have Z : Bi mg := ⟨PySem.W.mg_none_of X G z_abs,PySem.W.mg_none_of X G z_len,PySem.W.mg_none_of X G z_max,PySem.W.mg_none_of X G z_min,PySem.W.mg_none_of X G z_range,PySem.W.mg_none_of X G z_isinstance,PySem.W.mg_none_of X G z_int,PySem.W.mg_none_of X G z_bool,PySem.W.mg_none_of X G z_tuple,PySem.W.mg_none_of X G z_zip,PySem.W.mg_none_of X G z_sum,PySem.W.mg_none_of X G z_all,PySem.W.mg_none_of X G z_any,PySem.W.mg_none_of X G z_list,PySem.W.mg_none_of X G z_sorted,PySem.W.mg_none_of X G z_enumerate,⟨_,PySem.W.mg_of X G z_MOST⟩,⟨_,PySem.W.mg_of X G z_GREATEST_COORDINATE⟩⟩
  have bl := F22.binds (ps := ["_law_script"]) fun _ _ _ _ _ _ us hl => match us,hl with | [_],_ => rfl
  obtain ⟨oc,od,kV,doc,pm,an,cdv,ct,osl,el,lk,hcd⟩ := F22.ex
  refine ⟨d22,fun s v => by rw [el]; exact .of_eq rfl,fun base kb gb => ?_⟩
  have Y : Ex K mg base ⟨c_ShadeError,c_NoBody,c_TooMany⟩ := ⟨PySem.W.mg_of X G e_ShadeError,PySem.W.mg_of X G e_NoBody,PySem.W.mg_of X G e_TooMany,own_K kb gb e_NoBody q_NoBody,⟨x1_NoBody,x5_NoBody,x2_NoBody,x3_NoBody,x4_NoBody,x6_NoBody⟩,v_NoBody,s_NoBody,n_NoBody_TooMany,own_K kb gb e_TooMany q_TooMany,⟨x1_TooMany,x5_TooMany,x2_TooMany,x3_TooMany,x4_TooMany,x6_TooMany⟩,v_TooMany,s_TooMany,n_TooMany_NoBody,⟨xb1,xb2,xb3⟩⟩
  have G0 := Callee.mk' F0 (ok__law_bag (P := l.prog) (w := w) (base := base) F0 Z Y) (PySem.W.mg_of X G a0) (F0.binds (by walk_at "b2"))
  have G1 := Callee.mk' F1 (ok__law_digit (P := l.prog) (w := w) (base := base) F1 Z Y) (PySem.W.mg_of X G a1) (F1.binds (by walk_at "b2"))
  have G2 := Callee.mk' F2 (ok__law_face (P := l.prog) (w := w) (base := base) F2 Z Y ⟨G1⟩) (PySem.W.mg_of X G a2) (F2.binds (by walk_at "b2"))
  have G3 := Callee.mk' F3 (ok__law_corner (P := l.prog) (w := w) (base := base) F3 Z Y ⟨G1⟩) (PySem.W.mg_of X G a3) (F3.binds (by walk_at "b1"))
  have G4 := Callee.mk' F4 (ok__law_closed (P := l.prog) (w := w) (base := base) F4 Z Y ⟨G2,G1,G3⟩) (PySem.W.mg_of X G a4) (F4.binds (by walk_at "b1"))
  have G5 := Callee.mk' F5 (ok_together (P := l.prog) (w := w) (base := base) F5 Z Y) (PySem.W.mg_of X G a5) (F5.binds (by walk_at "b2"))
  have G6 := Callee.mk' F6 (ok__law_fellows (P := l.prog) (w := w) (base := base) F6 Z Y) (PySem.W.mg_of X G a6) (F6.binds (by walk_at "b1"))
  have G7 := Callee.mk' F7 (ok_sides_of (P := l.prog) (w := w) (base := base) F7 Z Y) (PySem.W.mg_of X G a7) (F7.binds (by walk_at "b1"))
  have G8 := Callee.mk' F8 (ok_side_counts (P := l.prog) (w := w) (base := base) F8 Z Y ⟨G7⟩) (PySem.W.mg_of X G a8) (F8.binds (by walk_at "b1"))
  have G9 := Callee.mk' F9 (ok_fellow (P := l.prog) (w := w) (base := base) F9 Z Y) (PySem.W.mg_of X G a9) (F9.binds (by walk_at "b1"))
  have G10 := Callee.mk' F10 (ok_lacking (P := l.prog) (w := w) (base := base) F10 Z Y ⟨G8,G9⟩) (PySem.W.mg_of X G a10) (F10.binds (by walk_at "b1"))
  have G11 := Callee.mk' F11 (ok_is_closed (P := l.prog) (w := w) (base := base) F11 Z Y ⟨G10⟩) (PySem.W.mg_of X G a11) (F11.binds (by walk_at "b1"))
  have G12 := Callee.mk' F12 (ok__law_without (P := l.prog) (w := w) (base := base) F12 Z Y ⟨G6,G11,G10⟩) (PySem.W.mg_of X G a12) (F12.binds (by walk_at "b2"))
  have G13 := Callee.mk' F13 (ok_is_whole (P := l.prog) (w := w) (base := base) F13 Z Y) (PySem.W.mg_of X G a13) (F13.binds (by walk_at "b1"))
  have G14 := Callee.mk' F14 (ok_is_whole_tuple (P := l.prog) (w := w) (base := base) F14 Z Y ⟨G13⟩) (PySem.W.mg_of X G a14) (F14.binds (by walk_at "b2"))
  have G15 := Callee.mk' F15 (ok_is_corner (P := l.prog) (w := w) (base := base) F15 Z Y ⟨G14⟩) (PySem.W.mg_of X G a15) (F15.binds (by walk_at "b1"))
  have G16 := Callee.mk' F16 (ok_is_face (P := l.prog) (w := w) (base := base) F16 Z Y ⟨G14⟩) (PySem.W.mg_of X G a16) (F16.binds (by walk_at "b2"))
  have G17 := Callee.mk' F17 (ok_check_body (P := l.prog) (w := w) (base := base) F17 Z Y ⟨G15,G16⟩) (PySem.W.mg_of X G a17) (F17.binds (by walk_at "b1"))
  have G18 := Callee.mk' F18 (ok_inside_out (P := l.prog) (w := w) (base := base) F18 Z Y) (PySem.W.mg_of X G a18) (F18.binds (by walk_at "b1"))
  have G19 := Callee.mk' F19 (ok_are_joined (P := l.prog) (w := w) (base := base) F19 Z Y ⟨G7,G9⟩) (PySem.W.mg_of X G a19) (F19.binds (by walk_at "b2"))
  have G20 := Callee.mk' F20 (ok_part_from (P := l.prog) (w := w) (base := base) F20 Z Y ⟨G19⟩) (PySem.W.mg_of X G a20) (F20.binds (by walk_at "b2"))
  have G21 := Callee.mk' F21 (ok_parts (P := l.prog) (w := w) (base := base) F21 Z Y ⟨G20⟩) (PySem.W.mg_of X G a21) (F21.binds (by walk_at "b1"))
  exact ok_law (P := l.prog) (w := w) (base := base) F22 Z Y ⟨G0,G4,G5,G12,G11,G10,G17,G18,G1,G21⟩
theorem walk {l : PySem.W.OpenLaw}{q : Program}{loose : List Str}{XP : (Str -> Option Value) -> Heap -> Prop}{YP : World -> Heap -> Prop}{d : DefRec}{K : Params -> PySem.W.Frag}(hn : l.most = some 63)(hdf : d.params.defaults = [])
    (hY : ∀ (w : World) (h : Heap),YP w h -> (K w.params).In h)
    (F : ∀ (w : World) (mg : Str -> Option Value) (fa : Addr) (h : Heap),(K w.params).In h -> h.Ns mainGlobals mg -> mg d.name = some (.ref fa) ->
      ∃ fd : FuncData,(∀ (s : Shared) (u : Value),BindsTo s fd ⟨[u],[]⟩ [("_law_script",u)]) /\ ∀ base : Heap,(K w.params).In base -> base.Ns mainGlobals mg -> FnOk l.prog w (K w.params) mg base CX0 6 fa fd ["_law_script"] (sp_law (K w.params))) :
    PySem.W.WalkO q loose XP YP l.row.toRowW d [] (fun f vs => PySem.call f vs) :=
  L2.walk_of (n := 63) (k := 6) (x := "_law_script") (CX := fun _ => CX0) (sp := fun w => sp_law (K w.params)) hn (by decide) hdf ⟨rfl,by decide,by decide⟩ hY F (fun _ _ a ns hl _ hS => ⟨a,ns,rfl,hS,hl,fun _ => rfl⟩) fun _ _ _ _ _ z => z
end K
open PySem PySem.W PyProof.Rows
theorem PySem.W.Fast.tw1311801794573211067 : True := trivial
theorem PySem.W.Fast.tw3947754656420997721 : True := trivial
theorem PySem.W.Fast.tw4191714541822078008 : True := trivial
theorem PySem.W.Fast.tw17370785928633770134 : True := trivial
theorem PySem.W.Fast.tw16777112346228353876 : True := trivial
theorem PySem.W.Fast.tw10191598712871485681 : True := trivial
theorem PySem.W.Fast.tw7211016012603341294 : True := trivial
theorem PySem.W.Fast.tw13258869035555986700 : True := trivial
theorem PySem.W.Fast.tw5200819161573291978 : True := trivial
theorem PySem.W.Fast.tw495243520222493608 : True := trivial
theorem PySem.W.Fast.tw9788934448120689160 : True := trivial
theorem PySem.W.Fast.tw13694869926879559112 : True := trivial
theorem PySem.W.Fast.tw9499063647964986054 : True := trivial
theorem PySem.W.Fast.tw9965544942444189990 : True := trivial
theorem PySem.W.Fast.tw8952487711959439585 : True := trivial
theorem PySem.W.Fast.tw13636354533733346686 : True := trivial
local macro_rules | `(tactic| walk_at "fn") => `(tactic| (refine' _root_.K.fn_in ?a ?l ?c ?k; (case a => k_is); (case l => k_is); (case c => k_is); (case k => k_is)))
set_option maxRecDepth 100000 in
set_option maxHeartbeats 0 in
theorem PySem.Challenge.cw_onceshade_k13_whole_closed_bodies_holds : PySem.Challenge.rw_onceshade_k13_whole_closed_bodies.Holds := by
  w_on; o_law; k_head; (case hw => w_witness2)
  k_fill
  refine K.walk (l := PySem.Challenge.rw_onceshade_k13_whole_closed_bodies) rfl rfl (fun w h Y => PySem.W.kIn_of Y) ?F
  case F =>
    intro w mg fa h KX G hmg
    refine' K.all_mk KX G hmg ?h0 ?h1 ?h2 ?h3 ?h4 ?h5 ?h6 ?h7 ?h8 ?h9 ?h10 ?h11 ?h12 ?h13 ?h14 ?h15 ?h16 ?h17 ?h18 ?h19 ?h20 ?h21 ?h22 ?z_abs ?z_len ?z_max ?z_min ?z_range ?z_isinstance ?z_int ?z_bool ?z_tuple ?z_zip ?z_sum ?z_all ?z_any ?z_list ?z_sorted ?z_enumerate ?z_MOST ?z_GREATEST_COORDINATE ?e_ShadeError ?e_NoBody ?e_TooMany ?q_NoBody ?x1_NoBody ?x5_NoBody ?x6_NoBody ?x2_NoBody ?x3_NoBody ?x4_NoBody ?v_NoBody ?s_NoBody ?n_NoBody_TooMany ?q_TooMany ?x1_TooMany ?x5_TooMany ?x6_TooMany ?x2_TooMany ?x3_TooMany ?x4_TooMany ?v_TooMany ?s_TooMany ?n_TooMany_NoBody ?xb1 ?xb2 ?xb3
    (case h0 => walk_at "fn")
    (case h1 => walk_at "fn")
    (case h2 => walk_at "fn")
    (case h3 => walk_at "fn")
    (case h4 => walk_at "fn")
    (case h5 => walk_at "fn")
    (case h6 => walk_at "fn")
    (case h7 => walk_at "fn")
    (case h8 => walk_at "fn")
    (case h9 => walk_at "fn")
    (case h10 => walk_at "fn")
    (case h11 => walk_at "fn")
    (case h12 => walk_at "fn")
    (case h13 => walk_at "fn")
    (case h14 => walk_at "fn")
    (case h15 => walk_at "fn")
    (case h16 => walk_at "fn")
    (case h17 => walk_at "fn")
    (case h18 => walk_at "fn")
    (case h19 => walk_at "fn")
    (case h20 => walk_at "fn")
    (case h21 => walk_at "fn")
    (case h22 => walk_at "fn")
    (case z_abs => k_is)
    (case z_len => k_is)
    (case z_max => k_is)
    (case z_min => k_is)
    (case z_range => k_is)
    (case z_isinstance => k_is)
    (case z_int => k_is)
    (case z_bool => k_is)
    (case z_tuple => k_is)
    (case z_zip => k_is)
    (case z_sum => k_is)
    (case z_all => k_is)
    (case z_any => k_is)
    (case z_list => k_is)
    (case z_sorted => k_is)
    (case z_enumerate => k_is)
    (case z_MOST => k_is)
    (case z_GREATEST_COORDINATE => k_is)
    (case e_ShadeError => k_is)
    (case e_NoBody => k_is)
    (case e_TooMany => k_is)
    (case q_NoBody => k_exc)
    (case x1_NoBody => kernel_rfl)
    (case x5_NoBody => kernel_rfl)
    (case x6_NoBody => kernel_rfl)
    (case x2_NoBody => kernel_rfl)
    (case x3_NoBody => kernel_rfl)
    (case x4_NoBody => kernel_rfl)
    (case v_NoBody => kernel_rfl)
    (case s_NoBody => kernel_rfl)
    (case n_NoBody_TooMany => kernel_rfl)
    (case q_TooMany => k_exc)
    (case x1_TooMany => kernel_rfl)
    (case x5_TooMany => kernel_rfl)
    (case x6_TooMany => kernel_rfl)
    (case x2_TooMany => kernel_rfl)
    (case x3_TooMany => kernel_rfl)
    (case x4_TooMany => kernel_rfl)
    (case v_TooMany => kernel_rfl)
    (case s_TooMany => kernel_rfl)
    (case n_TooMany_NoBody => kernel_rfl)
    (case xb1 => kernel_rfl)
    (case xb2 => kernel_rfl)
    (case xb3 => kernel_rfl)
