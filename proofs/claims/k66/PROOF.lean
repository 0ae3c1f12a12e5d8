import PyProof.Rows.All
import Wide.All
import OpenK.AllK
import Wide.FinOn
import Lean
import PyProof.EqAt
import PyProof.EqKinds
import PyProof.TupleCall
import PySem.Challenge.RW_onceshade_k66_papers_of_dots
set_option Elab.async false
set_option linter.all false
set_option maxRecDepth 100000
def B0:=@PySem.wpAny_bind
def B1:=@PySem.Heap.get?_push_of_some
def B2:=@List.mem_append_right
def B3:=@PySem.W.mg_of
def B4:=@List.mem_cons
def B5:=@PySem.Heap.lt_size
def B6:=@List.getElem?_eq_some_iff
def B7:=@Bool.false_ne_true
def B8:=@List.not_mem_nil
def B9:=@Nat.le_refl
def L0:=@List.length_map
def L1:=@PySem.wpAny_pure
def L3:=@List.size_toArray
def L4:=@List.getElem?_eq_getElem
def L5:=@Bool.and_eq_true
def L6:=@List.getElem?_set_ne
def L7:=@Nat.lt_of_lt_of_le
def L8:=@Option.map_eq_some_iff
def L9:=@Nat.lt_irrefl
def M1:=@Nat.le_of_ble_eq_true
def M3:=@List.mem_of_getElem?
def M4:=@List.mem_cons_self
def M5:=@List.getElem?_set
def M6:=@PySem.Heap.get?_push_size
def M7:=@Nat.le_trans
def M8:=@PySem.W.mg_none_of
def M9:=@List.getElem?_map
def R0:=@List.mem_singleton
def R1:=@List.lookup_cons
def R3:=@or_false
def R4:=@List.mem_append_left
def R5:=@List.all_eq_true
def R6:=@decide_eq_true
def R7:=@Nat.ne_of_lt
def R8:=@Int.mul_le_mul_of_nonneg_left
def R9:=@decide_eq_false
def T0:=@of_decide_eq_true
def T1:=@Bool.bne_false
def T4:=@PySem.PassesOwn.never
def T5:=@List.mem_cons_of_mem
def T6:=@PySem.wpAny_mono
def T7:=@PySem.W.kia_one
def T8:=@List.mem_append
def T9:=@Nat.lt_succ_self
def U0:=@PySem.wpAny_field
def U1:=@PySem.mem_of_lookup
def U2:=@PySem.Heap.get?_update_other
def U3:=@PySem.wpAny_newObj_type
def U4:=@List.length_append
def U5:=@List.length_cons
def U6:=@List.getElem_mem
def U7:=@List.map_cons
def U8:=@Bool.true_and
def U9:=@Int.gcd_dvd_right
def W0:=@Int.emod_lt_of_pos
def W1:=@Nat.zero_le
def W3:=@PySem.F.plainAttrs_list
def W4:=@Nat.lt_of_succ_lt
def W5:=@PySem.Heap.size_push
def W6:=@PySem.wpAny_holding
def W7:=@List.length_set
def W8:=@Int.emod_nonneg
def W9:=@congrArg
def E1:=@List.all_cons
def E2:=@PySem.pushCells_keeps
def E3:=@Option.bind_eq_some_iff
def E4:=@Int.gcd_dvd_left
def E5:=@PySem.wpAny_standAt
def E6:=@List.take_of_length_le
def E7:=@List.append_nil
def E8:=@Bool.eq_iff_iff
def E9:=@Int.dvd_trans
def I0:=@decide_eq_true_eq
def D0:=@PyProof.Rows.callWith_type1
def D1:=@PySem.wpAny_passesOwn
def D2:=@Int.fmod_eq_emod_of_nonneg
def D3:=@Nat.ne_of_gt
def D4:=@List.length_take
def D5:=@PySem.Heap.get?_update_self
def D6:=@PySem.wpAny_truthy_bool
def D7:=@List.getElem?_append_left
def D8:=@List.drop_eq_getElem_cons
def D9:=@Int.mul_neg_of_pos_of_neg
def B0a:=@PySem.wpAny_seqItems
def B0b:=@PySem.F.slot_tuple_iterator_next
def B0c:=@PySem.W.kia_tup
def B0d:=@List.map_append
def B0e:=@beq_iff_eq
def B0f:=@Ne.symm
def B0g:=@PySem.wpAny_setField_rec
def B0h:=@PyProof.Rows.slot_tuple_getitem
def B0i:=@PySem.Obj.data_mapFields
def B0j:=@List.length_drop
def B0k:=@Nat.log2_lt
def B0l:=@PySem.Obj.isFreed_of_fields
def B0m:=@Int.fdiv_mul_cancel
def B0n:=@Int.ediv_mul_cancel
def B0o:=@PySem.wpAny_call_entry
def B0p:=@List.mem_map
def B0q:=@Int.le_of_lt
def B0r:=@Option.toList_some
def B0s:=@List.getElem?_append_right
def B0t:=@Int.mul_nonneg
def B0u:=@List.take_add_one
def B0v:=@Int.toNat_natCast
def B0w:=@Int.gcd_mul_right
def B0x:=@PySem.F.type_list_append
def B0y:=@PySem.F.slot_list_append
def B0z:=@Option.isSome_iff_exists
def B1a:=@PySem.wpAny_Call_Name_kw
def B1b:=@PySem.W.cellsFrom_some
def B1c:=@Nat.le_of_lt
def B1d:=@PySem.wpAny_pyIter_list
def B1e:=@List.nodup_cons
def B1f:=@List.forIn_cons
def B1g:=@List.getElem?_of_mem
def B1h:=@Int.mul_pos
def B1i:=@List.filterMap_cons
def B1j:=@Array.length_toList
abbrev Fg:=PySem.W.Frag
variable {P:PySem.Program}{K:Fg}{mg:PySem.Str->Option PySem.Value}{base:PySem.Heap}{fd:PySem.FuncData}{b:Option PySem.Addr}{M:PySem.Addr->Prop}
namespace L2
open PySem PySem.Spec PyProof.Rows
abbrev Key:=Sum Int Str
def J6v:Key->Value->Bool
 | .inl k,v=>Value.isInt k v
 | .inr x,v=>Value.isStrOf x v
def Q4k (w:World):Key->Int
 | .inl k=>hashInt k
 | .inr x=>hashStr w x
theorem AZ:∀ {k:Key} {v:Value},J6v k v=true->(∃ i t,k=Sum.inl i/\v=Value.int i t)\/(∃ x t,k=Sum.inr x/\v=Value.str x t)
 | .inl i,v,h=>by
   obtain ⟨t,e⟩:=Value.isInt_shape (k:=i) (v:=v) h
   exact .inl ⟨i,t,rfl,e⟩
 | .inr x,v,h=>by
   obtain ⟨t,e⟩:=Value.isStrOf_shape (x:=x) (v:=v) h
   exact .inr ⟨x,t,rfl,e⟩
theorem J9f (a b:Int):decide ((Sum.inl a:Key)=Sum.inl b)=(a==b):=by
 by_cases e:a=b
 · subst e;simp
 · have h:¬ (Sum.inl a:Key)=Sum.inl b:=fun q=>e (Sum.inl.inj q)
   rw [R9 h]
   exact (beq_eq_false_iff_ne.mpr e).symm
theorem J9c (a b:Str):decide ((Sum.inr a:Key)=Sum.inr b)=decide (a=b):=by
 by_cases e:a=b
 · subst e;simp
 · have h:¬ (Sum.inr a:Key)=Sum.inr b:=fun q=>e (Sum.inr.inj q)
   rw [R9 h,R9 e]
theorem J9e (a:Int)(b:Str):decide ((Sum.inl a:Key)=Sum.inr b)=false:=R9 (fun q=>nomatch q)
theorem J9d (a:Str)(b:Int):decide ((Sum.inr a:Key)=Sum.inl b)=false:=R9 (fun q=>nomatch q)
def QH (prog:Program)(w:World):PySem.KeyKind prog w Key where
 is:=J6v
 hash:=Q4k w
 inj:=fun v a b ha hb=>by
  rcases AZ ha with ⟨i,t,rfl,rfl⟩|⟨x,t,rfl,rfl⟩
  · rcases AZ hb with ⟨j,u,rfl,e⟩|⟨y,u,rfl,e⟩
    · injection e with e1 _;rw [e1]
    · exact nomatch e
  · rcases AZ hb with ⟨j,u,rfl,e⟩|⟨y,u,rfl,e⟩
    · exact nomatch e
    · injection e with e1 _;rw [e1]
 byValue:=fun k v h=>by
  rcases AZ h with ⟨i,t,rfl,rfl⟩|⟨x,t,rfl,rfl⟩<;>rfl
 pyHash:=fun hv h=>by
  rcases AZ hv with ⟨i,t,rfl,rfl⟩|⟨x,t,rfl,rfl⟩
  · exact wpAny_pyHash_int h
  · exact wpAny_pyHash_str h
 eqBool:=fun hu hv h=>by
  rcases AZ hu with ⟨i,t,rfl,rfl⟩|⟨x,t,rfl,rfl⟩
  · rcases AZ hv with ⟨j,u,rfl,rfl⟩|⟨y,u,rfl,rfl⟩
    · rw [J9f] at h;exact wpAny_eqBool_int h
    · rw [J9e] at h;exact SeqAt.EqAt.int_str i t y u _ _ _ _ h
  · rcases AZ hv with ⟨j,u,rfl,rfl⟩|⟨y,u,rfl,rfl⟩
    · rw [J9d] at h;exact SeqAt.EqAt.str_int x t j u _ _ _ _ h
    · rw [J9c] at h;exact wpAny_eqBool_str h
 «strs»:=fun k x t v h=>by
  rcases AZ h with ⟨i,u,rfl,e⟩|⟨y,u,rfl,e⟩
  · exact nomatch e
  · injection e with e1 _
    subst e1
    cases v<;>rfl
inductive V where
 | non|bl (b:Bool)|int (i:Int)|str (x:Str)|byt (b:Array UInt8)|flt (b:UInt64)|ref (a:Addr)|ty (n:String)
 deriving DecidableEq
def RelV:V->Value->Prop
 | .non,u=>u=Value.none
 | .bl b,u=>u=Value.bool b
 | .int i,u=>∃ t,u=Value.int i t
 | .str x,u=>∃ t,u=Value.str x t
 | .byt b,u=>∃ t,u=Value.bytes b t
 | .flt b,u=>∃ t,u=Value.float b t
 | .ref a,u=>u=Value.ref a
 | .ty n,u=>u=Value.type n
abbrev Vals:List V->List Value->Prop:=Paired RelV
theorem Vals.length {xs:List V}{us:List Value}(r:Vals xs us):xs.length=us.length:=Paired.length r
theorem Vals.get:∀ {xs:List V} {us:List Value} {i:Nat} {x:V},Vals xs us->xs[i]?=some x->∃ u,us[i]?=some u/\RelV x u
 | _,_,_,_,.nil,e=>by simp at e
 | _,_,0,_,.cons r _,e=>by simp at e;subst e;exact ⟨_,rfl,r⟩
 | _,_,i+1,x,.cons _ t,e=>by
   obtain ⟨u,h1,h2⟩:=Vals.get (i:=i) (x:=x) t (by simpa using e)
   exact ⟨u,by simpa using h1,h2⟩
theorem Vals.set {x:V}{u:Value}(r:RelV x u):∀ {xs:List V} {us:List Value} (i:Nat),Vals xs us->Vals (xs.set i x) (us.set i u)
 | _,_,_,.nil=>.nil
 | _,_,0,.cons _ t=>.cons r t
 | _,_,i+1,.cons q t=>.cons q (Vals.set r i t)
theorem Vals.append:∀ {xs ys:List V} {us ws:List Value},Vals xs us->Vals ys ws->Vals (xs++ys) (us++ws)
 | _,_,_,_,.nil,s=>s
 | _,_,_,_,.cons r t,s=>.cons r (Vals.append t s)
theorem Vals.take:∀ {xs:List V} {us:List Value} (n:Nat),Vals xs us->Vals (xs.take n) (us.take n)
 | _,_,0,_=>.nil
 | _,_,_+1,.nil=>.nil
 | _,_,n+1,.cons r t=>.cons r (Vals.take n t)
theorem Vals.drop:∀ {xs:List V} {us:List Value} (n:Nat),Vals xs us->Vals (xs.drop n) (us.drop n)
 | _,_,0,r=>r
 | _,_,_+1,.nil=>.nil
 | _,_,n+1,.cons _ t=>Vals.drop n t
def Q1j:Option V->Option Value->Prop
 | some v,some u=>RelV v u
 | none,none=>True
 | _,_=>False
def KV {κ:Type}:List (κ×V)->List (κ×Value)->Prop:=Paired fun (p:κ×V) (q:κ×Value)=>p.1=q.1/\RelV p.2 q.2
def kV:Key->V
 | .inl i=>.int i
 | .inr x=>.str x
inductive HO where
 | lst (xs:List V)
 | tup (xs:List V)
 | dK (kvs:List (Key×V))|dT (kvs:List (List Key×V))
 | set (S:Int->Bool) (n:Nat)
 | ins (C dx:Addr) (fs:List (Str×V))
 | own (x:Addr)
 | xd (fs:List (Str×V))
 | met (f x:Addr)
 | rng (lo hi:Int)
 | frz (o:Obj) (u:HO)
 | tbl (ps:Array Value)
 | cod (q:Str)
 | ext (φ:Heap->Prop)
abbrev Hp:=Addr->Option HO
def upd (H:Hp)(a:Addr)(o:HO):Hp:=fun b=>if b=a then some o else H b
theorem AM {H:Hp}{a:Addr}{o:HO}:upd H a o a=some o:=by unfold upd;rw [if_pos rfl]
theorem V7 {H:Hp}{a b:Addr}{o:HO}(h:b≠a):upd H a o b=H b:=by unfold upd;rw [if_neg h]
theorem J1d {H:Hp}{a b:Addr}{o u:HO}(h:H a=some o)(h':H b=some u)(d:o≠u):a≠b:=by
 intro e;subst e;rw [h] at h';exact d (Option.some.inj h')
theorem Y2 {H:Hp}{a b:Addr}{o:HO}(h:H a=some o)(h':H b=none):a≠b:=by
 intro e;subst e;rw [h] at h';cases h'
section
variable (P:Program) (w:World)
def ObjOk (H:Hp)(h:Heap)(a:Addr):HO->Prop
 | .lst xs=>xs.length<=sizeLine/\∃ (its:List Value) (n:Nat),Vals xs its/\h.get? a=some { cls:=.type "list",data:=.seq its.toArray n }
 | .tup xs=>xs.length<=sizeLine/\∃ its:List Value,Vals xs its/\IsTup h a its.toArray
 | .dK kvs=>kvs.length<=sizeLine/\(a==sysModules)=false/\∃ vs,KV kvs vs/\h.DictOf (QH P w) a vs
 | .dT kvs=>kvs.length<=sizeLine/\(a==sysModules)=false/\∃ xs:List (List Key×Addr×Value),
  Paired (fun (p:List Key×V) (q:List Key×Addr×Value)=>p.1=q.1/\H q.2.1=some (.tup (p.1.map kV))/\RelV p.2 q.2.2) kvs xs /\
  ∃ o es ep,h.get? a=some o/\o.ExactDict/\o.data=.dict es ep/\es.toList=xs.map (entryOfKey (tupleKind (QH P w)))/\(xs.map (·.1)).Nodup
 | .set S n=>h.SetOf (intKind P w) a S n
 | .ins C dx fs=>H dx=some (.own a)/\fs.length<=1000/\dx≠a/\h.get? a=some (PySem.W.instObj C dx) /\
  ∃ mA,h.Ns1 dx mA/\(∀ f,Q1j (fs.lookup f) (mA f))/\PySem.Within mA (fs.map (·.1))
 | .own _=>∃ o,h.get? a=some o
 | .xd fs=>∃ mA,h.Ns1 a mA/\∀ f,Q1j (fs.lookup f) (mA f)
 | .rng lo hi=>∃ t u v,h.get? a=some { cls:=.type "range",data:=.fields #[.int lo t,.int hi u,.int 1 v] }
 | .frz o u=>h.get? a=some o/\ObjOk H h a u
 | .tbl ps=>h.get? a=some { cls:=.none,data:=.fields ps }
 | .met f x=>h.get? a=some (PySem.W.methodObj (.ref f) (.ref x))
 | .cod q=>∃ ps:Array Value,h.get? a=some { cls:=.none,data:=.fields ps }/\TriplesOk ps.toList/\∀ pos cv,codeAmong pos ps.toList=some cv->∃ (c':Addr) (oc:Obj) (vs:Array Value) (t:Tok),cv=.ref c'/\H c'=some (.frz oc (.own 0))/\oc.data=.fields vs/\vs[1]?=some (.str q t)
 | .ext φ=>φ h/\(∃ o,h.get? a=some o)/\∀ h1 h2:Heap,φ h1->(∀ o,h1.get? a=some o->h2.get? a=some o)->φ h2
def HOk (H:Hp)(h:Heap):Prop:=∀ a o,H a=some o->ObjOk P w H h a o
end
section
variable {P:Program}{w:World}{H H':Hp}{h h':Heap}{a:Addr}{o:HO}
theorem ObjOk.lt (x:ObjOk P w H h a o):a<h.objs.size:=by
 cases o with
 | lst xs=>obtain ⟨_,_,_,_,e⟩:=x;exact B5 e
 | tup xs=>obtain ⟨_,_,_,p⟩:=x;exact p.lt
 | dK kvs=>obtain ⟨_,_,_,_,o,_,_,e,_⟩:=x;exact B5 e
 | dT kvs=>obtain ⟨_,_,_,_,o,_,_,e,_⟩:=x;exact B5 e
 | set S n=>obtain ⟨o,_,_,_,e,_⟩:=x;exact B5 e
 | ins C dx fs=>obtain ⟨_,_,_,e,_⟩:=x;exact B5 e
 | own y=>obtain ⟨_,e⟩:=x;exact B5 e
 | xd fs=>obtain ⟨_,⟨_,_,_,e,_⟩,_⟩:=x;exact B5 e
 | rng lo hi=>obtain ⟨_,_,_,e⟩:=x;exact B5 e
 | frz ob u=>obtain ⟨e,_⟩:=x;exact B5 e
 | tbl ps=>exact B5 (show h.get? a=some _ from x)
 | met f y=>exact B5 (show h.get? a=some _ from x)
 | cod q=>obtain ⟨_,e,_⟩:=x;exact B5 e
 | ext φ=>obtain ⟨_,⟨_,e⟩,_⟩:=x;exact B5 e
theorem Paired.mapP {α β:Type}{F G:α->β->Prop}:∀ {l₁:List α} {l₂:List β},Paired F l₁ l₂->(∀ a b,F a b->G a b)->Paired G l₁ l₂
 | _,_,.nil,_=>.nil
 | _,_,.cons r t,f=>.cons (f _ _ r) (Paired.mapP t f)
theorem ObjOk.stay (x:ObjOk P w H h a o)(k:∀ b u,(b=a\/H b=some (.own a))->h.get? b=some u->h'.get? b=some u)
 (ho:∀ b,H b=some (.own a)->H' b=some (.own a)) (ht:∀ b xs,H b=some (.tup xs)->H' b=some (.tup xs)) (hz:∀ b ob u,H b=some (.frz ob u)->H' b=some (.frz ob u):=by first|exact fun _ _ _ q=>q|(intro c ob uz q;rw [L2.V7 (L2.Y2 q (by assumption))];exact q)):ObjOk P w H' h' a o:=by
 induction o with
 | lst xs=>obtain ⟨z,its,n,r,e⟩:=x;exact ⟨z,its,n,r,k _ _ (.inl rfl) e⟩
 | tup xs=>obtain ⟨z,its,r,ob,e,c⟩:=x;exact ⟨z,its,r,ob,k _ _ (.inl rfl) e,c⟩
 | dK kvs=>obtain ⟨z,y,vs,r,ob,es,ep,e,c⟩:=x;exact ⟨z,y,vs,r,ob,es,ep,k _ _ (.inl rfl) e,c⟩
 | dT kvs =>
   obtain ⟨z,y,xs,r,ob,es,ep,e,c⟩:=x
   exact ⟨z,y,xs,Paired.mapP r fun p q z=>⟨z.1,ht _ _ z.2.1,z.2.2⟩,ob,es,ep,k _ _ (.inl rfl) e,c⟩
 | set S n=>obtain ⟨ob,es,ep,t,e,c⟩:=x;exact ⟨ob,es,ep,t,k _ _ (.inl rfl) e,c⟩
 | ins C dx fs =>
   obtain ⟨d,z,ne,e,mA,⟨od,es,ep,e2,c⟩,r⟩:=x
   exact ⟨ho _ d,z,ne,k _ _ (.inl rfl) e,mA,⟨od,es,ep,k _ _ (.inr d) e2,c⟩,r⟩
 | own y=>obtain ⟨ob,e⟩:=x;exact ⟨ob,k _ _ (.inl rfl) e⟩
 | xd fs=>obtain ⟨mA,⟨od,es,ep,e,c⟩,r⟩:=x;exact ⟨mA,⟨od,es,ep,k _ _ (.inl rfl) e,c⟩,r⟩
 | rng lo hi=>obtain ⟨t,u,v,e⟩:=x;exact ⟨t,u,v,k _ _ (.inl rfl) e⟩
 | frz ob u ih=>obtain ⟨e,q⟩:=x;exact ⟨k _ _ (.inl rfl) e,ih q⟩
 | tbl ps =>
   have e:h.get? a=some { cls:=.none,data:=.fields ps }:=x
   show h'.get? a=some { cls:=.none,data:=.fields ps }
   exact k a _ (.inl rfl) e
 | met f y =>
   have e:h.get? a=some (PySem.W.methodObj (.ref f) (.ref y)):=x
   show h'.get? a=some (PySem.W.methodObj (.ref f) (.ref y))
   exact k a _ (.inl rfl) e
 | cod q=>obtain ⟨ps,e,t,r⟩:=x;exact ⟨ps,k _ _ (.inl rfl) e,t,fun pos cv hc=>let ⟨c',oc,vs,tt,z1,z2,z3⟩:=r pos cv hc;⟨c',oc,vs,tt,z1,hz _ _ _ z2,z3⟩⟩
 | ext φ=>obtain ⟨p,⟨o,e⟩,st⟩:=x;exact ⟨st _ _ p fun o q=>k _ _ (.inl rfl) q,⟨o,k _ _ (.inl rfl) e⟩,st⟩
theorem HOk.lt (x:HOk P w H h)(e:H a=some o):a<h.objs.size:=(x a o e).lt
theorem HOk.fresh (x:HOk P w H h)(e:h.objs.size<=a):H a=none:=by
 cases q:H a with
 | none=>rfl
 | some u=>exact absurd (L7 (x.lt q) e) (L9 _)
theorem HOk.kept (x:HOk P w H h)(k:∀ b u,h.get? b=some u->h'.get? b=some u):HOk P w H h':=fun a o e =>
 (x a o e).stay (fun b u _ q=>k b u q) (fun _ q=>q) fun _ _ q=>q
theorem HOk.laid (x:HOk P w H h)(k:∀ b u,h.get? b=some u->h'.get? b=some u)(hp:h.objs.size<=a)(new:ObjOk P w (upd H a o) h' a o):HOk P w (upd H a o) h':=fun b u e=>by
 have hn:=x.fresh hp
 by_cases hb:b=a
 · subst hb;rw [AM] at e;cases e;exact new
 · rw [V7 hb] at e
   exact (x b u e).stay (fun c v _ q=>k c v q) (fun c q=>by rw [V7 (Y2 q hn)];exact q) fun c xs q=>by rw [V7 (Y2 q hn)];exact q
end
def Rd (H:Hp)(a:Addr)(u:HO):Prop:=H a=some u\/∃ o,H a=some (.frz o u)
theorem Rd.ok {w:World}{H:Hp}{h:Heap}{a:Addr}{u:HO}(r:Rd H a u)(x:HOk P w H h):ObjOk P w H h a u:=by
 rcases r with r|⟨o,r⟩
 · exact x a u r
 · obtain ⟨_,q⟩:=x a _ r
   exact q
def Mut:Option HO->Prop
 | some (.lst _)=>True
 | some (.dK _)=>True
 | some (.dT _)=>True
 | some (.set _ _)=>True
 | some (.ins _ _ _)=>True
 | some (.ext _)=>True
 | _=>False
section
variable {P:Program}{w:World}{H:Hp}{h h':Heap}{x e:Addr}{o':HO}
theorem HOk.write (ok:HOk P w H h)(mu:Mut (H x))(he:e=x\/H e=some (.own x))(k:∀ b u,b≠e->h.get? b=some u->h'.get? b=some u)(heo:∃ u,h'.get? e=some u)
 (new:ObjOk P w (upd H x o') h' x o'):HOk P w (upd H x o') h':=fun b u q=>by
 have nown:∀ c y,H c=some (.own y)->c≠x:=fun c y r z=>by subst z;rw [r] at mu;exact mu
 have ntup:∀ c xs,H c=some (.tup xs)->c≠x:=fun c xs r z=>by subst z;rw [r] at mu;exact mu
 have nfrz:∀ c ob uz,H c=some (.frz ob uz)->c≠x:=fun c ob uz r z=>by subst z;rw [r] at mu;exact mu
 by_cases hb:b=x
 · subst hb;rw [AM] at q;cases q;exact new
 · rw [V7 hb] at q
   by_cases hbe:b=e
   · have q':H b=some (.own x):=by
      rcases he with z|z
      · exact absurd (hbe.trans z) hb
      · rw [hbe];exact z
     rw [q] at q';cases q'
     obtain ⟨v,hv⟩:=heo
     exact ⟨v,by rw [hbe];exact hv⟩
   · refine (ok b u q).stay (fun c v hc r=>k c v ?_ r) (fun c r=>by rw [V7 (nown c b r)];exact r) (fun c xs r=>by rw [V7 (ntup c xs r)];exact r) fun c ob uz r=>by rw [V7 (nfrz c ob uz r)];exact r
     rcases hc with rfl|hc
     · exact hbe
     · rintro rfl
       rcases he with z|z
       · exact nown c b hc z
       · rw [hc] at z;cases z;exact hb rfl
end
structure Un (fs ex:List Addr)(H H':Hp)(h h':Heap):Prop where
 keep:∀ b o,h.get? b=some o->H b=none->b∉fs->b∉ex->h'.get? b=some o
 slot:∀ b o,h.get? b=some o->H b=none->b∈fs->b∉ex->∃ sl,h'.get? b=some { o with slots:=sl }
 free:∀ b o,h.get? b=some o->H b=none->b∉ex->H' b=none
 there:∀ b o,h.get? b=some o->b∉ex->∃ o',h'.get? b=some o'
 tups:∀ b xs,H b=some (.tup xs)->H' b=some (.tup xs)
 frzs:∀ b o u,H b=some (.frz o u)->H' b=some (.frz o u)
 tbls:∀ b ps,H b=some (.tbl ps)->∃ more,H' b=some (.tbl (ps++more))
section
variable {fs ex:List Addr}{H H1:Hp}{h h1 h':Heap}{a x e:Addr}{o:HO}
theorem Un.any (u:Un fs ex H H1 h h1){b:Addr}{ob:Obj}(q:h.get? b=some ob)(n:H b=none)(hx:b∉ex):∃ sl,h1.get? b=some { ob with slots:=sl }:=by
 by_cases hb:b∈fs
 · exact u.slot b ob q n hb hx
 · exact ⟨ob.slots,u.keep b ob q n hb hx⟩
theorem Un.kept (k:∀ b u,h.get? b=some u->h'.get? b=some u):Un fs ex H H h h' :=
 ⟨fun b ob q _ _ _=>k b ob q,fun b ob q _ _ _=>⟨ob.slots,k b ob q⟩,fun _ _ _ n _=>n,fun b ob q _=>⟨ob,k b ob q⟩,fun _ _ q=>q,fun _ _ _ q=>q,fun _ ps q=>⟨#[],by rw [q];simp⟩⟩
theorem Un.refl:Un fs ex H H h h:=Un.kept fun _ _ q=>q
theorem Un.laid (k:∀ b u,h.get? b=some u->h'.get? b=some u)(hp:h.objs.size<=a)(hn:H a=none):Un fs ex H (upd H a o) h h' where
 keep:=fun b u q _ _ _=>k b u q
 slot:=fun b u q _ _ _=>⟨u.slots,k b u q⟩
 free:=fun b u q n _=>by rw [V7 (R7 (L7 (B5 q) hp))];exact n
 there:=fun b u q _=>⟨u,k b u q⟩
 tups:=fun b xs q=>by rw [V7 (Y2 q hn)];exact q
 frzs:=fun b u xs q=>by rw [V7 (Y2 q hn)];exact q
 tbls:=fun b ps q=>⟨#[],by rw [V7 (Y2 q hn),q];simp⟩
theorem Un.write (mu:Mut (H x))(he:e=x\/H e=some (.own x))(k:∀ b u,b≠e->h.get? b=some u->h'.get? b=some u)(heo:∃ u,h'.get? e=some u):Un fs ex H (upd H x o) h h':=by
 have hx:∀ b,H b=none->b≠x:=fun b n z=>by subst z;rw [n] at mu;exact mu
 have hb:∀ b,H b=none->b≠e:=fun b n z=>by
  subst z
  rcases he with r|r
  · exact hx b n r
  · rw [n] at r;cases r
 have hm:∀ b u,H b=some u->¬ Mut (some u)->b≠x:=fun b u q nm z=>by subst z;rw [q] at mu;exact nm mu
 refine ⟨fun b u q n _ _=>k b u (hb b n) q,fun b u q n _ _=>⟨u.slots,k b u (hb b n) q⟩,fun b u q n _=>by rw [V7 (hx b n)];exact n,fun b u q _=>?_,
  fun b xs q=>by rw [V7 (hm b _ q fun z=>z)];exact q,fun b u xs q=>by rw [V7 (hm b _ q fun z=>z)];exact q,fun b ps q=>⟨#[],by rw [V7 (hm b _ q fun z=>z),q];simp⟩⟩
 by_cases hbe:b=e
 · subst hbe;exact heo
 · exact ⟨u,k b u hbe q⟩
end
def trk (h:Heap)(H:Hp):List Addr:=(List.range h.objs.size).filter fun a=>(H a).isSome
def QM (h:Heap)(H:Hp):Heap:=PySem.W.hideAll h (trk h H)
theorem YW (h:Heap)(H:Hp):(QM h H).objs.size=h.objs.size:=PySem.W.hideAll_size _ _
theorem J1t {h:Heap}{H:Hp}{b:Addr}{o:Obj}(e:h.get? b=some o)(n:H b=none):(QM h H).get? b=some o :=
 PySem.W.hideAll_get _ e fun hm=>by
  have q:(H b).isSome=true:=(List.mem_filter.mp hm).2
  rw [n] at q;simp at q
theorem J4u {h:Heap}{H:Hp}{b:Addr}{o:Obj}(e:(QM h H).get? b=some o):h.get? b=some o/\H b=none:=by
 have e':h.get? b=some o:=PySem.W.of_hideAll (trk h H) e
 refine ⟨e',?_⟩
 cases q:H b with
 | none=>rfl
 | some x =>
   have hm:b∈trk h H:=List.mem_filter.mpr ⟨List.mem_range.mpr (B5 e'),by simp [q]⟩
   have z:(QM h H).get? b=none:=PySem.W.hideAll_none (trk h H) hm
   rw [z] at e;cases e
def J6k (g h:Heap)(L:Addr):List (Addr×Obj):=(List.range h.objs.size).filterMap fun a=>if a=L\/(g.get? a).isSome=true then none else (h.get? a).map fun o=>(a,o)
def rest (g h:Heap)(L d:Addr):List (Addr×Obj):=(J6k g h L).filter fun p=>decide (p.1≠d)
structure Mod (K:Fg)(mg:Str->Option Value)(base:Heap):Prop where
 kin:K.In base
 glob:base.Ns mainGlobals mg
 blt:∃ mb,base.Ns builtinsNs mb/\∀ x:Str,x≠"__name__"->mb x=bootBuiltins x
 nolimit:base.NoLimit
structure Cx where
 prog:Program
 w:World
 K:Fg
 mg:Str->Option Value
 base:Heap
 A:Around
 N:List Str
 s₀:Shared
 H₀:Hp
 env:Env
 outer:List Env
 stack:List Env
 ex:List Addr
 fn:Str->Bool
 calm:Bool
 pn:List (Addr×Obj)
 xe:Value->Shared->Prop
def frs (l:List Env):List Addr:=l.filterMap (·.frame)
abbrev Cx.fs (X:Cx):List Addr:=frs X.outer
def Vis (sc:Scope)(x:Str):Prop:=sc.names.lookup x=some .local\/sc.names.lookup x=some .cell\/sc.names.lookup x=some .free
def Loc (sc:Scope)(x:Str):Prop:=sc.names.lookup x=some .local\/sc.names.lookup x=some .cell
def Q4y (env:Env)(h:Heap)(m:Str->Option Value)(x:Str)(u:Value):Prop :=
 (env.kindOf x=some .local/\m x=some u)\/((env.kindOf x=some .cell\/env.kindOf x=some .free)/\∃ c,env.cells.lookup x=some c/\h.IsCell c (some u))
structure Cx.Ok (X:Cx):Prop where
 mod:Mod X.K X.mg X.base
 kind:X.env.scope.kind=.function
 glob:X.env.globals=mainGlobals
 blt:X.env.builtins=builtinsNs
 above:X.s₀.heap.objs.size<=X.env.locals
 inj:∀ x y c,X.env.cells.lookup x=some c->X.env.cells.lookup y=some c->x=y
 has:∀ x,(X.env.kindOf x=some .cell\/X.env.kindOf x=some .free)->∃ c,X.env.cells.lookup x=some c
 cab:∀ x c,X.fn x=true->X.env.cells.lookup x=some c->X.s₀.heap.objs.size<=c
 hd:X.calm=true->X.A.handled=none
 frames:X.A.frames=some X.stack
 stk:X.stack=X.outer\/(X.stack=X.env::X.outer/\X.env.frame=some X.env.locals)
 exf:∀ b∈X.ex,b≠X.env.locals/\∀ x c,X.env.cells.lookup x=some c->c≠b
 bs:∀ b o,X.base.get? b=some o->X.s₀.heap.get? b=some o/\X.H₀ b=none
 bsz:X.base.objs.size<=X.s₀.heap.objs.size
 noex:∀ b o,X.base.get? b=some o->b∉X.ex
 exfs:∀ b∈X.ex,b∉X.fs
 funs:X.s₀.heap.FunFrames X.base X.outer
 frf:∀ b∈X.fs,X.H₀ b=none
structure Inv (X:Cx)(pins:List (Addr×Obj))(σ:List (Option V))(H:Hp)(s:Shared):Prop where
 ok:X.Ok
 os:s.os=X.s₀.os
 bare:AllBare s.gens
 base:Un X.fs X.ex X.H₀ H X.s₀.heap s.heap
 loc:∃ m,s.heap.Ns X.env.locals m/\∀ (i:Nat) (x:Str) (v:V),X.N[i]?=some x->σ[i]?=some (some v)->Vis X.env.scope x->∃ u,RelV v u/\Q4y X.env s.heap m x u
 cell:∀ x c,X.env.cells.lookup x=some c->∃ v,s.heap.IsCell c v
 free:H X.env.locals=none
 freeC:∀ x c,X.env.cells.lookup x=some c->H c=none
 pin:∀ p∈X.pn++pins,s.heap.get? p.1=some p.2/\H p.1=none/\p.1≠X.env.locals/\p.1∉X.fs/\∀ v,p.2.data≠.cell v
 hok:HOk X.prog X.w H s.heap
 len:σ.length=X.N.length
section
variable {X:Cx}{pins:List (Addr×Obj)}{σ:List (Option V)}{H H':Hp}{s:Shared}{h':Heap}
theorem Cx.Ok.nofr (ok:X.Ok){b:Addr}{o:Obj}(e:X.base.get? b=some o):b∉X.fs:=fun hb=>by
 have:=(ok.funs.mem hb).1
 rw [e] at this;cases this
theorem Inv.bs (I:Inv X pins σ H s):∀ b o,X.base.get? b=some o->s.heap.get? b=some o/\H b=none:=fun b o e =>
 ⟨I.base.keep b o (I.ok.bs b o e).1 (I.ok.bs b o e).2 (I.ok.nofr e) (I.ok.noex b o e),I.base.free b o (I.ok.bs b o e).1 (I.ok.bs b o e).2 (I.ok.noex b o e)⟩
theorem Inv.bk (I:Inv X pins σ H s):∀ b o,X.base.get? b=some o->s.heap.get? b=some o:=fun b o e=>(I.bs b o e).1
theorem Inv.mod (I:Inv X pins σ H s):Mod X.K X.mg X.base:=I.ok.mod
theorem Inv.kIn (I:Inv X pins σ H s):X.K.In s.heap:=I.ok.mod.kin.keeps I.bk
theorem Inv.lt (I:Inv X pins σ H s):X.env.locals<s.heap.objs.size:=let ⟨_,hn,_⟩:=I.loc;hn.lt
theorem Inv.sz (I:Inv X pins σ H s):X.s₀.heap.objs.size<=s.heap.objs.size:=M7 I.ok.above (B1c I.lt)
theorem Inv.nofs (I:Inv X pins σ H s){a:Addr}(h:s.heap.objs.size<=a):a∉X.fs:=fun hb=>by
 obtain ⟨_,o,ho,_⟩:=I.ok.funs.mem hb
 exact absurd (L7 (B5 ho) (M7 I.sz h)) (L9 _)
theorem Inv.cne (I:Inv X pins σ H s):∀ x c,X.env.cells.lookup x=some c->c≠X.env.locals:=fun x c e z=>by
 obtain ⟨v,o,ho,hd⟩:=I.cell x c e
 obtain ⟨m,⟨o',es,ep,ho',hd',_⟩,_⟩:=I.loc
 rw [z,ho'] at ho;cases ho;rw [hd'] at hd;cases hd
theorem Inv.funs (I:Inv X pins σ H s):s.heap.FunFrames X.base X.outer:=by
 have all:∀ (l:List Env),(∀ b∈frs l,b∈X.fs)->X.s₀.heap.FunFrames X.base l->s.heap.FunFrames X.base l:=by
  intro l
  induction l with
  | nil=>intro _ _;trivial
  | cons env r ih =>
    intro hs hl
    obtain ⟨hk,⟨L,o,hf,hn,ho,hd⟩,hr⟩:=hl
    have hL:L∈X.fs:=hs L (by unfold frs;rw [B1i,hf];exact M4)
    obtain ⟨sl,e⟩:=I.base.slot L o ho (I.ok.frf L hL) hL fun z=>I.ok.exfs L z hL
    exact ⟨hk,⟨L,_,hf,hn,e,hd⟩,ih (fun b hb=>hs b (by unfold frs;rw [B1i,hf];exact T5 _ hb)) hr⟩
 exact all X.outer (fun _ hb=>hb) I.ok.funs
theorem Inv.stack (I:Inv X pins σ H s):s.heap.FunFrames X.base X.stack:=by
 rcases I.ok.stk with e|⟨e,hf⟩
 · rw [e];exact I.funs
 · rw [e]
   obtain ⟨m,hn,_⟩:=I.loc
   refine .cons (by rw [I.ok.kind];decide) hf hn ?_ I.funs
   exact Heap.get?_none_of_le (M7 I.ok.bsz I.ok.above)
theorem Inv.stkSub (I:Inv X pins σ H s):∀ b∈frs X.stack,b∈X.env.locals::X.fs:=fun b hb=>by
 rcases I.ok.stk with e|⟨e,hf⟩
 · rw [e] at hb;exact T5 _ hb
 · rw [e] at hb
   unfold frs at hb
   rw [B1i,hf] at hb
   exact hb
theorem Inv.stkFree (I:Inv X pins σ H s):∀ b∈frs X.stack,H b=none:=fun b hb=>by
 rcases B4.mp (I.stkSub b hb) with e|hb
 · rw [e];exact I.free
 · obtain ⟨_,o,ho,_⟩:=I.ok.funs.mem hb
   exact I.base.free b o ho (I.ok.frf b hb) fun z=>I.ok.exfs b z hb
theorem Inv.step {g':Array GenState}{t':Nat}{d':Drawn}{ch:List Addr}(I:Inv X pins σ H s)
 (hch:∀ b∈ch,(b∈X.ex\/X.s₀.heap.objs.size<=b)/\b≠X.env.locals/\(∀ x c,X.env.cells.lookup x=some c->c≠b)/\∀ p∈X.pn++pins,p.1≠b)
 (keep:∀ b o,b≠X.env.locals->b∉X.fs->b∉ch->s.heap.get? b=some o->H b=none->h'.get? b=some o)
 (slot:∀ b o,b≠X.env.locals->b∈X.fs->b∉ch->s.heap.get? b=some o->H b=none->∃ sl,h'.get? b=some { o with slots:=sl }) (free:∀ b o,b∉ch->s.heap.get? b=some o->H b=none->H' b=none)
 (there:∀ b o,b∉ch->s.heap.get? b=some o->∃ o',h'.get? b=some o')
 (tups:∀ b xs,H b=some (.tup xs)->H' b=some (.tup xs)) (frzs:∀ b o u,H b=some (.frz o u)->H' b=some (.frz o u)) (tbls:∀ b ps,H b=some (.tbl ps)->∃ more,H' b=some (.tbl (ps++more)))
 (ns:∀ m,s.heap.Ns X.env.locals m->h'.Ns X.env.locals m) (hok:HOk X.prog X.w H' h') (hg:AllBare g') :
 Inv X pins σ H' { s with heap:=h',gens:=g',drawn:=d',toks:=t' }:=by
 have neL:∀ b o,X.s₀.heap.get? b=some o->b≠X.env.locals:=fun b o e=>R7 (L7 (B5 e) I.ok.above)
 have neC:∀ b o,X.s₀.heap.get? b=some o->b∉X.ex->b∉ch:=fun b o e hx hb=>by
  rcases (hch b hb).1 with z|z
  · exact hx z
  · exact absurd (L7 (B5 e) z) (L9 _)
 have cellK:∀ x c,X.env.cells.lookup x=some c->∀ v,s.heap.IsCell c v->h'.IsCell c v:=fun x c e v ⟨o,ho,hd⟩=>by
  have nch:c∉ch:=fun z=>(hch c z).2.2.1 x c e rfl
  by_cases hc:c∈X.fs
  · obtain ⟨sl,q⟩:=slot c o (I.cne x c e) hc nch ho (I.freeC x c e)
    exact ⟨_,q,hd⟩
  · exact ⟨o,keep c o (I.cne x c e) hc nch ho (I.freeC x c e),hd⟩
 refine ⟨I.ok,I.os,hg,⟨fun b o e n hb hx=>?_,fun b o e n hb hx=>?_,fun b o e n hx=>?_,fun b o e hx=>?_,fun b xs e=>tups b xs (I.base.tups b xs e),fun b o xs e=>frzs b o xs (I.base.frzs b o xs e),fun b ps e=>?_⟩,?_,fun x c e=>?_,?_,fun x c e=>?_,fun p hp=>?_,hok,I.len⟩
 · exact keep b o (neL b o e) hb (neC b o e hx) (I.base.keep b o e n hb hx) (I.base.free b o e n hx)
 · obtain ⟨sl,e1⟩:=I.base.slot b o e n hb hx
   obtain ⟨sl',e2⟩:=slot b _ (neL b o e) hb (neC b o e hx) e1 (I.base.free b o e n hx)
   exact ⟨sl',e2⟩
 · obtain ⟨o',e1⟩:=I.base.there b o e hx
   exact free b o' (neC b o e hx) e1 (I.base.free b o e n hx)
 · obtain ⟨o',e1⟩:=I.base.there b o e hx
   exact there b o' (neC b o e hx) e1
 · obtain ⟨m1,e1⟩:=I.base.tbls b ps e
   obtain ⟨m2,e2⟩:=tbls b _ e1
   exact ⟨m1++m2,by rw [e2,Array.append_assoc]⟩
 · obtain ⟨m,hn,hl⟩:=I.loc
   refine ⟨m,ns m hn,fun i x v e1 e2 e3=>?_⟩
   obtain ⟨u,r,l⟩:=hl i x v e1 e2 e3
   refine ⟨u,r,?_⟩
   rcases l with l|⟨k,c,e,z⟩
   · exact .inl l
   · exact .inr ⟨k,c,e,cellK x c e _ z⟩
 · obtain ⟨v,z⟩:=I.cell x c e
   exact ⟨v,cellK x c e v z⟩
 · obtain ⟨m,⟨o,_,_,ho,_⟩,_⟩:=I.loc
   exact free _ o (fun z=>(hch _ z).2.1 rfl) ho I.free
 · obtain ⟨v,o,ho,hd⟩:=I.cell x c e
   exact free c o (fun z=>(hch c z).2.2.1 x c e rfl) ho (I.freeC x c e)
 · obtain ⟨e,n,ne,nf,d⟩:=I.pin p hp
   have nch:p.1∉ch:=fun z=>(hch p.1 z).2.2.2 p hp rfl
   exact ⟨keep p.1 p.2 ne nf nch e n,free p.1 p.2 nch e n,ne,nf,d⟩
theorem Inv.un {t':Nat}(I:Inv X pins σ H s)(u:Un X.fs [] H H' s.heap h')(hok:HOk X.prog X.w H' h'):Inv X pins σ H' { s with heap:=h',toks:=t' }:=by
 obtain ⟨m,⟨o,es,ep,ho,r⟩,_⟩:=id I.loc
 obtain ⟨sl,hL⟩:=u.any ho I.free (by simp)
 exact I.step (g':=s.gens) (d':=s.drawn) (ch:=[]) (fun _ z=>nomatch z) (fun b o _ hb _ e n=>u.keep b o e n hb (by simp)) (fun b o _ hb _ e n=>u.slot b o e n hb (by simp)) (fun b o _ e n=>u.free b o e n (by simp)) (fun b o _ e=>u.there b o e (by simp)) u.tups u.frzs u.tbls (fun m' hm=>by
  obtain ⟨o',es',ep',ho',r'⟩:=hm
  rw [ho] at ho';cases ho'
  exact ⟨_,es',ep',hL,r'⟩) hok I.bare
theorem Inv.call {g':Array GenState}{t':Nat}{d':Drawn}{ch:List Addr}(I:Inv X pins σ H s)(u:Un (frs X.stack) ch H H' s.heap h')(hok:HOk X.prog X.w H' h')(hg:AllBare g')
 (hch:∀ b∈ch,(b∈X.ex\/X.s₀.heap.objs.size<=b)/\b≠X.env.locals/\(∀ x c,X.env.cells.lookup x=some c->c≠b)/\∀ p∈X.pn++pins,p.1≠b) :
 Inv X pins σ H' { s with heap:=h',gens:=g',drawn:=d',toks:=t' }:=by
 obtain ⟨m,⟨o,es,ep,ho,r⟩,_⟩:=id I.loc
 obtain ⟨sl,hL⟩:=u.any ho I.free fun z=>(hch _ z).2.1 rfl
 exact I.step (ch:=ch) hch (fun b o hL hb hc e n=>u.keep b o e n (fun z=>(B4.mp (I.stkSub b z)).elim hL hb) hc) (fun b o _ _ hc e n=>u.any e n hc) (fun b o hc e n=>u.free b o e n hc) (fun b o hc e=>u.there b o e hc) u.tups u.frzs u.tbls (fun m' hm=>by
  obtain ⟨o',es',ep',ho',r'⟩:=hm
  rw [ho] at ho';cases ho'
  exact ⟨_,es',ep',hL,r'⟩) hok hg
theorem Inv.turned {t':Nat}{it:Addr}(I:Inv X pins σ H s)(k:∀ b o,b≠it->s.heap.get? b=some o->h'.get? b=some o)(hn:H it=none)(hL:it≠X.env.locals)
 (h1:it∈X.ex\/X.s₀.heap.objs.size<=it) (h2:∀ x c,X.env.cells.lookup x=some c->c≠it) (h3:∀ p∈X.pn++pins,p.1≠it):Inv X pins σ H { s with heap:=h',toks:=t' }:=by
 have nit:∀ b u,H b=some u->b≠it:=fun b u e z=>by rw [z,hn] at e;cases e
 refine I.step (g':=s.gens) (d':=s.drawn) (ch:=[it]) (fun b hb=>?_) (fun b o _ _ hc e _=>k b o (fun z=>hc (by simp [z])) e) (fun b o _ _ hc e _=>⟨o.slots,k b o (fun z=>hc (by simp [z])) e⟩) (fun _ _ _ _ n=>n)
  (fun b o hc e=>⟨o,k b o (fun z=>hc (by simp [z])) e⟩) (fun _ _ e=>e) (fun _ _ _ e=>e) (fun b ps e=>⟨#[],by rw [e];simp⟩) (fun m hm=>?_) (fun b u e=>?_) I.bare
 · have e:b=it:=by simpa using hb
   subst e
   exact ⟨h1,hL,h2,h3⟩
 · obtain ⟨o,es,ep,ho,r⟩:=hm
   exact ⟨o,es,ep,k _ o (B0f hL) ho,r⟩
 · refine (I.hok b u e).stay (fun c v hc q=>k c v ?_ q) (fun _ q=>q) fun _ _ q=>q
   rcases hc with z|z
   · rw [z];exact nit b u e
   · exact nit c _ z
theorem Inv.tok (I:Inv X pins σ H s)(t:Nat):Inv X pins σ H { s with toks:=t }:=I.un (h':=s.heap) (t':=t) Un.refl I.hok
theorem Inv.kept {t':Nat}(I:Inv X pins σ H s)(k:∀ b u,s.heap.get? b=some u->h'.get? b=some u):Inv X pins σ H { s with heap:=h',toks:=t' }:=I.un (Un.kept k) (I.hok.kept k)
theorem Inv.laid {a:Addr}{o:HO}{t':Nat}(I:Inv X pins σ H s)(k:∀ b u,s.heap.get? b=some u->h'.get? b=some u)(hp:s.heap.objs.size<=a)(new:ObjOk X.prog X.w (upd H a o) h' a o) :
 Inv X pins σ (upd H a o) { s with heap:=h',toks:=t' }:=I.un (Un.laid k hp (I.hok.fresh hp)) (I.hok.laid k hp new)
theorem Inv.write {x e:Addr}{o:HO}{t':Nat}(I:Inv X pins σ H s)(mu:Mut (H x))(he:e=x\/H e=some (.own x))(k:∀ b u,b≠e->s.heap.get? b=some u->h'.get? b=some u)(heo:∃ u,h'.get? e=some u)
 (new:ObjOk X.prog X.w (upd H x o) h' x o):Inv X pins σ (upd H x o) { s with heap:=h',toks:=t' }:=I.un (Un.write mu he k heo) (I.hok.write mu he k heo new)
theorem Inv.weak {σ':List (Option V)}(I:Inv X pins σ H s)(hl:σ'.length=σ.length)(w:∀ (i:Nat) v,σ'[i]?=some (some v)->σ[i]?=some (some v)):Inv X pins σ' H s :=
 ⟨I.ok,I.os,I.bare,I.base,let ⟨m,hn,hl'⟩:=I.loc;⟨m,hn,fun i x v e1 e2 e3=>hl' i x v e1 (w i v e2) e3⟩,I.cell,I.free,I.freeC,I.pin,I.hok,hl.trans I.len⟩
theorem Inv.pins_of {pins':List (Addr×Obj)}(I:Inv X pins σ H s)(h:∀ p∈pins',s.heap.get? p.1=some p.2/\H p.1=none/\p.1≠X.env.locals/\p.1∉X.fs/\∀ v,p.2.data≠.cell v):Inv X pins' σ H s :=
 ⟨I.ok,I.os,I.bare,I.base,I.loc,I.cell,I.free,I.freeC,fun p hp=>(T8.mp hp).elim (fun z=>I.pin p (R4 _ z)) (h p),I.hok,I.len⟩
theorem SF {N:List Str}(hN:N.Nodup){i j:Nat}{x:Str}(a:N[i]?=some x)(b:N[j]?=some x):i=j:=by
 obtain ⟨h1,e1⟩:=B6.mp a
 obtain ⟨h2,e2⟩:=B6.mp b
 exact (List.getElem_inj hN).mp (e1.trans e2.symm)
theorem XY {M:Model}{A:Around}{E:Value->Shared->Prop}{i:Nat}{x:Str}{v:V}{u:Value}{Q:Unit->Shared->Prop}(I:Inv X pins σ H s)(hN:X.N.Nodup)(hi:X.N[i]?=some x)(hx:Loc X.env.scope x)(r:RelV v u)
 (h:∀ s',Inv X pins (σ.set i (some v)) H s'->(∃ a,Heap.SameBut a s.heap s'.heap/\(a=X.env.locals\/X.env.cells.lookup x=some a))->Q () s') (hf:X.fn x=true\/X.env.scope.names.lookup x=some .local:=by first|exact .inl rfl|exact .inr rfl|assumption):wpAny M A (storeName X.env x u) Q E s:=by
 obtain ⟨m,hn,hl⟩:=id I.loc
 have hcls:(X.env.scope.kind==.class||(X.env.scope.kind==.module&&X.env.locals != X.env.globals))=false:=by rw [I.ok.kind];rfl
 have hiσ:i<σ.length:=by rw [I.len];exact (B6.mp hi).1
 have cne:=I.cne
 have tracked:∀ {a:Addr} {h':Heap},(∃ o,s.heap.get? a=some o/\H a=none)->Heap.SameBut a s.heap h'->HOk X.prog X.w H h':=fun {a h'} ha hs b ob e=>by
  obtain ⟨_,_,hfree⟩:=ha
  refine (I.hok b ob e).stay (fun c w' hc q=>(hs.2 c ?_).trans q) (fun _ q=>q) fun _ _ q=>q
  rintro rfl
  rcases hc with rfl|hc
  · rw [hfree] at e;cases e
  · rw [hfree] at hc;cases hc
 rcases hx with hk|hk
 · refine wpAny_storeName_local hk hn (fun h' hn' hs=>?_) hcls
   obtain ⟨oL,_,_,hoL,_⟩:=id hn
   refine h _ ⟨I.ok,I.os,I.bare,⟨fun b o e n hb hx=>?_,fun b o e n hb hx=>?_,I.base.free,fun b o e hx=>?_,I.base.tups,I.base.frzs,I.base.tbls⟩,⟨_,hn',fun j y v' e1 e2 e3=>?_⟩,fun y c e=>?_,I.free,I.freeC,fun p hp=>?_,tracked ⟨oL,hoL,I.free⟩ hs,by simpa using I.len⟩ ⟨_,hs,.inl rfl⟩
   · exact (hs.2 b (R7 (L7 (B5 e) I.ok.above))).trans (I.base.keep b o e n hb hx)
   · obtain ⟨sl,e1⟩:=I.base.slot b o e n hb hx
     exact ⟨sl,(hs.2 b (R7 (L7 (B5 e) I.ok.above))).trans e1⟩
   · obtain ⟨o',e1⟩:=I.base.there b o e hx
     exact ⟨o',(hs.2 b (R7 (L7 (B5 e) I.ok.above))).trans e1⟩
   · by_cases hj:j=i
     · subst hj
       rw [hi] at e1;cases e1
       rw [List.getElem?_set_self hiσ] at e2
       cases e2
       exact ⟨u,r,.inl ⟨hk,by simp⟩⟩
     · rw [L6 (B0f hj)] at e2
       obtain ⟨u',r',q⟩:=hl j y v' e1 e2 e3
       refine ⟨u',r',?_⟩
       rcases q with ⟨k,e⟩|⟨k,c,e,z⟩
       · refine .inl ⟨k,?_⟩
         have:y≠x:=fun e=>hj (SF hN e1 (e▸hi))
         simp [this,e]
       · exact .inr ⟨k,c,e,z.sameBut hs (cne y c e)⟩
   · obtain ⟨w',z⟩:=I.cell y c e
     exact ⟨w',z.sameBut hs (cne y c e)⟩
   · obtain ⟨e,n,ne,nf,d⟩:=I.pin p hp
     exact ⟨(hs.2 p.1 ne).trans e,n,ne,nf,d⟩
 · have hfn:X.fn x=true:=by
    rcases hf with z|z
    · exact z
    · rw [z] at hk;cases hk
   obtain ⟨c,hc⟩:=I.ok.has x (.inl hk)
   obtain ⟨w',z⟩:=I.cell x c hc
   refine wpAny_storeName_cell I.ok.kind hk hc z (fun h' hc' hs=>?_)
   obtain ⟨oc,hoc,hocd⟩:=id z
   refine h { s with heap:=h' } ⟨I.ok,I.os,I.bare,⟨fun b o e n hb hx=>?_,fun b o e n hb hx=>?_,I.base.free,fun b o e hx=>?_,I.base.tups,I.base.frzs,I.base.tbls⟩,⟨m,hn.sameBut hs (B0f (cne x c hc)),fun j y v' e1 e2 e3=>?_⟩,fun y c' e=>?_,I.free,I.freeC,fun p hp=>?_,tracked ⟨oc,hoc,I.freeC x c hc⟩ hs,by simpa using I.len⟩ ⟨c,hs,.inr hc⟩
   · exact (hs.2 b (R7 (L7 (B5 e) (I.ok.cab x c hfn hc)))).trans (I.base.keep b o e n hb hx)
   · obtain ⟨sl,e1⟩:=I.base.slot b o e n hb hx
     exact ⟨sl,(hs.2 b (R7 (L7 (B5 e) (I.ok.cab x c hfn hc)))).trans e1⟩
   · obtain ⟨o',e1⟩:=I.base.there b o e hx
     exact ⟨o',(hs.2 b (R7 (L7 (B5 e) (I.ok.cab x c hfn hc)))).trans e1⟩
   · by_cases hj:j=i
     · subst hj
       rw [hi] at e1;cases e1
       rw [List.getElem?_set_self hiσ] at e2
       cases e2
       exact ⟨u,r,.inr ⟨.inl hk,c,hc,hc'⟩⟩
     · rw [L6 (B0f hj)] at e2
       obtain ⟨u',r',q⟩:=hl j y v' e1 e2 e3
       refine ⟨u',r',?_⟩
       rcases q with q|⟨k,c',e,z'⟩
       · exact .inl q
       · refine .inr ⟨k,c',e,z'.sameBut hs ?_⟩
         rintro rfl
         exact hj (SF hN e1 (I.ok.inj _ _ _ e hc▸hi))
   · by_cases hcc:c'=c
     · subst hcc;exact ⟨_,hc'⟩
     · obtain ⟨w2,z2⟩:=I.cell y c' e
       exact ⟨w2,z2.sameBut hs hcc⟩
   · obtain ⟨e,n,ne,nf,d⟩:=I.pin p hp
     refine ⟨(hs.2 p.1 ?_).trans e,n,ne,nf,d⟩
     intro q
     rw [q,hoc] at e
     have q':oc=p.2:=Option.some.inj e
     exact d w' (by rw [<- q'];exact hocd)
theorem IS {M:Model}{A:Around}{E:Value->Shared->Prop}{i:Nat}{x:Str}{v:V}{u:Value}{Q:Unit->Shared->Prop}(I:Inv X pins σ H s)(hN:X.N.Nodup)(hi:X.N[i]?=some x)(hx:Loc X.env.scope x)(r:RelV v u)
 (h:∀ s',Inv X pins (σ.set i (some v)) H s'->Q () s') (hf:X.fn x=true\/X.env.scope.names.lookup x=some .local:=by first|exact .inl rfl|exact .inr rfl|assumption):wpAny M A (storeName X.env x u) Q E s :=
 XY I hN hi hx r (fun s' I' _=>h s' I') hf
theorem Inv.call' {s':Shared}{ch:List Addr}(I:Inv X pins σ H s)(ho:s'.os=s.os)(u:Un (frs X.stack) ch H H' s.heap s'.heap)(hok:HOk X.prog X.w H' s'.heap)(hg:AllBare s'.gens)
 (hch:∀ b∈ch,(b∈X.ex\/X.s₀.heap.objs.size<=b)/\b≠X.env.locals/\(∀ x c,X.env.cells.lookup x=some c->c≠b)/\∀ p∈X.pn++pins,p.1≠b):Inv X pins σ H' s':=by
 obtain ⟨h',g',d',t',o'⟩:=s'
 have e:o'=s.os:=ho
 subst e
 exact I.call (g':=g') (t':=t') (d':=d') u hok hg hch
end
abbrev XK:=Value->Option Addr->Hp->Prop
abbrev St:=List (Option V)
abbrev VK:=V->Hp->Prop
abbrev TE:=St->Hp->VK->Prop
abbrev TT:=St->Hp->(Bool->Hp->Prop)->Prop
abbrev TA:=St->Hp->(List V->Hp->Prop)->Prop
structure Ends where
 nx:St->Hp->Prop
 rt:VK
 bk:St->Hp->Prop:=fun _ _=>False
 ct:St->Hp->Prop:=fun _ _=>False
abbrev TS:=Ends->St->Hp->Prop
def EP (X:Cx)(pins:List (Addr×Obj))(σ:St)(Q:VK)(u:Value)(s':Shared):Prop:=∃ v H',Inv X pins σ H' s'/\RelV v u/\Q v H'
def TP (X:Cx)(pins:List (Addr×Obj))(σ:St)(Q:Bool->Hp->Prop)(b:Bool)(s':Shared):Prop:=∃ H',Inv X pins σ H' s'/\Q b H'
def AP (X:Cx)(pins:List (Addr×Obj))(σ:St)(Q:List V->Hp->Prop)(us:List Value)(s':Shared):Prop:=∃ vs H',Inv X pins σ H' s'/\Vals vs us/\Q vs H'
def SP (X:Cx)(pins:List (Addr×Obj))(D:Ends)(f:Flow)(s':Shared):Prop :=
 match f with
 | .next=>∃ σ' H',Inv X pins σ' H' s'/\D.nx σ' H'
 | .brk=>∃ σ' H',Inv X pins σ' H' s'/\D.bk σ' H'
 | .cont=>∃ σ' H',Inv X pins σ' H' s'/\D.ct σ' H'
 | .ret u=>∃ v σ' H',Inv X pins σ' H' s'/\RelV v u/\D.rt v H'
def PE (X:Cx)(e:Expr)(t:TE):Prop :=
 ∀ (pins:List (Addr×Obj)) (s:Shared) (σ:St) (H:Hp) (Q:VK),Inv X pins σ H s->t σ H Q->wpAny (model X.prog X.w) X.A (eval e X.env) (EP X pins σ Q) X.xe s
def PT (X:Cx)(e:Expr)(t:TT):Prop :=
 ∀ (pins:List (Addr×Obj)) (s:Shared) (σ:St) (H:Hp) (Q:Bool->Hp->Prop),Inv X pins σ H s->t σ H Q->wpAny (model X.prog X.w) X.A (isTrue e X.env (eval e X.env)) (TP X pins σ Q) X.xe s
def PW (X:Cx)(e:Expr)(t:TT):Prop :=
 ∀ (whole:Sem Value) (pins:List (Addr×Obj)) (s:Shared) (σ:St) (H:Hp) (Q:Bool->Hp->Prop),Inv X pins σ H s->t σ H Q->wpAny (model X.prog X.w) X.A (isTrue e X.env whole) (TP X pins σ Q) X.xe s
theorem PW.pt {X:Cx}{e:Expr}{t:TT}(h:PW X e t):PT X e t:=h _
def PA (X:Cx)(es:List Expr)(t:TA):Prop :=
 ∀ (pos:Pos) (pins:List (Addr×Obj)) (s:Shared) (σ:St) (H:Hp) (Q:List V->Hp->Prop),Inv X pins σ H s->t σ H Q->wpAny (model X.prog X.w) X.A (spliced (backTo pos (starEach es X.env))) (AP X pins σ Q) X.xe s
def PS (X:Cx)(st:Stmt)(t:TS):Prop :=
 ∀ (pins:List (Addr×Obj)) (s:Shared) (σ:St) (H:Hp) (D:Ends),Inv X pins σ H s->t D σ H->wpAny (model X.prog X.w) X.A (exec st X.env) (SP X pins D) X.xe s
def PSs (X:Cx)(st:List Stmt)(t:TS):Prop :=
 ∀ (pins:List (Addr×Obj)) (s:Shared) (σ:St) (H:Hp) (D:Ends),Inv X pins σ H s->t D σ H->wpAny (model X.prog X.w) X.A (execs st X.env) (SP X pins D) X.xe s
theorem thn {α:Type}{t:Sem α}{Q Q':α->Shared->Prop}{M:Model}{A:Around}{E:Value->Shared->Prop}{s:Shared}(h:wpAny M A t Q E s)(hQ:∀ a s,Q a s->Q' a s):wpAny M A t Q' E s:=T6 h hQ fun _ _ x=>x
section
variable {X:Cx}
def HX (i:Nat):TE:=fun σ H Q=>∃ v,σ[i]?=some (some v)/\Q v H
def tC (v:V):TE:=fun _ H Q=>Q v H
theorem UL {i:Nat}{x:Str}{pos:Pos}(hN:X.N[i]?=some x)(hv:Vis X.env.scope x)(hd:(x==("__debug__" : Str))=false:=by decide) (hcd:(x==("__classdict__" : Str))=false:=by decide):PE X (.Name x pos) (HX i):=by
 intro pins s σ H Q I h
 obtain ⟨v,e,h⟩:=h
 obtain ⟨m,hn,hl⟩:=I.loc
 obtain ⟨u,r,l⟩:=hl i x v hN e hv
 have fin:EP X pins σ Q u s:=⟨v,H,I,r,h⟩
 rcases l with ⟨hk,hm⟩|⟨hk,c,hc,hcell⟩
 · exact wpAny_Name (wpAny_loadName_local I.ok.kind hk hn hm fin) hd
 · rcases hk with hk|hk
   · exact wpAny_Name (wpAny_loadName_cell I.ok.kind hk hc hcell fin) hd
   · exact wpAny_Name (wpAny_loadName_free I.ok.kind hk hc hcell fin hcd) hd
theorem Z6 {i j pos}:PE X (.Constant (.int i) j pos) (tC (.int i)):=fun _ _ _ H _ I h=>wpAny_Constant_int ⟨.int i,H,I.tok _,⟨_,rfl⟩,h⟩
theorem Q2h {b j pos}:PE X (.Constant (.bool b) j pos) (tC (.bl b)):=fun _ _ _ H _ I h=>Constant_bool ⟨.bl b,H,I,rfl,h⟩
theorem J8r {j pos}:PE X (.Constant .none j pos) (tC .non):=fun _ _ _ H _ I h=>Constant_none ⟨.non,H,I,rfl,h⟩
theorem J0n {x j pos}:PE X (.Constant (.str x) j pos) (tC (.str x)):=fun _ _ _ H _ I h=>Calls.Constant_str ⟨.str x,H,I.tok _,⟨_,rfl⟩,h⟩
def Gl (X:Cx)(x:Str):Prop:=X.env.kindOf x=some .globalImplicit
theorem LK {E:Value->Shared->Prop}{pins:List (Addr×Obj)}{s:Shared}{σ:St}{H:Hp}{x:Str}{u:Value}{pos:Pos}{Q:Value->Shared->Prop}(I:Inv X pins σ H s)(hg:Gl X x)(hm:X.mg x=some u)(h:Q u s)
 (hd:(x==("__debug__" : Str))=false:=by decide):wpAny (model X.prog X.w) X.A (eval (.Name x pos) X.env) Q E s :=
 Calls.Name_function_global I.ok.kind hg (Calls.loadGlobal_global (by rw [I.ok.glob];exact I.mod.glob.keeps I.bk) hm h) hd
theorem KB {E:Value->Shared->Prop}{pins:List (Addr×Obj)}{s:Shared}{σ:St}{H:Hp}{x:Str}{u:Value}{pos:Pos}{Q:Value->Shared->Prop}(I:Inv X pins σ H s)(hg:Gl X x)(hm:X.mg x=none)(hv:bootBuiltins x=some u)(h:Q u s)
 (hn:x≠"__name__":=by decide) (hd:(x==("__debug__" : Str))=false:=by decide):wpAny (model X.prog X.w) X.A (eval (.Name x pos) X.env) Q E s:=by
 obtain ⟨mb,h1,h2⟩:=I.mod.blt
 exact Calls.Name_function_global I.ok.kind hg (Calls.loadGlobal_builtin (by rw [I.ok.glob];exact I.mod.glob.keeps I.bk) hm (by rw [I.ok.blt];exact h1.keeps I.bk) ((h2 x hn).trans hv) h) hd
theorem J4n {x:Str}{v:V}{u:Value}{pos:Pos}(hg:Gl X x)(hm:X.mg x=some u)(r:RelV v u)(hd:(x==("__debug__" : Str))=false:=by decide):PE X (.Name x pos) (tC v) :=
 fun _ _ _ H _ I h=>LK I hg hm ⟨v,H,I,r,h⟩ hd
theorem J4o {x:Str}{v:V}{u:Value}{pos:Pos}(hg:Gl X x)(hm:X.mg x=none)(hv:bootBuiltins x=some u)(r:RelV v u)(hn:x≠"__name__":=by decide) (hd:(x==("__debug__" : Str))=false:=by decide):PE X (.Name x pos) (tC v) :=
 fun _ _ _ H _ I h=>KB I hg hm hv ⟨v,H,I,r,h⟩ hn hd
variable {a b:Expr}{ta tb:TE}{pos:Pos}
variable {tA tB':TT}{rest:List Expr}
def Q2b (t u:TT):TT:=fun σ H Q=>t σ H fun c H1=>if c=true then u σ H1 Q else Q false H1
def tOr (t u:TT):TT:=fun σ H Q=>t σ H fun c H1=>if c=true then Q true H1 else u σ H1 Q
def Q4d (t:TT):TT:=fun σ H Q=>t σ H fun c H1=>Q (!c) H1
theorem J4h (ha:PT X a tA):PW X (.BoolOp .And [a] pos) tA:=by
 intro wh pins s σ H Q I h
 refine isTrue_and (thn (ha pins s σ H Q I h) fun c s1 e=>?_)
 cases c with
 | true=>exact isTrue_and_nil e
 | false=>exact e
theorem J8k (ha:PT X a tA):PW X (.BoolOp .Or [a] pos) tA:=by
 intro wh pins s σ H Q I h
 refine isTrue_or (thn (ha pins s σ H Q I h) fun c s1 e=>?_)
 cases c with
 | false=>exact isTrue_or_nil e
 | true=>exact e
theorem J8l (ha:PT X a tA)(hb:PW X (.BoolOp .And (b::rest) pos) tB'):PW X (.BoolOp .And (a::b::rest) pos) (Q2b tA tB'):=by
 intro wh pins s σ H Q I h
 refine isTrue_and (thn (ha pins s σ H _ I h) fun c s1 ⟨H1,I1,q1⟩=>?_)
 cases c with
 | true=>exact hb wh pins s1 σ H1 Q I1 q1
 | false=>exact ⟨H1,I1,q1⟩
theorem Q2e (ha:PT X a tA)(hb:PW X (.BoolOp .Or (b::rest) pos) tB'):PW X (.BoolOp .Or (a::b::rest) pos) (tOr tA tB'):=by
 intro wh pins s σ H Q I h
 refine isTrue_or (thn (ha pins s σ H _ I h) fun c s1 ⟨H1,I1,q1⟩=>?_)
 cases c with
 | true=>exact ⟨H1,I1,q1⟩
 | false=>exact hb wh pins s1 σ H1 Q I1 q1
theorem J8m (ha:PT X a tA):PT X (.UnaryOp .Not a pos) (Q4d tA):=by
 intro pins s σ H Q I h
 exact isTrue_not (ha pins s σ H (fun c H1=>Q (!c) H1) I h)
def Q2a (ta tb:TE):TE:=fun σ H Q=>ta σ H fun x H1=>∃ c,x=.bl c/\if c=true then tb σ H1 Q else Q (.bl false) H1
def Q4c (ta tb:TE):TE:=fun σ H Q=>ta σ H fun x H1=>∃ c,x=.bl c/\if c=true then Q (.bl true) H1 else tb σ H1 Q
def Q1w (ta:TE):TE:=fun σ H Q=>ta σ H fun x H1=>∃ c,x=.bl c/\Q (.bl (!c)) H1
theorem J8p {op}{t:TE}(h:PE X a t):PE X (.BoolOp op [a] pos) t:=fun pins s σ H Q I hw=>BoolOp_one (h pins s σ H Q I hw)
theorem J8s (ha:PE X a ta)(hb:PE X (.BoolOp .And (b::rest) pos) tb):PE X (.BoolOp .And (a::b::rest) pos) (Q2a ta tb):=by
 intro pins s σ H Q I h
 refine BoolOp_and (thn (ha pins s σ H _ I h) fun v s1 ⟨x,H1,I1,r1,q1⟩=>?_)
 obtain ⟨c,rfl,q1⟩:=q1
 cases r1
 refine D6 ?_
 cases c with
 | true=>exact hb pins s1 σ H1 Q I1 q1
 | false=>exact ⟨.bl false,H1,I1,rfl,q1⟩
theorem Q2g (ha:PE X a ta)(hb:PE X (.BoolOp .Or (b::rest) pos) tb):PE X (.BoolOp .Or (a::b::rest) pos) (Q4c ta tb):=by
 intro pins s σ H Q I h
 refine BoolOp_or (thn (ha pins s σ H _ I h) fun v s1 ⟨x,H1,I1,r1,q1⟩=>?_)
 obtain ⟨c,rfl,q1⟩:=q1
 cases r1
 refine D6 ?_
 cases c with
 | false=>exact hb pins s1 σ H1 Q I1 q1
 | true=>exact ⟨.bl true,H1,I1,rfl,q1⟩
theorem J8q (ha:PE X a ta):PE X (.UnaryOp .Not a pos) (Q1w ta):=by
 intro pins s σ H Q I h
 refine UnaryOp_ (thn (ha pins s σ H _ I h) fun v s1 ⟨x,H1,I1,r1,q1⟩=>?_)
 obtain ⟨c,rfl,q1⟩:=q1
 cases r1
 exact not_of (D6 ⟨.bl (!c),H1,I1,rfl,q1⟩)
def tIf (t:TT)(ta tb:TE):TE:=fun σ H Q=>t σ H fun c H1=>if c=true then ta σ H1 Q else tb σ H1 Q
theorem J0p {c:Expr}(hc:PT X c tA)(ha:PE X a ta)(hb:PE X b tb):PE X (.IfExp c a b pos) (tIf tA ta tb):=by
 intro pins s σ H Q I h
 refine wpAny_IfExp (thn (hc pins s σ H _ I h) fun d s1 ⟨H1,I1,q1⟩=>?_)
 cases d with
 | true=>exact ha pins s1 σ H1 Q I1 q1
 | false=>exact hb pins s1 σ H1 Q I1 q1
end
def SqL (K:Fg)(H:Hp)(a:Addr)(xs:List V):Prop :=
 Rd H a (.lst xs) \/
  ∃ (o:Obj) (its:Array Value) (n:Nat),K.lookup a=some o/\o.cls=.type "list"/\o.dict=none/\o.data=.seq its n/\its.size<=sizeLine/\Vals xs its.toList
def SqT (K:Fg)(H:Hp)(a:Addr)(xs:List V):Prop :=
 Rd H a (.tup xs) \/
  ∃ (o:Obj) (its:Array Value) (n:Nat),K.lookup a=some o/\o.cls=.type "tuple"/\o.data=.seq its n/\its.size<=sizeLine/\Vals xs its.toList
def Q4v:Value->Option V
 | .none=>some .non
 | .bool b=>some (.bl b)
 | .int i _=>some (.int i)
 | .str x _=>some (.str x)
 | .bytes b _=>some (.byt b)
 | .float b _=>some (.flt b)
 | .ref a=>some (.ref a)
 | .type n=>some (.ty n)
 | _=>none
theorem RelV.abs {x:V}{u:Value}(r:RelV x u):Q4v u=some x:=by
 cases x with
 | non=>cases r;rfl
 | bl _=>cases r;rfl
 | int _=>obtain ⟨t,rfl⟩:=r;rfl
 | str _=>obtain ⟨t,rfl⟩:=r;rfl
 | byt _=>obtain ⟨t,rfl⟩:=r;rfl
 | flt _=>obtain ⟨t,rfl⟩:=r;rfl
 | ref _=>cases r;rfl
 | ty _=>cases r;rfl
theorem RelV.inj {x y:V}{u:Value}(r:RelV x u)(q:RelV y u):x=y:=Option.some.inj (r.abs.symm.trans q.abs)
theorem Vals.inj:∀ {xs ys:List V} {us:List Value},Vals xs us->Vals ys us->xs=ys
 | _,_,_,.nil,.nil=>rfl
 | _,_,_,.cons r t,.cons r' t'=>by rw [r.inj r',Vals.inj t t']
section
variable {X:Cx}{pins:List (Addr×Obj)}{σ:St}{H:Hp}{s:Shared}{a:Addr}{xs ys:List V}
theorem SqL.of (h:H a=some (.lst xs)):SqL K H a xs:=.inl (.inl h)
theorem SqT.of (h:H a=some (.tup xs)):SqT K H a xs:=.inl (.inl h)
theorem Inv.list (I:Inv X pins σ H s)(h:SqL X.K H a xs):∃ its:List Value,Vals xs its/\PlainL s.heap a its.toArray/\xs.length<=sizeLine:=by
 rcases h with h|⟨o,its,n,hk,hc,hd,hs,hz,r⟩
 · obtain ⟨z,its,n,r,e⟩:=h.ok I.hok
   exact ⟨its,r,⟨_,n,e,rfl,rfl,rfl⟩,z⟩
 · refine ⟨its.toList,r,⟨o,n,I.kIn a o hk,hc,hd,by simpa using hs⟩,?_⟩
   have e:=r.length
   simp only [B1j] at e
   omega
theorem Inv.tuple (I:Inv X pins σ H s)(h:SqT X.K H a xs):∃ its:List Value,Vals xs its/\IsTup s.heap a its.toArray/\xs.length<=sizeLine:=by
 rcases h with h|⟨o,its,n,hk,hc,hs,hz,r⟩
 · obtain ⟨z,its,r,p⟩:=h.ok I.hok
   exact ⟨its,r,p,z⟩
 · refine ⟨its.toList,r,⟨o,I.kIn a o hk,hc,n,by simpa using hs⟩,?_⟩
   have e:=r.length
   simp only [B1j] at e
   omega
theorem Inv.list_inj (I:Inv X pins σ H s)(h:SqL X.K H a xs)(h':SqL X.K H a ys):xs=ys:=by
 obtain ⟨its,r,⟨o,n,e,_,_,d⟩,_⟩:=I.list h
 obtain ⟨its',r',⟨o',n',e',_,_,d'⟩,_⟩:=I.list h'
 rw [e] at e';cases e'
 rw [d] at d'
 injection d' with d1 _
 have:its=its':=by simpa using W9 Array.toList d1
 subst this
 exact r.inj r'
theorem Inv.tuple_inj (I:Inv X pins σ H s)(h:SqT X.K H a xs)(h':SqT X.K H a ys):xs=ys:=by
 obtain ⟨its,r,⟨o,e,_,n,d⟩,_⟩:=I.tuple h
 obtain ⟨its',r',⟨o',e',_,n',d'⟩,_⟩:=I.tuple h'
 rw [e] at e';cases e'
 rw [d] at d'
 injection d' with d1 _
 have:its=its':=by simpa using W9 Array.toList d1
 subst this
 exact r.inj r'
end
abbrev Cx.wish (X:Cx)(E:Value->Shared->Prop):Cx:={ X with xe:=E }
abbrev Cx.nox (X:Cx):Cx:=X.wish fun _ _=>False
theorem Cx.Ok.wish {X:Cx}(ok:X.Ok)(E:Value->Shared->Prop):(X.wish E).Ok :=
 ⟨ok.mod,ok.kind,ok.glob,ok.blt,ok.above,ok.inj,ok.has,ok.cab,ok.hd,ok.frames,ok.stk,ok.exf,ok.bs,ok.bsz,ok.noex,ok.exfs,ok.funs,ok.frf⟩
theorem Cx.Ok.unwish {X:Cx}{E:Value->Shared->Prop}(ok:(X.wish E).Ok):X.Ok :=
 ⟨ok.mod,ok.kind,ok.glob,ok.blt,ok.above,ok.inj,ok.has,ok.cab,ok.hd,ok.frames,ok.stk,ok.exf,ok.bs,ok.bsz,ok.noex,ok.exfs,ok.funs,ok.frf⟩
section
variable {X:Cx}{pins:List (Addr×Obj)}{σ:St}{H:Hp}{s:Shared}{E:Value->Shared->Prop}
theorem Inv.wish (I:Inv X pins σ H s)(E:Value->Shared->Prop):Inv (X.wish E) pins σ H s:=⟨I.ok.wish E,I.os,I.bare,I.base,I.loc,I.cell,I.free,I.freeC,I.pin,I.hok,I.len⟩
theorem Inv.unwish (I:Inv (X.wish E) pins σ H s):Inv X pins σ H s:=⟨I.ok.unwish,I.os,I.bare,I.base,I.loc,I.cell,I.free,I.freeC,I.pin,I.hok,I.len⟩
theorem SP.unwish {D:Ends}{f:Flow}{s':Shared}(h:SP (X.wish E) pins D f s'):SP X pins D f s':=by
 cases f with
 | next=>obtain ⟨σ',H',I,q⟩:=h;exact ⟨σ',H',I.unwish,q⟩
 | brk=>obtain ⟨σ',H',I,q⟩:=h;exact ⟨σ',H',I.unwish,q⟩
 | cont=>obtain ⟨σ',H',I,q⟩:=h;exact ⟨σ',H',I.unwish,q⟩
 | ret u=>obtain ⟨v,σ',H',I,r,q⟩:=h;exact ⟨v,σ',H',I.unwish,r,q⟩
theorem PSs.nox {st:List Stmt}{t:TS}(h:PSs X.nox st t):PSs X st t:=fun pins s σ H D I hw =>
 T6 (h pins s σ H D (I.wish _) hw) (fun _ _ q=>q.unwish) fun _ _ z=>False.elim z
end
section
variable {X:Cx}{st:Stmt}{rest:List Stmt}{t u:TS}{e:Expr}{te:TE}{pos:Pos}
def Q1x:TS:=fun D σ H=>D.nx σ H
def Q4a (t u:TS):TS:=fun D σ H=>t { D with nx:=u D } σ H
theorem LI:PSs X [] Q1x:=fun _ _ σ H _ I h=>wpAny_execs_nil ⟨σ,H,I,h⟩
theorem AX (h1:PS X st t)(h2:PSs X rest u):PSs X (st::rest) (Q4a t u):=by
 intro pins s σ H D I h
 refine wpAny_execs_cons (thn (h1 pins s σ H { D with nx:=u D } I h) fun f s1 q=>?_)
 cases f with
 | next =>
   obtain ⟨σ',H',I',q⟩:=q
   exact h2 pins s1 σ' H' D I' q
 | ret v=>exact q
 | brk=>exact q
 | cont=>exact q
theorem EV (h1:PS X st t):PSs X [st] t:=by
 intro pins s σ H D I h
 refine wpAny_execs_cons (thn (h1 pins s σ H D I h) fun f s1 q=>?_)
 cases f with
 | next=>exact wpAny_execs_nil q
 | ret v=>exact q
 | brk=>exact q
 | cont=>exact q
theorem Inv.quiet {pins:List (Addr×Obj)}{σ:St}{H:Hp}{s:Shared}(I:Inv X pins σ H s):interactive X.env=false:=by simp [interactive,I.ok.kind]
def RM (te:TE):TS:=fun D σ H=>te σ H fun _ H1=>D.nx σ H1
theorem IW (he:PE X e te)(hs:swapsWith e none pos.line X.env=pure false:=by rfl):PS X (.Expr e pos) (RM te):=by
 intro pins s σ H D I h
 exact wpAny_Expr_any (thn (he pins s σ H _ I h) fun v s1 ⟨x,H1,I1,r1,q1⟩=>⟨σ,H1,I1,q1⟩) I.quiet hs
def Q4b (te:TE):TS:=fun D σ H=>te σ H D.rt
theorem JR (he:PE X e te):PS X (.Return (some e) pos) (Q4b te):=by
 intro pins s σ H D I h
 exact wpAny_Return_some (thn (he pins s σ H _ I h) fun v s1 ⟨x,H1,I1,r1,q1⟩=>⟨x,σ,H1,I1,r1,q1⟩)
def Q4f (c:TT)(t u:TS):TS:=fun D σ H=>c σ H fun b H1=>if b=true then t D σ H1 else u D σ H1
theorem WA {c:Expr}{a b:List Stmt}{tc:TT}(hc:PT X c tc)(ha:PSs X a t)(hb:PSs X b u):PS X (.If c a b pos) (Q4f tc t u):=by
 intro pins s σ H D I h
 refine wpAny_If (thn (hc pins s σ H _ I h) fun d s1 ⟨H1,I1,q1⟩=>?_)
 cases d with
 | true=>exact ha pins s1 σ H1 D I1 q1
 | false=>exact hb pins s1 σ H1 D I1 q1
def J8d:TS:=fun _ _ _=>False
theorem J0k:PS X st J8d:=fun _ _ _ _ _ _ h=>h.elim
end
abbrev TG:=V->St->Hp->(St->Hp->Prop)->Prop
abbrev TGs:=List V->St->Hp->(St->Hp->Prop)->Prop
def PG (X:Cx)(target:Expr)(t:TG):Prop :=
 ∀ (pins:List (Addr×Obj)) (s:Shared) (σ:St) (H:Hp) (v:V) (u:Value) (Q:St->Hp->Prop),Inv X pins σ H s->RelV v u->t v σ H Q ->
  wpAny (model X.prog X.w) X.A (assign target X.env u) (fun _ s'=>∃ σ' H',Inv X pins σ' H' s'/\Q σ' H') X.xe s
def PGs (X:Cx)(ts:List Expr)(t:TGs):Prop :=
 ∀ (pins:List (Addr×Obj)) (s:Shared) (σ:St) (H:Hp) (vs:List V) (us:List Value) (Q:St->Hp->Prop),Inv X pins σ H s->Vals vs us->t vs σ H Q ->
  wpAny (model X.prog X.w) X.A (assignInOrder ((assignEach ts X.env).map (·.2)) us) (fun _ s'=>∃ σ' H',Inv X pins σ' H' s'/\Q σ' H') X.xe s
abbrev Q1h:=V->V->V->Hp->(Hp->Prop)->Prop
def Q3x (X:Cx)(t:Q1h):Prop :=
 ∀ (pins:List (Addr×Obj)) (s:Shared) (σ:St) (H:Hp) (o i v:V) (ov iv u:Value) (Q:Hp->Prop),Inv X pins σ H s->RelV o ov->RelV i iv->RelV v u->t o i v H Q ->
  wpAny (model X.prog X.w) X.A (setItem ov iv u) (fun _ s'=>∃ H',Inv X pins σ H' s'/\Q H') X.xe s
section
variable {X:Cx}{pos:Pos}
def SR (i:Nat):TG:=fun v σ H Q=>Q (σ.set i (some v)) H
theorem pg_name {i:Nat} {x:Str} (hN:X.N.Nodup) (hi:X.N[i]?=some x) (hx:Loc X.env.scope x) (hf:X.fn x=true\/X.env.scope.names.lookup x=some .local:=by first|exact .inl rfl|exact .inr rfl|assumption):PG X (.Name x pos) (SR i):=by
 intro pins s σ H v u Q I r h
 exact wpAny_assign_Name (IS I hN hi hx r (fun s' I'=>⟨_,H,I',h⟩) hf)
def J9n:TGs:=fun vs σ H Q=>vs=[]/\Q σ H
def WR (t:TG)(u:TGs):TGs:=fun vs σ H Q=>∃ v r,vs=v::r/\t v σ H fun σ' H'=>u r σ' H' Q
theorem Y3:PGs X [] J9n:=by
 intro pins s σ H vs us Q I r h
 obtain ⟨e,h⟩:=h
 subst e
 cases r
 exact assignInOrder_nil ⟨σ,H,I,h⟩
theorem J4 {e:Expr}{es:List Expr}{t:TG}{u:TGs}(h1:PG X e t)(h2:PGs X es u)
 (hs:(assignEach (e::es) X.env).map (·.2)=assign e X.env::(assignEach es X.env).map (·.2):=by rfl):PGs X (e::es) (WR t u):=by
 intro pins s σ H vs us Q I r h
 obtain ⟨v,vr,e1,h⟩:=h
 subst e1
 cases r with
 | cons r rr =>
   rw [hs]
   refine assignInOrder_cons (thn (h1 pins s σ H _ _ _ I r h) fun _ s1 ⟨σ1,H1,I1,q1⟩=>?_)
   exact h2 pins s1 σ1 H1 _ _ Q I1 rr q1
def J5j (K:Fg)(n:Nat)(t:TGs):TG:=fun v σ H Q=>∃ a xs,v=.ref a/\SqT K H a xs/\xs.length=n/\t xs σ H Q
theorem J8o {es:List Expr}{k:Nat}{t:TGs}{n:Nat}(hc:X.calm=true)(h:PGs X es t)
 (hn:(assignEach es X.env).length=n:=by rfl) (hst:(assignEach es X.env).findIdx? (·.1)=none:=by rfl):PG X (.Tuple es k pos) (J5j X.K n t):=by
 intro pins s σ H v u Q I r hw
 obtain ⟨a,xs,e1,hq,hl,hw⟩:=hw
 subst e1
 cases r
 obtain ⟨its,rv,ht,hz⟩:=I.tuple hq
 refine assign_Tuple_tuple (I.ok.hd hc) ht (by simp [hn,<- hl,rv.length]) hst fun h' hx=>?_
 have I1:Inv X pins σ H { s with heap:=h' }:=I.kept (t':=s.toks) fun b o e=>hx b o (R7 (B5 e)) e
 exact h pins _ σ H xs _ Q I1 (by simpa using rv) hw
def J1y (to ti:TE)(t:Q1h):TG:=fun v σ H Q=>to σ H fun o H1=>ti σ H1 fun i H2=>t o i v H2 fun H3=>Q σ H3
theorem MG {o i:Expr}{to ti:TE}{t:Q1h}(ho:PE X o to)(hi:PE X i ti)(hs:Q3x X t)
 (ha:∀ v,assign (.Subscript o i pos) X.env v=(do
  let ov <- holding [v] (eval o X.env)
  let iv <- holding [v,ov] (eval i X.env)
  standAt pos
  holding [v,ov,iv] (setItem ov iv v)
  release [v,ov,iv] []):=by intro _;rfl):PG X (.Subscript o i pos) (J1y to ti t):=by
 intro pins s σ H v u Q I r h
 rw [ha]
 refine B0 (W6 (thn (ho pins s σ H _ I h) fun ov s1 ⟨x,H1,I1,r1,q1⟩=>?_))
 refine B0 (W6 (thn (hi pins s1 σ H1 _ I1 q1) fun iv s2 ⟨y,H2,I2,r2,q2⟩=>?_))
 refine B0 (E5 (B0 (W6 (thn (hs pins s2 σ H2 x y v ov iv u _ I2 r1 r2 r q2) fun _ s3 ⟨H3,I3,q3⟩=>?_))))
 exact wpAny_release ⟨σ,H3,I3,q3⟩
def ZT (te:TE)(g:TG):TS:=fun D σ H=>te σ H fun x H1=>g x σ H1 D.nx
theorem JU {tg e:Expr}{te:TE}{g:TG}(he:PE X e te)(hg:PG X tg g)(hs:swapsWithSole [tg] e pos.line X.env=pure false:=by rfl)(hw:swappedStores [tg] e X.env=pure none:=by rfl)
 (h1:(assignEach [tg] X.env).map (·.2)=[assign tg X.env]:=by rfl):PS X (.Assign [tg] e pos) (ZT te g):=by
 intro pins s σ H D I h
 refine wpAny_Assign_stores (thn (he pins s σ H _ I h) fun v s1 ⟨x,H1,I1,r1,q1⟩=>?_) hs hw
 rw [h1]
 exact thn (hg pins s1 σ H1 x v _ I1 r1 q1) fun _ s2 q=>q
theorem DK {i:Nat} {x:Str} {e:Expr} {te:TE} {pos':Pos} (hN:X.N.Nodup) (hi:X.N[i]?=some x) (hx:Loc X.env.scope x) (he:PE X e te) (hs:swapsWith e (some (.Name x pos')) pos.line X.env=pure false:=by rfl) (hf:X.fn x=true\/X.env.scope.names.lookup x=some .local:=by first|exact .inl rfl|exact .inr rfl|assumption) :
 PS X (.Assign [.Name x pos'] e pos) (ZT te (SR i)):=by
 intro pins s σ H D I h
 refine wpAny_Assign_Name (thn (he pins s σ H _ I h) fun v s1 ⟨y,H1,I1,r1,q1⟩=>?_) hs
 exact IS I1 hN hi hx r1 (fun s2 I2=>⟨_,H1,I2,q1⟩) hf
def Q1v (i j:Nat)(ta:TA):TS:=fun D σ H=>ta σ H fun vs H1=>∃ v w,vs=[v,w]/\D.nx ((σ.set i (some v)).set j (some w)) H1
theorem J0j {i j:Nat}{x y:Str}{a b:Expr}{ta:TA}{px py pt:Pos}{kt k2 pt2}(hc:X.calm=true)(hN:X.N.Nodup)(hi:X.N[i]?=some x)(hj:X.N[j]?=some y)(hij:i≠j)
 (hx:X.env.scope.names.lookup x=some .local) (hy:X.env.scope.names.lookup y=some .local) (ha:PA X [a,b] ta)
 (hw:swappedStores [.Tuple [.Name x px,.Name y py] kt pt] (.Tuple [a,b] k2 pt2) X.env=pure (some [x,y]))
 (hs:swapsWithSole [.Tuple [.Name x px,.Name y py] kt pt] (.Tuple [a,b] k2 pt2) pos.line X.env=pure false:=by rfl) :
 PS X (.Assign [.Tuple [.Name x px,.Name y py] kt pt] (.Tuple [a,b] k2 pt2) pos) (Q1v i j ta):=by
 intro pins s σ H D I h
 rw [exec_Assign_arm]
 refine B0 (E5 ?_)
 rw [hs]
 refine B0 (L1 ?_)
 rw [if_neg (by decide)]
 refine B0 (Tuple_ (thn (ha _ pins s σ H _ I h) fun us s1 ⟨vs,H1,I1,r1,q1⟩=>?_))
 obtain ⟨v,w,e1,q1⟩:=q1
 subst e1
 obtain ⟨u1,u2,rfl,rv,rw'⟩:∃ u1 u2,us=[u1,u2]/\RelV v u1/\RelV w u2:=by
  cases r1 with
  | cons p q =>
    cases q with
    | cons p' q' =>
      cases q'
      exact ⟨_,_,rfl,p,p'⟩
 refine U3 ?_ (by show 2<=sizeLine;decide)
 have I2:Inv X pins σ H1 { s1 with heap:=s1.heap.push { cls:=.type "tuple",data:=.seq [u1,u2].toArray } }:=I1.kept (t':=s1.toks) fun b o e=>B1 _ e
 rw [hw]
 refine B0 (L1 ?_)
 show wpAny (model X.prog X.w) X.A (do rule "assign.swapped-stores";let items <- unpackItems (.ref s1.heap.objs.size) 2 none;assignInOrder [fun v=>bindName X.env y v,fun v=>bindName X.env x v] items.reverse;pure Flow.next) _ _ _
 refine B0 (wpAny_rule (B0 (unpackItems_tuple (items:=#[u1,u2]) (I.ok.hd hc) (IsTup.new s1.heap _) fun h' hx'=>?_)))
 have I3:=I2.kept (h':=h') (t':=s1.toks) fun b o e=>hx' b o (R7 (B5 e)) e
 show wpAny _ _ (assignInOrder [fun v=>bindName X.env y v,fun v=>bindName X.env x v] [u2,u1] >>= fun _=>pure Flow.next) _ _ _
 refine B0 (assignInOrder_cons (wpAny_bindName (IS I3 hN hj (.inl hy) rw' (fun s2 I4=>?_) (.inr hy))))
 refine assignInOrder_cons (wpAny_bindName (IS I4 hN hi (.inl hx) rv (fun s3 I5=>assignInOrder_nil (L1 ?_)) (.inr hx)))
 rw [List.set_comm _ _ (B0f hij)] at I5
 exact ⟨_,H1,I5,q1⟩
end
section
variable {X:Cx}{pos:Pos}
def TZ (c:TT)(tb:TS):TS:=fun D σ H=>∃ W:Nat->St->Hp->Prop,(∃ m,W m σ H)/\∀ m σ H,W m σ H ->
 c σ H fun b H1=>if b=true then ∃ N:St->Hp->Prop,(∀ σ' H',N σ' H'->∃ m',m'<m/\W m' σ' H')/\tb { D with nx:=N,ct:=N,bk:=D.nx } σ H1 else D.nx σ H1
theorem RX {c:Expr}{body:List Stmt}{tc:TT}{tb:TS}(hp:PassesOwn (model X.prog X.w) X.A X.env X.xe)(hc:PT X c tc)(hb:PSs X body tb):PS X (.While c body [] pos) (TZ tc tb):=by
 intro pins s σ H D I h
 obtain ⟨W,⟨m0,w0⟩,turn⟩:=h
 refine wpAny_While (codeAny_whileLoop (fun n s'=>∃ σ' H',Inv X pins σ' H' s'/\W n σ' H') ?_ m0 ⟨σ,H,I,w0⟩)
 rintro n s1 ⟨σ1,H1,I1,w1⟩
 refine D1 hp (thn (hc pins s1 σ1 H1 _ I1 (turn n σ1 H1 w1)) fun b s2 ⟨H2,I2,q2⟩=>?_)
 cases b with
 | true =>
   obtain ⟨N,hN,q2⟩:=q2
   rw [if_pos rfl]
   refine D1 hp (thn (hb pins s2 σ1 H2 _ I2 q2) fun f s3 q3=>?_)
   cases f with
   | next =>
     obtain ⟨σ3,H3,I3,n3⟩:=q3
     obtain ⟨m',hm,w3⟩:=hN σ3 H3 n3
     exact ⟨m',hm,σ3,H3,I3,w3⟩
   | cont =>
     obtain ⟨σ3,H3,I3,n3⟩:=q3
     obtain ⟨m',hm,w3⟩:=hN σ3 H3 n3
     exact ⟨m',hm,σ3,H3,I3,w3⟩
   | brk=>exact q3
   | ret v=>exact q3
 | false =>
   rw [if_neg B7]
   exact wpAny_execs_nil ⟨σ1,H2,I2,q2⟩
end
structure It where
 go:Nat->Hp->Prop
 yld:Nat->Hp->V->Hp->Prop
 stop:Nat->Hp->Prop
def GK (X:Cx)(pins:List (Addr×Obj))(H:Hp)(b:Addr):Prop :=
 H b=none/\b≠X.env.locals/\b∉X.fs/\(b∈X.ex\/X.s₀.heap.objs.size<=b)/\(∀ x c,X.env.cells.lookup x=some c->c≠b)/\∀ p∈X.pn++pins,p.1≠b
theorem Inv.fpOk {X:Cx}{pins:List (Addr×Obj)}{σ:St}{H H':Hp}{s:Shared}{b:Addr}(I:Inv X pins σ H s)(hb:s.heap.objs.size<=b)(hn:H' b=none):GK X pins H' b:=by
 refine ⟨hn,D3 (L7 I.lt hb),I.nofs hb,.inr (M7 I.sz hb),fun x c e z=>?_,fun p hp z=>?_⟩
 · obtain ⟨v,q⟩:=I.cell x c e
   exact absurd (L7 q.lt (by rw [z];exact hb)) (L9 _)
 · exact absurd (L7 (B5 (I.pin p hp).1) (by rw [z];exact hb)) (L9 _)
structure Turn (P:Program)(w:World)(K:Fg)(tg:Expr)(J:It)(fp:List Addr)(it:Addr)(tn:Nat->Heap->Prop):Prop where
 mem:it∈fp
 obj:∀ i h,tn i h->∀ b∈fp,∃ o,h.get? b=some o/\∀ v,o.data≠.cell v
 keep:∀ i h h',tn i h->(∀ b∈fp,∀ o,h.get? b=some o->h'.get? b=some o)->tn i h'
 item:∀ (X:Cx),X.prog=P->X.w=w->X.K=K->X.calm=true->∀ (i:Nat) (pins:List (Addr×Obj)) (s:Shared) (σ:St) (H:Hp) (E:Value->Shared->Prop),Inv X pins σ H s->(∀ b∈fp,GK X pins H b)->tn i s.heap->J.go i H ->
  wpAny (model P w) X.A (pyNext (.ref it)) (fun r s1=>∃ u,r=some u /\
   wpAny (model P w) X.A (letOwnedTupleGo tg (.ref it) u) (fun _ s2=>∃ x H',Inv X pins σ H' s2/\RelV x u/\J.yld i H x H'/\tn (i+1) s2.heap/\∀ b∈fp,H' b=none) E s1) E s
 done:∀ (X:Cx),X.prog=P->X.w=w->X.K=K->X.calm=true->∀ (i:Nat) (pins:List (Addr×Obj)) (s:Shared) (σ:St) (H:Hp) (E:Value->Shared->Prop),Inv X pins σ H s->(∀ b∈fp,GK X pins H b)->tn i s.heap->J.stop i H ->
  wpAny (model P w) X.A (pyNext (.ref it)) (fun r s1=>r=none/\Inv X pins σ H s1) E s
 self:∀ (A:Around) (i:Nat) (s:Shared) (Q:Value->Shared->Prop) (E:Value->Shared->Prop),tn i s.heap->Q (.ref it) s->wpAny (model P w) A (pyIter (.ref it)) Q E s
abbrev TI:=St->Hp->(It->Hp->Prop)->Prop
def PIE (X:Cx)(pins:List (Addr×Obj))(σ:St)(tg:Expr)(R:It->Hp->Prop)(itv:Value)(s2:Shared):Prop :=
 ∃ (it:Addr) (fp:List Addr) (tn:Nat->Heap->Prop) (J:It) (H':Hp),itv=.ref it/\Inv X pins σ H' s2/\Turn X.prog X.w X.K tg J fp it tn/\tn 0 s2.heap/\(∀ b∈fp,GK X pins H' b)/\R J H'
def PI (X:Cx)(tg iter:Expr)(wi:TI):Prop :=
 ∀ (pins:List (Addr×Obj)) (s:Shared) (σ:St) (H:Hp) (R:It->Hp->Prop),Inv X pins σ H s->wi σ H R ->
  wpAny (model X.prog X.w) X.A (eval iter X.env) (fun v s1=>wpAny (model X.prog X.w) X.A (pyIter v) (PIE X pins σ tg R) X.xe s1) X.xe s
theorem J1u {M:Model}{A:Around}{E:Value->Shared->Prop}{s:Shared}{tg:Expr}{it:Addr}{u:Value}{o:Obj}{n:String}{vs:Array Value}{Q:Unit->Shared->Prop}(ho:s.heap.get? it=some o)(hc:o.cls=.type n)(hd:o.data=.fields vs)
 (hn:["enumerate","zip","dict_itemiterator","dict_reverseitemiterator","odict_iterator","itertools.zip_longest","itertools.pairwise"].contains n=false) (hQ:Q () s):wpAny M A (letOwnedTupleGo tg (.ref it) u) Q E s:=by
 unfold letOwnedTupleGo
 cases tg<;>first
  | exact L1 hQ
  | (cases u<;>first
   | exact L1 hQ
   | (refine B0 (wpAny_load ho ?_)
      rw [hc,hd]
      show wpAny M A (if (["enumerate","zip","dict_itemiterator","dict_reverseitemiterator","odict_iterator","itertools.zip_longest","itertools.pairwise"].contains n&&vs[0]?==some (rawInt _))=true then _ else _) Q E s
      rw [if_neg (by intro h;rw [hn,Bool.false_and] at h;cases h)]
      exact L1 hQ))
def Itl (K:Fg)(a:Addr):It :=
 ⟨fun i H=>∃ xs x,SqL K H a xs/\xs[i]?=some x,fun i H x H'=>H'=H/\∀ xs,SqL K H a xs->xs[i]?=some x,fun i H=>∃ xs,SqL K H a xs/\xs.length<=i⟩
def Itt (K:Fg)(a:Addr):It :=
 ⟨fun i H=>∃ xs x,SqT K H a xs/\xs[i]?=some x,fun i H x H'=>H'=H/\∀ xs,SqT K H a xs->xs[i]?=some x,fun i H=>∃ xs,SqT K H a xs/\xs.length<=i⟩
def Itr (lo:Int)(n:Nat):It:=⟨fun i _=>i<n,fun i H x H'=>H'=H/\x=.int (lo+i),fun i _=>n<=i⟩
theorem XW {w:World} {tg:Expr}(a it:Addr):Turn P w K tg (Itl K a) [it] it (fun i h=>h.IsListIter it a i) where
 mem:=by simp
 obj:=fun i h st b hb=>by
  have e:b=it:=by simpa using hb
  subst e
  obtain ⟨o,e,c,d⟩:=st
  exact ⟨o,e,fun v z=>by rw [d] at z;cases z⟩
 keep:=fun i h h' st k=>st.at fun o e=>k it (by simp) o e
 item:=by
  intro X hP hw hK hc i pins s σ H E I hf st hg
  subst hP hw hK
  obtain ⟨xs,x,hq,hx⟩:=hg
  obtain ⟨its,rv,p,hz⟩:=I.list hq
  obtain ⟨u,hu,ru⟩:=rv.get hx
  obtain ⟨f0,f1,f2,f3,f4,f5⟩:=hf it (by simp)
  refine wpAny_pyNext_list_item st p.isList (x:=u) (by simpa using hu) fun h' st' sb=>?_
  have I1:Inv X pins σ H { s with heap:=h' }:=I.turned (t':=s.toks) (fun b o hb e=>(sb.2 b hb).trans e) f0 f1 f3 f4 f5
  obtain ⟨o,e,c,d⟩:=id st'
  exact ⟨u,rfl,J1u (s:={ s with heap:=h' }) e c d (by decide) ⟨x,H,I1,ru,⟨rfl,fun ys hy=>by rw [I.list_inj hy hq];exact hx⟩,st',fun b hb=>(hf b hb).1⟩⟩
 done:=by
  intro X hP hw hK hc i pins s σ H E I hf st hg
  subst hP hw hK
  obtain ⟨xs,hq,hx⟩:=hg
  obtain ⟨its,rv,p,hz⟩:=I.list hq
  obtain ⟨f0,f1,f2,f3,f4,f5⟩:=hf it (by simp)
  have hl:=rv.length
  exact wpAny_pyNext_list_end (I.ok.hd hc) st p.isList (by simp;omega) fun h' eb=>⟨rfl,I.turned (t':=s.toks) (fun b o hb e=>eb b o hb e) f0 f1 f3 f4 f5⟩
 self:=fun _ _ _ _ _ st h=>wpAny_pyIter_listiter st h
theorem TX {w:World} {tg:Expr}(a it:Addr):Turn P w K tg (Itt K a) [it] it (fun i h=>h.IsTupleIter it a i) where
 mem:=by simp
 obj:=fun i h st b hb=>by
  have e:b=it:=by simpa using hb
  subst e
  obtain ⟨o,e,c,d⟩:=st
  exact ⟨o,e,fun v z=>by rw [d] at z;cases z⟩
 keep:=fun i h h' st k=>st.at fun o e=>k it (by simp) o e
 item:=by
  intro X hP hw hK hc i pins s σ H E I hf st hg
  subst hP hw hK
  obtain ⟨xs,x,hq,hx⟩:=hg
  obtain ⟨its,rv,p,hz⟩:=I.tuple hq
  obtain ⟨u,hu,ru⟩:=rv.get hx
  obtain ⟨f0,f1,f2,f3,f4,f5⟩:=hf it (by simp)
  refine wpAny_pyNext_tuple_item st (show s.heap.IsTuple a its.toArray from p) (x:=u) (by simpa using hu) fun h' st' sb=>?_
  have I1:Inv X pins σ H { s with heap:=h' }:=I.turned (t':=s.toks) (fun b o hb e=>(sb.2 b hb).trans e) f0 f1 f3 f4 f5
  obtain ⟨o,e,c,d⟩:=id st'
  exact ⟨u,rfl,J1u (s:={ s with heap:=h' }) e c d (by decide) ⟨x,H,I1,ru,⟨rfl,fun ys hy=>by rw [I.tuple_inj hy hq];exact hx⟩,st',fun b hb=>(hf b hb).1⟩⟩
 done:=by
  intro X hP hw hK hc i pins s σ H E I hf st hg
  subst hP hw hK
  obtain ⟨xs,hq,hx⟩:=hg
  obtain ⟨its,rv,p,hz⟩:=I.tuple hq
  obtain ⟨f0,f1,f2,f3,f4,f5⟩:=hf it (by simp)
  have hl:=rv.length
  exact wpAny_pyNext_tuple_end (I.ok.hd hc) st (show s.heap.IsTuple a its.toArray from p) (by simp;omega) fun h' eb=>⟨rfl,I.turned (t':=s.toks) (fun b o hb e=>eb b o hb e) f0 f1 f3 f4 f5⟩
 self:=fun _ _ _ _ _ st h=>wpAny_pyIter_tupleiter st h
theorem TY {w:World} {tg:Expr}(it:Addr)(lo:Int)(n:Nat):Turn P w K tg (Itr lo n) [it] it (fun i h=>IsRangeIter h it (lo+(i:Nat)*1) ((n:Int) - (i:Nat)) 1) where
 mem:=by simp
 obj:=fun i h st b hb=>by
  have e:b=it:=by simpa using hb
  subst e
  exact ⟨_,st,fun v z=>by
   have z':Data.fields _=Data.cell v:=z
   cases z'⟩
 keep:=fun i h h' st k=>k it (by simp) _ st
 item:=by
  intro X hP hw hK hc i pins s σ H E I hf st hg
  subst hP hw hK
  obtain ⟨f0,f1,f2,f3,f4,f5⟩:=hf it (by simp)
  have W:=Walks.range (prog:=X.prog) (w:=X.w) (I.ok.hd hc) it lo 1 n
  refine W.item i s _ _ hg st fun v h' tk hv st' kk=>?_
  obtain ⟨t,rfl⟩:=hv
  have I1:Inv X pins σ H { s with heap:=h',toks:=tk }:=I.turned (fun b o hb e=>kk b o (by simpa using hb) e) f0 f1 f3 f4 f5
  refine ⟨_,rfl,J1u (s:={ s with heap:=h',toks:=tk }) (n:="range_iterator") st' rfl rfl (by decide) ⟨.int (lo+i),H,I1,⟨t,?_⟩,⟨rfl,rfl⟩,st',fun b hb=>(hf b hb).1⟩⟩
  rw [Int.mul_one]
 done:=by
  intro X hP hw hK hc i pins s σ H E I hf st hg
  subst hP hw hK
  obtain ⟨f0,f1,f2,f3,f4,f5⟩:=hf it (by simp)
  exact wpAny_pyNext_range_end (I.ok.hd hc) st (by have:n<=i:=hg;omega) fun h' eb=>⟨rfl,I.turned (t':=s.toks) (fun b o hb e=>eb b o hb e) f0 f1 f3 f4 f5⟩
 self:=fun _ _ _ _ _ st h=>wpAny_pyIter_rangeiter st h
section
variable {X:Cx}{tg:Expr}
theorem J0c {pins:List (Addr×Obj)}{σ:St}{H:Hp}{s:Shared}{R:It->Hp->Prop}{E:Value->Shared->Prop}{lo hi:Int}{t u v:Tok}{tk:Nat}(I:Inv X pins σ H s)(h1 : -(2 ^ 62)<=lo)(h2:lo<2 ^ 62)(h3 : -(2 ^ 62)<=hi)(h4:hi<2 ^ 62)
 (q:R (Itr lo (hi - lo).toNat) H):wpAny (model X.prog X.w) X.A (pyIter (.ref s.heap.objs.size)) (PIE X pins σ tg R) E { s with heap:=s.heap.push { cls:=.type "range",data:=.fields #[.int lo t,.int hi u,.int 1 v] },toks:=tk }:=by
 refine wpAny_pyIter_range (IsRange.new ..) (small_one h1 h2 h3 h4) ?_
 have I1:Inv X pins σ H { s with heap:=s.heap.push { cls:=.type "range",data:=.fields #[.int lo t,.int hi u,.int 1 v] },toks:=tk }:=I.kept fun b o e=>B1 _ e
 refine ⟨(s.heap.push { cls:=.type "range",data:=.fields #[.int lo t,.int hi u,.int 1 v] }).objs.size,[(s.heap.push { cls:=.type "range",data:=.fields #[.int lo t,.int hi u,.int 1 v] }).objs.size],_,_,H,rfl,
  I1.kept (t':=tk) fun b o e=>B1 _ e,TY _ lo (hi - lo).toNat,?_,fun b hb=>?_,q⟩
 · have e1:lo+((0:Nat):Int)*1=lo:=by simp
   have e2:(((hi - lo).toNat:Nat):Int) - ((0:Nat):Int)=Builtin.Range.rangeSize lo hi 1:=by rw [rangeSize_one];split<;>omega
   show IsRangeIter _ _ (lo+((0:Nat):Int)*1) ((((hi - lo).toNat:Nat):Int) - ((0:Nat):Int)) 1
   rw [e1,e2]
   exact M6 _ rfl
 · have e:b=(s.heap.push { cls:=.type "range",data:=.fields #[.int lo t,.int hi u,.int 1 v] }).objs.size:=by simpa using hb
   subst e
   exact I1.fpOk (B9 _) (I1.hok.fresh (B9 _))
def Q2u (ta:TA):TI:=fun σ H R=>ta σ H fun vs H1=>∃ j:Int,vs=[.int j]/\-(2 ^ 62)<=j/\j<2 ^ 62/\R (Itr 0 j.toNat) H1
theorem NY {a:Expr}{ta:TA}{p pos:Pos}(hg:Gl X "range") (hm:X.mg "range" = none) (ha:PA X [a] ta) (hs:starEach [a] X.env=[(false,eval a X.env)]:=by rfl):PI X tg (.Call (.Name "range" p) [a] [] pos) (Q2u ta):=by
 intro pins s σ H R I h
 refine Call_ (KB I hg hm boot_range (D0 (thn (ha pos pins s σ H _ I h) fun us s1 ⟨vs,H1,I1,r1,q1⟩=>?_) hs rfl))
 obtain ⟨j,e,q1,q2,q⟩:=q1
 subst e
 cases r1 with
 | cons r rr =>
   cases rr
   obtain ⟨t,rfl⟩:=r
   exact call_range_1 (J0c I1 (by omega) (by omega) q1 q2 (by simpa using q))
def J8e (wi:TI)(g:TG)(tb:TS):TS:=fun D σ H=>wi σ H fun J H1=>∃ W:Nat->Nat->St->Hp->Prop,(∃ m,W 0 m σ H1)/\∀ i m σ H,W i m σ H ->
 (J.stop i H/\D.nx σ H)\/(J.go i H/\∃ N:St->Hp->Prop,(∀ σ' H',N σ' H'->∃ m',m'<m/\W (i+1) m' σ' H')/\∀ x H',J.yld i H x H'->g x σ H' fun σ2 H2=>tb { D with nx:=N,ct:=N,bk:=D.nx } σ2 H2)
def GE (fp:List Addr)(h:Heap):List (Addr×Obj):=fp.filterMap fun b=>(h.get? b).map fun o=>(b,o)
theorem CA {fp:List Addr}{h:Heap}{b:Addr}{o:Obj}(hb:b∈fp)(e:h.get? b=some o):(b,o)∈GE fp h:=List.mem_filterMap.mpr ⟨b,hb,by rw [e];rfl⟩
theorem OB {fp:List Addr}{h:Heap}{p:Addr×Obj}(hp:p∈GE fp h):p.1∈fp/\h.get? p.1=some p.2:=by
 obtain ⟨b,hb,e⟩:=List.mem_filterMap.mp hp
 cases q:h.get? b with
 | none=>rw [q] at e;cases e
 | some o =>
   rw [q] at e
   have e':(b,o)=p:=Option.some.inj e
   subst e'
   exact ⟨hb,q⟩
theorem Inv.pinned {pins:List (Addr×Obj)}{σ:St}{H:Hp}{s:Shared}{fp:List Addr}(I:Inv X pins σ H s)(hf:∀ b∈fp,GK X pins H b)(ho:∀ b∈fp,∃ o,s.heap.get? b=some o/\∀ v,o.data≠.cell v):Inv X (pins++GE fp s.heap) σ H s :=
 I.pins_of fun p hp=>(T8.mp hp).elim (fun z=>I.pin p (B2 _ z)) fun z=>by
  obtain ⟨hb,e⟩:=OB z
  obtain ⟨f0,f1,f2,_⟩:=hf p.1 hb
  obtain ⟨o,e',d⟩:=ho p.1 hb
  rw [e] at e';cases e'
  exact ⟨e,f0,f1,f2,d⟩
theorem Inv.unpinned {pins pl:List (Addr×Obj)}{σ:St}{H:Hp}{s:Shared}(I:Inv X (pins++pl) σ H s):Inv X pins σ H s:=I.pins_of fun p hp=>I.pin p (B2 _ (R4 _ hp))
theorem J0l {iter:Expr}{body:List Stmt}{wi:TI}{g:TG}{tb:TS}{pos:Pos}(hp:PassesOwn (model X.prog X.w) X.A X.env X.xe)(hc:X.calm=true)(hi:PI X tg iter wi)(hg:PG X tg g)(hb:PSs X body tb)
 (hs:∀ x,foldedSetIterable iter X.env x=pure x:=by intro _;rfl):PS X (.For tg iter body [] pos) (J8e wi g tb):=by
 intro pins s σ H D I h
 refine wpAny_For (thn (hi pins s σ H _ I h) fun v s1 h1=>thn h1 fun itv s2 h2=>?_) hs
 obtain ⟨it,fp,tn,J,H2,e,I2,T,st2,f2,W,⟨m0,w0⟩,turn⟩:=h2
 subst e
 have stat:∀ {H':Hp},(∀ b∈fp,H' b=none)->∀ b∈fp,GK X pins H' b:=fun hn b hb=>⟨hn b hb,(f2 b hb).2⟩
 refine codeAny_forLoop_any (fun n s'=>∃ i σ' H',Inv X pins σ' H' s'/\tn i s'.heap/\(∀ b∈fp,H' b=none)/\W i n σ' H') ?_ m0 ⟨0,σ,H2,I2,st2,fun b hb=>(f2 b hb).1,w0⟩
 rintro n s3 ⟨i,σ3,H3,I3,st3,fr3,w3⟩
 rcases turn i n σ3 H3 w3 with ⟨stop,qn⟩|⟨go,N,hN,step⟩
 · refine D1 hp (thn (T.done X rfl rfl rfl hc i pins s3 σ3 H3 X.xe I3 (stat fr3) st3 stop) fun r s4 ⟨hr,I4⟩=>?_)
   subst hr
   exact wpAny_execs_nil ⟨σ3,H3,I4,qn⟩
 · refine D1 hp (thn (T.item X rfl rfl rfl hc i pins s3 σ3 H3 X.xe I3 (stat fr3) st3 go) fun r s4 ⟨u,hr,h4⟩=>?_)
   subst hr
   refine D1 hp (thn h4 fun _ s5 ⟨x,H5,I5,r5,y5,st5,fr5⟩=>?_)
   have I5':=I5.pinned (stat fr5) (T.obj _ _ st5)
   refine D1 hp (thn (hg _ s5 σ3 H5 x u _ I5' r5 (step x H5 y5)) fun _ s6 ⟨σ6,H6,I6,q6⟩=>?_)
   refine D1 hp (thn (hb _ s6 σ6 H6 _ I6 q6) fun f s7 q7=>?_)
   have again:∀ {σ7:St} {H7:Hp},Inv X (pins++GE fp s5.heap) σ7 H7 s7->N σ7 H7->∃ m,m<n/\∃ i σ' H',Inv X pins σ' H' s7/\tn i s7.heap/\(∀ b∈fp,H' b=none)/\W i m σ' H':=fun {σ7 H7} I7 n7=>by
    obtain ⟨m',hm,w7⟩:=hN σ7 H7 n7
    refine ⟨m',hm,i+1,σ7,H7,I7.unpinned,T.keep _ _ _ st5 fun b hb o e=>(I7.pin (b,o) (B2 _ (B2 _ (CA hb e)))).1,fun b hb=>?_,w7⟩
    obtain ⟨o,e,d⟩:=T.obj _ _ st5 b hb
    exact (I7.pin (b,o) (B2 _ (B2 _ (CA hb e)))).2.1
   cases f with
   | next=>obtain ⟨σ7,H7,I7,n7⟩:=q7;exact again I7 n7
   | cont=>obtain ⟨σ7,H7,I7,n7⟩:=q7;exact again I7 n7
   | brk=>obtain ⟨σ7,H7,I7,q7⟩:=q7;exact ⟨σ7,H7,I7.unpinned,q7⟩
   | ret v=>obtain ⟨x7,σ7,H7,I7,r7,q7⟩:=q7;exact ⟨x7,σ7,H7,I7.unpinned,r7,q7⟩
end
theorem ZM {c:TT}{tb:TS}{D:Ends}{σ:St}{H:Hp}(Pv:St->Hp->Prop)(μ:St->Hp->Nat)(h0:Pv σ H)
 (hs:∀ σ H,Pv σ H->c σ H fun b H1=>if b=true then tb { D with nx:=fun σ' H'=>Pv σ' H'/\μ σ' H'<μ σ H,ct:=fun σ' H'=>Pv σ' H'/\μ σ' H'<μ σ H,bk:=D.nx } σ H1 else D.nx σ H1)
 (mono:∀ σ H Q Q',(∀ b H1,Q b H1->Q' b H1)->c σ H Q->c σ H Q'):TZ c tb D σ H:=by
 refine ⟨fun m σ H=>m=μ σ H/\Pv σ H,⟨_,rfl,h0⟩,?_⟩
 rintro m σ H ⟨rfl,p⟩
 refine mono σ H _ _ (fun b H1 q=>?_) (hs σ H p)
 cases b with
 | true=>exact ⟨_,fun σ' H' ⟨p',l⟩=>⟨_,l,rfl,p'⟩,q⟩
 | false=>exact q
abbrev R2:=V->V->Hp->VK->Prop
def OpR (X:Cx)(f:Value->Value->Sem Value)(r:R2):Prop :=
 ∀ (pins:List (Addr×Obj)) (s:Shared) (σ:St) (H:Hp) (x y:V) (v u:Value) (Q:VK),Inv X pins σ H s->RelV x v->RelV y u->r x y H Q ->
  wpAny (model X.prog X.w) X.A (f v u) (EP X pins σ Q) X.xe s
def UnR (X:Cx)(f:Value->Sem Value)(r:V->Hp->VK->Prop):Prop :=
 ∀ (pins:List (Addr×Obj)) (s:Shared) (σ:St) (H:Hp) (x:V) (v:Value) (Q:VK),Inv X pins σ H s->RelV x v->r x H Q ->
  wpAny (model X.prog X.w) X.A (f v) (EP X pins σ Q) X.xe s
def CK (X:Cx)(f:Value)(r:List V->Hp->VK->Prop):Prop :=
 ∀ (pins:List (Addr×Obj)) (s:Shared) (σ:St) (H:Hp) (xs:List V) (us:List Value) (Q:VK),Inv X pins σ H s->Vals xs us->r xs H Q ->
  wpAny (model X.prog X.w) X.A (call f us) (EP X pins σ Q) X.xe s
def Q4x (X:Cx)(r:V->Hp->(Bool->Hp->Prop)->Prop):Prop :=
 ∀ (pins:List (Addr×Obj)) (s:Shared) (σ:St) (H:Hp) (x:V) (v:Value) (Q:Bool->Hp->Prop),Inv X pins σ H s->RelV x v->r x H Q ->
  wpAny (model X.prog X.w) X.A (truthy v) (TP X pins σ Q) X.xe s
def tOp (r:R2)(ta tb:TE):TE:=fun σ H Q=>ta σ H fun x H1=>tb σ H1 fun y H2=>r x y H2 Q
def tUn (r:V->Hp->VK->Prop)(ta:TE):TE:=fun σ H Q=>ta σ H fun x H1=>r x H1 Q
def rI (C:Int->Int->Prop)(g:Int->Int->V):R2:=fun x y H Q=>∃ i j,x=.int i/\y=.int j/\C i j/\Q (g i j) H
def rI0 (g:Int->Int->V):R2:=fun x y H Q=>∃ i j,x=.int i/\y=.int j/\Q (g i j) H
def rU (g:Int->V):V->Hp->VK->Prop:=fun x H Q=>∃ i,x=.int i/\Q (g i) H
section
variable {X:Cx}{a b:Expr}{ta tb:TE}{pos:Pos}
theorem Q1e (ha:PE X a ta)(hb:PE X b tb){pins:List (Addr×Obj)}{s:Shared}{σ:St}{H:Hp}{R:V->V->Hp->Prop}(I:Inv X pins σ H s)
 (h:ta σ H fun x H1=>tb σ H1 fun y H2=>R x y H2) {Q:Value->Shared->Prop} {f:Value->Value->Sem Value}
 (hf:∀ v u s2 x y H2,Inv X pins σ H2 s2->RelV x v->RelV y u->R x y H2->wpAny (model X.prog X.w) X.A (f v u) Q X.xe s2) :
 wpAny (model X.prog X.w) X.A (eval a X.env) (fun v s₁=>wpAny (model X.prog X.w) X.A (eval b X.env) (fun u s₂=>wpAny (model X.prog X.w) X.A (f v u) Q X.xe s₂) X.xe s₁) X.xe s:=by
 refine thn (ha pins s σ H _ I h) fun v s1 ⟨x,H1,I1,r1,q1⟩=>?_
 refine thn (hb pins s1 σ H1 _ I1 q1) fun u s2 ⟨y,H2,I2,r2,q2⟩=>?_
 exact hf v u s2 x y H2 I2 r1 r2 q2
theorem AS {op:Operator}{r:R2}(ho:OpR X (binaryOp op) r)(ha:PE X a ta)(hb:PE X b tb):PE X (.BinOp a op b pos) (tOp r ta tb):=by
 intro pins s σ H Q I h
 exact wpAny_BinOp (Q1e ha hb I h fun v u s2 x y H2 I2 rx ry q=>ho pins s2 σ H2 x y v u Q I2 rx ry q)
theorem Q2f {op:UnaryOp}{r:V->Hp->VK->Prop}(ho:UnR X (unaryOp op) r)(ha:PE X a ta):PE X (.UnaryOp op a pos) (tUn r ta):=by
 intro pins s σ H Q I h
 exact UnaryOp_ (thn (ha pins s σ H _ I h) fun v s1 ⟨x,H1,I1,r1,q1⟩=>ho pins s1 σ H1 x v Q I1 r1 q1)
theorem opI {f:Value->Value->Sem Value}{C:Int->Int->Prop}{g:Int->Int->Int}
 (rule:∀ (i j:Int) (t u:Tok) (s:Shared) (Q:Value->Shared->Prop) (E:Value->Shared->Prop),C i j->Q (.int (g i j) s.toks) { s with toks:=s.toks+1 }->wpAny (model X.prog X.w) X.A (f (.int i t) (.int j u)) Q E s) :
 OpR X f (rI C fun i j=>.int (g i j)):=by
 intro pins s σ H x y v u Q I rx ry h
 obtain ⟨i,j,rfl,rfl,hc,q⟩:=h
 obtain ⟨t,rfl⟩:=rx
 obtain ⟨t',rfl⟩:=ry
 exact rule i j t t' s _ _ hc ⟨.int (g i j),H,I.tok _,⟨_,rfl⟩,q⟩
theorem Q2k {f:Value->Value->Sem Value}{g:Int->Int->Int}
 (rule:∀ (i j:Int) (t u:Tok) (s:Shared) (Q:Value->Shared->Prop) (E:Value->Shared->Prop),Q (.int (g i j) s.toks) { s with toks:=s.toks+1 }->wpAny (model X.prog X.w) X.A (f (.int i t) (.int j u)) Q E s) :
 OpR X f (rI0 fun i j=>.int (g i j)):=by
 intro pins s σ H x y v u Q I rx ry h
 obtain ⟨i,j,rfl,rfl,q⟩:=h
 obtain ⟨t,rfl⟩:=rx
 obtain ⟨t',rfl⟩:=ry
 exact rule i j t t' s _ _ ⟨.int (g i j),H,I.tok _,⟨_,rfl⟩,q⟩
theorem J8u {f:Value->Value->Sem Value}{g:Int->Int->Bool}
 (rule:∀ (i j:Int) (t u:Tok) (s:Shared) (Q:Value->Shared->Prop) (E:Value->Shared->Prop),Q (.bool (g i j)) s->wpAny (model X.prog X.w) X.A (f (.int i t) (.int j u)) Q E s) :
 OpR X f (rI0 fun i j=>.bl (g i j)):=by
 intro pins s σ H x y v u Q I rx ry h
 obtain ⟨i,j,rfl,rfl,q⟩:=h
 obtain ⟨t,rfl⟩:=rx
 obtain ⟨t',rfl⟩:=ry
 exact rule i j t t' s _ _ ⟨.bl (g i j),H,I,rfl,q⟩
def Q4z (i j:Int):Prop:=0<=j/\j<=1000000/\i.natAbs<2 ^ 64
def CMul (i j:Int):Prop:=(-(2 ^ 64)<i/\i<2 ^ 64)\/(-(2 ^ 64)<j/\j<2 ^ 64)
theorem CMul.ok {i j:Int}(h:CMul i j):IntMulOk i j:=by
 rcases h with ⟨h1,h2⟩|⟨h1,h2⟩
 · exact .of_left (intBits_le_64 h1 h2)
 · exact .of_right (intBits_le_64 h1 h2)
theorem BE:OpR X (binaryOp .Add) (rI0 fun i j=>.int (i+j)):=Q2k fun _ _ _ _ _ _ _ q=>add_int q
theorem AA:OpR X (binaryOp .Sub) (rI0 fun i j=>.int (i - j)):=Q2k fun _ _ _ _ _ _ _ q=>sub_int q
theorem GZ:OpR X (binaryOp .Mod) (rI (fun _ j=>0<j) fun i j=>.int (i % j)):=opI fun i j _ _ _ _ _ hc q=>by
 have h1:(0:Int)<j:=hc
 exact mod_int' (by omega) (by rw [D2 i (by omega)];exact q)
theorem J4q:OpR X (binaryOp .Mod) (rI (fun _ j=>j≠0) fun i j=>.int (i.fmod j)):=opI fun _ _ _ _ _ _ _ hc q=>mod_int' hc q
theorem MI:OpR X (binaryOp .Pow) (rI Q4z fun i j=>.int (i ^ j.toNat)):=opI fun _ _ _ _ _ _ _ hc q=>pow_int_small hc.1 hc.2.1 hc.2.2 q
theorem unI {f:Value->Sem Value}{g:Int->Int}
 (rule:∀ (i:Int) (t:Tok) (s:Shared) (Q:Value->Shared->Prop) (E:Value->Shared->Prop),Q (.int (g i) s.toks) { s with toks:=s.toks+1 }->wpAny (model X.prog X.w) X.A (f (.int i t)) Q E s) :
 UnR X f (rU fun i=>.int (g i)):=by
 intro pins s σ H x v Q I rx h
 obtain ⟨i,rfl,q⟩:=h
 obtain ⟨t,rfl⟩:=rx
 exact rule i t s _ _ ⟨.int (g i),H,I.tok _,⟨_,rfl⟩,q⟩
theorem J7z:UnR X (unaryOp .USub) (rU fun i=>.int (-i)):=unI fun _ _ _ _ _ q=>neg_int q
end
def Q2d:V->V->Bool
 | .non,.non=>true|.non,.int _=>true|.int _,.non=>true|.non,.bl _=>true|.bl _,.non=>true|.non,.str _=>true|.str _,.non=>true
 | .int _,.int _=>true|.bl _,.bl _=>true|.str _,.str _=>true|.byt _,.byt _=>true
 | .int _,.str _=>true|.str _,.int _=>true|.bl _,.str _=>true|.str _,.bl _=>true
 | _,_=>false
def rEq:R2:=fun x y H Q=>Q2d x y=true/\Q (.bl (decide (x=y))) H
def rNe:R2:=fun x y H Q=>Q2d x y=true/\Q (.bl (!decide (x=y))) H
theorem WV {i j:Int}:decide (V.int i=V.int j)=(i==j):=by
 rw [E8]
 simp
theorem J2f {i j:Bool}:decide (V.bl i=V.bl j)=(i==j):=by
 rw [E8]
 simp
theorem WU {i j:Str}:decide (V.str i=V.str j)=(i==j):=by
 rw [E8]
 simp
theorem WW {i j:Array UInt8}:decide (V.byt i=V.byt j)=(i.toList==j.toList):=by
 rw [E8]
 cases i
 cases j
 simp
section
variable {X:Cx}{a b c:Expr}{ta tb:TE}{pos:Pos}
theorem Z4 {pins:List (Addr×Obj)}{σ:St}{H:Hp}{s:Shared}{Q:VK}{k k':Bool}(I:Inv X pins σ H s)(q:Q (.bl k) H)(e:k=k'):EP X pins σ Q (.bool k') s:=by
 subst e
 exact ⟨.bl k,H,I,rfl,q⟩
theorem BZ:OpR X (compareOp .Eq) rEq:=by
 intro pins s σ H x y v u Q I rx ry h
 obtain ⟨hs,q⟩:=h
 cases x with
 | non =>
   cases rx
   cases y with
   | non=>cases ry;exact PySem.EqNone.eq_none_none (Z4 I q (by simp))
   | bl j=>cases ry;exact PySem.EqNone.eq_none_bool (Z4 I q (by simp))
   | int j=>obtain ⟨t',rfl⟩:=ry;exact PySem.EqNone.eq_none_int (Z4 I q (by simp))
   | str j=>obtain ⟨t',rfl⟩:=ry;exact PySem.EqNone.eq_none_str (Z4 I q (by simp))
   | _=>exact absurd (show false=true from hs) B7
 | bl i =>
   cases rx
   cases y with
   | non=>cases ry;exact PySem.EqNone.eq_bool_none (Z4 I q (by simp))
   | bl j=>cases ry;exact eq_bool (Z4 I q J2f)
   | str j=>obtain ⟨t',rfl⟩:=ry;exact PySem.EqMixed.eq_bool_str (Z4 I q (by simp))
   | _=>exact absurd (show false=true from hs) B7
 | int i =>
   obtain ⟨t,rfl⟩:=rx
   cases y with
   | non=>cases ry;exact PySem.EqNone.eq_int_none (Z4 I q (by simp))
   | int j=>obtain ⟨t',rfl⟩:=ry;exact eq_int (Z4 I q WV)
   | str j=>obtain ⟨t',rfl⟩:=ry;exact PySem.EqMixed.eq_int_str (Z4 I q (by simp))
   | _=>exact absurd (show false=true from hs) B7
 | str i =>
   obtain ⟨t,rfl⟩:=rx
   cases y with
   | non=>cases ry;exact PySem.EqNone.eq_str_none (Z4 I q (by simp))
   | bl j=>cases ry;exact PySem.EqMixed.eq_str_bool (Z4 I q (by simp))
   | int j=>obtain ⟨t',rfl⟩:=ry;exact PySem.EqMixed.eq_str_int (Z4 I q (by simp))
   | str j=>obtain ⟨t',rfl⟩:=ry;exact eq_str (Z4 I q WU)
   | _=>exact absurd (show false=true from hs) B7
 | byt i =>
   obtain ⟨t,rfl⟩:=rx
   cases y with
   | byt j=>obtain ⟨t',rfl⟩:=ry;exact PySem.W.eq_bytes (Z4 I q WW)
   | _=>exact absurd (show false=true from hs) B7
 | _=>cases y<;>exact absurd (show false=true from hs) B7
theorem OA:OpR X (compareOp .NotEq) rNe:=by
 intro pins s σ H x y v u Q I rx ry h
 obtain ⟨hs,q⟩:=h
 cases x with
 | non =>
   cases rx
   cases y with
   | non=>cases ry;exact PySem.EqNone.ne_none_none (Z4 I q (by simp))
   | bl j=>cases ry;exact PySem.EqNone.ne_none_bool (Z4 I q (by simp))
   | int j=>obtain ⟨t',rfl⟩:=ry;exact PySem.EqNone.ne_none_int (Z4 I q (by simp))
   | str j=>obtain ⟨t',rfl⟩:=ry;exact PySem.EqNone.ne_none_str (Z4 I q (by simp))
   | _=>exact absurd (show false=true from hs) B7
 | bl i =>
   cases rx
   cases y with
   | non=>cases ry;exact PySem.EqNone.ne_bool_none (Z4 I q (by simp))
   | bl j=>cases ry;exact ne_bool (Z4 I q (W9 not J2f))
   | str j=>obtain ⟨t',rfl⟩:=ry;exact PySem.EqMixed.ne_bool_str (Z4 I q (by simp))
   | _=>exact absurd (show false=true from hs) B7
 | int i =>
   obtain ⟨t,rfl⟩:=rx
   cases y with
   | non=>cases ry;exact PySem.EqNone.ne_int_none (Z4 I q (by simp))
   | int j=>obtain ⟨t',rfl⟩:=ry;exact ne_int (Z4 I q (W9 not WV))
   | str j=>obtain ⟨t',rfl⟩:=ry;exact PySem.EqMixed.ne_int_str (Z4 I q (by simp))
   | _=>exact absurd (show false=true from hs) B7
 | str i =>
   obtain ⟨t,rfl⟩:=rx
   cases y with
   | non=>cases ry;exact PySem.EqNone.ne_str_none (Z4 I q (by simp))
   | bl j=>cases ry;exact PySem.EqMixed.ne_str_bool (Z4 I q (by simp))
   | int j=>obtain ⟨t',rfl⟩:=ry;exact PySem.EqMixed.ne_str_int (Z4 I q (by simp))
   | str j=>obtain ⟨t',rfl⟩:=ry;exact ne_str (Z4 I q (W9 not WU))
   | _=>exact absurd (show false=true from hs) B7
 | byt i =>
   obtain ⟨t,rfl⟩:=rx
   cases y with
   | byt j=>obtain ⟨t',rfl⟩:=ry;exact PySem.W.ne_bytes (Z4 I q (W9 not WW))
   | _=>exact absurd (show false=true from hs) B7
 | _=>cases y<;>exact absurd (show false=true from hs) B7
theorem KM:OpR X (compareOp .Lt) (rI0 fun i j=>.bl (decide (i<j))):=J8u fun _ _ _ _ _ _ _ q=>lt_int q
theorem IX:OpR X (compareOp .Gt) (rI0 fun i j=>.bl (decide (j<i))):=J8u fun _ _ _ _ _ _ _ q=>gt_int q
theorem Q2j:OpR X (compareOp .GtE) (rI0 fun i j=>.bl (decide (j<=i))):=J8u fun _ _ _ _ _ _ _ q=>ge_int q
theorem J0u:OpR X (compareOp .Is) (fun x y H Q=>y=.non/\Q (.bl (decide (x=.non))) H):=by
 intro pins s σ H x y v u Q I rx ry h
 obtain ⟨rfl,q⟩:=h
 cases ry
 refine is_none_gen (Z4 I q ?_)
 cases x<;>first
  | (cases rx;rfl)
  | (obtain ⟨t,rfl⟩:=rx;rfl)
theorem WI:OpR X (compareOp .IsNot) (fun x y H Q=>y=.non/\Q (.bl (!decide (x=.non))) H):=by
 intro pins s σ H x y v u Q I rx ry h
 obtain ⟨rfl,q⟩:=h
 cases ry
 refine isnot_none_gen (Z4 I q ?_)
 cases x<;>first
  | (cases rx;rfl)
  | (obtain ⟨t,rfl⟩:=rx;rfl)
theorem V1 (b:Expr){op:CmpOp}(h:op≠.In:=by decide)(h2:op≠.NotIn:=by decide):behindInMarks op b=false:=by
 have e1:(op==CmpOp.In)=false:=by cases op<;>first|rfl|exact absurd rfl h
 have e2:(op==CmpOp.NotIn)=false:=by cases op<;>first|rfl|exact absurd rfl h2
 cases b<;>simp [behindInMarks,e1,e2]
theorem WF {op:CmpOp}{r:R2}(ho:OpR X (compareOp op) r)(ha:PE X a ta)(hb:PE X b tb)(hm:behindInMarks op b=false):PE X (.Compare a [op] [b] pos) (tOp r ta tb):=by
 intro pins s σ H Q I h
 exact wpAny_Compare1 (Q1e ha hb I h fun v u s2 x y H2 I2 rx ry q=>ho pins s2 σ H2 x y v u Q I2 rx ry q) hm
def Q1t (t:TE):TT:=fun σ H Q=>t σ H fun x H'=>∃ k,x=.bl k/\Q k H'
theorem LH {op:CmpOp}{r:R2}(ho:OpR X (compareOp op) r)(ha:PE X a ta)(hb:PE X b tb)(hm:behindInMarks op b=false):PT X (.Compare a [op] [b] pos) (Q1t (tOp r ta tb)):=by
 intro pins s σ H Q I h
 refine wpAny_isTrue_Compare1 (thn (ha pins s σ H _ I h) fun v s1 ⟨x,H1,I1,r1,q1⟩=>thn (hb pins s1 σ H1 _ I1 q1) fun u s2 ⟨y,H2,I2,r2,q2⟩ =>
  thn (ho pins s2 σ H2 x y v u _ I2 r1 r2 q2) fun c s3 ⟨z,H3,I3,r3,k,e,q3⟩=>?_) hm
 subst e
 cases r3
 exact D6 ⟨H3,I3,q3⟩
def Q1g (K:Fg)(x:V)(H:Hp)(k:Bool):Prop :=
 match x with
 | .non=>k=false
 | .bl b=>k=b
 | .int i=>k=(i != 0)
 | .str y=>y.length<=sizeLine/\k=((y.length:Int)!=0)
 | .byt y=>y.size<=sizeLine/\k=((y.size:Int)!=0)
 | .ref p=>(∃ xs,SqL K H p xs/\k = !xs.isEmpty)\/(∃ xs,SqT K H p xs/\k = !xs.isEmpty)\/∃ kvs,H p=some (.dK kvs)/\k = !kvs.isEmpty
 | _=>False
theorem UZ {κ:Type}{kvs:List (κ×V)}{vs:List (κ×Value)}(r:KV kvs vs):(!vs.isEmpty) = !kvs.isEmpty:=by
 cases r<;>rfl
theorem MU {xs:List V}{its:List Value}(r:Vals xs its):(!its.toArray.isEmpty) = !xs.isEmpty:=by
 cases r<;>simp
theorem MR:(sizeLine:Nat)<2 ^ 63:=by rw [sizeLine_eq];decide
theorem J8b:Q4x X (fun x H Q=>∃ k,Q1g X.K x H k/\Q k H):=by
 intro pins s σ H x v Q I rx h
 obtain ⟨k,e,q⟩:=h
 have hl:=MR
 have hs:sizeLine=16777216:=sizeLine_eq
 cases x with
 | non =>
   cases rx
   have e':k=false:=e
   subst e'
   exact truthy_none ⟨H,I,q⟩
 | bl b =>
   cases rx
   have e':k=b:=e
   subst e'
   exact D6 ⟨H,I,q⟩
 | int i =>
   obtain ⟨t,rfl⟩:=rx
   have e':k=(i != 0):=e
   subst e'
   exact PySem.P.truthy_int ⟨H,I,q⟩
 | str y =>
   obtain ⟨t,rfl⟩:=rx
   obtain ⟨hy,e'⟩:y.length<=sizeLine/\k=((y.length:Int)!=0):=e
   subst e'
   exact PySem.P.truthy_str (by omega) ⟨H,I.tok _,q⟩
 | byt y =>
   obtain ⟨t,rfl⟩:=rx
   obtain ⟨hy,e'⟩:y.size<=sizeLine/\k=((y.size:Int)!=0):=e
   subst e'
   exact PySem.W.truthy_bytes (by omega) ⟨H,I.tok _,q⟩
 | ref p =>
   cases rx
   have e':(∃ xs,SqL X.K H p xs/\k = !xs.isEmpty)\/(∃ xs,SqT X.K H p xs/\k = !xs.isEmpty)\/∃ kvs,H p=some (.dK kvs)/\k = !kvs.isEmpty:=e
   rcases e' with ⟨xs,hx,e'⟩|⟨xs,hx,e'⟩|⟨kvs,hx,e'⟩
   · subst e'
     obtain ⟨its,r,pl,hz⟩:=I.list hx
     have hlen:=r.length
     exact wpAny_truthy_list pl.isList (by simp only [L3];omega) ⟨H,I.tok _,by rw [MU r];exact q⟩
   · subst e'
     obtain ⟨its,r,pl,hz⟩:=I.tuple hx
     have hlen:=r.length
     exact truthy_tuple pl (by simp only [L3];omega) ⟨H,I.tok _,by rw [MU r];exact q⟩
   · subst e'
     obtain ⟨hz,hS,vs,r,m⟩:kvs.length<=sizeLine/\(p==sysModules)=false/\∃ vs,KV kvs vs/\s.heap.DictOf (QH X.prog X.w) p vs:=I.hok p _ hx
     have hlen:kvs.length=vs.length:=Paired.length r
     exact wpAny_truthy_dict hS m (by omega) ⟨H,I.tok _,by rw [UZ r];exact q⟩
 | _=>exact (show False from e).elim
theorem J0g (ha:PE X a ta)(he:∀ whole,isTrue a X.env whole=(do let v <- whole;standAt a.pos;holding [v] (truthy v))) :
 PT X a (fun σ H Q=>ta σ H fun x H'=>∃ k,Q1g X.K x H' k/\Q k H'):=by
 intro pins s σ H Q I h
 exact isTrue_plain (thn (ha pins s σ H _ I h) fun v s1 ⟨x,H1,I1,r1,q1⟩=>J8b pins s1 σ H1 x v Q I1 r1 q1) (he _)
theorem IP {x:V}{us:List Value}(r:Vals [x] us):∃ u,us=[u]/\RelV x u:=by
 cases r with
 | cons r1 r2=>cases r2;exact ⟨_,rfl,r1⟩
theorem KI {x y:V}{us:List Value}(r:Vals [x,y] us):∃ u w',us=[u,w']/\RelV x u/\RelV y w':=by
 cases r with
 | cons r1 r2 =>
   cases r2 with
   | cons r3 r4=>cases r4;exact ⟨_,_,rfl,r1,r3⟩
theorem FQ:CK X (.builtin "abs") (fun xs H Q=>∃ i,xs=[.int i]/\Q (.int (if i<0 then -i else i)) H):=by
 intro pins s σ H xs us Q I r h
 obtain ⟨i,rfl,q⟩:=h
 obtain ⟨u,rfl,t,rfl⟩:=IP r
 exact call_abs_int fun u tk=>⟨.int (if i<0 then -i else i),H,I.tok _,⟨_,rfl⟩,q⟩
theorem ZH (hc:X.calm=true):CK X (.builtin "max") (fun xs H Q=>∃ i j,xs=[.int i,.int j]/\Q (.int (if j>i then j else i)) H):=by
 intro pins s σ H xs us Q I r h
 obtain ⟨i,j,rfl,q⟩:=h
 obtain ⟨u,w',rfl,⟨t,rfl⟩,⟨t',rfl⟩⟩:=KI r
 refine max_two_ints (I.ok.hd hc) fun h' tk k=>⟨_,H,I.kept k,?_,q⟩
 by_cases hj:j>i
 · rw [if_pos hj,if_pos hj];exact ⟨_,rfl⟩
 · rw [if_neg hj,if_neg hj];exact ⟨_,rfl⟩
theorem ZG (hc:X.calm=true):CK X (.builtin "min") (fun xs H Q=>∃ i j,xs=[.int i,.int j]/\Q (.int (if j<i then j else i)) H):=by
 intro pins s σ H xs us Q I r h
 obtain ⟨i,j,rfl,q⟩:=h
 obtain ⟨u,w',rfl,⟨t,rfl⟩,⟨t',rfl⟩⟩:=KI r
 refine min_two_ints (I.ok.hd hc) fun h' tk k=>⟨_,H,I.kept k,?_,q⟩
 by_cases hj:j<i
 · rw [if_pos hj,if_pos hj];exact ⟨_,rfl⟩
 · rw [if_neg hj,if_neg hj];exact ⟨_,rfl⟩
theorem KF:CK X (.type "int") (fun xs H Q=>(∃ i,xs=[.int i]/\Q (.int i) H)\/∃ k,xs=[.bl k]/\Q (.int (if k then 1 else 0)) H):=by
 intro pins s σ H xs us Q I r h
 rcases h with ⟨i,rfl,q⟩|⟨k,rfl,q⟩
 · obtain ⟨u,rfl,t,rfl⟩:=IP r
   exact call_int_int ⟨.int i,H,I,⟨_,rfl⟩,q⟩
 · obtain ⟨u,rfl,r1⟩:=IP r
   cases r1
   exact call_int_bool ⟨.int (if k then 1 else 0),H,I.tok _,⟨_,rfl⟩,q⟩
end
structure ObjM (h:Heap)(x dx C:Addr)(mA:Str->Option Value):Prop where
 obj:h.get? x=some (PySem.W.instObj C dx)
 ns:h.Ns1 dx mA
 ne:dx≠x
theorem YK {h:Heap}{dx:Addr}{mA:Str->Option Value}(n:h.Ns1 dx mA):∃ od,h.get? dx=some od/\∀ name,PySem.W.lookIn name od=some (mA name):=by
 obtain ⟨o,es,ep,ho,hd,hk,_,hm⟩:=n
 refine ⟨o,ho,fun name=>?_⟩
 have e:=hm name
 unfold nsFind findBy at e
 rw [<- Array.find?_toList] at e
 unfold PySem.W.lookIn
 rw [hd]
 dsimp only
 split
 · rename_i y q
   rw [q] at e
   exact W9 some e
 · rename_i q
   rw [q] at e
   have a:es.toList.any (·.refKey)=false:=by
    rw [List.any_eq_false]
    intro y hy
    obtain ⟨z,t,hkey⟩:=hk y (Array.mem_toList_iff.mp hy)
    simp [DictEntry.refKey,hkey]
   have a':¬ es.toList.any (·.refKey)=true:=by rw [a];exact B7
   rw [if_neg a']
   exact W9 some e
theorem ObjM.look {h:Heap}{x dx C:Addr}{mA:Str->Option Value}(I:ObjM h x dx C mA):∃ od,PySem.W.InstAt h x (PySem.W.instObj C dx) C (some od)/\∀ name,PySem.W.lookIn name od=some (mA name) :=
 let ⟨od,ho,hl⟩:=YK I.ns
 ⟨od,⟨I.obj,rfl,rfl,ho⟩,hl⟩
section
variable {P:Program}{w:World}{H:Hp}{h:Heap}{a C dx:Addr}{fs:List (Str×V)}
theorem J5e (hok:HOk P w H h)(e:H a=some (.ins C dx fs)):∃ mA,ObjM h a dx C mA/\(∀ f,Q1j (fs.lookup f) (mA f))/\PySem.Within mA (fs.map (·.1))/\fs.length<=1000/\H dx=some (.own a):=by
 obtain ⟨d,z,ne,ob,mA,n,r,q⟩:=(show ObjOk P w H h a (.ins C dx fs) from hok a _ e)
 exact ⟨mA,⟨ob,n,ne⟩,r,q,z,d⟩
end
structure Cls (K:Fg)(C:Addr):Prop where
 pg:PySem.W.plainGet K C Str.empty=true
 hd:PySem.W.hasDictIn K C=true
 po:PySem.W.plainOver K C=true
 sa:PySem.W.findIn K (.ref C) "__setattr__" = some (some (.builtin "object.__setattr__"))
theorem Cls.get {C:Addr}(c:Cls K C)(f:Str):PySem.W.plainGet K C f=true:=c.pg
def Q1l (K:Fg)(C:Addr)(f:Str):Prop:=PySem.W.findIn K (.ref C) f=some none
def Q5c (K:Fg)(ta:TE)(f:Str):TE:=fun σ H Q=>ta σ H fun x H1=>∃ a C dx fs v,x=.ref a/\H1 a=some (.ins C dx fs)/\Cls K C/\Q1l K C f/\fs.lookup f=some v/\Q v H1
section
variable {X:Cx}{pins:List (Addr×Obj)}{σ:St}{H:Hp}{s:Shared}{A:Around}{E:Value->Shared->Prop}{Q:Value->Shared->Prop}{c:Value}{b:Bool}
inductive TyOf (K:Fg)(H:Hp):V->Value->Prop where
 | non:TyOf K H .non (.type "NoneType")
 | bl (x:Bool):TyOf K H (.bl x) (.type "bool")
 | int (i:Int):TyOf K H (.int i) (.type "int")
 | str (x:Str):TyOf K H (.str x) (.type "str")
 | flt (x:UInt64):TyOf K H (.flt x) (.type "float")
 | lst {a:Addr} {xs:List V} (e:H a=some (.lst xs)):TyOf K H (.ref a) (.type "list")
 | frz {a:Addr} {o:Obj} {xs:List V} (e:H a=some (.frz o (.lst xs))):TyOf K H (.ref a) (.type "list")
 | tup {a:Addr} {xs:List V} (e:H a=some (.tup xs)):TyOf K H (.ref a) (.type "tuple")
 | dK {a:Addr} {kvs:List (Key×V)} (e:H a=some (.dK kvs)):TyOf K H (.ref a) (.type "dict")
 | dT {a:Addr} {kvs:List (List Key×V)} (e:H a=some (.dT kvs)):TyOf K H (.ref a) (.type "dict")
 | ins {a C dx:Addr} {fs:List (Str×V)} (e:H a=some (.ins C dx fs)) (cl:Cls K C) (ha:PySem.W.findIn K (.ref C) "__class__" = some (some (.builtin "object.__class__")))
  (hn:PySem.W.specialIn K (.builtin "object.__class__") "__get__" = some (some (.builtin "getset_descriptor.__get__"))) (htk:PySem.W.takesIn K (.builtin "object.__class__")=some true)
  (hm:PySem.W.mroIn K C (.type "object")=some true):TyOf K H (.ref a) (.ref C)
theorem YS {x:V}{u t:Value}(I:Inv X pins σ H s)(rx:RelV x u)(ty:TyOf X.K H x t)(e:PySem.W.kitOne X.K t c=some b)(h:∀ tk,Q (.bool b) { s with toks:=tk }) :
 wpAny (model X.prog X.w) A (call (.builtin "isinstance") [u,c]) Q E s:=by
 cases ty with
 | non=>cases (show u=Value.none from rx);exact T7 PySem.W.kitx_none I.kIn True.intro e (fun z=>nomatch z) h
 | bl y=>cases (show u=Value.bool y from rx);exact T7 PySem.W.kitx_bool I.kIn True.intro e (fun z=>nomatch z) h
 | int i=>obtain ⟨t,q⟩:=(show ∃ t,u=Value.int i t from rx);cases q;exact T7 PySem.W.kitx_int I.kIn True.intro e (fun z=>nomatch z) h
 | str y=>obtain ⟨t,q⟩:=(show ∃ t,u=Value.str y t from rx);cases q;exact T7 PySem.W.kitx_str I.kIn True.intro e (fun z=>nomatch z) h
 | flt y=>obtain ⟨t,q⟩:=(show ∃ t,u=Value.float y t from rx);cases q;exact T7 PySem.W.kitx_float I.kIn True.intro e (fun z=>nomatch z) h
 | @lst a xs ea =>
   cases (show u=Value.ref a from rx)
   obtain ⟨_,_,n,_,h1⟩:=(show ObjOk X.prog X.w H s.heap a (.lst xs) from I.hok a _ ea)
   exact T7 PySem.W.kitx_list I.kIn ⟨_,h1,rfl⟩ e (fun z=>nomatch z) h
 | @frz a ob xs ea =>
   cases (show u=Value.ref a from rx)
   obtain ⟨_,_,_,n,_,h1⟩:=(show ObjOk X.prog X.w H s.heap a (.frz ob (.lst xs)) from I.hok a _ ea)
   exact T7 PySem.W.kitx_list I.kIn ⟨_,h1,rfl⟩ e (fun z=>nomatch z) h
 | @tup a xs ea =>
   cases (show u=Value.ref a from rx)
   obtain ⟨_,_,_,p⟩:=(show ObjOk X.prog X.w H s.heap a (.tup xs) from I.hok a _ ea)
   obtain ⟨o,h1,h2,_⟩:=p
   exact T7 PySem.W.kitx_tuple I.kIn ⟨o,h1,h2⟩ e (fun z=>nomatch z) h
 | @dK a kvs ea =>
   cases (show u=Value.ref a from rx)
   obtain ⟨_,_,vs,_,p⟩:=(show ObjOk X.prog X.w H s.heap a (.dK kvs) from I.hok a _ ea)
   obtain ⟨o,es,ep,h1,h2,_⟩:=p
   exact T7 PySem.W.kitx_dict I.kIn ⟨o,h1,h2.1⟩ e (fun z=>nomatch z) h
 | @dT a kvs ea =>
   cases (show u=Value.ref a from rx)
   obtain ⟨_,_,xs,_,o,es,ep,h1,h2,_⟩:=(show ObjOk X.prog X.w H s.heap a (.dT kvs) from I.hok a _ ea)
   exact T7 PySem.W.kitx_dict I.kIn ⟨o,h1,h2.1⟩ e (fun z=>nomatch z) h
 | @ins a C dx fs ea cl ha hn htk hm =>
   cases (show u=Value.ref a from rx)
   obtain ⟨mA,O,_⟩:=J5e I.hok ea
   obtain ⟨od,J,_⟩:=O.look
   exact T7 (PySem.W.kitx_own (cl.get _) cl.hd ha hn htk hm) I.kIn J e (fun z=>nomatch z) h
end
structure Room (k:Nat)(A:Around):Prop where
 hd:A.handled=none
 dp:A.depth+3*k+5<recursionLimit
 un:A.units+16*k+200<cLine
 gd:A.guards=some []
theorem Room.mono {j k:Nat}{A:Around}(r:Room k A)(h:j<=k):Room j A:=⟨r.hd,by have:=r.dp;omega,by have:=r.un;omega,r.gd⟩
theorem Room.deeper {k:Nat}{A:Around}(r:Room (k+1) A)(env:Env):Room k (A.deeper env) :=
 ⟨r.hd,by have:=r.dp;show A.depth+1+3*k+5<_;omega,by have:=r.un;show A.units+3+16*k+200<_;omega,r.gd⟩
theorem Room.depth {k:Nat}{A:Around}(r:Room k A):A.depth<recursionLimit:=by have:=r.dp;omega
theorem Room.units {k:Nat}{A:Around}(r:Room k A):A.units+64<cLine:=by have:=r.un;omega
def J8c:TA:=fun _ H Q=>Q [] H
def Q1y (ta:TE)(tr:TA):TA:=fun σ H Q=>ta σ H fun x H1=>tr σ H1 fun xs H2=>Q (x::xs) H2
section
variable {X:Cx}{e:Expr}{es:List Expr}{te:TE}{t:TA}{pos:Pos}
theorem EG:PA X [] J8c:=fun _ _ _ _ H Q I h=>Calls.spliced_nil ⟨[],H,I,.nil,h⟩
theorem BU (ha:PE X e te)(hr:PA X es t)(hs:starEach (e::es) X.env=(false,eval e X.env)::starEach es X.env:=by rfl):PA X (e::es) (Q1y te t):=by
 intro pos pins s σ H Q I h
 rw [hs]
 show wpAny _ _ (spliced ((false,eval e X.env)::backTo pos (starEach es X.env))) _ _ s
 refine Calls.spliced_cons (thn (ha pins s σ H _ I h) fun u s1 ⟨x,H1,I1,r1,q1⟩=>?_)
 exact thn (hr pos pins s1 σ H1 _ I1 q1) fun us s2 ⟨xs,H2,I2,r2,q2⟩=>⟨x::xs,H2,I2,.cons r1 r2,q2⟩
def Q1r (t:TA):TE:=fun σ H Q=>t σ H fun xs H1=>xs.length<=sizeLine/\∀ p,H1 p=none->Q (.ref p) (upd H1 p (.tup xs))
def Q4e (t:TA):TE:=fun σ H Q=>t σ H fun xs H1=>xs.length<=sizeLine/\∀ p,H1 p=none->Q (.ref p) (upd H1 p (.lst xs))
theorem UN {x1}(h:PA X es t):PE X (.Tuple es x1 pos) (Q1r t):=by
 intro pins s σ H Q I hq
 refine wpAny_Tuple_spliced (thn (h pos pins s σ H _ I hq) fun us s1 ⟨xs,H1,I1,r,z,q⟩=>⟨by rw [<- r.length];exact z,?_⟩)
 have hf:H1 s1.heap.objs.size=none:=I1.hok.fresh (B9 _)
 refine ⟨.ref s1.heap.objs.size,upd H1 s1.heap.objs.size (.tup xs),I1.laid (t':=s1.toks) (fun b u e=>B1 _ e) (B9 _) ?_,rfl,q _ hf⟩
 exact ⟨z,us,r,⟨_,M6 _ rfl,rfl,_,rfl⟩⟩
theorem MH (h:PA X es t):PE X (.List es pos) (Q4e t):=by
 intro pins s σ H Q I hq
 refine wpAny_List_spliced (thn (h pos pins s σ H _ I hq) fun us s1 ⟨xs,H1,I1,r,z,q⟩=>⟨by rw [<- r.length];exact z,?_⟩)
 have hf:H1 s1.heap.objs.size=none:=I1.hok.fresh (B9 _)
 refine ⟨.ref s1.heap.objs.size,upd H1 s1.heap.objs.size (.lst xs),I1.laid (t':=s1.toks) (fun b u e=>B1 _ e) (B9 _) ?_,rfl,q _ hf⟩
 exact ⟨z,us,0,r,M6 _ rfl⟩
end
abbrev Sp:=List V->Hp->VK->XK->Prop
abbrev CXT:=List Env->Hp->Shared->XK->Value->Shared->Prop
structure Env0 (P:Program)(w:World)(K:Fg)(mg:Str->Option Value)(base:Heap)(A:Around)(outer:List Env)(s:Shared)(H:Hp):Prop where
 frames:A.frames=some outer
 mod:Mod K mg base
 bs:∀ b o,base.get? b=some o->s.heap.get? b=some o/\H b=none
 bsz:base.objs.size<=s.heap.objs.size
 funs:s.heap.FunFrames base outer
 frf:∀ b∈frs outer,H b=none
 hok:HOk P w H s.heap
 bare:AllBare s.gens
def CE (outer:List Env)(P:Program)(w:World)(H:Hp)(s:Shared)(Q:VK)(u:Value)(s':Shared):Prop :=
 ∃ v H',s'.os=s.os/\AllBare s'.gens/\Un (frs outer) [] H H' s.heap s'.heap/\HOk P w H' s'.heap/\RelV v u/\Q v H'
def CR (CX:CXT)(outer:List Env)(P:Program)(w:World)(H:Hp)(s:Shared)(Q:VK)(E:XK)(r:Result)(s':Shared):Prop :=
 match r with
 | .ok (.ret u)=>CE outer P w H s Q u s'
 | .ok _=>False
 | .error e=>CX outer H s E e s'
structure FnOk (P:Program)(w:World)(K:Fg)(mg:Str->Option Value)(base:Heap)(CX:CXT)(k:Nat)(f:Addr)(fd:FuncData)(ps:List Str)(sp:Sp):Prop where
 len:∀ vs H Q E,sp vs H Q E->vs.length=ps.length
 run:∀ (A:Around) (outer:List Env) (s:Shared) (H:Hp) (args:Args) (us:List Value) (vs:List V) (Q:VK) (E:XK),Room k A->Env0 P w K mg base A outer s H->BindsTo s fd args (ps.zip us)->Vals vs us->sp vs H Q E ->
  codeAny (model P w) A (.call (.ref f) args) (CR CX outer P w H s Q E) s
theorem FnOk.imp {w:World} {CX:CXT}{k:Nat}{f:Addr} {ps:List Str}{sp sp':Sp}(F:FnOk P w K mg base CX k f fd ps sp)
 (h:∀ vs H Q E,sp' vs H Q E->sp vs H Q E):FnOk P w K mg base CX k f fd ps sp' :=
 ⟨fun vs H Q E q=>F.len vs H Q E (h _ _ _ _ q),fun A outer s H args us vs Q E hr he hb hv hs=>F.run A outer s H args us vs Q E hr he hb hv (h _ _ _ _ hs)⟩
section
variable {X:Cx}{pins:List (Addr×Obj)}{σ:St}{H:Hp}{s s':Shared}
theorem Inv.env0 (I:Inv X pins σ H s):Env0 X.prog X.w X.K X.mg X.base X.A X.stack s H :=
 ⟨I.ok.frames,I.ok.mod,I.bs,M7 I.ok.bsz I.sz,I.stack,I.stkFree,I.hok,I.bare⟩
theorem Inv.after {Q:VK}{u:Value}(I:Inv X pins σ H s)(h:CE X.stack X.prog X.w H s Q u s'):EP X pins σ Q u s':=by
 obtain ⟨v,H',os,bare,un,hok,r,q⟩:=h
 obtain ⟨hh,g,d,t,os'⟩:=s'
 obtain rfl:os'=s.os:=os
 exact ⟨v,H',I.call (h':=hh) (g':=g) (d':=d) (t':=t) (ch:=[]) un hok bare (fun b z=>absurd z (by simp)),r,q⟩
end
def NW (sp:Sp)(dvs:List V)(E:XK)(t:TA):TE:=fun σ H Q=>t σ H fun vs H1=>sp (vs++dvs) H1 Q E
def Q5a (C:Addr)(m:Str)(sp:Sp)(dvs:List V)(E:XK)(ta:TE)(t:TA):TE:=fun σ H Q=>ta σ H fun x H1=>∃ a dx fs,x=.ref a/\H1 a=some (.ins C dx fs)/\fs.lookup m=none /\
 t σ H1 fun vs H2=>sp (x::(vs++dvs)) H2 Q E
def Q5b (C:Addr)(sp:Sp)(dvs:List V)(E:XK)(t:TA):TE:=fun σ H Q=>t σ H fun vs H1=>∀ x dx,H1 x=none->H1 dx=none->dx≠x ->
 sp (.ref x::(vs++dvs)) (upd (upd H1 dx (.own x)) x (.ins C dx [])) (fun v H2=>v=.non/\Q (.ref x) H2) E
def Binds (K:Fg)(fd:FuncData)(ps:List Str)(ds:List Value):Prop :=
 ∀ (s:Shared) (us:List Value),K.In s.heap->(us++ds).length=ps.length->BindsTo s fd ⟨us,[]⟩ (ps.zip (us++ds))
theorem Binds.all {ps:List Str}(h:∀ us:List Value,us.length=ps.length->bindArgs fd ⟨us,[]⟩=pure (ps.zip us)):Binds K fd ps []:=fun s us _ hl=>by
 rw [E7] at hl ⊢
 exact .of_eq (h us hl)
def HK (CX:CXT)(X:Cx)(E:XK):Prop:=∀ (pins:List (Addr×Obj)) (σ:St) (H:Hp) (s:Shared) (e:Value) (s':Shared),Inv X pins σ H s->CX X.stack H s E e s'->X.xe e s'
section
variable {X:Cx}{CX:CXT}{k:Nat}{f:Addr}{fd:FuncData}{ps:List Str}{sp:Sp}{dvs:List V}{ds:List Value}{E:XK}{x:Str}{p pos:Pos}{e:Expr}{es:List Expr}{t:TA}
theorem J0a {pins:List (Addr×Obj)}{σ:St}{H:Hp}{s:Shared}{Q:VK}{us:List Value}{vs:List V}(F:FnOk X.prog X.w X.K X.mg X.base CX k f fd ps sp)(hr:Room k X.A)(hb:Binds X.K fd ps ds)(hd:Vals dvs ds)(hx:HK CX X E)
 (I:Inv X pins σ H s) (r:Vals vs us) (h:sp (vs++dvs) H Q E):wpAny (model X.prog X.w) X.A (call (.ref f) us) (EP X pins σ Q) X.xe s:=by
 have r2:Vals (vs++dvs) (us++ds):=r.append hd
 have hl:(us++ds).length=ps.length:=by rw [<- r2.length];exact F.len _ _ _ _ h
 refine wpAny_call (codeAny_mono (F.run X.A X.stack s H ⟨us,[]⟩ (us++ds) (vs++dvs) Q E hr I.env0 (hb s us I.kIn hl) r2 h) fun r s' hq=>?_)
 cases r with
 | error e=>exact hx pins σ H s e s' I hq
 | ok fl =>
   cases fl with
   | ret u=>exact I.after hq
   | next=>exact False.elim hq
   | brk=>exact False.elim hq
   | cont=>exact False.elim hq
theorem WG (F:FnOk X.prog X.w X.K X.mg X.base CX k f fd ps sp)(hr:Room k X.A)(hg:Gl X x)(hm:X.mg x=some (.ref f))(hk:PySem.W.keepIn X.K (.ref f)=true)(hb:Binds X.K fd ps ds)(hd:Vals dvs ds)(hx:HK CX X E)
 (ha:PA X (e::es) t) (hdb:(x==("__debug__" : Str))=false:=by decide) (he:starEach (e::es) X.env=(false,eval e X.env)::starEach es X.env:=by rfl) (hpl:(backTo pos (starEach es X.env)).any (·.1)=false:=by rfl) :
 PE X (.Call (.Name x p) (e::es) [] pos) (NW sp dvs E t):=by
 intro pins s σ H Q I h
 refine B1a (LK I hg hm ?_ hdb)
 refine PySem.W.callWith_K (h₀:=X.base) I.ok.mod.kin hk (thn (ha pos pins s σ H _ I h) fun us s1 ⟨vs,H1,I1,r,q⟩=>⟨I1.kIn,?_⟩) he hpl
 exact J0a F hr hb hd hx I1 r q
theorem J0s (F:FnOk X.prog X.w X.K X.mg X.base CX k f fd ps sp)(hr:Room k X.A)(hg:Gl X x)(hm:X.mg x=some (.ref f))(hk:PySem.W.keepIn X.K (.ref f)=true)(hb:Binds X.K fd ps ds)(hd:Vals dvs ds)(hx:HK CX X E)
 (hdb:(x==("__debug__" : Str))=false:=by decide):PE X (.Call (.Name x p) [] [] pos) (NW sp dvs E J8c):=by
 intro pins s σ H Q I h
 refine B1a (LK I hg hm ?_ hdb)
 exact PySem.W.callWith_K0 I.kIn hk (J0a (us:=[]) F hr hb hd hx I .nil h)
end
structure FnScope (N P:List Str)(sc:Scope):Prop where
 kind:sc.kind=.function
 co:sc.isCoroutine=false
 gen:sc.isGenerator=false
 nd:N.Nodup
 pre:N.take P.length=P
 par:∀ x∈P,sc.names.lookup x=some .local\/sc.names.lookup x=some .cell
 nofree:∀ y∈sc.names,y.2≠.free
theorem OP {kindOf:Str->Option NameKind}{x:Str}:∀ {binds:List (Str×Value)} {m:Str->Option Value},(∀ v,(x,v)∉binds)->bindL kindOf binds m x=m x
 | [],_,_=>rfl
 | (n,v)::r,m,h=>by
   unfold bindL
   rw [OP fun w hw=>h w (T5 _ hw)]
   split
   · have:x≠n:=by rintro rfl;exact h v M4
     simp [this]
   · rfl
theorem OR {kindOf:Str->Option NameKind}{x:Str}:∀ {binds:List (Str×Value)} {m:Str->Option Value},(∀ v,(x,v)∉binds)->bindC kindOf binds m x=m x
 | [],_,_=>rfl
 | (n,v)::r,m,h=>by
   unfold bindC
   rw [OR fun w hw=>h w (T5 _ hw)]
   split
   · rfl
   · have:x≠n:=by rintro rfl;exact h v M4
     simp [this]
theorem OQ {kindOf:Str->Option NameKind}{x:Str}{v:Value}:∀ {P:List Str} {vs:List Value} {i:Nat} {m:Str->Option Value},P.Nodup->P[i]?=some x->vs[i]?=some v->kindOf x=some .local ->
 bindL kindOf (P.zip vs) m x=some v
 | [],_,_,_,_,h,_,_=>by simp at h
 | _::_,[],_,_,_,_,h,_=>by simp at h
 | p::P,w::vs,0,m,nd,h1,h2,hk=>by
   simp at h1 h2;subst h1;subst h2
   show bindL kindOf ((p,w)::P.zip vs) m p=_
   unfold bindL
   rw [OP fun v hv=>(B1e.mp nd).1 (List.of_mem_zip hv).1,if_pos hk]
   simp
 | p::P,w::vs,i+1,m,nd,h1,h2,hk=>by
   show bindL kindOf ((p,w)::P.zip vs) m x=_
   unfold bindL
   exact OQ (i:=i) (B1e.mp nd).2 (by simpa using h1) (by simpa using h2) hk
theorem OS {kindOf:Str->Option NameKind}{x:Str}{v:Value}:∀ {P:List Str} {vs:List Value} {i:Nat} {m:Str->Option Value},P.Nodup->P[i]?=some x->vs[i]?=some v->kindOf x≠some .local ->
 bindC kindOf (P.zip vs) m x=some v
 | [],_,_,_,_,h,_,_=>by simp at h
 | _::_,[],_,_,_,_,h,_=>by simp at h
 | p::P,w::vs,0,m,nd,h1,h2,hk=>by
   simp at h1 h2;subst h1;subst h2
   show bindC kindOf ((p,w)::P.zip vs) m p=_
   unfold bindC
   rw [OR fun v hv=>(B1e.mp nd).1 (List.of_mem_zip hv).1,if_neg hk]
   simp
 | p::P,w::vs,i+1,m,nd,h1,h2,hk=>by
   show bindC kindOf ((p,w)::P.zip vs) m x=_
   unfold bindC
   exact OS (i:=i) (B1e.mp nd).2 (by simpa using h1) (by simpa using h2) hk
def EO (N:List Str)(vs:List V):St:=vs.map some++List.replicate (N.length - vs.length) none
def DR (CX:CXT)(P:Program)(w:World)(K:Fg)(mg:Str->Option Value)(base:Heap)(N:List Str)(qual:Str)(scope:Scope)(f:Addr)(cd:Value)(A:Around)(outer:List Env)(s:Shared)(H:Hp)(E:XK):Cx where
 prog:=P
 w:=w
 K:=K
 mg:=mg
 base:=base
 A:=A.deeper (envOfC qual scope s.heap.objs.size f cd)
 N:=N
 s₀:=s
 H₀:=H
 env:=envOfC qual scope s.heap.objs.size f cd
 outer:=outer
 stack:=envOfC qual scope s.heap.objs.size f cd::outer
 ex:=[]
 calm:=true
 fn:=fun _=>true
 pn:=[]
 xe:=fun e s'=>wpAny (model P w) (A.deeper (envOfC qual scope s.heap.objs.size f cd)) (leaving (envOfC qual scope s.heap.objs.size f cd) e) (fun _ s''=>CX outer H s E e s'') (fun e' s''=>CX outer H s E e' s'') s'
theorem TH {sc:Scope}{n:Nat}{x:Str}(h:sc.names.lookup x=some .cell):∃ c,(cellsFrom n sc.names []).lookup x=some c:=by
 have q:=B1b sc.names n [] (.inl h)
 exact B0z.mp q
theorem YT {CX:CXT}{P:Program}{w:World}{K:Fg}{mg:Str->Option Value}{base:Heap}{N ps:List Str}{qual:Str}{scope:Scope}{f:Addr}{cd:Value}{A:Around}{outer:List Env}{s s1:Shared}{H:Hp}{E:XK}{us:List Value}{vs:List V}
 (S:FnScope N ps scope) (hd:A.handled=none) (e0:Env0 P w K mg base A outer s H) (hl:vs.length=ps.length) (r:Vals vs us)
 (x:InCallC s s.heap.objs.size (bindL (envOfC qual scope s.heap.objs.size f cd).kindOf (ps.zip us) fun _=>none) (cellsFrom (s.heap.objs.size+1) scope.names []) (bindC (envOfC qual scope s.heap.objs.size f cd).kindOf (ps.zip us) fun _=>none) s1) :
 Inv (DR CX P w K mg base N qual scope f cd A outer s H E) [] (EO N vs) H s1:=by
 have hpl:ps.length<=N.length:=by have:=W9 List.length S.pre;rw [D4] at this;omega
 obtain ⟨h1,tk,rfl,hk⟩:=x.done
 have noA:∀ b:Addr,b∉(DR CX P w K mg base N qual scope f cd A outer s H E).ex:=fun b z=>absurd (show b∈([]:List Addr) from z) (by simp)
 refine ⟨⟨e0.mod,S.kind,rfl,rfl,B9 _,fun y z c h1 h2=>?_,fun y hy=>?_,fun y c _ h=>?_,fun _=>hd,Around.frames_deeper e0.frames,.inr ⟨rfl,rfl⟩,fun b z=>absurd z (noA b),e0.bs,e0.bsz,fun b _ _=>noA b,fun b z=>absurd z (noA b),e0.funs,e0.frf⟩,
  rfl,e0.bare,Un.kept hk,⟨_,x.toInCall.ns,fun i y v h1 h2 h3=>?_⟩,fun y c h=>⟨_,x.cell y c h⟩,e0.hok.fresh (B9 _),fun y c h=>?_,fun p hp=>absurd (show p∈([]:List (Addr×Obj)) from hp) (by simp),e0.hok.kept hk,?_⟩
 · exact name_of_addr x.apart (U1 h1) (U1 h2)
 · have hy:scope.names.lookup y=some .cell\/scope.names.lookup y=some .free:=hy
   rcases hy with hy|hy
   · exact TH hy
   · exact absurd rfl (S.nofree _ (U1 hy))
 · exact B1c (x.above y c (U1 h))
 · have hi:i<vs.length:=by
    unfold EO at h2
    by_cases hi:i<vs.length
    · exact hi
    · rw [B0s (by simpa using hi)] at h2
      rw [List.getElem?_replicate] at h2
      split at h2<;>cases h2
   have ha:vs[i]?=some v:=by
    unfold EO at h2
    rw [D7 (by simpa using hi),M9] at h2
    cases e:vs[i]? with
    | none=>rw [e] at h2;cases h2
    | some a=>rw [e] at h2;cases h2;rfl
   obtain ⟨u,hu,rv⟩:=r.get ha
   have hp:ps[i]?=some y:=by
    rw [<- S.pre,List.getElem?_take_of_lt (by omega)];exact h1
   have ndP:ps.Nodup:=by rw [<- S.pre];exact S.nd.sublist (List.take_sublist _ _)
   refine ⟨u,rv,?_⟩
   rcases S.par y (M3 hp) with k|k
   · exact .inl ⟨k,OQ ndP hp hu k⟩
   · obtain ⟨c,e⟩:=TH (n:=s.heap.objs.size+1) k
     refine .inr ⟨.inl k,c,e,?_⟩
     have q:=x.cell y c e
     rw [OS ndP hp hu (by show scope.names.lookup y≠_;rw [k];decide)] at q
     exact q
 · exact e0.hok.fresh (B1c (x.above y c (U1 h)))
 · unfold EO
   show _=N.length
   rw [U4,L0,List.length_replicate]
   omega
theorem J7b {CX:CXT}{P:Program}{w:World}{K:Fg}{mg:Str->Option Value}{base:Heap}{k:Nat}{f:Addr}{name qual:Str}{params:Arguments}{body:List Stmt}{scope:Scope}{dV kV doc pm cdv ct oc:Value}{an od:Option Addr}
 {osl:Array (Option Value)} {N ps:List Str} {sp:Sp} (lk:K.lookup f=some ⟨oc,od,.func (PySem.W.fnOf name qual params body scope dV kV doc pm an cdv ct),osl⟩) (hcd:PySem.W.codeIn K cdv qual=true) (S:FnScope N ps scope)
 (len:∀ vs H Q E,sp vs H Q E->vs.length=ps.length)
 (hbody:∀ (A:Around) (outer:List Env) (s:Shared) (H:Hp) (vs:List V) (Q:VK) (E:XK),Room k (A.deeper (envOfC qual scope s.heap.objs.size f cdv))->sp vs H Q E ->
  ∃ t,PSs (DR CX P w K mg base N qual scope f cdv A outer s H E) body t/\t { nx:=fun _ H'=>Q .non H',rt:=Q } (EO N vs) H) :
 FnOk P w K mg base CX (k+1) f (PySem.W.fnOf name qual params body scope dV kV doc pm an cdv ct) ps sp:=by
 refine ⟨len,fun A outer s H args us vs Q E hr e0 hb r hsp=>?_⟩
 have hl:=len _ _ _ _ hsp
 have KX:K.In s.heap:=e0.mod.kin.keeps fun b o e=>(e0.bs b o e).1
 have lim:s.heap.NoLimit:=e0.mod.nolimit.keeps fun b o e=>(e0.bs b o e).1
 have hkind:∀ y∈ps.zip us,scope.names.lookup y.1=some .local\/(scope.names.lookup y.1=some .cell/\((cellsFrom (s.heap.objs.size+1) scope.names []).lookup y.1).isSome=true):=fun ⟨n,v⟩ hy=>by
  rcases S.par n (List.of_mem_zip hy).1 with q|q
  · exact .inl q
  · exact .inr ⟨q,B1b _ _ _ (.inl q)⟩
 refine codeAny_call_function hr.depth (KX _ _ lk) rfl S.co S.gen rfl (PySem.W.codeRec_of KX hcd) (hb _ _ _ _ ?_)
 refine wpAny_newFunctionEnv_cells S.kind hkind fun env he s1 x=>?_
 subst he
 refine ⟨lim.keeps x.toInCall.keep,codeAny_func ?_⟩
 obtain ⟨t,ht,hq⟩:=hbody A outer s H vs Q E (hr.deeper _) hsp
 have I:Inv (DR CX P w K mg base N qual scope f cdv A outer s H E) [] (EO N vs) H s1:=YT S hr.hd e0 hl r x
 refine T6 (ht [] s1 (EO N vs) H _ I hq) (fun fl s' hs=>?_) fun e s' hs=>hs
 have fin:∀ {σ':St} {H':Hp} {v:V} {u:Value},Inv (DR CX P w K mg base N qual scope f cdv A outer s H E) [] σ' H' s'->RelV v u->Q v H'->CE outer P w H s Q u s' :=
  fun {σ' H' v u} J rv q=>⟨v,H',J.os,J.bare,J.base,J.hok,rv,q⟩
 cases fl with
 | ret u =>
   obtain ⟨v,σ',H',J,rv,q⟩:=hs
   exact fin J rv q
 | next =>
   obtain ⟨σ',H',J,q⟩:=hs
   exact fin (v:=V.non) (u:=Value.none) J rfl q
 | brk =>
   obtain ⟨_,_,_,q⟩:=hs
   exact False.elim q
 | cont =>
   obtain ⟨_,_,_,q⟩:=hs
   exact False.elim q
section
variable {X:Cx}{x:Str}{p pos:Pos}{e:Expr}{es:List Expr}{t:TA}{id T:String}{r:List V->Hp->VK->Prop}
def tCB (r:List V->Hp->VK->Prop)(t:TA):TE:=fun σ H Q=>t σ H fun vs H1=>r vs H1 Q
theorem GY (hc:CK X (.builtin id) r)(hg:Gl X x)(hm:X.mg x=none)(hv:bootBuiltins x=some (.builtin id))(ha:PA X (e::es) t)(hn:x≠"__name__":=by decide) (hdb:(x==("__debug__" : Str))=false:=by decide)
 (he:starEach (e::es) X.env=(false,eval e X.env)::starEach es X.env:=by rfl) (hpl:(backTo pos (starEach es X.env)).any (·.1)=false:=by rfl):PE X (.Call (.Name x p) (e::es) [] pos) (tCB r t):=by
 intro pins s σ H Q I h
 refine B1a (KB I hg hm hv ?_ hn hdb)
 exact PyProof.Rows.callWith_builtin1 (thn (ha pos pins s σ H _ I h) fun us s1 ⟨vs,H1,I1,r1,q1⟩=>hc pins s1 σ H1 vs us Q I1 r1 q1) he hpl
theorem JV (hc:CK X (.type T) r)(hg:Gl X x)(hm:X.mg x=none)(hv:bootBuiltins x=some (.type T))(ha:PA X (e::es) t)(hn:x≠"__name__":=by decide) (hdb:(x==("__debug__" : Str))=false:=by decide)
 (he:starEach (e::es) X.env=(false,eval e X.env)::starEach es X.env:=by rfl) (hpl:(backTo pos (starEach es X.env)).any (·.1)=false:=by rfl):PE X (.Call (.Name x p) (e::es) [] pos) (tCB r t):=by
 intro pins s σ H Q I h
 refine B1a (KB I hg hm hv ?_ hn hdb)
 exact D0 (thn (ha pos pins s σ H _ I h) fun us s1 ⟨vs,H1,I1,r1,q1⟩=>hc pins s1 σ H1 vs us Q I1 r1 q1) he hpl
end
end L2
namespace HT
open PySem PyProof.Rows
section
variable {prog:Program}{w:World}{A:Around}{E:Value->Shared->Prop}{s:Shared}
def sIx (n d:Nat):Option Int->Nat
 | none=>d
 | some v=>if v<0 then (v+(n:Int)).toNat else min v.toNat n
theorem sIx_nat (n d k:Nat):sIx n d (some (k:Int))=min k n:=by
 show (if (k:Int)<0 then ((k:Int)+(n:Int)).toNat else min (k:Int).toNat n)=min k n
 rw [if_neg (by omega),B0v]
theorem J8i (n d:Nat)(hd:d<=n)(o:Option Int):sIx n d o<=n:=by
 cases o with
 | none=>exact hd
 | some v =>
   show (if v<0 then (v+(n:Int)).toNat else min v.toNat n)<=n
   by_cases hv:v<0
   · rw [if_pos hv];omega
   · rw [if_neg hv];exact Nat.min_le_right _ _
theorem WZ (v:Int)(n d:Nat):(if v<0 then max (v+(n:Int)) 0 else min v (n:Int))=((sIx n d (some v):Nat):Int):=by
 show (if v<0 then max (v+(n:Int)) 0 else min v (n:Int))=(((if v<0 then (v+(n:Int)).toNat else min v.toNat n):Nat):Int)
 by_cases hv:v<0
 · simp only [if_pos hv];omega
 · simp only [if_neg hv];omega
theorem VO (lo hi:Option Int)(n:Nat):Builtin.Slice.sliceAdjust lo hi 1 (n:Int)=(((sIx n 0 lo:Nat):Int),((sIx n n hi:Nat):Int)):=by
 have h1:¬ ((1:Int)<0):=by omega
 unfold Builtin.Slice.sliceAdjust
 simp only [h1,if_false]
 refine Prod.ext ?_ ?_
 · cases lo with
   | none=>rfl
   | some v=>exact WZ v n 0
 · cases hi with
   | none=>rfl
   | some v=>exact WZ v n n
theorem UK (i j:Nat):Builtin.Slice.slicePlaces (i:Int) (j:Int) 1=j - i:=by
 unfold Builtin.Slice.slicePlaces
 have h1:(1:Int)>0:=by omega
 simp only [h1,if_true,Int.ediv_one]
 split<;>omega
theorem LX {v:Value}{o:Option Int}{Q:Option Int->Shared->Prop}(p:IsPart v o)(h:Q o s):wpAny (model prog w) A (Builtin.Slice.slicePartIndex v) Q E s:=by
 cases p with
 | none=>exact slicePart_none h
 | int i t=>exact slicePart_int h
theorem JK {sl:Addr}{vl vu:Value}{lo hi:Option Int}{n:Nat}{Q:Int×Int×Nat->Shared->Prop}(hs:s.heap.IsSliceOf sl vl vu .none)(pl:IsPart vl lo)(pu:IsPart vu hi)
 (h:Q (((sIx n 0 lo:Nat):Int),1,sIx n n hi - sIx n 0 lo) s):wpAny (model prog w) A (Builtin.Slice.sliceApplied (.ref sl) (pure (n:Int))) Q E s:=by
 obtain ⟨os,hos,hcs,hds⟩:=id hs
 unfold Builtin.Slice.sliceApplied Builtin.Slice.sliceFields
 refine B0 (B0 (U0 hos hds (x:=vl) rfl (B0 (U0 hos hds (x:=vu) rfl (B0 (U0 hos hds (x:=.none) rfl (L1 ?_)))))))
 refine B0 (slicePart_none ?_)
 show wpAny _ _ (if ((1:Int)==0)=true then _ else _) _ _ s
 rw [if_neg (by decide)]
 refine B0 (LX pl (B0 (LX pu (B0 (L1 ?_)))))
 show wpAny _ _ (match Builtin.Slice.sliceAdjust lo hi 1 (n:Int) with|(lo,hi)=>pure (lo,(1:Int),Builtin.Slice.slicePlaces lo hi 1)) _ _ s
 rw [VO lo hi n]
 show wpAny _ _ (pure (((sIx n 0 lo:Nat):Int),(1:Int),Builtin.Slice.slicePlaces ((sIx n 0 lo:Nat):Int) ((sIx n n hi:Nat):Int) 1)) _ _ s
 rw [UK]
 exact L1 h
theorem J0m (xs:Array Value)(i k:Nat):((List.range k).filterMap fun (m:Nat)=>xs[((i:Int)+(m:Int)*1).toNat]?).toArray=((xs.toList.drop i).take k).toArray:=by
 have e:(fun (m:Nat)=>xs[((i:Int)+(m:Int)*1).toNat]?)=fun m=>xs[i+m]?:=by
  funext m
  have:((i:Int)+(m:Int)*1).toNat=i+m:=by omega
  rw [this]
 rw [e]
 have:=pick_run xs i k
 rw [List.filterMap_map] at this
 have e2:((fun x=>xs[x]?)∘fun x=>i+x)=fun m=>xs[i+m]?:=rfl
 rw [e2] at this
 rw [this]
theorem getItem_tuple_cut {t sl:Addr}{items:Array Value}{vl vu:Value}{lo hi:Option Int}{Q:Value->Shared->Prop}(ht:IsTup s.heap t items)(hs:s.heap.IsSliceOf sl vl vu .none)(pl:IsPart vl lo)(pu:IsPart vu hi)
 (hw:¬ (sIx items.size 0 lo=0/\sIx items.size items.size hi=items.size))
 (h:Q (.ref s.heap.objs.size) { s with heap:=s.heap.push { cls:=.type "tuple",data:=.seq ((items.toList.drop (sIx items.size 0 lo)).take (sIx items.size items.size hi - sIx items.size 0 lo)).toArray } })
 (hsz:items.size<=sizeLine):wpAny (model prog w) A (getItem (.ref t) (.ref sl)) Q E s:=by
 have htake:sizeOk (.seq ((items.toList.drop (sIx items.size 0 lo)).take (sIx items.size items.size hi - sIx items.size 0 lo)).toArray):=by
  show ((items.toList.drop (sIx items.size 0 lo)).take (sIx items.size items.size hi - sIx items.size 0 lo)).toArray.size<=sizeLine
  rw [L3,D4,B0j,B1j]
  omega
 have hj:sIx items.size items.size hi<=items.size:=J8i _ _ (B9 _) hi
 obtain ⟨os,hos,hcs,hds⟩:=id hs
 have hTs:s.TypeIs (.ref sl) "slice":=⟨os,hos,hcs⟩
 unfold getItem
 try with_reducible refine W6 ?_
 first|refine B0 (L1 ?_)|skip
 refine B0 (wpAny_sequenceKey ht.typeIs (by decide) ?_)
 refine B0 (wpAny_callSpecial?_slot (name:=Str.ofString "__getitem__") ht.typeIs B0h
  (B0o B0h ht.typeIs entry_tuple_getitem ?_ (args_tuple_getitem _ _)))
 show wpAny _ _ (Builtin.Tuple.tupleItemsOf (.ref t) >>= _) _ _ s
 refine B0 (tupleItemsOf_ ht ?_)
 refine B0 (wpAny_typeOf hTs ?_)
 rw [if_pos (by decide)]
 refine B0 (JK hs pl pu ?_)
 have hno:¬ ((((sIx items.size 0 lo:Nat):Int)==0&&(1:Int)==1&&(sIx items.size items.size hi - sIx items.size 0 lo)==items.size)=true):=by
  intro q
  rw [L5,L5] at q
  have q1:((sIx items.size 0 lo:Nat):Int)=0:=eq_of_beq q.1.1
  have q2:sIx items.size items.size hi - sIx items.size 0 lo=items.size:=eq_of_beq q.2
  exact hw ⟨by omega,by omega⟩
 show wpAny _ _ (if (((sIx items.size 0 lo:Nat):Int)==0&&(1:Int)==1&&(sIx items.size items.size hi - sIx items.size 0 lo)==items.size)=true then _ else _) _ _ s
 rw [if_neg hno,J0m]
 first
  | exact B0 (m:=Builtin.Tuple.tupleExact _) (U3 (L1 ⟨_,rfl,L1 h⟩) htake)
  | exact B0 (m:=Builtin.Tuple.tupleExact _) (U3 (B0 (L1 (L1 ⟨_,rfl,L1 h⟩))) htake)
  | exact B0 (B0 (m:=Builtin.Tuple.tupleExact _) (U3 (L1 (L1 ⟨_,rfl,L1 h⟩)) htake))
  | exact B0 (B0 (m:=Builtin.Tuple.tupleExact _) (U3 (L1 ⟨_,rfl,L1 h⟩) htake))
end
end HT
namespace L2
open PySem PySem.Spec PyProof.Rows
abbrev TO:=St->Hp->(Option Int->Hp->Prop)->Prop
def PO (X:Cx)(e:Option Expr)(t:TO):Prop :=
 ∀ (pins:List (Addr×Obj)) (s:Shared) (σ:St) (H:Hp) (Q:Option Int->Hp->Prop),Inv X pins σ H s->t σ H Q ->
  wpAny (model X.prog X.w) X.A (evalPart e X.env) (fun u s'=>∃ o H',Inv X pins σ H' s'/\IsPart u o/\Q o H') X.xe s
def J3z:TO:=fun _ H Q=>Q none H
def Q1u (t:TE):TO:=fun σ H Q=>t σ H fun x H1=>∃ i,x=.int i/\Q (some i) H1
section
variable {X:Cx}{e:Expr}{te:TE}{lo hi:Option Expr}{tl th:TO}{pos p2:Pos}
theorem J4k:PO X none J3z:=by
 intro pins s σ H Q I h
 rw [evalPart_none]
 exact L1 ⟨none,H,I,.none,h⟩
theorem J4j (h:PE X e te):PO X (some e) (Q1u te):=by
 intro pins s σ H Q I hw
 rw [evalPart_some]
 refine thn (h pins s σ H _ I hw) fun u s1 ⟨x,H1,I1,r1,q1⟩=>?_
 obtain ⟨i,rfl,q⟩:=q1
 obtain ⟨t,rfl⟩:=r1
 exact ⟨some i,H1,I1,.int i t,q⟩
def SlR (X:Cx)(r:V->Option Int->Option Int->Hp->VK->Prop):Prop :=
 ∀ (pins:List (Addr×Obj)) (s:Shared) (σ:St) (H:Hp) (x:V) (v vl vu:Value) (lo hi:Option Int) (sl:Addr) (Q:VK),Inv X pins σ H s->RelV x v->s.heap.IsSliceOf sl vl vu .none->IsPart vl lo->IsPart vu hi->r x lo hi H Q ->
  ∃ T id,typeLookup (.type T) "__getitem__" = pure (some (.builtin id))/\s.TypeIs v T/\wpAny (model X.prog X.w) X.A (getItem v (.ref sl)) (EP X pins σ Q) X.xe s
theorem SlR.or {r r':V->Option Int->Option Int->Hp->VK->Prop}(h:SlR X r)(h':SlR X r'):SlR X (fun x lo hi H Q=>r x lo hi H Q\/r' x lo hi H Q):=by
 intro pins s σ H x v vl vu lo hi sl Q I rx hs pl pu q
 rcases q with q|q
 · exact h pins s σ H x v vl vu lo hi sl Q I rx hs pl pu q
 · exact h' pins s σ H x v vl vu lo hi sl Q I rx hs pl pu q
def tSl (r:V->Option Int->Option Int->Hp->VK->Prop)(te:TE)(tl th:TO):TE:=fun σ H Q=>te σ H fun x H1=>tl σ H1 fun l H2=>th σ H2 fun u H3=>r x l u H3 Q
theorem J0o {r:V->Option Int->Option Int->Hp->VK->Prop}(hr:SlR X r)(he:PE X e te)(hl:PO X lo tl)(hu:PO X hi th):PE X (.Subscript e (.Slice lo hi none p2) pos) (tSl r te tl th):=by
 intro pins s σ H Q I h
 refine Subscript_ (thn (he pins s σ H _ I h) fun v s1 ⟨x,H1,I1,r1,q1⟩=>?_)
 refine wpAny_Slice (thn (hl pins s1 σ H1 _ I1 q1) fun vl s2 ⟨l,H2,I2,pl,q2⟩=>thn (hu pins s2 σ H2 _ I2 q2) fun vu s3 ⟨u,H3,I3,pu,q3⟩=>?_)
 rw [evalPart_none]
 refine L1 ?_
 have I4:Inv X pins σ H3 { s3 with heap:=s3.heap.push { cls:=.type "slice",data:=.fields #[vl,vu,.none] } }:=I3.kept (t':=s3.toks) fun b ob q=>B1 _ q
 obtain ⟨T,id,hT,ht,hg⟩:=hr pins { s3 with heap:=s3.heap.push { cls:=.type "slice",data:=.fields #[vl,vu,.none] } } σ H3 x v vl vu l u s3.heap.objs.size Q I4 r1 (Heap.IsSliceOf.new ..) pl pu q3
 show wpAny (model X.prog X.w) X.A (subscriptTail e (.Slice lo hi none p2) v (.ref s3.heap.objs.size)) (EP X pins σ Q) X.xe { s3 with heap:=s3.heap.push { cls:=.type "slice",data:=.fields #[vl,vu,.none] } }
 exact tail_any (ops:=[.ref s3.heap.objs.size,v]) ht hT hg (by with_unfolding_all rfl)
def SW (xs:List V)(lo hi:Option Int):List V:=(xs.drop (HT.sIx xs.length 0 lo)).take (HT.sIx xs.length xs.length hi - HT.sIx xs.length 0 lo)
theorem KN (xs:List V)(lo hi:Option Int):(SW xs lo hi).length<=xs.length:=by
 unfold SW
 rw [D4,B0j]
 omega
def J0d (K:Fg):V->Option Int->Option Int->Hp->VK->Prop:=fun x lo hi H Q=>∃ a xs,x=.ref a/\SqT K H a xs /\
 ¬ (HT.sIx xs.length 0 lo=0/\HT.sIx xs.length xs.length hi=xs.length)/\∀ p,H p=none->Q (.ref p) (upd H p (.tup (SW xs lo hi)))
theorem J8h:SlR X (J0d X.K):=by
 intro pins s σ H x v vl vu lo hi sl Q I rx hs pl pu h
 obtain ⟨a,xs,rfl,hx,hw,q⟩:=h
 cases rx
 obtain ⟨its,r,ht,hz⟩:=I.tuple hx
 have hlen:its.toArray.size=xs.length:=by rw [L3];exact r.length.symm
 refine ⟨"tuple",_,B0h.lookup,ht.typeIs,?_⟩
 refine HT.getItem_tuple_cut ht hs pl pu (by rw [hlen];exact hw) ?_ (by rw [hlen];exact hz)
 rw [hlen]
 refine ⟨.ref s.heap.objs.size,_,I.laid (t':=s.toks) (o:=.tup (SW xs lo hi)) (fun b ob q=>B1 _ q) (B9 _) ?_,rfl,q _ (I.hok.fresh (B9 _))⟩
 exact ⟨M7 (KN xs lo hi) hz,_,(r.drop (HT.sIx xs.length 0 lo)).take (HT.sIx xs.length xs.length hi - HT.sIx xs.length 0 lo),IsTup.new _ _⟩
end
def ixN (n:Nat)(i:Int):Option Nat:=if 0<=i then (if i<n then some i.toNat else none) else if -(n:Int)<=i then some (i+n).toNat else none
def atI {α:Type}(xs:List α)(i:Int):Option α:=(ixN xs.length i).bind fun j=>xs[j]?
theorem WO {n:Nat}{i:Int}{j:Nat}(h:ixN n i=some j):seqIndex? i n=some j/\j<n/\-(n:Int)<=i/\i<n:=by
 unfold ixN at h
 by_cases h0:0<=i
 · rw [if_pos h0] at h
   by_cases h1:i<n
   · rw [if_pos h1] at h
     have e:i.toNat=j:=Option.some.inj h
     exact ⟨by rw [seqIndex_of h0 h1,e],by omega,by omega,h1⟩
   · rw [if_neg h1] at h;cases h
 · rw [if_neg h0] at h
   by_cases h1 : -(n:Int)<=i
   · rw [if_pos h1] at h
     have e:(i+n).toNat=j:=Option.some.inj h
     exact ⟨by rw [seqIndex_neg (by omega) h1,e],by omega,h1,by omega⟩
   · rw [if_neg h1] at h;cases h
theorem XH {α:Type}{xs:List α}{i:Int}{v:α}(h:atI xs i=some v):∃ j,seqIndex? i xs.length=some j/\xs[j]?=some v/\j<xs.length/\-(xs.length:Int)<=i/\i<xs.length:=by
 unfold atI at h
 cases e:ixN xs.length i with
 | none=>rw [e] at h;cases h
 | some j =>
   rw [e] at h
   obtain ⟨h1,h2,h3,h4⟩:=WO e
   exact ⟨j,h1,h,h2,h3,h4⟩
theorem HV {α:Type}{xs:List α}{j:Nat}{v:α}(h:xs[j]?=some v):atI xs (j:Int)=some v:=by
 have hj:j<xs.length:=(B6.mp h).1
 have e:ixN xs.length (j:Int)=some j:=by
  unfold ixN
  rw [if_pos (by omega),if_pos (by omega)];simp
 unfold atI;rw [e];exact h
def LR (b:Expr):Prop:=∀ o i,subscripted b false o i=operate [o,i] (getItem o i)
def IxR (X:Cx)(r:R2):Prop :=
 ∀ (value slice:Expr) (pins:List (Addr×Obj)) (s:Shared) (σ:St) (H:Hp) (x y:V) (v u:Value) (Q:VK),Inv X pins σ H s->RelV x v->RelV y u->r x y H Q ->
  subscripted slice false v u=operate [v,u] (getItem v u)->wpAny (model X.prog X.w) X.A (subscriptTail value slice v u) (EP X pins σ Q) X.xe s
def MtR (X:Cx)(id:String)(r:V->List V->Hp->VK->Prop):Prop :=
 ∀ (pins:List (Addr×Obj)) (s:Shared) (σ:St) (H:Hp) (x:V) (xs:List V) (v:Value) (us:List Value) (Q:VK),Inv X pins σ H s->RelV x v->Vals xs us->r x xs H Q ->
  wpAny (model X.prog X.w) X.A (call (.builtin id) (v::us)) (EP X pins σ Q) X.xe s
section
variable {X:Cx}{a b:Expr}{ta tb:TE}{pos:Pos}
theorem IxR.or {r r':R2}(h:IxR X r)(h':IxR X r'):IxR X (fun x y H Q=>r x y H Q\/r' x y H Q):=by
 intro value slice pins s σ H x y v u Q I rx ry q hs
 rcases q with q|q
 · exact h value slice pins s σ H x y v u Q I rx ry q hs
 · exact h' value slice pins s σ H x y v u Q I rx ry q hs
theorem GX {r:R2}(hr:IxR X r)(ha:PE X a ta)(hb:PE X b tb)(hs:LR b):PE X (.Subscript a b pos) (tOp r ta tb):=by
 intro pins s σ H Q I h
 exact Subscript_ (Q1e ha hb I h fun v u s2 x y H2 I2 rx ry q=>hr a b pins s2 σ H2 x y v u Q I2 rx ry q (hs _ _))
def J4g (K:Fg):R2:=fun x y H Q=>∃ p xs i v,x=.ref p/\y=.int i/\SqL K H p xs/\atI xs i=some v/\Q v H
def J4f (K:Fg):R2:=fun x y H Q=>∃ p xs i v,x=.ref p/\y=.int i/\SqT K H p xs/\atI xs i=some v/\Q v H
theorem J5b:IxR X (J4g X.K):=by
 intro value slice pins s σ H x y v u Q I rx ry h hs
 obtain ⟨p,xs,i,z,rfl,rfl,hq,he,q⟩:=h
 cases rx
 obtain ⟨t,rfl⟩:=ry
 obtain ⟨its,r,pl,hz⟩:=I.list hq
 obtain ⟨j,h1,h2,h3,h4,h5⟩:=XH he
 obtain ⟨w,ew,rw'⟩:=r.get h2
 have hl:=r.length
 have hn:=MR
 have fin:EP X pins σ Q w s:=⟨z,H,I,rw',q⟩
 by_cases h0:0<=i
 · have hj:i.toNat=j:=by
    rw [seqIndex_of h0 h5] at h1
    exact Option.some.inj h1
   exact item_listR pl.isList h0 (by omega) (by rw [hj];simpa using ew) fin hs
 · have hj:(i+(its.toArray.size:Int)).toNat=j:=by
    rw [seqIndex_neg (by omega) h4] at h1
    rw [L3,<- hl]
    exact Option.some.inj h1
   exact subscriptTail_builtinR (x:=w) pl.isList.typeIs slot_list_getitem.lookup
    (wpAny_getItem_list_neg (Q:=fun r s'=>r=w/\EP X pins σ Q r s') pl.isList (by omega) (by rw [L3]<;>omega) (by omega) (by rw [hj];simpa using ew) ⟨rfl,fin⟩) hs
theorem J9h:IxR X (J4f X.K):=by
 intro value slice pins s σ H x y v u Q I rx ry h hs
 obtain ⟨p,xs,i,z,rfl,rfl,hq,he,q⟩:=h
 cases rx
 obtain ⟨t,rfl⟩:=ry
 obtain ⟨its,r,pl,hz⟩:=I.tuple hq
 obtain ⟨j,h1,h2,h3,h4,h5⟩:=XH he
 obtain ⟨w,ew,rw'⟩:=r.get h2
 have hl:=r.length
 have hn:=MR
 have fin:EP X pins σ Q w s:=⟨z,H,I,rw',q⟩
 exact subscriptTail_builtinR (x:=w) pl.typeIs slot_tuple_getitem.lookup
  (getItem_tuple (j:=j) (Q:=fun r s'=>r=w/\EP X pins σ Q r s') pl (by omega) (by omega) (by rw [L3,<- hl];exact h1) (by simpa using ew) ⟨rfl,fin⟩) hs
theorem UW (its:List Value)(n j:Nat)(u:Value):Obj.mapSeq (·.setIfInBounds j u) { cls:=.type "list",data:=.seq its.toArray n }={ cls:=.type "list",data:=.seq (its.set j u).toArray n }:=by
 simp [Obj.mapSeq]
theorem Inv.lst {pins:List (Addr×Obj)}{σ:St}{H:Hp}{s:Shared}{p:Addr}{xs:List V}(I:Inv X pins σ H s)(h:H p=some (.lst xs)) :
 ∃ (its:List Value) (n:Nat),Vals xs its/\s.heap.get? p=some { cls:=.type "list",data:=.seq its.toArray n }/\xs.length<=sizeLine:=by
 obtain ⟨z,its,n,r,e⟩:=I.hok p _ h
 exact ⟨its,n,r,e,z⟩
theorem Inv.lstUpd {pins:List (Addr×Obj)}{σ:St}{H:Hp}{s:Shared}{p:Addr}{xs ys:List V}{its its':List Value}{n n':Nat}{f:Obj->Obj}(I:Inv X pins σ H s)(h:H p=some (.lst xs))
 (ho:s.heap.get? p=some { cls:=.type "list",data:=.seq its.toArray n }) (hf:f { cls:=.type "list",data:=.seq its.toArray n }={ cls:=.type "list",data:=.seq its'.toArray n' }) (r:Vals ys its') (hz:ys.length<=sizeLine) (t:Nat) :
 Inv X pins σ (upd H p (.lst ys)) { s with heap:=s.heap.update p f,toks:=t }:=by
 have e:(s.heap.update p f).get? p=some { cls:=.type "list",data:=.seq its'.toArray n' }:=by
  rw [D5 f ho (by rw [hf]<;>rfl),hf]
 refine I.write (x:=p) (e:=p) (by rw [h];trivial) (.inl rfl) (fun b u hb q=>(U2 _ _ (B0f hb)).trans q) ⟨_,e⟩ ?_
 exact ⟨hz,its',n',r,e⟩
def RW:V->V->V->Hp->(Hp->Prop)->Prop:=fun o i v H Q=>∃ p xs k j,o=.ref p/\i=.int k/\H p=some (.lst xs)/\ixN xs.length k=some j/\Q (upd H p (.lst (xs.set j v)))
theorem GP:Q3x X RW:=by
 intro pins s σ H o i v ov iv u Q I ro ri rv h
 obtain ⟨p,xs,k,j,rfl,rfl,hp,hj,q⟩:=h
 cases ro
 obtain ⟨t,rfl⟩:=ri
 obtain ⟨its,n,r,ho,hz⟩:=I.lst hp
 obtain ⟨h1,h2,h3,h4⟩:=WO hj
 have hl:=r.length
 have hn:=MR
 have I':Inv X pins σ (upd H p (.lst (xs.set j v))) { s with heap:=s.heap.update p (Obj.mapSeq (·.setIfInBounds j u)) } :=
  I.lstUpd hp ho (UW its n j u) (r.set rv j) (by rw [W7];exact hz) s.toks
 by_cases h0:0<=k
 · have hk:k.toNat=j:=by
    rw [seqIndex_of h0 h4] at h1
    exact Option.some.inj h1
   exact PySem.W.ki_setAt ho h0 (by omega) (by rw [L3,<- hl];exact h4) (by rw [hk];exact ⟨_,I',q⟩)
 · have hk:(k+(its.toArray.size:Int)).toNat=j:=by
    rw [seqIndex_neg (by omega) h3] at h1
    rw [L3,<- hl]
    exact Option.some.inj h1
   exact PySem.W.ki_setBack ho (by omega) (by rw [L3,<- hl];exact h3) (by omega) (by rw [hk];exact ⟨_,I',q⟩)
theorem PJ (lo hi:Option Int)(n:Nat):(sliceBounds lo hi none n).1=((HT.sIx n 0 lo:Nat):Int)/\(sliceBounds lo hi none n).2.1=((HT.sIx n n hi:Nat):Int)/\(sliceBounds lo hi none n).2.2=1:=by
 refine ⟨?_,?_,rfl⟩
 · cases lo with
   | none=>simp [sliceBounds,HT.sIx]
   | some i =>
     simp only [sliceBounds,HT.sIx,Option.getD_none,show (1:Int)>0 by decide,if_true]
     by_cases h:i<0
     · simp only [h,if_true]<;>omega
     · simp only [h,if_false]<;>omega
 · cases hi with
   | none=>simp [sliceBounds,HT.sIx]
   | some i =>
     simp only [sliceBounds,HT.sIx,Option.getD_none,show (1:Int)>0 by decide,if_true]
     by_cases h:i<0
     · simp only [h,if_true]<;>omega
     · simp only [h,if_false]<;>omega
theorem NI (its:List Value)(lo hi:Option Int):slicePick its.toArray lo hi none=((its.drop (HT.sIx its.length 0 lo)).take (HT.sIx its.length its.length hi - HT.sIx its.length 0 lo)).toArray:=by
 obtain ⟨h1,h2,h3⟩:=PJ lo hi its.toArray.size
 unfold slicePick
 rw [h1,h2,h3]
 simp only [sliceRange_one,pick_run,L3]<;>rfl
def J0e (K:Fg):V->Option Int->Option Int->Hp->VK->Prop:=fun x lo hi H Q=>∃ a xs,x=.ref a/\SqL K H a xs/\∀ p,H p=none->Q (.ref p) (upd H p (.lst (SW xs lo hi)))
theorem J4d:SlR X (J0e X.K):=by
 intro pins s σ H x v vl vu lo hi sl Q I rx hs pl pu h
 obtain ⟨a,xs,rfl,hx,q⟩:=h
 cases rx
 obtain ⟨its,r,ht,hz⟩:=I.list hx
 have hlen:=r.length
 refine ⟨"list",_,slot_list_getitem.lookup,ht.isList.typeIs,?_⟩
 refine wpAny_getItem_list_slice ht.isList hs pl pu .none (by simp) ?_ (by rw [L3]<;>omega)
 rw [NI,<- hlen]
 refine ⟨.ref s.heap.objs.size,_,I.laid (t':=s.toks) (o:=.lst (SW xs lo hi)) (fun b ob q=>B1 _ q) (B9 _) ?_,rfl,q _ (I.hok.fresh (B9 _))⟩
 exact ⟨M7 (KN xs lo hi) hz,_,0,(r.drop (HT.sIx xs.length 0 lo)).take (HT.sIx xs.length xs.length hi - HT.sIx xs.length 0 lo),M6 _ rfl⟩
theorem QZ:CK X (.builtin "len") (fun xs H Q=>∃ p ys,xs=[.ref p]/\(SqL X.K H p ys\/SqT X.K H p ys)/\Q (.int ys.length) H):=by
 intro pins s σ H xs us Q I r h
 obtain ⟨p,ys,rfl,hq,q⟩:=h
 obtain ⟨u,rfl,rx⟩:=IP r
 cases rx
 have hn:=MR
 rcases hq with hq|hq
 · obtain ⟨its,r',pl,hz⟩:=I.list hq
   have hlen:=r'.length
   exact Calls.call_len_list pl.isList (by simp only [L3]<;>omega) ⟨.int ys.length,H,I.tok _,⟨s.toks+1,by rw [L3,hlen]⟩,q⟩
 · obtain ⟨its,r',pl,hz⟩:=I.tuple hq
   have hlen:=r'.length
   exact len_tuple pl (by simp only [L3]<;>omega) ⟨.int ys.length,H,I.tok _,⟨s.toks+1,by rw [L3,hlen]⟩,q⟩
theorem QY:CK X (.type "list") (fun xs H Q=>∃ p ys,xs=[.ref p]/\(SqL X.K H p ys\/SqT X.K H p ys)/\∀ l,H l=none->Q (.ref l) (upd H l (.lst ys))):=by
 intro pins s σ H xs us Q I r h
 obtain ⟨p,ys,rfl,hq,q⟩:=h
 obtain ⟨u,rfl,rx⟩:=IP r
 cases rx
 have fin:∀ (its:List Value),Vals ys its->ys.length<=sizeLine->∀ (h':Heap) (c':Nat),(∀ b o',s.heap.get? b=some o'->h'.get? b=some o') ->
  h'.get? s.heap.objs.size=some { cls:=.type "list",dict:=none,data:=.seq its.toArray c',slots:=#[] }->EP X pins σ Q (.ref s.heap.objs.size) { s with heap:=h' }:=fun its r' hz h' c' kp e =>
  ⟨.ref s.heap.objs.size,_,I.laid (t':=s.toks) kp (B9 _) (show ObjOk X.prog X.w _ h' _ (.lst ys) from ⟨hz,its,c',r',e⟩),rfl,q _ (I.hok.fresh (B9 _))⟩
 rcases hq with hq|hq
 · obtain ⟨its,r',pl,hz⟩:=I.list hq
   have hlen:=r'.length
   obtain ⟨o,ho,hc,n,hd⟩:=pl.isList
   exact call_list_seq p (.inl rfl) ho hc hd (fun h' c' kp e=>fin its r' hz h' c' kp e) (by simp only [L3]<;>omega)
 · obtain ⟨its,r',pl,hz⟩:=I.tuple hq
   have hlen:=r'.length
   obtain ⟨o,ho,hc,n,hd⟩:=pl
   exact call_list_seq p (.inr rfl) ho hc hd (fun h' c' kp e=>fin its r' hz h' c' kp e) (by simp only [L3]<;>omega)
theorem NS:CK X (.type "tuple") (fun xs H Q=>∃ p ys,xs=[.ref p]/\((SqL X.K H p ys/\∀ l,H l=none->Q (.ref l) (upd H l (.tup ys)))\/(SqT X.K H p ys/\Q (.ref p) H))):=by
 intro pins s σ H xs us Q I r h
 obtain ⟨p,ys,rfl,h⟩:=h
 obtain ⟨u,rfl,rx⟩:=IP r
 cases rx
 rcases h with ⟨hq,q⟩|⟨hq,q⟩
 · obtain ⟨its,r',pl,hz⟩:=I.list hq
   have hlen:=r'.length
   refine call_tuple_list pl.isList (fun h' kp=>?_) (by simp only [L3]<;>omega)
   have I1:Inv X pins σ H { s with heap:=h' }:=I.kept (t':=s.toks) kp
   have I2:Inv X pins σ (upd H h'.objs.size (.tup ys)) { s with heap:=h'.push { cls:=.type "tuple",data:=.seq its.toArray } } :=
    I1.laid (t':=s.toks) (fun b o e=>B1 _ e) (B9 _) (show ObjOk X.prog X.w _ _ _ (.tup ys) from ⟨hz,its,r',IsTup.new _ _⟩)
   exact ⟨.ref h'.objs.size,_,I2,rfl,q _ (I1.hok.fresh (B9 _))⟩
 · obtain ⟨its,r',pl,hz⟩:=I.tuple hq
   exact call_tuple_same pl ⟨.ref p,H,I,rfl,q⟩
def tyV (K:Fg)(T:String)(x:V)(H:Hp):Prop:=match x with
 | .str _=>T = "str"
 | .int _=>T = "int"
 | .ref p=>(T = "list"/\∃ xs,SqL K H p xs)\/(T = "tuple"/\∃ o,K.lookup p=some o/\o.cls=.type "tuple"/\o.dict=none) \/
  (T = "dict"/\((∃ kvs,H p=some (.dK kvs))\/∃ kvs,H p=some (.dT kvs)))\/(T = "set"/\∃ S n,H p=some (.set S n))
 | _=>False
theorem J8a {pins:List (Addr×Obj)}{σ:St}{H:Hp}{s:Shared}{T:String}{x:V}{v:Value}(I:Inv X pins σ H s)(r:RelV x v)(ty:tyV X.K T x H) :
 s.TypeIs v T/\∀ a,v=.ref a->∃ ob,s.heap.get? a=some ob/\ob.dict=none:=by
 cases x with
 | str z =>
   obtain ⟨t,rfl⟩:=r
   cases (show T = "str" from ty)
   exact ⟨typeIs_str s z t,fun _ e=>nomatch e⟩
 | int i =>
   obtain ⟨t,rfl⟩:=r
   cases (show T = "int" from ty)
   exact ⟨typeIs_int s i t,fun _ e=>nomatch e⟩
 | ref p =>
   cases r
   rcases ty with ⟨rfl,xs,hq⟩|⟨rfl,o,hk,hc,hd⟩|⟨rfl,hk⟩|⟨rfl,S,n,hk⟩
   · obtain ⟨its,_,pl,_⟩:=I.list hq
     refine ⟨pl.isList.typeIs,fun a e=>?_⟩
     cases e
     obtain ⟨o,n,e,c,hd,_⟩:=pl
     exact ⟨o,e,hd⟩
   · refine ⟨⟨o,I.kIn p o hk,hc⟩,fun a e=>?_⟩
     cases e
     exact ⟨o,I.kIn _ o hk,hd⟩
   · have z:∃ o,s.heap.get? p=some o/\o.ExactDict:=by
      rcases hk with ⟨kvs,hk⟩|⟨kvs,hk⟩
      · obtain ⟨_,_,_,_,o,_,_,e,ex,_⟩:=I.hok p _ hk
        exact ⟨o,e,ex⟩
      · obtain ⟨_,_,_,_,o,_,_,e,ex,_⟩:=I.hok p _ hk
        exact ⟨o,e,ex⟩
     obtain ⟨o,e,ex⟩:=z
     refine ⟨⟨o,e,ex.1⟩,fun a e2=>?_⟩
     cases e2
     exact ⟨o,e,ex.2.1⟩
   · obtain ⟨o,_,_,_,e,ex,_⟩:=I.hok p _ hk
     refine ⟨⟨o,e,ex.1⟩,fun a e2=>?_⟩
     cases e2
     exact ⟨o,e,ex.2.1⟩
 | _=>exact False.elim ty
def tBM (K:Fg)(T:String)(r:V->List V->Hp->VK->Prop)(to:TE)(t:TA):TE:=fun σ H Q=>to σ H fun x H1=>tyV K T x H1/\t σ H1 fun xs H2=>r x xs H2 Q
variable {o e:Expr}{es:List Expr}{to:TE}{t:TA}{name:Str}{apos cpos:Pos}{T id:String}{r:V->List V->Hp->VK->Prop}
theorem NZ (pa:PlainAttrs T)(slot:Slot T name id)(hty:typeOf (.builtin id)=pure (.type "method_descriptor")) (hm:MtR X id r) (ho:PE X o to) (ha:PA X (e::es) t)
 (hbase:attributeBase o name X.env (eval o X.env)=eval o X.env:=by rfl)
 (hfew:((backTo cpos (starEach (e::es) X.env)).all (fun x=>!x.1)&&(backToKw cpos (keywordEach [] X.env)).all (fun x=>x.1.isSome)
  && decide ((e::es).length+([]:List Keyword).length+(if ([]:List Keyword).isEmpty then 0 else 1)<30))=true:=by rfl)
 (hline:(apos.endLine==cpos.line)=true:=by rfl) (hs:starEach (e::es) X.env=(false,eval e X.env)::starEach es X.env:=by rfl) (hplain:(backTo cpos (starEach es X.env)).any (·.1)=false:=by rfl) :
 PE X (.Call (.Attribute o name apos) (e::es) [] cpos) (tBM X.K T r to t):=by
 intro pins s σ H Q I h
 refine wpAny_Call_method_late hbase hfew hline rfl (thn (ho pins s σ H _ I h) fun v s1 ⟨x,H1,I1,r1,ty,q1⟩=>?_)
 obtain ⟨h1,h2⟩:=J8a I1 r1 ty
 refine ⟨T,id,pa,slot,hty,h1,h2,?_⟩
 have hA:=ha cpos pins s1 σ H1 _ I1 q1
 rw [hs] at hA ⊢
 refine Calls.callWith_builtin (by show (false||(backTo cpos (starEach es X.env)).any (·.1))=false;rw [hplain]<;>rfl) (Calls.evalArgs_plain ?_)
 exact thn hA fun us s2 ⟨vs,H2,I2,r2,q2⟩=>hm pins s2 σ H2 x vs v us Q I2 r1 r2 q2
end
def MtM (X:Cx)(id:String)(r:V->List V->Hp->VK->Prop):Prop :=
 ∀ (pins:List (Addr×Obj)) (s:Shared) (σ:St) (H:Hp) (x:V) (xs:List V) (v:Value) (us:List Value) (Q:VK),Inv X pins σ H s->RelV x v->Vals xs us->r x xs H Q ->
  wpAny (model X.prog X.w) X.A (call (.builtin id) (v::us)) (EP X pins σ Q) X.xe s
theorem Vals.one:∀ {x:V} {us:List Value},Vals [x] us->∃ u,us=[u]/\RelV x u
 | _,_,.cons r .nil=>⟨_,rfl,r⟩
theorem Vals.two:∀ {x y:V} {us:List Value},Vals [x,y] us->∃ u v,us=[u,v]/\RelV x u/\RelV y v
 | _,_,_,.cons r (.cons q .nil)=>⟨_,_,rfl,r,q⟩
theorem Vals.eraseIdx:∀ {xs:List V} {us:List Value} (i:Nat),Vals xs us->Vals (xs.eraseIdx i) (us.eraseIdx i)
 | _,_,_,.nil=>.nil
 | _,_,0,.cons _ t=>t
 | _,_,i+1,.cons r t=>.cons r (Vals.eraseIdx i t)
theorem OC {α:Type}:∀ (l:List α) (i:Nat),(l.eraseIdx i).length<=l.length
 | [],_=>B9 _
 | _::_,0=>Nat.le_succ _
 | _::r,i+1=>Nat.succ_le_succ (OC r i)
section
variable {X:Cx}{pins:List (Addr×Obj)}{σ:St}{H:Hp}{s:Shared}{l:Addr}{xs ys:List V}
theorem Inv.lset {its its':List Value}{n:Nat}{f:Array Value->Array Value}{t':Nat}(I:Inv X pins σ H s)(hH:H l=some (.lst xs))
 (e:s.heap.get? l=some { cls:=.type "list",data:=.seq its.toArray n }) (hf:f its.toArray=its'.toArray) (hv:Vals ys its') (hz:ys.length<=sizeLine) :
 Inv X pins σ (upd H l (.lst ys)) { s with heap:=s.heap.update l (Obj.mapSeq f),toks:=t' }:=by
 have q:=PySem.IsL.update e f
 rw [hf] at q
 refine I.write (x:=l) (e:=l) (by rw [hH];exact trivial) (.inl rfl) (fun b' u hb hu=>(U2 s.heap (Obj.mapSeq f) (B0f hb)).trans hu) ⟨_,q⟩ ?_
 exact ⟨hz,its',_,hv,q⟩
theorem Inv.lstM (I:Inv X pins σ H s)(hH:H l=some (.lst xs)):xs.length<=sizeLine/\∃ (its:List Value) (n:Nat),Vals xs its/\xs.length=its.length/\s.heap.get? l=some { cls:=.type "list",data:=.seq its.toArray n }:=by
 obtain ⟨z,its,n,r,e⟩:=I.hok l _ hH
 exact ⟨z,its,n,r,r.length,e⟩
theorem J1a {n:Nat}(h:n<=sizeLine):Builtin.List.listTooLong n=false:=by
 unfold Builtin.List.listTooLong
 exact R9 (by omega)
end
section
variable {X:Cx}
def HQ:V->List V->Hp->VK->Prop:=fun x vs H Q=>∃ l xs y,x=.ref l/\vs=[y]/\H l=some (.lst xs)/\xs.length<sizeLine/\Q .non (upd H l (.lst (xs++[y])))
theorem JZ:MtM X "list.append" HQ:=by
 intro pins s σ H x vs v us Q I rx rv h
 obtain ⟨l,xs,y,rfl,rfl,hH,hz,q⟩:=h
 cases rx
 obtain ⟨u,rfl,ru⟩:=rv.one
 obtain ⟨z,its,n,r,hl,e⟩:=I.lstM hH
 refine call_meets F.slot_list_append ⟨_,e,rfl⟩ F.entry_list_append (F.args_list_append_2 _ _) (PySem.list_append l its.toArray n u (by rw [L3];omega)) ⟨e,?_⟩
 refine ⟨.non,_,I.lset (its':=its++[u]) hH e (by simp) (r.append (.cons ru .nil)) ?_,rfl,q⟩
 rw [U4,List.length_singleton]
 omega
def PR:V->List V->Hp->VK->Prop:=fun x vs H Q=>∃ l b xs zs,x=.ref l/\vs=[.ref b]/\H l=some (.lst xs)/\H b=some (.lst zs)/\xs.length+zs.length<=sizeLine/\Q .non (upd H l (.lst (xs++zs)))
theorem YJ:MtM X "list.extend" PR:=by
 intro pins s σ H x vs v us Q I rx rv h
 obtain ⟨l,b,xs,zs,rfl,rfl,hH,hB,hz,q⟩:=h
 cases rx
 obtain ⟨u,rfl,ru⟩:=rv.one
 cases ru
 obtain ⟨z,its,n,r,hl,e⟩:=I.lstM hH
 obtain ⟨z2,its2,n2,r2,hl2,e2⟩:=I.lstM hB
 have hsz:its.toArray.size+its2.toArray.size<=sizeLine:=by rw [L3,L3];omega
 have hlong:¬ (!its.toArray.isEmpty&&Builtin.List.listTooLong (its.toArray.size+its2.toArray.size))=true:=by
  rw [J1a hsz,Bool.and_false]
  exact B7
 refine call_meets F.slot_list_extend ⟨_,e,rfl⟩ F.entry_list_extend (F.args_list_extend_2 _ _)
  (AutoSeq1.list_extend_list_list_0 l its.toArray n b its2.toArray n2 hlong (by rw [L3];omega) (by omega)) ⟨e,e2,?_⟩
 refine ⟨.non,_,I.lset (its':=its++its2) hH e (by simp) (r.append r2) ?_,rfl,q⟩
 rw [U4]
 omega
def J0f:V->List V->Hp->VK->Prop:=fun x vs H Q=>∃ l xs i k y,x=.ref l/\vs=[.int i]/\H l=some (.lst xs)/\-(2 ^ 63)<=i/\i<2 ^ 63/\seqIndex? i xs.length=some k/\xs[k]?=some y/\Q y (upd H l (.lst (xs.eraseIdx k)))
theorem J1e:MtM X "list.pop" J0f:=by
 intro pins s σ H x vs v us Q I rx rv h
 obtain ⟨l,xs,i,k,y,rfl,rfl,hH,h1,h2,hk,hy,q⟩:=h
 cases rx
 obtain ⟨u,rfl,ru⟩:=rv.one
 obtain ⟨t,rfl⟩:=ru
 obtain ⟨z,its,n,r,hl,e⟩:=I.lstM hH
 obtain ⟨w,hw,rw'⟩:=r.get hy
 refine call_meets F.slot_list_pop ⟨_,e,rfl⟩ F.entry_list_pop (F.args_list_pop_2 _ _)
  (MeetsSeq.list_pop_at l its.toArray n i t k w (fitsIndex_both h1 h2) (by rw [L3,<- hl];exact hk) (by rw [<- Array.getElem?_toList];exact hw) (by rw [L3];omega)) ⟨e,?_⟩
 refine ⟨y,_,I.lset (its':=its.eraseIdx k) hH e ?_ (r.eraseIdx k) ?_,rw',q⟩
 · show its.toArray.eraseIdxIfInBounds k=(its.eraseIdx k).toArray
   rw [List.eraseIdxIfInBounds_toArray]
 · have:=OC xs k
   omega
end
end L2
namespace Att
open PySem PySem.W PySem.Calls PyProof.Rows
theorem LA {P:Params}{h:Heap}:∀ (ns:List Int) (vs:List Value),WellAll P h vs (ns.map WData.int)->IntsAre vs ns:=by
 intro ns
 induction ns with
 | nil =>
   intro vs w
   rw [List.map_nil] at w
   cases w
   exact .nil
 | cons n ns ih =>
   intro vs w
   rw [U7] at w
   cases w with
   | cons a b =>
     cases a
     exact .cons _ _ (ih _ b)
theorem YA {l:OpenLaw}{n:Nat}(hn:l.most=some n){P:Params}{h:Heap}{args:List WData}{vals:List Value}
 (hpre:l.row.toRowW.claim.pre args=true) (hwl:WellAll P h vals args) :
 ∃ a vs ns,vals=[Value.ref a]/\args=[WData.list (ns.map WData.int)]/\h.get? a=some { cls:=.type "list",data:=.seq vs.toArray }/\IntsAre vs ns/\ns.length<=n:=by
 have hsh:WShape.hasAll [] args [.list .int]=true:=(pre_splitW hpre).1
 have hc:l.pre.holds [] { args:=args }=true:=(pre_splitW hpre).2
 obtain ⟨d,r,rfl,h1,h2⟩:=hasAllW_cons hsh
 obtain rfl:=hasAllW_nil h2
 obtain ⟨xs,rfl,h3⟩:=hasW_list h1
 obtain ⟨ns,rfl⟩:=items_int h3
 have hlen:ns.length<=n:=by
  unfold OpenLaw.pre at hc
  have h4:(WTm.not (.lt (.lit (.int (n:Int))) (.len (.arg 0)))).holds [] { args:=[.list (ns.map .int)] }=true:=by
   have h4:=(holds_andW hc).1
   rw [hn] at h4
   exact h4
  have h5:=condW_of h4 (w_not (w_lt w_lit (w_len_list (w_arg rfl))))
  rw [L0] at h5
  refine Nat.le_of_not_lt fun q=>?_
  have q':(n:Int)<((ns.length:Nat):Int):=by omega
  first
   | (rw [R6 q'] at h5;exact absurd h5 (by decide))
   | (simp at h5;omega)
 cases hwl with
 | cons w1 w2 =>
   cases w2
   cases w1 with
   | list ho hall=>exact ⟨_,_,ns,rfl,rfl,ho,LA ns _ hall,hlen⟩
theorem YE (l:OpenLaw)(args:List WData):l.row.toRowW.claim.post args (.bool true) args=true :=
 postW_of (r:=l.row.toRowW) (X:=(true==true))
  (show WShape.has [] (.bool true) .bool=true by first|rfl|decide|simp [WShape.has,WShape.arms,WShape.armsAll])
  (show (WTm.eq .res (.lit (.bool true))).value [] { args:=args,res:=some (.bool true),after:=args }=some (.bool (true==true)) from w_eq_bool (w_res rfl) w_lit) rfl
theorem attach_call {l:OpenLaw}{n:Nat}{q:Program}{loose:List Str}{XP:(Str->Option Value)->Heap->Prop}{YP:World->Heap->Prop}{d:DefRec}
 (hn:l.most=some n) (hdf:d.params.defaults=[])
 (call:∀ (w:World) (s₀ s₁:Shared) (mg mb:Str->Option Value) (fa:Addr) (o:Obj) (pm cd doc:Value) (a:Addr) (vs:List Value) (ns:List Int),
  Ground q loose [] XP w s₀ mg mb s₁.heap->YP w s₁.heap ->
  s₁.heap.get? fa=some o->o.data=.func (docDef d.name d.params d.body d.scope pm cd doc)->s₁.heap.CodeRec cd d.name->mg d.name=some (.ref fa) ->
  s₁.heap.get? a=some { cls:=.type "list",data:=.seq vs.toArray }->IntsAre vs ns->ns.length<=n->s₁.gens=#[] ->
  codeAny (model l.prog w) callerA (.call (.ref fa) ⟨[.ref a],[]⟩) (fun r s'=>r=.ok (.ret (.bool true))/\OldK s₁.heap s'.heap/\s'.os=s₁.os/\AllBare s'.gens) s₁) :
 WalkO q loose XP YP l.row.toRowW d [] (fun f vs=>PySem.call f vs):=by
 intro w s₀ s₁ mg mb G Y fa o pm cd doc dV kV ho hd hcd hD hmg hg args vals as hpre hlay hrd hwl hlo
 obtain rfl:dV=.none:=Dflts.none hD hdf
 obtain rfl:kV=.none:=Dflts.noKw hD
 obtain ⟨a,vs,ns,rfl,rfl,hobj,hints,hlen⟩:=YA hn hpre hwl
 refine enter_call (codeAny_mono (call w s₀ s₁ mg mb fa o pm cd doc a vs ns G Y ho (fd_plain hd) hcd hmg hobj hints hlen hg) fun r s' hq=>?_)
 obtain ⟨rfl,h2,h3,h4⟩:=hq
 exact ⟨.inl ⟨.bool true,.bool true,[],rfl,fun _=>rfl,.bool true,YE l _,fun _=>⟨List.Pairwise.nil,fun _ hm=>(nomatch hm)⟩⟩,h2,h3,h4⟩
section
def Q4j (h:Heap)(L d:Addr):List (Addr×Obj):=(List.range h.objs.size).filterMap fun a=>if a=L\/a=d then none else (h.get? a).map fun o=>(a,o)
end
end Att
namespace L2
open PySem PySem.Spec PyProof.Rows
theorem NU:∀ {vs:List Value} {ns:List Int},IntsAre vs ns->Vals (ns.map V.int) vs
 | _,_,.nil=>.nil
 | _,_,.cons n t h=>.cons ⟨t,rfl⟩ (NU h)
def Q1k (H:Hp):Prop:=∀ b,H b=none\/∃ o xs,H b=some (.frz o (.lst xs))
theorem J1j {P:Program}{w:World}{K:Fg}{mg mb:Str->Option Value}{CX:CXT}{k:Nat}{fa a:Addr}{fd:FuncData}{x:Str}{sp:Sp}{s₁:Shared}{vs:List Value}{ns:List Int}
 (KX:K.In s₁.heap) (hns:s₁.heap.Ns mainGlobals mg) (hb:s₁.heap.Ns builtinsNs mb) (hbb:∀ x:Str,x≠"__name__"->mb x=bootBuiltins x) (hlim:s₁.heap.NoLimit) (hg:s₁.gens=#[])
 (ha:s₁.heap.get? a=some { cls:=.type "list",data:=.seq vs.toArray }) (hi:IntsAre vs ns) (hl:ns.length<=sizeLine) (hr:Room k callerA)
 (F:∀ base:Heap,K.In base->base.Ns mainGlobals mg->FnOk P w K mg base CX k fa fd [x] sp) (hbind:∀ (s:Shared) (u:Value),BindsTo s fd ⟨[u],[]⟩ [(x,u)])
 (hsp:∀ H:Hp,Q1k H->SqL K H a (ns.map V.int)->sp [.ref a] H (fun v _=>v=.bl true) fun _ _ _=>False)
 (hCX:∀ H e s',CX [] H s₁ (fun _ _ _=>False) e s'->False) :
 codeAny (model P w) callerA (.call (.ref fa) ⟨[.ref a],[]⟩) (fun r s'=>r=.ok (.ret (.bool true))/\OldK s₁.heap s'.heap/\s'.os=s₁.os/\AllBare s'.gens) s₁:=by
 have rv:=NU hi
 have lenV:=hi.length
 have core:∀ H:Hp,Q1k H->SqL K H a (ns.map V.int)->HOk P w H s₁.heap->(∀ b,H b≠none->b=a)->(H a≠none->K.lookup a=none) ->
  codeAny (model P w) callerA (.call (.ref fa) ⟨[.ref a],[]⟩) (fun r s'=>r=.ok (.ret (.bool true))/\OldK s₁.heap s'.heap/\s'.os=s₁.os/\AllBare s'.gens) s₁:=by
  intro H hO hS hok hA hK
  have base_of:∀ {b:Addr} {o:Obj},s₁.heap.get? b=some o->H b=none->(QM s₁.heap H).get? b=some o:=fun e n=>J1t e n
  have noA:∀ {b:Addr} {o:Obj} {es:Array DictEntry} {ep:Nat},s₁.heap.get? b=some o->o.data=.dict es ep->H b=none:=fun {b o es ep} e d=>by
   cases q:H b with
   | none=>rfl
   | some u =>
     have e':b=a:=hA b (by rw [q];simp)
     subst e'
     rw [ha] at e;cases e
     have d':Data.seq vs.toArray _=Data.dict es ep:=d
     cases d'
  have nsK:∀ {b:Addr} {m:Str->Option Value},s₁.heap.Ns b m->(QM s₁.heap H).Ns b m:=fun {b m} ⟨o,es,ep,e,d,r⟩=>⟨o,es,ep,base_of e (noA e d),d,r⟩
  have hKb:K.In (QM s₁.heap H):=fun b o e=>base_of (KX b o e) (by
   cases q:H b with
   | none=>rfl
   | some u =>
     have e':b=a:=hA b (by rw [q];simp)
     subst e'
     rw [hK (by rw [q];simp)] at e;cases e)
  have hM:Mod K mg (QM s₁.heap H):=⟨hKb,nsK hns,⟨mb,nsK hb,hbb⟩,let ⟨mc,h1,h2⟩:=hlim;⟨mc,nsK h1,h2⟩⟩
  have e0:Env0 P w K mg (QM s₁.heap H) callerA [] s₁ H:=⟨rfl,hM,fun b o e=>J4u e,Nat.le_of_eq (YW _ _),trivial,fun b hb=>absurd (show b∈([]:List Addr) from hb) (by simp),hok,.of_eq hg⟩
  refine codeAny_mono ((F _ hKb (nsK hns)).run callerA [] s₁ H ⟨[.ref a],[]⟩ [.ref a] [.ref a] _ _ hr e0 (hbind s₁ (.ref a)) (.cons rfl .nil) (hsp H hO hS)) fun r s' h=>?_
  cases r with
  | error e=>exact (hCX H e s' h).elim
  | ok fl =>
    cases fl with
    | next=>exact False.elim h
    | brk=>exact False.elim h
    | cont=>exact False.elim h
    | ret u =>
      obtain ⟨v,H',os,bare,un,hok',r',q⟩:=h
      have q':v=.bl true:=q
      subst q'
      obtain rfl:u=Value.bool true:=r'
      refine ⟨rfl,OldK.of_keep fun b o e=>?_,os,bare⟩
      cases q:H b with
      | none=>exact un.keep b o e q (by intro z;exact absurd (show b∈([]:List Addr) from z) (by simp)) (by simp)
      | some u =>
        rcases hO b with z|⟨ob,xs,z⟩
        · rw [q] at z;cases z
        · have z2:=un.frzs b ob _ z
          obtain ⟨e1,_⟩:=hok b _ z
          obtain ⟨e2,_⟩:=hok' b _ z2
          rw [e] at e1;cases e1
          exact e2
 cases hk:K.lookup a with
 | some o =>
   have e:=KX a o hk
   rw [ha] at e
   cases e
   refine core (fun _=>none) (fun _=>.inl rfl) (.inr ⟨_,vs.toArray,_,hk,rfl,rfl,rfl,by rw [L3,lenV];exact hl,by simpa using rv⟩) (fun b u z=>by have z':(none:Option HO)=some u:=z;cases z') (fun b z=>absurd rfl z) fun z=>absurd rfl z
 | none =>
   refine core (fun b=>if b=a then some (.frz { cls:=.type "list",data:=.seq vs.toArray } (.lst (ns.map V.int))) else none) (fun b=>?_) (.inl (.inr ⟨{ cls:=.type "list",data:=.seq vs.toArray },if_pos rfl⟩)) (fun b u z=>?_) (fun b z=>?_) fun _=>hk
   · by_cases hb:b=a
     · exact .inr ⟨_,_,if_pos hb⟩
     · exact .inl (if_neg hb)
   · by_cases hb:b=a
     · have z':=(if_pos hb).symm.trans z
       cases z'
       subst hb
       exact ⟨ha,by rw [L0];exact hl,vs,_,rv,ha⟩
     · have z':=(if_neg hb).symm.trans z
       cases z'
   · by_cases hb:b=a
     · exact hb
     · exact absurd (if_neg hb) z
theorem J3v {l:PySem.W.OpenLaw}{n k:Nat}{q:Program}{loose:List Str}{XP:(Str->Option Value)->Heap->Prop}{YP:World->Heap->Prop}{d:DefRec}{K:Params->Fg}{CX:World->CXT}{sp:World->Sp}{x:Str}
 (hn:l.most=some n) (hn2:n<=sizeLine) (hdf:d.params.defaults=[]) (hr:Room k callerA)
 (hY:∀ (w:World) (h:Heap),YP w h->(K w.params).In h)
 (F:∀ (w:World) (mg:Str->Option Value) (fa:Addr) (h:Heap),(K w.params).In h->h.Ns mainGlobals mg->mg d.name=some (.ref fa) ->
  ∃ fd:FuncData,(∀ (s:Shared) (u:Value),BindsTo s fd ⟨[u],[]⟩ [(x,u)]) /\
   ∀ base:Heap,(K w.params).In base->base.Ns mainGlobals mg->FnOk l.prog w (K w.params) mg base (CX w) k fa fd [x] (sp w))
 (hsp:∀ (w:World) (H:Hp) (a:Addr) (ns:List Int),ns.length<=n->Q1k H->SqL (K w.params) H a (ns.map V.int)->sp w [.ref a] H (fun v _=>v=.bl true) fun _ _ _=>False)
 (hCX:∀ (w:World) (H:Hp) (s:Shared) (e:Value) (s':Shared),CX w [] H s (fun _ _ _=>False) e s'->False) :
 PySem.W.WalkO q loose XP YP l.row.toRowW d [] (fun f vs=>PySem.call f vs):=by
 refine Att.attach_call hn hdf fun w s₀ s₁ mg mb fa o pm cd doc a vs ns G Y ho hd hcd hmg hobj hints hlen hg=>?_
 have KX:=hY w _ Y
 obtain ⟨fd,hb,hF⟩:=F w mg fa _ KX G.T.g hmg
 exact J1j KX G.T.g G.T.b G.T.builtins G.T.nolimit hg hobj hints (M7 hlen hn2) hr hF hb (fun H hO hS=>hsp w H a ns hlen hO hS) fun H e s'=>hCX w H s₁ e s'
def JF (s:Stmt):Arguments:=match s with
 | .FunctionDef _ a _ _ _ _ _ _ _ _=>a
 | _=>{ posonlyargs:=[],args:=[],vararg:=none,kwonlyargs:=[],kw_defaults:=[],kwarg:=none,defaults:=[] }
def CP (s:Stmt):List Stmt:=match s with
 | .FunctionDef _ _ b _ _ _ _ _ _ _=>b
 | _=>[]
def J5 (s:Stmt):Scope:=match s with
 | .FunctionDef _ _ _ _ _ _ sc _ _ _=>sc
 | _=>{ kind:=.function,names:=[],isGenerator:=false,isCoroutine:=false }
abbrev CX0:CXT:=fun _ _ _ _ _ _=>False
abbrev E0:XK:=fun _ _ _=>False
theorem J6s {X:Cx}:HK CX0 X E0:=fun _ _ _ _ _ _ _ h=>h.elim
structure Fun (K:Fg)(x qual:Str)(st:Stmt)(f:Addr)(fd:FuncData):Prop where
 ex:∃ (oc:Value) (od:Option Addr) (kV doc pm:Value) (an:Option Addr) (cdv ct:Value) (osl:Array (Option Value)),
  fd=PySem.W.fnOf x qual (JF st) (CP st) (J5 st) .none kV doc pm an cdv ct/\K.lookup f=some ⟨oc,od,.func fd,osl⟩/\PySem.W.codeIn K cdv qual=true
 kp:PySem.W.keepIn K (.ref f)=true
section
variable {P:Program}{w:World}{K:Fg}{mg:Str->Option Value}{base:Heap}
theorem Fun.ok {x qual:Str}{st:Stmt}{f:Addr} {N ps:List Str}{k:Nat}{sp:Sp}(F:Fun K x qual st f fd)(S:FnScope N ps (J5 st))(len:∀ vs H Q E,sp vs H Q E->vs.length=ps.length)
 (hbody:∀ (cdv:Value) (A:Around) (outer:List Env) (s:Shared) (H:Hp) (vs:List V) (Q:VK) (E:XK),Room k (A.deeper (envOfC qual (J5 st) s.heap.objs.size f cdv))->sp vs H Q E ->
  ∃ t,PSs (DR CX0 P w K mg base N qual (J5 st) f cdv A outer s H E).nox (CP st) t/\t { nx:=fun _ H'=>Q .non H',rt:=Q } (EO N vs) H):FnOk P w K mg base CX0 (k+1) f fd ps sp:=by
 obtain ⟨oc,od,kV,doc,pm,an,cdv,ct,osl,rfl,lk,hcd⟩:=F.ex
 refine J7b lk hcd S len fun A outer s H vs Q E hr hsp=>?_
 obtain ⟨t,h,q⟩:=hbody cdv A outer s H vs Q E hr hsp
 exact ⟨t,h.nox,q⟩
theorem Fun.binds {x qual:Str}{st:Stmt}{f:Addr} {ps:List Str}(F:Fun K x qual st f fd)
 (h:∀ (kV doc pm:Value) (an:Option Addr) (cdv ct:Value) (us:List Value),us.length=ps.length->bindArgs (PySem.W.fnOf x qual (JF st) (CP st) (J5 st) .none kV doc pm an cdv ct) ⟨us,[]⟩=pure (ps.zip us)):Binds K fd ps []:=by
 obtain ⟨oc,od,kV,doc,pm,an,cdv,ct,osl,rfl,lk,hcd⟩:=F.ex
 exact .all (h kV doc pm an cdv ct)
theorem J9o {x qual:Str}{st:Stmt}{f:Addr}{oc:Value}{od an:Option Addr}{osl:Array (Option Value)}{kV doc pm cdv ct:Value}(l:K.lookup f=some ⟨oc,od,.func (PySem.W.fnOf x qual (JF st) (CP st) (J5 st) .none kV doc pm an cdv ct),osl⟩)
 (c:PySem.W.codeIn K cdv qual=true) (k:PySem.W.keepIn K (.ref f)=true):Fun K x qual st f (PySem.W.fnOf x qual (JF st) (CP st) (J5 st) .none kV doc pm an cdv ct):=⟨⟨oc,od,kV,doc,pm,an,cdv,ct,osl,rfl,l,c⟩,k⟩
end
section
variable {X:Cx}
theorem pv (i:Nat) {x:Str} {pos:Pos} (hN:X.N[i]?=some x:=by rfl) (hv:Vis X.env.scope x:=by first|exact Or.inl rfl|exact Or.inr (Or.inl rfl)|exact Or.inr (Or.inr rfl)) (hd:(x==("__debug__" : Str))=false:=by decide)
 (hcd:(x==("__classdict__" : Str))=false:=by decide):PE X (.Name x pos) (HX i):=UL hN hv hd hcd
end
theorem Q4m {A B:Prop}(h:B):if false=true then A else B:=by
 rw [if_neg B7]
 exact h
theorem Q4l {A B:Prop}(h:A):if true=true then A else B:=by
 rw [if_pos rfl]
 exact h
def Same (H H':Hp):Prop:=∀ b o,H b=some o->H' b=some o
theorem Same.refl (H:Hp):Same H H:=fun _ _ h=>h
end L2
set_option maxHeartbeats 4000000
namespace L2
open PySem PySem.Spec PyProof.Rows
theorem QW {x:Str}{lo:Nat}:∀ (names:List (Str×NameKind)) (n:Nat) (acc:List (Str×Addr)),lo<=n->(∀ c,acc.lookup x=some c->lo<=c)->∀ c,(cellsFrom n names acc).lookup x=some c->lo<=c
 | [],_,_,_,h,c,e=>h c e
 | (y,k)::r,n,acc,hn,h,c,e=>by
   unfold cellsFrom at e
   split at e
   · refine QW r (n+1) ((y,n)::acc) (by omega) (fun c' e'=>?_) c e
     rw [R1] at e'
     cases hb:x==y with
     | true=>rw [hb] at e';cases e';exact hn
     | false=>rw [hb] at e';exact h c' e'
   · exact QW r n acc hn h c e
theorem VH {x:Str}{lo:Nat}:∀ (names:List (Str×NameKind)) (n:Nat) (acc:List (Str×Addr)),lo<=n->(x,NameKind.cell)∈names->∀ c,(cellsFrom n names acc).lookup x=some c->lo<=c
 | [],_,_,_,hm,_,_=>by cases hm
 | (y,k)::r,n,acc,hn,hm,c,e=>by
   unfold cellsFrom at e
   split at e
   · rcases B4.mp hm with z|z
     · cases z
       refine QW r (n+1) ((x,n)::acc) (by omega) (fun c' e'=>?_) c e
       rw [R1,beq_self_eq_true] at e'
       cases e'
       exact hn
     · exact VH r (n+1) ((y,n)::acc) (by omega) z c e
   · rename_i hk
     rcases B4.mp hm with z|z
     · cases z
       exact absurd rfl hk
     · exact VH r n acc hn z c e
theorem VI {x:Str}:∀ (names:List (Str×NameKind)) (n:Nat) (acc:List (Str×Addr)),¬ (x,NameKind.cell)∈names->(cellsFrom n names acc).lookup x=acc.lookup x
 | [],_,_,_=>rfl
 | (y,k)::r,n,acc,hm=>by
   unfold cellsFrom
   have hr:¬ (x,NameKind.cell)∈r:=fun z=>hm (T5 _ z)
   split
   · rename_i hk
     rw [VI r (n+1) _ hr,R1]
     have hxy:(x==y)=false:=by
      cases hb:x==y with
      | false=>rfl
      | true =>
        have e1:x=y:=B0e.mp hb
        have e2:k=NameKind.cell:=B0e.mp hk
        subst e1 e2
        exact absurd M4 hm
     rw [hxy]
   · exact VI r n acc hr
theorem VJ:∀ (names:List (Str×NameKind)) (n:Nat) (acc:List (Str×Addr)),(∀ x c,acc.lookup x=some c->c<n)->(∀ x y c,acc.lookup x=some c->acc.lookup y=some c->x=y) ->
 ∀ x y c,(cellsFrom n names acc).lookup x=some c->(cellsFrom n names acc).lookup y=some c->x=y
 | [],_,_,_,h,x,y,c,e1,e2=>h x y c e1 e2
 | (z,k)::r,n,acc,hb,h,x,y,c,e1,e2=>by
   unfold cellsFrom at e1 e2
   split at e1
   · rename_i hk
     rw [if_pos hk] at e2
     refine VJ r (n+1) ((z,n)::acc) (fun x' c' e'=>?_) (fun x' y' c' e1' e2'=>?_) x y c e1 e2
     · rw [R1] at e'
       cases q:x'==z with
       | true=>rw [q] at e';cases e';exact T9 _
       | false=>rw [q] at e';exact Nat.lt_succ_of_lt (hb x' c' e')
     · rw [R1] at e1' e2'
       cases q1:x'==z with
       | true =>
         rw [q1] at e1'
         cases e1'
         cases q2:y'==z with
         | true=>rw [B0e.mp q1,B0e.mp q2]
         | false =>
           rw [q2] at e2'
           exact absurd (hb y' _ e2') (L9 _)
       | false =>
         rw [q1] at e1'
         cases q2:y'==z with
         | true =>
           rw [q2] at e2'
           cases e2'
           exact absurd (hb x' _ e1') (L9 _)
         | false =>
           rw [q2] at e2'
           exact h x' y' c' e1' e2'
   · rename_i hk
     rw [if_neg hk] at e2
     exact VJ r n acc hb h x y c e1 e2
theorem TF:∀ (names:List (Str×NameKind)) (n:Nat) (acc:List (Str×Addr)) (x:Str) (c:Addr),(cellsFrom n names acc).lookup x=some c->acc.lookup x=some c\/n<=c
 | [],_,_,_,_,e=>.inl e
 | (z,k)::r,n,acc,x,c,e=>by
   unfold cellsFrom at e
   split at e
   · rcases TF r (n+1) ((z,n)::acc) x c e with q|q
     · rw [R1] at q
       cases hb:x==z with
       | true=>rw [hb] at q;cases q;exact .inr (B9 _)
       | false=>rw [hb] at q;exact .inl q
     · exact .inr (by omega)
   · exact TF r n acc x c e
theorem QX:∀ (names:List (Str×NameKind)) (h:Heap) (acc:List (Str×Addr)),(∀ x c,acc.lookup x=some c->∃ v,h.IsCell c v) ->
 ∀ x c,(cellsFrom h.objs.size names acc).lookup x=some c->∃ v,(pushCells h names).IsCell c v
 | [],_,_,hh,x,c,e=>hh x c e
 | (z,k)::r,h,acc,hh,x,c,e=>by
   unfold cellsFrom at e
   unfold pushCells
   split at e
   · rename_i hk
     rw [if_pos hk]
     have e':(cellsFrom (h.push { cls:=.type "cell",data:=.cell none }).objs.size r ((z,h.objs.size)::acc)).lookup x=some c:=by rw [W5];exact e
     refine QX r _ _ (fun x' c' q=>?_) x c e'
     rw [R1] at q
     cases hb:x'==z with
     | true =>
       rw [hb] at q
       cases q
       exact ⟨none,_,M6 _ rfl,rfl⟩
     | false =>
       rw [hb] at q
       obtain ⟨v,w⟩:=hh x' c' q
       exact ⟨v,w.keeps fun b o e=>B1 _ e⟩
   · rename_i hk
     rw [if_neg hk]
     exact QX r h acc hh x c e
theorem QV {env:Env}(f:Str×NameKind->List (Str×Addr)->Sem (ForInStep (List (Str×Addr))))
 (hf:∀ name kind cs,f (name,kind) cs=if kind==.free then (do let a <- cellOf env name;pure (.yield ((name,a)::cs))) else pure (.yield cs)) :
 ∀ (names:List (Str×NameKind)) (acc:List (Str×Addr)),(∀ x,(x,NameKind.free)∈names->∃ c,env.cells.lookup x=some c)->(∀ x c,acc.lookup x=some c->env.cells.lookup x=some c) ->
  ∃ cl,forIn names acc f=pure cl/\(∀ x c,cl.lookup x=some c->env.cells.lookup x=some c)/\∀ x,((acc.lookup x).isSome=true\/(x,NameKind.free)∈names)->(cl.lookup x).isSome=true
 | [],acc,_,ha=>⟨acc,by rw [List.forIn_nil],ha,fun x h=>h.elim id fun z=>by cases z⟩
 | (name,kind)::r,acc,hn,ha=>by
   have hr:∀ x,(x,NameKind.free)∈r->∃ c,env.cells.lookup x=some c:=fun x hx=>hn x (T5 _ hx)
   by_cases hk:(kind==NameKind.free)=true
   · have ek:kind=NameKind.free:=B0e.mp hk
     subst ek
     obtain ⟨c,hc⟩:=hn name M4
     obtain ⟨cl,e1,e2,e3⟩:=QV f hf r ((name,c)::acc) hr (fun x c' e=>by
      rw [R1] at e
      cases hb:x==name with
      | true=>rw [hb] at e;cases e;rw [B0e.mp hb];exact hc
      | false=>rw [hb] at e;exact ha x c' e)
     refine ⟨cl,?_,e2,fun x hx=>e3 x ?_⟩
     · rw [B1f,hf,if_pos hk]
       unfold cellOf
       rw [hc]
       simpa using e1
     · rcases hx with hx|hx
       · left
         rw [R1]
         cases hb:x==name with
         | true=>rfl
         | false=>exact hx
       · rcases B4.mp hx with z|z
         · cases z
           left
           rw [R1,beq_self_eq_true]
           rfl
         · exact .inr z
   · obtain ⟨cl,e1,e2,e3⟩:=QV f hf r acc hr ha
     refine ⟨cl,?_,e2,fun x hx=>e3 x ?_⟩
     · rw [B1f,hf,if_neg hk]
       simpa using e1
     · rcases hx with hx|hx
       · exact .inl hx
       · rcases B4.mp hx with z|z
         · cases z
           exact absurd rfl hk
         · exact .inr z
theorem NR {scope:Scope}{env:Env}(hn:∀ x,(x,NameKind.free)∈scope.names->∃ c,env.cells.lookup x=some c) :
 ∃ cl,closureFor scope env=pure cl/\(∀ x c,cl.lookup x=some c->env.cells.lookup x=some c)/\∀ x,(x,NameKind.free)∈scope.names->(cl.lookup x).isSome=true:=by
 obtain ⟨cl,e1,e2,e3⟩:=QV (env:=env) (fun x cs=>match x with
  | (name,kind)=>if (kind==NameKind.free)=true then (do let a <- cellOf env name;pure (ForInStep.yield ((name,a)::cs))) else pure (ForInStep.yield cs)) (fun name kind cs=>rfl) scope.names [] hn (fun x c e=>by cases e)
 refine ⟨cl,?_,e2,fun x hx=>e3 x (.inr hx)⟩
 show (forIn scope.names [] _ >>= fun r=>pure r)=_
 refine Eq.trans (W9 (fun m=>m >>= fun r=>pure r) e1) ?_
 simp
def ZS (ifs:List Expr)(env:Env):Sem Bool:=forIn ifs true fun c r=>if r=true then do let ok <- isTrue c env (eval c env);pure (ForInStep.yield ok) else pure (ForInStep.yield r)
theorem QU {prog:Program}{w:World}{A:Around}{R:Result->Shared->Prop}{s:Shared}{elt target iter:Expr}{ifs:List Expr}{scope:Scope}{pos:Pos}{it acc:Value}{env:Env}(J:Nat->Shared->Prop)
 (turn:∀ n s,J n s->wpAny (model prog w) A (pyNext it) (fun r s₁=>match r with
  | none=>R (.ok .next) s₁
  | some v=>wpAny (model prog w) A (letOwnedTupleGo target it v) (fun _ s₁'=>wpAny (model prog w) A (assign target env v) (fun _ s₂=>wpAny (model prog w) A (ZS ifs env) (fun ok s₃ =>
   if ok=true then wpAny (model prog w) A (eval elt env) (fun x s₄=>wpAny (model prog w) A (call (.builtin "list.append") [acc,x]) (fun _ s₅=>∃ m,m<n/\J m s₅) (notedBy (model prog w) A env fun e s'=>R (.error e) s') s₄)
    (notedBy (model prog w) A env fun e s'=>R (.error e) s') s₃
   else ∃ m,m<n/\J m s₃) (notedBy (model prog w) A env fun e s'=>R (.error e) s') s₂) (notedBy (model prog w) A env fun e s'=>R (.error e) s') s₁') (notedBy (model prog w) A env fun e s'=>R (.error e) s') s₁)
   (notedBy (model prog w) A env fun e s'=>R (.error e) s') s) (n:Nat) (h:J n s) :
 codeAny (model prog w) A (.compLoop (.ListComp elt [⟨target,iter,ifs,0⟩] scope pos) 0 it acc env) R s:=by
 refine codeAny_loop rfl J (fun n s hJ=>?_) n h
 show wpAny _ _ (Sem.onRaise (compTurn (.ListComp elt [⟨target,iter,ifs,0⟩] scope pos) 0 it acc env) fun x=>do noteFrame x env;theTreesLotGoes x) _ _ _
 refine wpAny_noted ?_
 rw [compTurn_list]
 refine B0 (E5 (B0 (thn (turn n s hJ) fun r s₁ h₁=>?_)))
 cases r with
 | none=>exact L1 h₁
 | some v =>
   refine B0 (thn h₁ fun _ s₁' h₁'=>B0 (thn h₁' fun _ s₂ h₂=>B0 (thn h₂ fun ok s₃ h₃=>?_)))
   cases ok with
   | true=>exact B0 (B0 (thn h₃ fun x s₄ h₄=>B0 (thn h₄ fun _ s₅ h₅=>L1 (L1 ⟨rfl,h₅⟩))))
   | false=>exact L1 ⟨rfl,h₃⟩
def Q1n (X:Cx)(C:Addr)(e:Value)(s':Shared):Prop :=
 ∃ m,s'.heap.Ns C m/\∀ h',Heap.SameBut C s'.heap h'->∀ cenv:Env,cenv.locals=C->wpAny (model X.prog X.w) X.A (passOn "comprehension.variables-let-go" e cenv:Sem Value) (fun _ _=>False) X.xe { s' with heap:=h' }
def V2 (X:Cx)(N:List Str)(scope:Scope)(cells:List (Str×Addr))(C:Addr)(fp:List Addr)(s:Shared)(H:Hp):Cx where
 prog:=X.prog
 w:=X.w
 K:=X.K
 mg:=X.mg
 base:=X.base
 A:=X.A
 N:=N
 s₀:=s
 H₀:=H
 env:=compEnvC scope cells C X.env
 outer:=X.stack
 stack:=X.stack
 ex:=fp
 fn:=fun x=>decide (scope.names.lookup x=some NameKind.cell)
 calm:=X.calm
 pn:=[]
 xe:=notedBy (model X.prog X.w) X.A (compEnvC scope cells C X.env) (Q1n X C)
def capt (σ:St)(map:List (Option Nat)):St:=map.map fun o=>o.bind fun i=>(σ[i]?).join
def CapOk (X:Cx)(scope:Scope):List (Option Nat)->List Str->Prop
 | [],[]=>True
 | none::m,_::n=>CapOk X scope m n
 | some i::m,x::n=>(X.N[i]?=some x/\scope.names.lookup x=some .free/\(scope.names.all fun p=>!(p.1==x&&p.2==NameKind.cell))=true/\(X.env.kindOf x=some .cell\/X.env.kindOf x=some .free))/\CapOk X scope m n
 | _,_=>False
theorem CapOk.length {X:Cx}{scope:Scope}:∀ {m:List (Option Nat)} {n:List Str},CapOk X scope m n->m.length=n.length
 | [],[],_=>rfl
 | none::m,_::n,h=>by simp [CapOk.length (m:=m) (n:=n) h]
 | some i::m,x::n,h=>by simp [CapOk.length (m:=m) (n:=n) h.2]
 | [],_::_,h=>h.elim
 | some _::_,[],h=>h.elim
 | none::_,[],h=>h.elim
theorem CapOk.get {X:Cx}{scope:Scope}:∀ {m:List (Option Nat)} {n:List Str} {j i:Nat} {x:Str},CapOk X scope m n->m[j]?=some (some i)->n[j]?=some x ->
 X.N[i]?=some x/\scope.names.lookup x=some .free/\¬ (x,NameKind.cell)∈scope.names/\(X.env.kindOf x=some .cell\/X.env.kindOf x=some .free)
 | [],[],_,_,_,_,e,_=>by simp at e
 | none::m,_::n,0,_,_,_,e,_=>by simp at e
 | none::m,_::n,j+1,i,x,h,e,e'=>CapOk.get (m:=m) (n:=n) (j:=j) h (by simpa using e) (by simpa using e')
 | some k::m,y::n,0,i,x,h,e,e'=>by
   have e1:k=i:=by simpa using e
   have e2:y=x:=by simpa using e'
   subst e1 e2
   obtain ⟨⟨h1,h2,h3,h4⟩,_⟩:=h
   refine ⟨h1,h2,fun hm=>?_,h4⟩
   have q:=R5.mp h3 _ hm
   simp at q
 | some k::m,y::n,j+1,i,x,h,e,e'=>CapOk.get (m:=m) (n:=n) (j:=j) h.2 (by simpa using e) (by simpa using e')
 | [],_::_,_,_,_,h,_,_=>h.elim
 | some _::_,[],_,_,_,h,_,_=>h.elim
 | none::_,[],_,_,_,h,_,_=>h.elim
def HL (g:TG)(map:List (Option Nat)):Prop:=∀ v σ H Q,g v σ H Q->g v σ H fun σ' H'=>(σ'.length=σ.length/\∀ j i:Nat,map[j]?=some (some i)->σ'[j]?=σ[j]?)/\Q σ' H'
def PIf (X:Cx)(ifs:List Expr)(t:TT):Prop :=
 ∀ (pins:List (Addr×Obj)) (s:Shared) (σ:St) (H:Hp) (Q:Bool->Hp->Prop),Inv X pins σ H s->t σ H Q->wpAny (model X.prog X.w) X.A (ZS ifs X.env) (TP X pins σ Q) X.xe s
def Q1s:TT:=fun _ H Q=>Q true H
theorem WB {X:Cx}:PIf X [] Q1s:=fun _ _ _ H _ I h=>L1 ⟨H,I,h⟩
theorem DM {env:Env}{x:Str}{k:NameKind}:∀ {names:List (Str×NameKind)},
 (names.map fun (p:Str×NameKind)=>match p with|(n,k)=>if (k==NameKind.free&&env.scope.kind==.function&&env.kindOf n==some .cell) then (n,NameKind.cell) else (n,k)).lookup x=some k ->
 ∃ k',names.lookup x=some k'/\(k'=k\/(k'=.free/\k=.cell))
 | [],h=>by simp at h
 | (n,k')::r,h=>by
   rw [U7] at h
   by_cases hc:(k'==NameKind.free&&env.scope.kind==.function&&env.kindOf n==some .cell)=true
   · simp only [if_pos hc,R1] at h
     rw [R1]
     cases hx:x==n with
     | true =>
       rw [hx] at h
       cases h
       refine ⟨k',rfl,.inr ⟨?_,rfl⟩⟩
       simp only [L5,B0e] at hc
       exact hc.1.1
     | false =>
       rw [hx] at h
       exact DM h
   · simp only [if_neg hc,R1] at h
     rw [R1]
     cases hx:x==n with
     | true =>
       rw [hx] at h
       cases h
       exact ⟨_,rfl,.inl rfl⟩
     | false =>
       rw [hx] at h
       exact DM h
theorem GC {env:Env}{x:Str}:∀ {names:List (Str×NameKind)},names.lookup x=some .free ->
 (names.map fun (p:Str×NameKind)=>match p with|(n,k)=>if (k==NameKind.free&&env.scope.kind==.function&&env.kindOf n==some .cell) then (n,NameKind.cell) else (n,k)).lookup x=some .cell \/
 (names.map fun (p:Str×NameKind)=>match p with|(n,k)=>if (k==NameKind.free&&env.scope.kind==.function&&env.kindOf n==some .cell) then (n,NameKind.cell) else (n,k)).lookup x=some .free
 | [],h=>by simp at h
 | (n,k')::r,h=>by
   rw [U7]
   rw [R1] at h
   by_cases hc:(k'==NameKind.free&&env.scope.kind==.function&&env.kindOf n==some .cell)=true
   · simp only [if_pos hc,R1]
     cases hx:x==n with
     | true=>exact .inl rfl
     | false =>
       rw [hx] at h
       exact GC h
   · simp only [if_neg hc,R1]
     cases hx:x==n with
     | true =>
       rw [hx] at h
       cases h
       exact .inr rfl
     | false =>
       rw [hx] at h
       exact GC h
section
variable {X:Cx}{elt iter tg:Expr}{ifs:List Expr}{scope:Scope}{pos:Pos}{N':List Str}{map:List (Option Nat)}{wi:TI}{g:TG}{tt:TT}{te:TE}
def ND (J:It)(g:TG)(tt:TT)(te:TE)(σc:St)(Fin:List V->Hp->Prop)(W:Nat->Nat->List V->Hp->Prop):Prop :=
 ∀ i m acc H2,W i m acc H2->(J.stop i H2/\acc.length<=sizeLine/\Fin acc H2) \/
  (J.go i H2/\acc.length<sizeLine/\∃ N:List V->Hp->Prop,(∀ acc' H',N acc' H'->∃ m',m'<m/\W (i+1) m' acc' H')/\∀ x H3,J.yld i H2 x H3->g x σc H3 fun σ4 H4=>tt σ4 H4 fun b H5=>if b=true then te σ4 H5 fun v H6=>N (acc++[v]) H6 else N acc H5)
structure TurnG (R:Cx->Prop)(P:Program)(w:World)(K:Fg)(tg:Expr)(J:It)(fp:List Addr)(it:Addr)(tn:Nat->Heap->Prop):Prop where
 mem:it∈fp
 obj:∀ i h,tn i h->∀ b∈fp,∃ o,h.get? b=some o/\∀ v,o.data≠.cell v
 keep:∀ i h h',tn i h->(∀ b∈fp,∀ o,h.get? b=some o->h'.get? b=some o)->tn i h'
 item:∀ (X:Cx),X.prog=P->X.w=w->X.K=K->R X->∀ (i:Nat) (pins:List (Addr×Obj)) (s:Shared) (σ:St) (H:Hp) (E:Value->Shared->Prop),Inv X pins σ H s->(∀ b∈fp,GK X pins H b)->tn i s.heap->J.go i H->wpAny (model P w) X.A (pyNext (.ref it)) (fun r s1=>∃ u,r=some u /\
  wpAny (model P w) X.A (letOwnedTupleGo tg (.ref it) u) (fun _ s2=>∃ x H',Inv X pins σ H' s2/\RelV x u/\J.yld i H x H'/\tn (i+1) s2.heap/\∀ b∈fp,H' b=none) E s1) E s
 done:∀ (X:Cx),X.prog=P->X.w=w->X.K=K->R X->∀ (i:Nat) (pins:List (Addr×Obj)) (s:Shared) (σ:St) (H:Hp) (E:Value->Shared->Prop),Inv X pins σ H s->(∀ b∈fp,GK X pins H b)->tn i s.heap->J.stop i H->wpAny (model P w) X.A (pyNext (.ref it)) (fun r s1=>r=none/\Inv X pins σ H s1) E s
 self:∀ (A:Around) (i:Nat) (s:Shared) (Q:Value->Shared->Prop) (E:Value->Shared->Prop),tn i s.heap->Q (.ref it) s->wpAny (model P w) A (pyIter (.ref it)) Q E s
theorem Turn.gen {w:World} {tg:Expr}{J:It}{fp:List Addr}{it:Addr}{tn:Nat->Heap->Prop}(T:Turn P w K tg J fp it tn):TurnG (fun X=>X.calm=true) P w K tg J fp it tn:=⟨T.mem,T.obj,T.keep,T.item,T.done,T.self⟩
def J3q (X:Cx)(C:Addr)(fp:List Addr)(s:Shared)(H:Hp):Prop:=∃ pins σ,Inv X pins σ H s/\(∀ b∈fp,GK X pins H b)/\s.heap.objs.size<=C
structure BlkM (X:Cx)(N':List Str)(scope:Scope)(map:List (Option Nat))(tg elt:Expr)(ifs:List Expr)(g:TG)(tt:TT)(te:TE):Prop where
 kind:scope.kind=.function
 loc:∀ x∈scope.names,x.2=.local->scope.names.lookup x.1=some .local
 free:(scope.names.all fun p=>!(p.2==NameKind.free)||(X.env.kindOf p.1==some .cell||X.env.kindOf p.1==some .free))=true
 cap:CapOk X scope map N'
 keep:HL g map
 run:∀ cells C fp s H,J3q X C fp s H->PG (V2 X N' scope cells C fp s H) tg g/\PIf (V2 X N' scope cells C fp s H) ifs tt/\PE (V2 X N' scope cells C fp s H) elt te
structure Blk (X:Cx)(N':List Str)(scope:Scope)(map:List (Option Nat))(tg elt:Expr)(ifs:List Expr)(g:TG)(tt:TT)(te:TE):Prop where
 calm:X.calm=true
 kind:scope.kind=.function
 loc:∀ x∈scope.names,x.2=.local->scope.names.lookup x.1=some .local
 free:(scope.names.all fun p=>!(p.2==NameKind.free)||(X.env.kindOf p.1==some .cell||X.env.kindOf p.1==some .free))=true
 cap:CapOk X scope map N'
 keep:HL g map
 run:∀ cells C fp s H,J3q X C fp s H->PG (V2 X N' scope cells C fp s H) tg g/\PIf (V2 X N' scope cells C fp s H) ifs tt/\PE (V2 X N' scope cells C fp s H) elt te
theorem Blk.m (B:Blk X N' scope map tg elt ifs g tt te):BlkM X N' scope map tg elt ifs g tt te:=⟨B.kind,B.loc,B.free,B.cap,B.keep,B.run⟩
theorem XG {pins:List (Addr×Obj)}{σ:St}{H1:Hp}{s2:Shared}{cl:List (Str×Addr)}{fp:List Addr}(I:Inv X pins σ H1 s2)(B:BlkM X N' scope map tg elt ifs g tt te)
 (hsub:∀ x c,cl.lookup x=some c->X.env.cells.lookup x=some c) (hhas:∀ x,(x,NameKind.free)∈scope.names->(cl.lookup x).isSome=true)
 (hf:∀ b∈fp,GK X pins H1 b) (hfo:∀ b∈fp,∃ o,s2.heap.get? b=some o) (C:Addr) (h3:Heap) (hC:s2.heap.objs.size<=C) (k3:∀ b o,s2.heap.get? b=some o->h3.get? b=some o) (hCsz:C<h3.objs.size) (hns:h3.Ns C fun _=>none) (tk:Nat) :
 Inv (V2 X N' scope (cellsFrom h3.objs.size scope.names cl) C fp s2 H1) [] (capt σ map) H1 { s2 with heap:=pushCells h3 scope.names,toks:=tk }:=by
 have kk:∀ b o,s2.heap.get? b=some o->(pushCells h3 scope.names).get? b=some o:=fun b o e=>E2 _ _ b o (k3 b o e)
 have fsz:∀ b∈fp,b<s2.heap.objs.size:=fun b hb=>by obtain ⟨o,e⟩:=hfo b hb;exact B5 e
 have clz:∀ x c,cl.lookup x=some c->c<s2.heap.objs.size:=fun x c e=>by
  obtain ⟨v,o,ho,_⟩:=I.cell x c (hsub x c e)
  exact B5 ho
 have h3sz:s2.heap.objs.size<h3.objs.size:=Nat.lt_of_le_of_lt hC hCsz
 have cof:∀ x c,(cellsFrom h3.objs.size scope.names cl).lookup x=some c->X.env.cells.lookup x=some c\/h3.objs.size<=c:=fun x c e=>(TF _ _ _ x c e).imp (hsub x c) id
 have cnb:∀ x c,(cellsFrom h3.objs.size scope.names cl).lookup x=some c->∀ b∈fp,c≠b:=fun x c e b hb z=>by
  rcases cof x c e with q|q
  · exact (hf b hb).2.2.2.2.1 x c q z
  · have h1:=fsz b hb
    rw [<- z] at h1
    exact absurd (L7 (Nat.lt_trans h1 h3sz) q) (L9 _)
 have fnf:∀ b∈fp,b∉frs X.stack:=fun b hb hm=>by
  obtain ⟨_,f1,f2,_⟩:=hf b hb
  rcases B4.mp (I.stkSub b hm) with z|z
  · exact f1 z
  · exact f2 z
 have cellI:∀ x c,(cellsFrom h3.objs.size scope.names cl).lookup x=some c->∃ v,(pushCells h3 scope.names).IsCell c v:=fun x c e =>
  QX scope.names h3 cl (fun x' c' q=>by
   obtain ⟨v,w⟩:=I.cell x' c' (hsub x' c' q)
   exact ⟨v,w.keeps k3⟩) x c e
 have hC0:H1 C=none:=I.hok.fresh hC
 have ok:(V2 X N' scope (cellsFrom h3.objs.size scope.names cl) C fp s2 H1).Ok :=
  { mod:=I.ok.mod
    kind:=B.kind
    glob:=I.ok.glob
    blt:=I.ok.blt
    above:=hC
    inj:=VJ scope.names h3.objs.size cl (fun x c e=>Nat.lt_trans (clz x c e) h3sz) fun x y c e1 e2=>I.ok.inj x y c (hsub x c e1) (hsub y c e2)
    has:=fun x hx=>by
     have hx:(relabel scope X.env).names.lookup x=some .cell\/(relabel scope X.env).names.lookup x=some .free:=hx
     have goal:(scope.names.lookup x=some .cell\/(cl.lookup x).isSome=true):=by
      rcases hx with q|q
      · obtain ⟨k',e1,e2⟩:=DM q
        rcases e2 with z|⟨z,_⟩
        · exact .inl (by rw [e1,z])
        · exact .inr (hhas x (U1 (by rw [e1,z])))
      · obtain ⟨k',e1,e2⟩:=DM q
        rcases e2 with z|⟨z,z'⟩
        · exact .inr (hhas x (U1 (by rw [e1,z])))
        · cases z'
     exact B0z.mp (B1b scope.names h3.objs.size cl goal)
    cab:=fun x c hx e=>B1c (L7 h3sz (VH scope.names h3.objs.size cl (B9 _) (U1 (T0 hx)) c e))
    hd:=I.ok.hd
    frames:=I.ok.frames
    stk:=.inl rfl
    exf:=fun b hb=>⟨fun z=>absurd (fsz b hb) (by rw [z];exact Nat.not_lt.mpr hC),fun x c e=>cnb x c e b hb⟩
    bs:=I.bs
    bsz:=M7 I.ok.bsz I.sz
    noex:=fun b o e hb=>by
     rcases (hf b hb).2.2.2.1 with z|z
     · exact I.ok.noex b o e z
     · exact absurd (B5 (I.ok.bs b o e).1) (Nat.not_lt.mpr z)
    exfs:=fnf
    funs:=I.stack
    frf:=I.stkFree }
 refine ⟨ok,rfl,I.bare,Un.kept kk,⟨fun _=>none,hns.keeps fun b o e=>E2 _ _ b o e,fun j x v e1 e2 e3=>?_⟩,cellI,hC0,fun x c e=>?_,fun p hp=>absurd (show p∈([]:List (Addr×Obj)) from hp) (by simp),I.hok.kept kk,?_⟩
 · have e2':(capt σ map)[j]?=some (some v):=e2
   unfold capt at e2'
   rw [M9] at e2'
   cases hm:map[j]? with
   | none=>rw [hm] at e2';cases e2'
   | some o =>
     rw [hm] at e2'
     cases o with
     | none=>simp at e2'
     | some i =>
       have e2'':(σ[i]?).join=some v:=by simpa using e2'
       have hσ:σ[i]?=some (some v):=by
        cases q:σ[i]? with
        | none=>rw [q] at e2'';cases e2''
        | some o' =>
          rw [q] at e2''
          have:o'=some v:=by simpa using e2''
          rw [this]
       obtain ⟨c1,c2,c3,c4⟩:=B.cap.get hm e1
       obtain ⟨m,hn,hl⟩:=I.loc
       have vis:Vis X.env.scope x:=by
        rcases c4 with z|z
        · exact .inr (.inl z)
        · exact .inr (.inr z)
       obtain ⟨u,r,l⟩:=hl i x v c1 hσ vis
       refine ⟨u,r,?_⟩
       rcases l with ⟨z,_⟩|⟨_,c,ec,hcell⟩
       · rcases c4 with q|q
         · rw [q] at z;cases z
         · rw [q] at z;cases z
       · right
         refine ⟨GC c2,c,?_,hcell.keeps kk⟩
         show (cellsFrom h3.objs.size scope.names cl).lookup x=some c
         rw [VI _ _ _ c3]
         obtain ⟨c',hc'⟩:=B0z.mp (hhas x (U1 c2))
         have:=hsub x c' hc'
         rw [ec] at this
         cases this
         exact hc'
 · rcases cof x c e with q|q
   · exact I.freeC x c q
   · exact I.hok.fresh (M7 (B1c h3sz) q)
 · show (capt σ map).length=N'.length
   unfold capt
   rw [L0]
   exact B.cap.length
theorem J6h {pins:List (Addr×Obj)}{σ:St}{H1:Hp}{s2:Shared}{cl:List (Str×Addr)}{fp:List Addr}{it:Addr}{tn:Nat->Heap->Prop}{J:It}{E:Value->Shared->Prop}(I:Inv X pins σ H1 s2)(B:BlkM X N' scope map tg elt ifs g tt te)
 (hsub:∀ x c,cl.lookup x=some c->X.env.cells.lookup x=some c) (hhas:∀ x,(x,NameKind.free)∈scope.names->(cl.lookup x).isSome=true)
 {R:Cx->Prop} (hR:∀ cells C fp s H,R (V2 X N' scope cells C fp s H)) (T:TurnG R X.prog X.w X.K tg J fp it tn) (st:tn 0 s2.heap) (hf:∀ b∈fp,GK X pins H1 b) {Fin:List V->Hp->Prop} {W:Nat->Nat->List V->Hp->Prop} {m0:Nat} (w0:W 0 m0 [] H1) (ht:ND J g tt te (capt σ map) Fin W)
 {RR:Value->Addr->Result->Shared->Prop}
 (hOk:∀ D C acc H' s' m,Inv X pins σ (upd H' D (.lst acc)) s'->H' D=none->s'.heap.Ns C m->upd H' D (.lst acc) C=none->C≠X.env.locals->X.s₀.heap.objs.size<=C->(∀ x c,X.env.cells.lookup x=some c->c≠C)->(∀ p∈X.pn++pins,p.1≠C)->Fin acc H'->RR (.ref D) C (.ok .next) s')
 (hErr:∀ D C e s',Q1n X C e s'->RR (.ref D) C (.error e) s') :
 wpAny (model X.prog X.w) X.A (newList []) (fun acc s3=>wpAny (model X.prog X.w) X.A (newFunctionEnv scope X.env.globals cl [] X.env.qual none .none (some X.env)) (fun cenv s4 =>
  codeAny (model X.prog X.w) X.A (.compStart (.ListComp elt [⟨tg,iter,ifs,0⟩] scope pos) 0 (.ref it) acc { cenv with scope:=relabel scope X.env }) (RR acc cenv.locals) s4) E s3) E s2:=by
 have fo:∀ b∈fp,∃ o,s2.heap.get? b=some o:=fun b hb=>by obtain ⟨o,e,_⟩:=T.obj 0 _ st b hb;exact ⟨o,e⟩
 refine U3 ?_
 generalize hH2:s2.heap.push { cls:=.type "list",dict:=none,data:=.seq ([]:List Value).toArray }=H2
 have szD:H2.objs.size=s2.heap.objs.size+1:=by rw [<- hH2,W5]
 have kD:∀ b o,s2.heap.get? b=some o->H2.get? b=some o:=fun b o e=>hH2▸B1 _ e
 simp only [newFunctionEnv,Option.isSome_some,if_true]
 refine B0 (wpAny_alloc ?_)
 refine B0 (wpAny_layCells _ (fun name kind cells=>by cases hkc:kind==NameKind.cell<;>simp [hkc]) _ _ _ _ ?_)
 dsimp only
 generalize hH3:H2.push { cls:=.type "dict",dict:=none,data:=.dict #[] }=h3
 have sz3:h3.objs.size=H2.objs.size+1:=by rw [<- hH3,W5]
 have kC:∀ b o,H2.get? b=some o->h3.get? b=some o:=fun b o e=>hH3▸B1 _ e
 have nsC:h3.Ns H2.objs.size fun _=>none:=hH3▸Heap.Ns.new H2 (.type "dict")
 refine B0 (L1 (L1 ?_))
 show codeAny _ _ (.compStart (.ListComp elt [⟨tg,iter,ifs,0⟩] scope pos) 0 (.ref it) (.ref s2.heap.objs.size) (compEnvC scope (cellsFrom h3.objs.size scope.names cl) H2.objs.size X.env)) _ _
 generalize hX':V2 X N' scope (cellsFrom h3.objs.size scope.names cl) H2.objs.size fp s2 H1=X'
 have I4:Inv X' [] (capt σ map) H1 { s2 with heap:=pushCells h3 scope.names }:=hX'▸XG I B hsub hhas hf fo H2.objs.size h3 (by rw [szD];exact Nat.le_succ _) (fun b o e=>kC b o (kD b o e)) (by rw [sz3];exact T9 _) nsC s2.toks
 obtain ⟨pg,pif,pel⟩:=B.run (cellsFrom h3.objs.size scope.names cl) H2.objs.size fp s2 H1 ⟨pins,σ,I,hf,by rw [szD];exact Nat.le_succ _⟩
 rw [hX'] at pg pif pel
 have eprog:X'.prog=X.prog:=by rw [<- hX'];rfl
 have ew:X'.w=X.w:=by rw [<- hX'];rfl
 have eK:X'.K=X.K:=by rw [<- hX'];rfl
 have eA:X'.A=X.A:=by rw [<- hX'];rfl
 have ecalm:R X':=by rw [<- hX'];exact hR _ _ _ _ _
 have eenv:X'.env=compEnvC scope (cellsFrom h3.objs.size scope.names cl) H2.objs.size X.env:=by rw [<- hX'];rfl
 have exe:X'.xe=notedBy (model X.prog X.w) X.A (compEnvC scope (cellsFrom h3.objs.size scope.names cl) H2.objs.size X.env) (Q1n X H2.objs.size):=by rw [<- hX'];rfl
 have es0:X'.s₀=s2:=by rw [<- hX'];rfl
 have eH0:X'.H₀=H1:=by rw [<- hX'];rfl
 have eex:X'.ex=fp:=by rw [<- hX'];rfl
 have efs:X'.fs=frs X.stack:=by rw [<- hX'];rfl
 have epn:X'.pn=[]:=by rw [<- hX'];rfl
 have eL:X'.env.locals=H2.objs.size:=by rw [eenv];rfl
 generalize hDd:s2.heap.objs.size=D at *
 have fD:∀ b∈fp,b≠D:=fun b hb=>by obtain ⟨o,e⟩:=fo b hb;exact R7 (hDd▸B5 e)
 have nfsD:D∉X'.fs:=fun hb=>by
  rw [efs] at hb
  have h1:=I.stkSub D hb
  rcases B4.mp h1 with z|z
  · have:=I.lt;rw [hDd,<- z] at this;exact L9 _ this
  · exact I.nofs (by rw [hDd];exact B9 _) z
 have ncD:∀ x c,X'.env.cells.lookup x=some c->c≠D:=fun x c e z=>by
  rw [eenv] at e
  rcases TF _ _ _ x c e with q|q
  · obtain ⟨v,o,ho,_⟩:=I.cell x c (hsub x c q)
    have:=B5 ho
    rw [hDd,z] at this
    exact L9 _ this
  · rw [z,sz3,szD] at q
    exact absurd (L7 (Nat.lt_succ_of_lt (T9 D)) q) (L9 _)
 have f4:∀ {H':Hp} {pl:List (Addr×Obj)},(∀ b∈fp,H' b=none)->(∀ p∈pl,p.1=D)->∀ b∈fp,GK X' pl H' b:=fun {H' pl} hn hpl b hb=>by
  have q:=hf b hb
  refine ⟨hn b hb,?_,?_,.inl (by rw [eex];exact hb),fun x c e=>?_,fun p hp=>?_⟩
  · rw [eL]
    obtain ⟨o,e⟩:=fo b hb
    have:=B5 e
    rw [hDd] at this
    intro z
    rw [z,szD] at this
    exact absurd (W4 this) (L9 _)
  · have:=I4.ok.exfs b (by rw [eex];exact hb)
    exact this
  · exact (I4.ok.exf b (by rw [eex];exact hb)).2 x c e
  · rw [epn] at hp
    have hp:p∈pl:=by simpa using hp
    rw [hpl p hp]
    exact (fD b hb).symm
 have noCell:∀ {its:Array Value} {n:Nat} (v:Option Value),({ cls:=.type "list",data:=.seq its n }:Obj).data≠.cell v:=fun v z=>by cases z
 have hD4:(pushCells h3 scope.names).get? D=some { cls:=.type "list",data:=.seq ([]:List Value).toArray 0 }:=E2 _ _ _ _ (kC _ _ (by rw [<- hH2,<- hDd];exact M6 _ rfl))
 have loop:codeAny (model X.prog X.w) X.A (.compLoop (.ListComp elt [⟨tg,iter,ifs,0⟩] scope pos) 0 (.ref it) (.ref D) (compEnvC scope (cellsFrom h3.objs.size scope.names cl) H2.objs.size X.env)) (RR (.ref D) H2.objs.size) { s2 with heap:=pushCells h3 scope.names }:=by
  refine QU (fun n s'=>∃ i acc H' its k,Inv X' [] (capt σ map) H' s'/\tn i s'.heap/\(∀ b∈fp,H' b=none)/\H' D=none/\s'.heap.get? D=some { cls:=.type "list",data:=.seq (List.toArray its) k }/\Vals acc its/\W i n acc H') ?_ m0
   ⟨0,[],H1,[],0,I4,T.keep _ _ _ st fun b hb o e=>E2 _ _ _ _ (kC _ _ (kD _ _ e)),fun b hb=>(hf b hb).1,I.hok.fresh (by rw [hDd];exact B9 _),hD4,.nil,w0⟩
  rintro n s5 ⟨i,acc,H5,its,k,I5,st5,fr5,hD5,oD5,rv5,w5⟩
  have pinD:Inv X' [(D,{ cls:=.type "list",data:=.seq (List.toArray its) k })] (capt σ map) H5 s5:=I5.pins_of fun p hp=>by
   have e:p=(D,{ cls:=.type "list",data:=.seq (List.toArray its) k }):=by simpa using hp
   subst e
   refine ⟨oD5,hD5,?_,nfsD,fun v=>noCell v⟩
   rw [eL,szD]
   exact R7 (T9 _)
  have plD:∀ p∈[(D,({ cls:=.type "list",data:=.seq (List.toArray its) k }:Obj))],p.1=D:=fun p hp=>by
   have e:p=(D,{ cls:=.type "list",data:=.seq (List.toArray its) k }):=by simpa using hp
   rw [e]
  have err:∀ e s',X'.xe e s'->notedBy (model X.prog X.w) X.A (compEnvC scope (cellsFrom h3.objs.size scope.names cl) H2.objs.size X.env) (fun e s'=>RR (.ref D) H2.objs.size (.error e) s') e s':=fun e s' he=>by
   rw [exe] at he
   exact T6 he (fun _ s'' q=>hErr D _ e s'' q) fun e'' s'' q=>hErr D _ e'' s'' q
  rcases ht i n acc H5 w5 with ⟨stop,hsz,fin⟩|⟨go,hsz,NN,hNN,step⟩
  · have dn:=T.done X' eprog ew eK ecalm i _ s5 (capt σ map) H5 (notedBy (model X.prog X.w) X.A (compEnvC scope (cellsFrom h3.objs.size scope.names cl) H2.objs.size X.env) fun e s'=>RR (.ref D) H2.objs.size (.error e) s') pinD (f4 fr5 plD) st5 stop
    rw [eA] at dn
    refine thn dn fun r s6 ⟨hr,I6⟩=>?_
    subst hr
    obtain ⟨oD6,hD6,_⟩:=I6.pin (D,_) (by rw [epn];exact M4)
    obtain ⟨m,nsm,_⟩:=I6.loc
    rw [eL] at nsm
    have un:=I6.base
    rw [efs,eex,eH0,es0] at un
    have hok:=I6.hok
    rw [eprog,ew] at hok
    have os6:=I6.os
    rw [es0] at os6
    have fC:H5 H2.objs.size=none:=by rw [<- eL];exact I6.free
    have nDC:H2.objs.size≠D:=by rw [szD];exact D3 (T9 _)
    refine hOk D H2.objs.size acc H5 s6 m (I.call' (ch:=fp) os6 ?_ ?_ I6.bare fun b hb=>?_) hD5 nsm (by rw [V7 nDC];exact fC) ?_ ?_ ?_ ?_ fin
    · refine ⟨un.keep,un.slot,fun b o e n hx=>?_,un.there,fun b xs e=>?_,fun b o u e=>?_,fun b ps e=>?_⟩
      · rw [V7 (R7 (hDd▸B5 e))]
        exact un.free b o e n hx
      · have:=un.tups b xs e
        rw [V7 (Y2 this hD5)]
        exact this
      · have:=un.frzs b o u e
        rw [V7 (Y2 this hD5)]
        exact this
      · obtain ⟨more,this⟩:=un.tbls b ps e
        exact ⟨more,by rw [V7 (Y2 this hD5)];exact this⟩
    · intro b o e
      by_cases hb:b=D
      · subst hb
        rw [AM] at e
        cases e
        exact ⟨hsz,its,k,rv5,oD6⟩
      · rw [V7 hb] at e
        exact (hok b o e).stay (fun _ _ _ q=>q) (fun c q=>by rw [V7 (Y2 q hD5)];exact q) fun c xs q=>by rw [V7 (Y2 q hD5)];exact q
    · obtain ⟨f0,f1,f2,f3,f4',f5⟩:=hf b hb
      exact ⟨f3,f1,f4',f5⟩
    · have:=I.lt
      rw [hDd] at this
      intro z
      rw [<- z,szD] at this
      exact absurd (W4 this) (L9 _)
    · have:=I.sz
      rw [hDd] at this
      omega
    · intro x c e z
      obtain ⟨v,o,ho,_⟩:=I.cell x c e
      have:=B5 ho
      rw [hDd,z,szD] at this
      exact absurd (W4 this) (L9 _)
    · intro p hp z
      have:=B5 (I.pin p hp).1
      rw [hDd,z,szD] at this
      exact absurd (W4 this) (L9 _)
  · have im:=T.item X' eprog ew eK ecalm i _ s5 (capt σ map) H5 (notedBy (model X.prog X.w) X.A (compEnvC scope (cellsFrom h3.objs.size scope.names cl) H2.objs.size X.env) fun e s'=>RR (.ref D) H2.objs.size (.error e) s') pinD (f4 fr5 plD) st5 go
    rw [eA] at im
    refine thn im fun r s6 ⟨u,hr,h6⟩=>?_
    subst hr
    refine thn h6 fun _ s7 ⟨x,H7,I7,r7,y7,st7,fr7⟩=>?_
    have I7':=I7.pinned (f4 fr7 plD) (T.obj _ _ st7)
    have stp:=B.keep _ _ _ _ (step x H7 y7)
    have pgx:=pg _ s7 (capt σ map) H7 x u _ I7' r7 stp
    rw [eprog,ew,eA,eenv] at pgx
    refine T6 pgx (fun _ s8 ⟨σ8,H8,I8,⟨kl,k8⟩,q8⟩=>?_) err
    have pix:=pif _ s8 σ8 H8 _ I8 q8
    rw [eprog,ew,eA,eenv] at pix
    refine T6 pix (fun b s9 ⟨H9,I9,q9⟩=>?_) err
    have wk:∀ {σa:St} {Ha:Hp} {sa:Shared},σa=σ8->Inv X' ([(D,({ cls:=.type "list",data:=.seq (List.toArray its) k }:Obj))]++GE fp s7.heap) σa Ha sa ->
     Inv X' [] (capt σ map) Ha sa/\tn (i+1) sa.heap/\(∀ b∈fp,Ha b=none)/\Ha D=none/\sa.heap.get? D=some { cls:=.type "list",data:=.seq (List.toArray its) k }:=fun {σa Ha sa} ea Ia=>by
     subst ea
     refine ⟨(Ia.pins_of (pins':=[]) fun p hp=>absurd hp (by simp)).weak kl.symm fun j v e=>?_,T.keep _ _ _ st7 fun b hb o e=>(Ia.pin (b,o) (B2 _ (B2 _ (CA hb e)))).1,fun b hb=>?_,?_,?_⟩
     · have e':=e
       unfold capt at e'
       rw [M9] at e'
       cases hm:map[j]? with
       | none=>rw [hm] at e';cases e'
       | some o =>
         rw [hm] at e'
         cases o with
         | none=>simp at e'
         | some i'=>rw [k8 j i' hm];exact e
     · obtain ⟨o,e,d⟩:=T.obj _ _ st7 b hb
       exact (Ia.pin (b,o) (B2 _ (B2 _ (CA hb e)))).2.1
     · exact (Ia.pin (D,_) (B2 _ (R4 _ M4))).2.1
     · exact (Ia.pin (D,_) (B2 _ (R4 _ M4))).1
    cases b with
    | false =>
      rw [if_neg B7] at q9 ⊢
      obtain ⟨m',hm',w9⟩:=hNN _ _ q9
      obtain ⟨a1,a2,a3,a4,a5⟩:=wk rfl I9
      exact ⟨m',hm',i+1,acc,H9,its,k,a1,a2,a3,a4,a5,rv5,w9⟩
    | true =>
      rw [if_pos rfl] at q9 ⊢
      have pex:=pel _ s9 σ8 H9 _ I9 q9
      rw [eprog,ew,eA,eenv] at pex
      refine T6 pex (fun v s10 ⟨y,H10,I10,r10,q10⟩=>?_) err
      obtain ⟨m',hm',w10⟩:=hNN _ _ q10
      obtain ⟨a1,a2,a3,a4,a5⟩:=wk rfl I10
      have hl:=rv5.length
      refine wpAny_list_append_plain (items:=List.toArray its) ⟨k,a5⟩ (fun h11 pl11 sb11=>?_) (by simp only [L3];omega)
      obtain ⟨k',e11⟩:=pl11
      refine ⟨m',hm',i+1,acc++[y],H10,its++[v],k',a1.turned (t':=s10.toks) (it:=D) (fun b o hb e=>(sb11.2 b hb).trans e) a4 ?_ (.inr (by rw [es0,hDd];exact B9 _)) ncD (fun p hp=>absurd hp (by rw [epn];simp)),T.keep _ _ _ a2 fun b hb o e=>(sb11.2 b (fD b hb)).trans e,a3,a4,?_,rv5.append (.cons r10 .nil),w10⟩
      · rw [eL,szD]
        exact R7 (T9 _)
      · rw [e11,List.push_toArray]
 exact codeAny_compStart_list loop (T.self _ 0 _ _ _ (T.keep _ _ _ st fun b hb o e=>E2 _ _ _ _ (kC _ _ (kD _ _ e))) loop)
theorem Blk.clos {pins:List (Addr×Obj)}{σ:St}{H:Hp}{s:Shared}(B:Blk X N' scope map tg elt ifs g tt te)(I:Inv X pins σ H s) :
 ∃ cl,closureFor scope X.env=pure cl/\(∀ x c,cl.lookup x=some c->X.env.cells.lookup x=some c)/\∀ x,(x,NameKind.free)∈scope.names->(cl.lookup x).isSome=true :=
 NR fun x hx=>I.ok.has x (by
  have q:=R5.mp B.free _ hx
  simpa using q)
def Q1z (wi:TI)(map:List (Option Nat))(g:TG)(tt:TT)(te:TE):TE:=fun σ H Q=>wi σ H fun J H1=>∃ W:Nat->Nat->List V->Hp->Prop,(∃ m,W 0 m [] H1) /\
 ND J g tt te (capt σ map) (fun acc H'=>∀ D,H' D=none->Q (.ref D) (upd H' D (.lst acc))) W
theorem WE (B:Blk X N' scope map tg elt ifs g tt te)(hi:PI X tg iter wi)(hs:∀ x,foldedSetIterable iter X.env x=pure x:=by intro _;rfl):PE X (.ListComp elt [⟨tg,iter,ifs,0⟩] scope pos) (Q1z wi map g tt te):=by
 intro pins s σ H Q I h
 obtain ⟨cl,hcl,hsub,hhas⟩:=B.clos I
 rw [eval_ListComp]
 refine wpAny_comprehension_free (use:=none) rfl hs hcl B.kind B.loc (thn (hi pins s σ H _ I h) fun v s1 h1=>thn h1 fun itv s2 h2=>?_)
 obtain ⟨it,fp,tn,J,H2,e,I2,T,st2,f2,W,⟨m0,w0⟩,turn⟩:=h2
 subst e
 refine J6h (RR:=fun acc C=>compPost (model X.prog X.w) X.A X.xe none (EP X pins σ Q) acc C) I2 B.m hsub hhas (R:=fun X=>X.calm=true) (fun _ _ _ _ _=>B.calm) T.gen st2 f2 w0 turn (fun D C acc H' s' m I' hD nsm fC c1 c2 c3 c4 fin=>?_) fun D C e s' z=>z
 refine ⟨m,nsm,fun h' sb=>⟨.ref D,_,?_,rfl,fin D hD⟩⟩
 exact I'.turned (t':=s'.toks) (fun b o hb e=>(sb.2 b hb).trans e) fC c1 (.inr c2) c3 c4
end
theorem gkeep_name {j:Nat}{map:List (Option Nat)}(h:map[j]?=some none):HL (SR j) map:=fun v σ H Q q=>by
 refine ⟨⟨by simp,fun j' i hm=>?_⟩,q⟩
 have:j≠j':=fun z=>by rw [z,hm] at h;cases h
 rw [L6 this]
def Bd (n:Nat)(i:Int):Prop:=i.natAbs<2 ^ n
theorem Bd.mono {m n:Nat}{i:Int}(h:Bd m i)(k:m<=n):Bd n i:=L7 h (Nat.pow_le_pow_right (by decide) k)
theorem Bd.mul {m n:Nat}{i j:Int}(h:Bd m i)(k:Bd n j):Bd (m+n) (i*j):=by
 unfold Bd at *
 rw [Int.natAbs_mul,Nat.pow_add]
 exact Nat.mul_lt_mul'' h k
theorem Bd.add {m n:Nat}{i j:Int}(h:Bd m i)(k:Bd n j):Bd (max m n+1) (i+j):=by
 have h':Bd (max m n) i:=h.mono (Nat.le_max_left _ _)
 have k':Bd (max m n) j:=k.mono (Nat.le_max_right _ _)
 unfold Bd at *
 rw [Nat.pow_succ]
 have:=Int.natAbs_add_le i j
 omega
theorem Bd.sub {m n:Nat}{i j:Int}(h:Bd m i)(k:Bd n j):Bd (max m n+1) (i - j):=by
 have h':Bd (max m n) i:=h.mono (Nat.le_max_left _ _)
 have k':Bd (max m n) j:=k.mono (Nat.le_max_right _ _)
 unfold Bd at *
 rw [Nat.pow_succ]
 have:=Int.natAbs_sub_le i j
 omega
theorem Bd.neg {m:Nat}{i:Int}(h:Bd m i):Bd m (-i):=by
 unfold Bd at *
 rw [Int.natAbs_neg]
 exact h
theorem Bd.of {n:Nat}{i:Int}(h1 : -(2 ^ n:Nat)<i)(h2:i<(2 ^ n:Nat)):Bd n i:=by
 unfold Bd
 omega
theorem Bd.lt {n:Nat}{i:Int}(h:Bd n i) : -((2 ^ n:Nat):Int)<i/\i<((2 ^ n:Nat):Int):=by
 unfold Bd at h
 omega
theorem Bd.ediv {n:Nat}{i:Int}(h:Bd n i){d:Int}(hd:0<d):Bd n (i / d):=by
 have h1:=h.lt
 have hp:(0:Int)<((2 ^ n:Nat):Int):=by
  have:0<2 ^ n:=Nat.pow_pos (by decide)
  omega
 refine Bd.of ?_ ?_
 · by_cases hi:0<=i
   · have:=Int.ediv_nonneg hi (B0q hd)
     omega
   · have h3 : -((2 ^ n:Nat):Int)*d<=-((2 ^ n:Nat):Int)*1:=by
      rw [Int.neg_mul,Int.neg_mul]
      exact Int.neg_le_neg (R8 (by omega) (B0q hp))
     have h4 : -((2 ^ n:Nat):Int)*d<=i - 1+1:=by omega
     have h5:i / d > -((2 ^ n:Nat):Int)\/i / d<=-((2 ^ n:Nat):Int):=by omega
     rcases h5 with q|q
     · exact q
     · have h6:=Int.mul_ediv_add_emod i d
       have h7:=W8 i (Int.ne_of_gt hd)
       have h8:=W0 i hd
       have h9:d*(i / d)<=d*(-((2 ^ n:Nat):Int)):=R8 q (B0q hd)
       have h10:d*(-((2 ^ n:Nat):Int)) = -((2 ^ n:Nat):Int)*d:=Int.mul_comm _ _
       have h11:d*((2 ^ n:Nat):Int)>=d*1+(((2 ^ n:Nat):Int) - 1):=by
        have:(d - 1)*(((2 ^ n:Nat):Int) - 1)>=0:=B0t (by omega) (by omega)
        rw [Int.sub_mul,Int.mul_sub,Int.mul_sub] at this
        omega
       have h12:d*(-((2 ^ n:Nat):Int)) = -(d*((2 ^ n:Nat):Int)):=Int.mul_neg _ _
       omega
 · by_cases hi:0<=i
   · exact Int.lt_of_le_of_lt (Int.ediv_le_self d hi) h1.2
   · have:i / d<0:=Int.ediv_neg_of_neg_of_pos (by omega) hd
     omega
theorem RD {n:Nat}{i:Int}(h:Bd n i):Builtin.Int.intBits i<=n:=by
 unfold Builtin.Int.intBits
 split
 · exact W1 _
 · rename_i hz
   have h0:i.natAbs≠0:=fun z=>hz (by have:i=0:=Int.natAbs_eq_zero.mp z;simp [this])
   exact (B0k h0).mpr h
def CMulB (i j:Int):Prop:=(∃ m n,Bd m i/\Bd n j/\m+n<=100000000)\/Bd 64 j
def Q3y (i j:Int):Prop:=0<j/\∃ n,Bd n j/\n<=9000
section
variable {X:Cx}
theorem Q9:OpR X (binaryOp .Mult) (rI CMulB fun i j=>.int (i*j)):=opI fun i j _ _ _ _ _ hc q=>mul_int q (by
 rcases hc with ⟨m,n,h1,h2,h3⟩|h1
 case inr=>exact .of_right (RD h1)
 have e1:=RD h1
 have e2:=RD h2
 unfold IntMulOk
 have e3:Builtin.Int.intTooBig (Builtin.Int.intBits i+Builtin.Int.intBits j)=false:=by
  unfold Builtin.Int.intTooBig
  refine R9 ?_
  have:bitsLine=134217728:=by unfold bitsLine;decide
  rw [this]
  omega
 rw [e3]
 simp)
theorem DL:OpR X (binaryOp .FloorDiv) (rI Q3y fun i j=>.int (i / j)):=opI fun i j _ _ _ _ _ hc q=>by
 obtain ⟨h1,n,h2,h3⟩:=hc
 refine floordiv_int (by omega) (by rw [Int.fdiv_eq_ediv_of_nonneg i (by omega)];exact q) (.inl (PyProof.noPylong_of_log2 ?_))
 have h0:j.natAbs≠0:=by omega
 exact (B0k h0).mpr (h2.mono h3)
theorem J0v:OpR X (binaryOp .FloorDiv) (rI (fun _ j=>j≠0/\∃ n,Bd n j/\n<=9000) fun i j=>.int (i.fdiv j)):=opI fun i j _ _ _ _ _ hc q=>by
 obtain ⟨h1,n,h2,h3⟩:=hc
 refine floordiv_int h1 q (.inl (PyProof.noPylong_of_log2 ?_))
 have h0:j.natAbs≠0:=by omega
 exact (B0k h0).mpr (h2.mono h3)
end
theorem Same.upd {H:Hp}{p:Addr}{o:HO}(h:H p=none):Same H (upd H p o):=fun b u e=>by rw [V7 (Y2 e h)];exact e
def Keep (p:Addr)(H H':Hp):Prop:=∀ b o,b≠p->H b=some o->H' b=some o
theorem Keep.trans {p:Addr}{H H1 H2:Hp}(a:Keep p H H1)(b:Keep p H1 H2):Keep p H H2:=fun c o n e=>b c o n (a c o n e)
theorem Keep.upd {p:Addr}{H:Hp}{o:HO}:Keep p H (upd H p o):=fun b u n e=>by rw [V7 n];exact e
theorem Same.keep {p:Addr}{H H':Hp}(h:Same H H'):Keep p H H':=fun b o _ e=>h b o e
structure Callee (P:Program)(w:World)(K:Fg)(mg:Str->Option Value)(base:Heap)(CX:CXT)(x:Str)(k:Nat)(ps:List Str)(sp:Sp):Prop where
 ex:∃ f fd,FnOk P w K mg base CX k f fd ps sp/\mg x=some (.ref f)/\PySem.W.keepIn K (.ref f)=true/\Binds K fd ps []
section
variable {X:Cx}{k:Nat}{ps:List Str}{sp:Sp}{x:Str}{p pos:Pos}{e:Expr}{es:List Expr}{t:TA}
theorem PV (G:Callee X.prog X.w X.K X.mg X.base CX0 x k ps sp)(hr:Room k X.A)(hg:Gl X x)(ha:PA X (e::es) t)(hdb:(x==("__debug__" : Str))=false:=by decide) (he:starEach (e::es) X.env=(false,eval e X.env)::starEach es X.env:=by rfl) (hpl:(backTo pos (starEach es X.env)).any (·.1)=false:=by rfl) :
 PE X (.Call (.Name x p) (e::es) [] pos) (NW sp [] E0 t):=by
 obtain ⟨f,fd,F,hm,hk,hb⟩:=G.ex
 exact WG F hr hg hm hk hb .nil J6s ha hdb he hpl
theorem J4m (G:Callee X.prog X.w X.K X.mg X.base CX0 x k ps sp)(hr:Room k X.A)(hg:Gl X x)(hdb:(x==("__debug__" : Str))=false:=by decide):PE X (.Call (.Name x p) [] [] pos) (NW sp [] E0 J8c):=by
 obtain ⟨f,fd,F,hm,hk,hb⟩:=G.ex
 exact J0s F hr hg hm hk hb .nil J6s hdb
theorem TJ:CK X (.builtin "isinstance") (fun xs H Q=>∃ y c t b,xs=[y,.ty c]/\TyOf X.K H y t/\PySem.W.kitOne X.K t (.type c)=some b/\Q (.bl b) H):=by
 intro pins s σ H xs us Q I r h
 obtain ⟨y,c,t,b,rfl,ty,e,q⟩:=h
 obtain ⟨u,w',rfl,r1,r2⟩:=KI r
 cases (show w'=Value.type c from r2)
 exact YS I r1 ty e fun tk=>⟨.bl b,H,I.tok _,rfl,q⟩
end
theorem Callee.mk' {w:World} {CX:CXT}{x qual:Str}{st:Stmt}{f:Addr} {k:Nat}{ps:List Str}{sp:Sp}(F:Fun K x qual st f fd)(G:FnOk P w K mg base CX k f fd ps sp)(hm:mg x=some (.ref f))(hb:Binds K fd ps []) :
 Callee P w K mg base CX x k ps sp:=⟨f,fd,G,hm,F.kp,hb⟩
theorem J9i {c:Bool}{A B:Prop}(h1:c=true->A)(h2:c=false->B):if c=true then A else B:=by
 cases c with
 | true=>exact Q4l (h1 rfl)
 | false=>exact Q4m (h2 rfl)
theorem KG:bootBuiltins "abs" = some (.builtin "abs"):=by decide +kernel
theorem BM:bootBuiltins "len" = some (.builtin "len"):=by decide +kernel
theorem V6:bootBuiltins "isinstance" = some (.builtin "isinstance"):=by decide +kernel
theorem Q1d:bootBuiltins "max" = some (.builtin "max"):=by decide +kernel
theorem Q1c:bootBuiltins "min" = some (.builtin "min"):=by decide +kernel
theorem Q1b:bootBuiltins "sum" = some (.builtin "sum"):=by decide +kernel
theorem HI:bootBuiltins "all" = some (.builtin "all"):=by decide +kernel
theorem NC:bootBuiltins "int" = some (.type "int"):=by decide +kernel
theorem RC:bootBuiltins "bool" = some (.type "bool"):=by decide +kernel
theorem AV:bootBuiltins "tuple" = some (.type "tuple"):=by decide +kernel
theorem LQ:bootBuiltins "list" = some (.type "list"):=by decide +kernel
theorem Q1a:bootBuiltins "zip" = some (.type "zip"):=by decide +kernel
theorem RB:bootBuiltins "enumerate" = some (.type "enumerate"):=by decide +kernel
theorem Same.get {H H':Hp}{a:Addr}{o:HO}(S:Same H H')(h:H a=some o):H' a=some o:=S a o h
theorem Keep.get {p:Addr}{H H':Hp}{a:Addr}{o:HO}(S:Keep p H H')(n:a≠p)(h:H a=some o):H' a=some o:=S a o n h
theorem rd_mul {i j:Int}{m n:Nat}{Q:Prop}(h1:Bd m i)(h2:Bd n j)(h3:m+n<=100000000)(q:Q):CMulB i j/\Q:=⟨.inl ⟨m,n,h1,h2,h3⟩,q⟩
theorem Bd.num (i:Int)(h:i.natAbs<18446744073709551616):Bd 64 i:=h
theorem BP:1000<=sizeLine:=by decide
theorem J7s {a b:Int}(h:decide (V.int a=V.int b)=true):a=b:=by injection T0 h
theorem J4w {a b:Int}(h:(!decide (V.int a=V.int b))=true):a≠b:=fun z=>by rw [z] at h;simp at h
theorem J4x {a b:Int}(h:(!decide (V.int a=V.int b))=false):a=b:=by
 have q:decide (V.int a=V.int b)=true:=by cases e:decide (V.int a=V.int b) with|true=>rfl|false=>rw [e] at h;cases h
 exact J7s q
theorem J7e {p:Prop}[Decidable p](h:decide p=true):p:=T0 h
def Bag (H:Hp)(p:Addr):Prop:=∃ f m:Int,H p=some (.lst [.int f,.int m])/\0<=f/\0<=m/\m<2147483647
theorem Bag.ne {H:Hp}{p a:Addr}{xs:List V}(b:Bag H p)(h:H a=some (.tup xs)):a≠p:=by
 obtain ⟨f,m,e,_⟩:=b
 exact J1d h e (by intro z;cases z)
theorem CMulB.right {i j:Int}(h:Bd 64 j):CMulB i j:=.inr h
theorem Keep.tup {p:Addr}{H H':Hp}{a:Addr}{xs:List V}(S:Keep p H H')(b:Bag H p)(h:H a=some (.tup xs)):H' a=some (.tup xs):=S a _ (b.ne h) h
theorem J3f {xs:List V}{i:Int}(h0:0<=i)(h1:i<xs.length):∃ v,atI xs i=some v/\v∈xs:=by
 obtain ⟨j,rfl⟩:∃ j:Nat,i=j:=⟨i.toNat,by omega⟩
 have hj:j<xs.length:=by omega
 exact ⟨xs[j],HV (L4 hj),U6 hj⟩
theorem Z0 (l:List Str)(h:l.Nodup):l.Nodup:=h
section
variable {X:Cx}{l:Expr}
theorem QK (K:Fg)(h:X.K=K):IxR X (J4f K):=by subst h;exact J9h
theorem DZ (K:Fg)(h:X.K=K):IxR X (J4g K):=by subst h;exact J5b
theorem AW {es:List Expr}{k:Nat}{t:TGs}{n:Nat}{pos:Pos}(K:Fg)(h:X.K=K)(hc:X.calm=true)(hs:PGs X es t)(hn:(assignEach es X.env).length=n:=by rfl)(hst:(assignEach es X.env).findIdx? (·.1)=none:=by rfl):PG X (.Tuple es k pos) (J5j K n t):=by subst h;exact J8o hc hs hn hst
theorem V4 (K:Fg)(h:X.K=K):CK X (.builtin "len") (fun xs H Q=>∃ p ys,xs=[.ref p]/\(SqL K H p ys\/SqT K H p ys)/\Q (.int ys.length) H):=by subst h;exact QZ
theorem CC (K:Fg)(h:X.K=K):CK X (.type "tuple") (fun xs H Q=>∃ p ys,xs=[.ref p]/\((SqL K H p ys/\∀ l,H l=none->Q (.ref l) (upd H l (.tup ys)))\/(SqT K H p ys/\Q (.ref p) H))):=by subst h;exact NS
theorem NT (K:Fg)(h:X.K=K):CK X (.type "list") (fun xs H Q=>∃ p ys,xs=[.ref p]/\(SqL K H p ys\/SqT K H p ys)/\∀ l,H l=none->Q (.ref l) (upd H l (.lst ys))):=by subst h;exact QY
theorem YC {a:Expr}{ta:TE}(K:Fg)(h:X.K=K)(ha:PE X a ta)(he:∀ whole,isTrue a X.env whole=(do let v <- whole;standAt a.pos;holding [v] (truthy v))):PT X a (fun σ H Q=>ta σ H fun x H'=>∃ k,Q1g K x H' k/\Q k H'):=by subst h;exact J0g ha he
end
theorem MV:∀ {ns:List Int} {us:List Value},Vals (ns.map V.int) us->∃ xs:List (Int×Tok),us=xs.map (fun p=>Value.int p.1 p.2)/\xs.map (·.1)=ns
 | [],us,r=>by
   cases r
   exact ⟨[],rfl,rfl⟩
 | n::ns,us,r=>by
   cases r with
   | cons r1 r2 =>
     obtain ⟨t,rfl⟩:=r1
     obtain ⟨xs,e1,e2⟩:=MV r2
     exact ⟨(n,t)::xs,by rw [e1];rfl,by rw [<- e2];rfl⟩
theorem KD (xs:List (Int×Tok)):intItems xs.toArray=(xs.map fun p=>Value.int p.1 p.2).toArray:=by simp [intItems]
section
variable {X:Cx}
theorem ZF (K:Fg)(hK:X.K=K)(hc:X.calm=true):CK X (.builtin "sum") (fun xs H Q=>∃ (p:Addr) (ns:List Int),xs=[.ref p]/\SqL K H p (ns.map V.int)/\Q (.int ns.sum) H):=by
 subst hK
 intro pins s σ H xs us Q I r h
 obtain ⟨p,ns,rfl,hq,q⟩:=h
 obtain ⟨u,rfl,rx⟩:=IP r
 cases rx
 obtain ⟨its,rv,pl,hz⟩:=I.list hq
 obtain ⟨ps,e1,e2⟩:=MV rv
 subst e1
 have hl:=pl.isList
 rw [<- KD] at hl
 refine sum_intListG (xs:=ps.toArray) (I.ok.hd hc) hl fun h' tk t' k=>?_
 refine ⟨.int ns.sum,H,I.kept k,⟨t',?_⟩,q⟩
 rw [preSum_eq,E6 (by simp)]
 show Value.int ((ps.map (·.1)).sum) t'=_
 rw [e2]
theorem ON:∀ {bs:List Bool} {us:List Value},Vals (bs.map V.bl) us->us=bs.map Value.bool
 | [],us,r=>by
   cases r
   rfl
 | b::bs,us,r=>by
   cases r with
   | cons r1 r2 =>
     cases r1
     rw [ON r2]
     rfl
theorem RV (bs:List Bool):(List.range bs.length).map (fun i=>bs[i]?.getD false)=bs:=by
 apply List.ext_getElem
 · simp
 · intro i h1 h2
   simp at h1
   simp [h1]
theorem CZ (K:Fg)(hK:X.K=K)(hc:X.calm=true):CK X (.builtin "all") (fun xs H Q=>∃ (p:Addr) (bs:List Bool),xs=[.ref p]/\SqL K H p (bs.map V.bl)/\Q (.bl (bs.all id)) H):=by
 subst hK
 intro pins s σ H xs us Q I r h
 obtain ⟨p,bs,rfl,hq,q⟩:=h
 obtain ⟨u,rfl,rx⟩:=IP r
 cases rx
 obtain ⟨its,rv,pl,hz⟩:=I.list hq
 have e1:=ON rv
 subst e1
 have hl:=pl.isList
 have hlt:p<s.heap.objs.size:=by obtain ⟨_,e,_⟩:=hl;exact B5 e
 refine call_all_walk (B1d hl ?_)
 refine ⟨_,_,_,_,_,_,(fun i=>bs[i]?.getD false),rfl,Walks.list (A:=X.A.in1) (I.ok.hd hc) _ p (R7 hlt) (bs.map Value.bool).toArray,⟨⟨_,M6 _ rfl,rfl,rfl⟩,hl.push _⟩,?_,fun h' tk hk=>?_⟩
 · intro i v s' Q' E' hv hq'
   have e:bs[i]?.map Value.bool=some v:=by simpa using hv
   cases hb:bs[i]? with
   | none=>rw [hb] at e;cases e
   | some b =>
     rw [hb] at e
     cases e
     have hq'':Q' (bs[i]?.getD false) s':=hq'
     rw [hb] at hq''
     exact D6 hq''
 · have ea:(List.range (bs.map Value.bool).toArray.size).all (fun i=>bs[i]?.getD false)=bs.all id:=by
    have:=W9 (fun l:List Bool=>l.all id) (RV bs)
    simpa [List.all_map] using this
   rw [ea]
   refine ⟨.bl (bs.all id),H,I.kept fun b o e=>hk b o (fun hm=>?_) (B1 _ e),rfl,q⟩
   have:b=s.heap.objs.size:=by simpa using hm
   exact absurd (this▸B5 e) (L9 _)
end
section
variable {prog:Program}{w:World}{A:Around}{E:Value->Shared->Prop}{s:Shared}
theorem UT {u t:Addr}{j:Nat}{its}{v:Value}{Q:Value->Shared->Prop}(a1:s.heap.IsTupleIter u t j)(a2:s.heap.IsTuple t its)(a3:its[j]?=some v)
 (q:∀ h',h'.IsTupleIter u t (j+1)->Heap.SameBut u s.heap h'->Q v { s with heap:=h' }):wpAny (model prog w) A (Builtin.SmallTypes.nextOf (.ref u)) Q E s:=by
 obtain ⟨oi,b1,b2,b3⟩:=id a1
 obtain ⟨ot,c1,_,nt,c2⟩:=a2
 unfold Builtin.SmallTypes.nextOf
 refine B0 (wpAny_callSpecial?_slot (name:=Str.ofString "__next__") a1.typeIs B0b (B0o B0b a1.typeIs F.entry_tuple_iterator_next ?_ (F.args_tuple_iterator_next_1 _)))
 show wpAny _ _ (field (.ref u) 0 >>= _) _ _ s
 refine B0 (U0 b1 b3 (x:=.ref t) rfl ?_)
 show wpAny _ _ (if (Value.ref t==Value.none)=true then _ else _) _ _ s;rw [if_neg (show ¬ ((Value.ref t==Value.none)=true) from B7)]
 show wpAny _ _ (field (.ref u) 1 >>= _) _ _ s
 refine B0 (U0 b1 b3 (x:=.int j 0) rfl ?_)
 show wpAny _ _ (seqItems? (.ref t) >>= _) _ _ s;refine B0 (B0a c1 c2 ?_)
 simp only [B0v,a3]
 refine B0 (wpAny_setField b1 b3 (by simp) (L1 ⟨v,rfl,L1 (q _ ⟨_,D5 _ b1 (B0l (B0i b3 _)),(Obj.cls_mapFields ..).trans b2,by rw [B0i b3];simp [rawInt]⟩ (Heap.SameBut.update ..))⟩))
theorem YH {u t:Addr}{j:Nat}{its}{Q:Value->Shared->Prop}(a0:A.handled=none)(a1:s.heap.IsTupleIter u t j)(a2:s.heap.IsTuple t its)(a3:its[j]?=none)
 (q:∀ h' e,Heap.ExtBut u s.heap h'->(∃ o,h'.get? e=some o/\o.cls=.type "StopIteration")->E (.ref e) { s with heap:=h' }):wpAny (model prog w) A (Builtin.SmallTypes.nextOf (.ref u)) Q E s:=by
 obtain ⟨oi,b1,b2,b3⟩:=id a1
 obtain ⟨ot,c1,_,nt,c2⟩:=a2
 unfold Builtin.SmallTypes.nextOf
 refine B0 (wpAny_callSpecial?_slot (name:=Str.ofString "__next__") a1.typeIs B0b (B0o B0b a1.typeIs F.entry_tuple_iterator_next ?_ (F.args_tuple_iterator_next_1 _)))
 show wpAny _ _ (field (.ref u) 0 >>= _) _ _ s
 refine B0 (U0 b1 b3 (x:=.ref t) rfl ?_)
 show wpAny _ _ (if (Value.ref t==Value.none)=true then _ else _) _ _ s;rw [if_neg (show ¬ ((Value.ref t==Value.none)=true) from B7)]
 show wpAny _ _ (field (.ref u) 1 >>= _) _ _ s
 refine B0 (U0 b1 b3 (x:=.int j 0) rfl ?_)
 show wpAny _ _ (seqItems? (.ref t) >>= _) _ _ s;refine B0 (B0a c1 c2 ?_)
 simp only [B0v,a3]
 refine B0 (wpAny_rule (B0 (wpAny_setField b1 b3 (by simp) ?_)))
 show wpAny _ _ (newExc (.type "StopIteration") [] >>= _) _ _ _;refine B0 ?_;simp only [newExc,newTuple]
 refine B0 (U3 ?_ (by size_fits));refine B0 (m:=firstArgMember _ _) (wpAny_of_eq (a:=Value.none) (by first|rfl|(simp only [firstArgMember];rfl)) ?_)
 refine U3 ?_ (by size_fits);simp only [raiseNew];refine B0 (wpAny_handled ?_)
 first|rw [show A.in1.handled=none from a0]|rw [a0]
 refine B0 (L1 (wpAny_throw (q _ _ (((Heap.SameBut.update ..).extBut.push _).push _) ⟨_,M6 _ rfl,rfl⟩)))
def ItAt (b:Bool)(h:Heap)(u l:Addr)(j:Nat):Prop:=match b with|false=>h.IsListIter u l j|true=>h.IsTupleIter u l j
def SeqAt (b:Bool)(h:Heap)(l:Addr)(xs:Array Value):Prop:=match b with|false=>h.IsList l xs|true=>h.IsTuple l xs
theorem ItAt.at {b:Bool}{h h':Heap}{u l:Addr}{j:Nat}(x:ItAt b h u l j)(k:∀ o,h.get? u=some o->h'.get? u=some o):ItAt b h' u l j:=by
 cases b with
 | false=>exact Heap.IsListIter.at x k
 | true=>exact Heap.IsTupleIter.at x k
theorem SeqAt.at {b:Bool}{h h':Heap}{l:Addr}{xs:Array Value}(x:SeqAt b h l xs)(k:∀ o,h.get? l=some o->h'.get? l=some o):SeqAt b h' l xs:=by
 cases b with
 | false=>obtain ⟨o,e,r⟩:=x;exact ⟨o,k o e,r⟩
 | true=>obtain ⟨o,e,r⟩:=x;exact ⟨o,k o e,r⟩
theorem ItAt.obj {b:Bool}{h:Heap}{u l:Addr}{j:Nat}(x:ItAt b h u l j):∃ o,h.get? u=some o/\∀ v,o.data≠.cell v:=by
 cases b with
 | false=>obtain ⟨o,e,c,d⟩:=x;exact ⟨o,e,fun v z=>by rw [d] at z;cases z⟩
 | true=>obtain ⟨o,e,c,d⟩:=x;exact ⟨o,e,fun v z=>by rw [d] at z;cases z⟩
theorem RP {b:Bool}{u l:Addr}{j:Nat}{xs:Array Value}{v:Value}{Q:Value->Shared->Prop}(a1:ItAt b s.heap u l j)(a2:SeqAt b s.heap l xs)(a3:xs[j]?=some v)
 (q:∀ h',ItAt b h' u l (j+1)->Heap.SameBut u s.heap h'->Q v { s with heap:=h' }):wpAny (model prog w) A (Builtin.SmallTypes.nextOf (.ref u)) Q E s:=by
 cases b with
 | false=>exact wpAny_nextOf_list_item a1 a2 a3 q
 | true=>exact UT a1 a2 a3 q
theorem J4a {b:Bool}{u l:Addr}{j:Nat}{xs:Array Value}{Q:Value->Shared->Prop}(a0:A.handled=none)(a1:ItAt b s.heap u l j)(a2:SeqAt b s.heap l xs)(a3:xs[j]?=none)
 (q:∀ h' e,Heap.ExtBut u s.heap h'->(∃ o,h'.get? e=some o/\o.cls=.type "StopIteration")->E (.ref e) { s with heap:=h' }):wpAny (model prog w) A (Builtin.SmallTypes.nextOf (.ref u)) Q E s:=by
 cases b with
 | false=>exact wpAny_nextOf_list_end a0 a1 a2 a3 q
 | true=>exact YH a0 a1 a2 a3 q
abbrev DQ (h:Heap)(T:Addr)(vs:Array Value):Prop:=h.get? T=some { cls:=.type "tuple",data:=.seq vs }
theorem NV {T:Addr}{vs:Array Value}{v:Value}{k:Nat}{Q:Unit->Shared->Prop}(hv:vs.size<=1000)(hT:DQ s.heap T vs)
 (q:∀ h',DQ h' T (vs.setIfInBounds k v)->Heap.SameBut T s.heap h'->Q () { s with heap:=h' }):wpAny (model prog w) A (updateSeq T (·.setIfInBounds k v)) Q E s:=by
 have z1:vs.size<=sizeLine:=M7 hv BP
 refine wpAny_updateSeq hT rfl (q _ ?_ (Heap.SameBut.update ..)) (hz:=z1) (_hz':=by simp;omega)
 show Heap.get? _ T=_
 rw [D5 _ hT rfl];simp [Obj.mapSeq]
end
section
variable {X:Cx}{pins:List (Addr×Obj)}{σ:St}{H:Hp}{s:Shared}{h':Heap}
theorem Inv.zipped {fp:List Addr}{T:Addr}{o:HO}{t':Nat}(I:Inv X pins σ H s)(hf:∀ b∈fp,GK X pins H b)(k:∀ b o,b∉fp->s.heap.get? b=some o->h'.get? b=some o)(hT:s.heap.objs.size<=T)
 (new:ObjOk X.prog X.w (upd H T o) h' T o):Inv X pins σ (upd H T o) { s with heap:=h',toks:=t' }:=by
 have hn:H T=none:=I.hok.fresh hT
 have ne:∀ b u,s.heap.get? b=some u->b≠T:=fun b u e z=>absurd (B5 e) (by rw [z];exact Nat.not_lt.mpr hT)
 have nfp:∀ b u,H b=some u->b∉fp:=fun b u e hb=>by rw [(hf b hb).1] at e;cases e
 refine I.step (g':=s.gens) (d':=s.drawn) (ch:=fp) (fun b hb=>?_) (fun b o _ _ hc e _=>k b o hc e) (fun b o _ _ hc e _=>⟨o.slots,k b o hc e⟩) (fun b u _ e n=>by rw [V7 (ne b u e)];exact n)
  (fun b o hc e=>⟨o,k b o hc e⟩) (fun b xs e=>by rw [V7 (Y2 e hn)];exact e) (fun b o u e=>by rw [V7 (Y2 e hn)];exact e) (fun b ps e=>⟨#[],by rw [V7 (Y2 e hn),e];simp⟩) (fun m hm=>?_) (fun b u e=>?_) I.bare
 · obtain ⟨_,f1,_,f3,f4,f5⟩:=hf b hb
   exact ⟨f3,f1,f4,f5⟩
 · obtain ⟨o,es,ep,ho,r⟩:=hm
   exact ⟨o,es,ep,k _ o (fun hb=>(hf _ hb).2.1 rfl) ho,r⟩
 · by_cases hb:b=T
   · subst hb
     rw [AM] at e
     cases e
     exact new
   · rw [V7 hb] at e
     refine (I.hok b u e).stay (fun c v hc q=>k c v ?_ q) (fun c q=>by rw [V7 (Y2 q hn)];exact q) fun c xs q=>by rw [V7 (Y2 q hn)];exact q
     rcases hc with z|z
     · rw [z];exact nfp b u e
     · exact nfp c _ z
theorem Inv.turnedL {fp:List Addr}{t':Nat}(I:Inv X pins σ H s)(hf:∀ b∈fp,GK X pins H b)(k:∀ b o,b∉fp->s.heap.get? b=some o->h'.get? b=some o):Inv X pins σ H { s with heap:=h',toks:=t' }:=by
 have nfp:∀ b u,H b=some u->b∉fp:=fun b u e hb=>by rw [(hf b hb).1] at e;cases e
 refine I.step (g':=s.gens) (d':=s.drawn) (ch:=fp) (fun b hb=>?_) (fun b o _ _ hc e _=>k b o hc e) (fun b o _ _ hc e _=>⟨o.slots,k b o hc e⟩) (fun b u _ e n=>n)
  (fun b o hc e=>⟨o,k b o hc e⟩) (fun b xs e=>e) (fun b o u e=>e) (fun b ps e=>⟨#[],by rw [e];simp⟩) (fun m hm=>?_) (fun b u e=>?_) I.bare
 · obtain ⟨_,f1,_,f3,f4,f5⟩:=hf b hb
   exact ⟨f3,f1,f4,f5⟩
 · obtain ⟨o,es,ep,ho,r⟩:=hm
   exact ⟨o,es,ep,k _ o (fun hb=>(hf _ hb).2.1 rfl) ho,r⟩
 · refine (I.hok b u e).stay (fun c v hc q=>k c v ?_ q) (fun c q=>q) fun c xs q=>q
   rcases hc with z|z
   · rw [z];exact nfp b u e
   · exact nfp c _ z
def SqX (K:Fg)(b:Bool)(H:Hp)(a:Addr)(xs:List V):Prop:=match b with|false=>SqL K H a xs|true=>SqT K H a xs
theorem Inv.seqX {b:Bool}{a:Addr}{xs:List V}(I:Inv X pins σ H s)(h:SqX X.K b H a xs):∃ its:List Value,Vals xs its/\SeqAt b s.heap a its.toArray/\xs.length<=sizeLine:=by
 cases b with
 | false=>obtain ⟨its,r,p,z⟩:=I.list h;exact ⟨its,r,p.isList,z⟩
 | true=>obtain ⟨its,r,p,z⟩:=I.tuple h;exact ⟨its,r,p,z⟩
theorem Inv.seqX_inj {b:Bool}{a:Addr}{xs ys:List V}(I:Inv X pins σ H s)(h:SqX X.K b H a xs)(h':SqX X.K b H a ys):xs=ys:=by
 cases b with
 | false=>exact I.list_inj h h'
 | true=>exact I.tuple_inj h h'
theorem Inv.seqX_ne {b:Bool}{a:Addr}{xs:List V}{c:Addr}(I:Inv X pins σ H s)(h:SqX X.K b H a xs)(f:GK X pins H c):a≠c:=by
 intro e
 subst e
 have base:∀ {o:Obj},X.base.get? a=some o->False:=fun {o} q=>by
  rcases f.2.2.2.1 with z|z
  · exact I.ok.noex a o q z
  · exact absurd (B5 (I.ok.bs a o q).1) (Nat.not_lt.mpr z)
 cases b with
 | false =>
   rcases h with (h|⟨o,h⟩)|⟨o,_,_,h,_⟩
   · rw [f.1] at h;cases h
   · rw [f.1] at h;cases h
   · exact base (I.ok.mod.kin _ _ h)
 | true =>
   rcases h with (h|⟨o,h⟩)|⟨o,_,_,h,_⟩
   · rw [f.1] at h;cases h
   · rw [f.1] at h;cases h
   · exact base (I.ok.mod.kin _ _ h)
end
section
variable {prog:Program}{w:World}{A:Around}{E:Value->Shared->Prop}{s:Shared}
structure ZAp2 (z TI TO i1 i2 l1 l2:Addr):Prop where
 z_TI:z≠TI
 z_TO:z≠TO
 z_i1:z≠i1
 z_i2:z≠i2
 TI_z:TI≠z
 TI_TO:TI≠TO
 TI_i1:TI≠i1
 TI_i2:TI≠i2
 TO_z:TO≠z
 TO_TI:TO≠TI
 TO_i1:TO≠i1
 TO_i2:TO≠i2
 i1_z:i1≠z
 i1_TI:i1≠TI
 i1_TO:i1≠TO
 i1_i2:i1≠i2
 i2_z:i2≠z
 i2_TI:i2≠TI
 i2_TO:i2≠TO
 i2_i1:i2≠i1
 l1_z:l1≠z
 l1_TI:l1≠TI
 l1_TO:l1≠TO
 l1_i1:l1≠i1
 l1_i2:l1≠i2
 l2_z:l2≠z
 l2_TI:l2≠TI
 l2_TO:l2≠TO
 l2_i1:l2≠i1
 l2_i2:l2≠i2
theorem XS {b1 b2:Bool}{z TI TO i1 i2 l1 l2:Addr}{k:Nat}{xs1 xs2:Array Value}{x1 x2 a1 a2:Value}{Q:Value->Shared->Prop}(D:ZAp2 z TI TO i1 i2 l1 l2)(hz:IsZip s.heap z TI TO .none)(hI:DQ s.heap TI #[.ref i1,.ref i2])(hO:DQ s.heap TO #[a1,a2])(d1:ItAt b1 s.heap i1 l1 k)(g1:SeqAt b1 s.heap l1 xs1)(d2:ItAt b2 s.heap i2 l2 k)(g2:SeqAt b2 s.heap l2 xs2)
 (e1:xs1[k]?=some x1) (e2:xs2[k]?=some x2)
 (q:∀ h',IsZip h' z TI TO (rawInt s.heap.objs.size)->DQ h' TO #[x1,x2]->ItAt b1 h' i1 l1 (k+1)->ItAt b2 h' i2 l2 (k+1)->DQ h' s.heap.objs.size #[x1,x2]->(∀ c o,c≠z->c≠TO->c≠i1->c≠i2->s.heap.get? c=some o->h'.get? c=some o)->Q (.ref s.heap.objs.size) { s with heap:=h' }) :
 wpAny (model prog w) A (Builtin.«zip.__next__» ⟨[.ref z],[]⟩) (fun fin s'=>∃ v,fin=.done (.ret v)/\Q v s') E s:=by
 show wpAny _ _ (field (.ref z) 2 >>= _) _ _ _;refine B0 (U0 hz rfl (x:=.bool false) rfl ?_)
 show wpAny _ _ (field (.ref z) 3 >>= _) _ _ _;refine B0 (U0 hz rfl (x:=.ref TI) rfl ?_)
 refine B0 (B0a hI rfl ?_)
 show wpAny _ _ (Builtin.SmallTypes.ownedTupleIsFree (.ref z) >>= _) _ _ _;refine B0 ?_;unfold Builtin.SmallTypes.ownedTupleIsFree
 refine B0 (U0 hz rfl (x:=.none) rfl (L1 ?_));simp only [if_true];refine B0 (wpAny_rule ?_)
 refine B0 (U0 hz rfl (x:=.ref TO) rfl ?_);refine B0 (B0g hz (by simp) fun p0 z0 m0=>?_)
 replace z0:IsZip p0 z TI TO .ellipsis:=z0
 have y0:DQ p0 TO #[a1,a2]:=m0.extBut _ _ D.TO_z hO
 have w0:∀ c o,c≠z->c≠TO->c≠i1->c≠i2->s.heap.get? c=some o->p0.get? c=some o:=fun c o c1 _ _ _ e=>m0.extBut _ _ c1 e
 have r0:p0.objs.size=s.heap.objs.size:=m0.1
 have d1_0:ItAt b1 p0 i1 l1 k:=d1.at fun o e=>m0.extBut _ _ D.i1_z e
 have g1_0:SeqAt b1 p0 l1 xs1:=g1.at fun o e=>m0.extBut _ _ D.l1_z e
 have d2_0:ItAt b2 p0 i2 l2 k:=d2.at fun o e=>m0.extBut _ _ D.i2_z e
 have g2_0:SeqAt b2 p0 l2 xs2:=g2.at fun o e=>m0.extBut _ _ D.l2_z e
 refine B0 ?_;simp only [List.zipIdx_cons,List.zipIdx_nil,B1f,List.forIn_nil]
 refine B0 (B0 (wpAny_onRaise ?_));show wpAny _ _ (Builtin.SmallTypes.nextOf (.ref i1) >>= _) _ _ _
 refine B0 (RP d1_0 g1_0 e1 fun u1 t1 n1=>L1 ?_)
 have v1:DQ u1 TO #[a1,a2]:=n1.extBut _ _ D.TO_i1 y0
 refine B0 (B0a v1 rfl ?_);refine B0 (NV (M1 rfl) v1 fun p1 y1 m1=>?_)
 replace y1:DQ p1 TO #[x1,a2]:=y1
 have z1:IsZip p1 z TI TO .ellipsis:=m1.extBut _ _ D.z_TO (n1.extBut _ _ D.z_i1 z0)
 have w1:∀ c o,c≠z->c≠TO->c≠i1->c≠i2->s.heap.get? c=some o->p1.get? c=some o:=fun c o c1 c2 c3 c4 e=>m1.extBut _ _ c2 (n1.extBut _ _ c3 (w0 c o c1 c2 c3 c4 e))
 have r1:p1.objs.size=s.heap.objs.size:=by rw [m1.1,n1.1];exact r0
 have d1_1:ItAt b1 p1 i1 l1 (k+1):=t1.at fun o e=>m1.extBut _ _ D.i1_TO e
 have d2_1:ItAt b2 p1 i2 l2 k:=(d2_0.at fun o e=>n1.extBut _ _ D.i2_i1 e).at fun o e=>m1.extBut _ _ D.i2_TO e
 have g2_1:SeqAt b2 p1 l2 xs2:=(g2_0.at fun o e=>n1.extBut _ _ D.l2_i1 e).at fun o e=>m1.extBut _ _ D.l2_TO e
 refine B0 (wpAny_letGo (L1 ?_))
 refine B0 (B0 (wpAny_onRaise ?_));show wpAny _ _ (Builtin.SmallTypes.nextOf (.ref i2) >>= _) _ _ _
 refine B0 (RP d2_1 g2_1 e2 fun u2 t2 n2=>L1 ?_)
 have v2:DQ u2 TO #[x1,a2]:=n2.extBut _ _ D.TO_i2 y1
 refine B0 (B0a v2 rfl ?_);refine B0 (NV (M1 rfl) v2 fun p2 y2 m2=>?_)
 replace y2:DQ p2 TO #[x1,x2]:=y2
 have z2:IsZip p2 z TI TO .ellipsis:=m2.extBut _ _ D.z_TO (n2.extBut _ _ D.z_i2 z1)
 have w2:∀ c o,c≠z->c≠TO->c≠i1->c≠i2->s.heap.get? c=some o->p2.get? c=some o:=fun c o c1 c2 c3 c4 e=>m2.extBut _ _ c2 (n2.extBut _ _ c4 (w1 c o c1 c2 c3 c4 e))
 have r2:p2.objs.size=s.heap.objs.size:=by rw [m2.1,n2.1];exact r1
 have d1_2:ItAt b1 p2 i1 l1 (k+1):=(d1_1.at fun o e=>n2.extBut _ _ D.i1_i2 e).at fun o e=>m2.extBut _ _ D.i1_TO e
 have d2_2:ItAt b2 p2 i2 l2 (k+1):=t2.at fun o e=>m2.extBut _ _ D.i2_TO e
 refine B0 (wpAny_letGo (L1 (L1 ?_)))
 refine B0 (B0a y2 rfl ?_);refine B0 (wpAny_newTuple ?_)
 have zl:z<p2.objs.size:=B5 z2
 show wpAny _ _ (Builtin.SmallTypes.ownedTupleHandOut (.ref z) (.ref p2.objs.size) >>= _) _ _ _;refine B0 ?_;unfold Builtin.SmallTypes.ownedTupleHandOut
 have za:IsZip (p2.push { cls:=.type "tuple",data:=.seq #[x1,x2] }) z TI TO .ellipsis:=B1 _ z2
 refine B0 (B0g za (by simp) fun pa zb ma=>?_)
 replace zb:IsZip pa z TI TO (rawInt p2.objs.size):=zb
 refine B0g zb (by simp) fun pb zc mb=>?_
 replace zc:IsZip pb z TI TO (rawInt p2.objs.size):=zc
 have up:∀ c o,c≠z->p2.get? c=some o->pb.get? c=some o:=fun c o c1 e=>mb.extBut _ _ c1 (ma.extBut _ _ c1 (B1 _ e))
 have tt:DQ pb p2.objs.size #[x1,x2]:=mb.extBut _ _ (D3 zl) (ma.extBut _ _ (D3 zl) (M6 _ rfl))
 rw [r2] at zc tt
 refine L1 ⟨_,rfl,?_⟩
 show Q (.ref p2.objs.size) _
 rw [r2]
 exact q pb zc (up _ _ D.TO_z y2) (d1_2.at fun o e=>up _ o D.i1_z e) (d2_2.at fun o e=>up _ o D.i2_z e) tt fun c o c1 c2 c3 c4 e=>up c o c1 (w2 c o c1 c2 c3 c4 e)
theorem ZJ {b1 b2:Bool}{z TI TO i1 i2 l1 l2:Addr}{k:Nat}{xs1 xs2:Array Value}{a1 a2:Value}{Q:Fin->Shared->Prop}(hh:A.handled=none)(D:ZAp2 z TI TO i1 i2 l1 l2)(hz:IsZip s.heap z TI TO .none)(hI:DQ s.heap TI #[.ref i1,.ref i2])(hO:DQ s.heap TO #[a1,a2])(d1:ItAt b1 s.heap i1 l1 k)(g1:SeqAt b1 s.heap l1 xs1)(d2:ItAt b2 s.heap i2 l2 k)(g2:SeqAt b2 s.heap l2 xs2)
 (e1:xs1[k]?=none) (q:∀ h' e,(∀ c o,c≠z->c≠TO->c≠i1->c≠i2->s.heap.get? c=some o->h'.get? c=some o)->(∃ o,h'.get? e=some o/\o.cls=.type "StopIteration")->E (.ref e) { s with heap:=h' }) :
 wpAny (model prog w) A (Builtin.«zip.__next__» ⟨[.ref z],[]⟩) Q E s:=by
 show wpAny _ _ (field (.ref z) 2 >>= _) _ _ _;refine B0 (U0 hz rfl (x:=.bool false) rfl ?_)
 show wpAny _ _ (field (.ref z) 3 >>= _) _ _ _;refine B0 (U0 hz rfl (x:=.ref TI) rfl ?_)
 refine B0 (B0a hI rfl ?_)
 show wpAny _ _ (Builtin.SmallTypes.ownedTupleIsFree (.ref z) >>= _) _ _ _;refine B0 ?_;unfold Builtin.SmallTypes.ownedTupleIsFree
 refine B0 (U0 hz rfl (x:=.none) rfl (L1 ?_));simp only [if_true];refine B0 (wpAny_rule ?_)
 refine B0 (U0 hz rfl (x:=.ref TO) rfl ?_);refine B0 (B0g hz (by simp) fun p0 z0 m0=>?_)
 replace z0:IsZip p0 z TI TO .ellipsis:=z0
 have y0:DQ p0 TO #[a1,a2]:=m0.extBut _ _ D.TO_z hO
 have w0:∀ c o,c≠z->c≠TO->c≠i1->c≠i2->s.heap.get? c=some o->p0.get? c=some o:=fun c o c1 _ _ _ e=>m0.extBut _ _ c1 e
 have r0:p0.objs.size=s.heap.objs.size:=m0.1
 have d1_0:ItAt b1 p0 i1 l1 k:=d1.at fun o e=>m0.extBut _ _ D.i1_z e
 have g1_0:SeqAt b1 p0 l1 xs1:=g1.at fun o e=>m0.extBut _ _ D.l1_z e
 have d2_0:ItAt b2 p0 i2 l2 k:=d2.at fun o e=>m0.extBut _ _ D.i2_z e
 have g2_0:SeqAt b2 p0 l2 xs2:=g2.at fun o e=>m0.extBut _ _ D.l2_z e
 refine B0 ?_;simp only [List.zipIdx_cons,List.zipIdx_nil,B1f,List.forIn_nil]
 refine B0 (B0 (wpAny_onRaise ?_));show wpAny _ _ (Builtin.SmallTypes.nextOf (.ref i1) >>= _) _ _ _
 refine B0 (J4a hh d1_0 g1_0 e1 fun u1 e n1 he=>?_)
 obtain ⟨oe,f1,f2⟩:=he
 have z1:IsZip u1 z TI TO .ellipsis:=n1 _ _ D.z_i1 z0
 have ez:e≠z:=fun x=>by subst x;rw [z1] at f1;cases f1;simp at f2
 refine B0g z1 (by simp) fun p1 _ m1=>q p1 e (fun c o c1 c2 c3 c4 x=>m1.extBut _ _ c1 (n1 _ _ c3 (w0 c o c1 c2 c3 c4 x))) ⟨oe,m1.extBut _ _ ez f1,f2⟩
end
section
variable {prog:Program}{w:World}{A:Around}{E:Value->Shared->Prop}{s:Shared}
def CY (b:Bool)(l:Addr):Obj:=match b with
 | false=>{ cls:=.type "list_iterator",data:=.fields #[.ref l,.int 0 0] }
 | true=>{ cls:=.type "tuple_iterator",data:=.fields #[.ref l,.int 0 0] }
theorem SO {b:Bool}{h:Heap}{u l:Addr}(e:h.get? u=some (CY b l)):ItAt b h u l 0:=by
 cases b with
 | false=>exact ⟨_,e,rfl,rfl⟩
 | true=>exact ⟨_,e,rfl,rfl⟩
theorem MT (b:Bool)(l:Addr):(CY b l).isFreed=false:=by cases b<;>rfl
theorem RO {b:Bool}{l:Addr}{xs:Array Value}{Q:Value->Shared->Prop}(a:SeqAt b s.heap l xs)(q:Q (.ref s.heap.objs.size) { s with heap:=s.heap.push (CY b l) }):wpAny (model prog w) A (pyIter (.ref l)) Q E s:=by
 cases b with
 | false=>exact B1d a q
 | true=>exact wpAny_pyIter_tuple a q
end
section
variable {prog:Program}{w:World}{A:Around}{E:Value->Shared->Prop}{s:Shared}
abbrev zH2 (b1 b2:Bool)(l1 l2:Addr)(s:Shared):Heap:=(((((s.heap.push (CY b1 l1)).push (CY b2 l2)).push { cls:=.type "tuple",data:=.seq #[.ref s.heap.objs.size,.ref (s.heap.objs.size+1)] }).push { cls:=.type "tuple",data:=.seq #[.none,.none] }).push { cls:=.type "zip",data:=.fields #[.none,.bool false,.bool false,.ref (s.heap.objs.size+2),.ref (s.heap.objs.size+3)] })
theorem UV (b1 b2:Bool)(l1 l2:Addr)(xs1 xs2:Array Value) :
 Meets (Builtin.«zip.__new__» ⟨[.type "zip",.ref l1,.ref l2],[]⟩) (fun _ R s=>SeqAt b1 s.heap l1 xs1/\SeqAt b2 s.heap l2 xs2/\R (.ok (.ret (.ref (s.heap.objs.size+4)))) { s with heap:=zH2 b1 b2 l1 l2 s }) :=
 .of_wp fun prog w A R s h=>by
  obtain ⟨hp,g,d,tk,os⟩:=s;obtain ⟨k1,k2,h⟩:=h
  have hs:=sub_zip
  have K1:SeqAt b1 (Shared.heap ⟨hp,g,d,tk,os⟩) l1 xs1:=k1.at fun o e=>e
  have K2:SeqAt b2 (Shared.heap ⟨(hp.push (CY b1 l1)),g,d,tk,os⟩) l2 xs2:=k2.at fun o e=>B1 _ (e)
  wp_walk using RO K1,RO K2
  simp only [W5] at *
  exact ⟨_,rfl,h⟩
theorem ZE {b1 b2:Bool}{l1 l2:Addr}{xs1 xs2:Array Value}{Q:Value->Shared->Prop}(k1:SeqAt b1 s.heap l1 xs1)(k2:SeqAt b2 s.heap l2 xs2)
 (q:∀ h',IsZip h' (s.heap.objs.size+4) (s.heap.objs.size+2) (s.heap.objs.size+3) .none->DQ h' (s.heap.objs.size+2) #[.ref s.heap.objs.size,.ref (s.heap.objs.size+1)]->DQ h' (s.heap.objs.size+3) #[.none,.none]->ItAt b1 h' (s.heap.objs.size) l1 0->ItAt b2 h' (s.heap.objs.size+1) l2 0->(∀ c o,s.heap.get? c=some o->h'.get? c=some o)->Q (.ref (s.heap.objs.size+4)) { s with heap:=h' }) :
 wpAny (model prog w) A (call (.type "zip") [.ref l1,.ref l2]) Q E s:=by
 refine callType_new F.called_zip (by decide) (F.typeCall_zip_2 _ _) (F.newCall_zip_2 _ _) (fun obj=>F.args_object_init_3 obj _ _) F.entry_zip_new (UV b1 b2 l1 l2 xs1 xs2) ⟨k1,k2,?_⟩
 have z1:(s.heap.push (CY b1 l1)).objs.size=s.heap.objs.size+1:=by exact W5 ..
 have z2:((s.heap.push (CY b1 l1)).push (CY b2 l2)).objs.size=s.heap.objs.size+2:=by rw [W5,z1]
 have z3:(((s.heap.push (CY b1 l1)).push (CY b2 l2)).push { cls:=.type "tuple",data:=.seq #[.ref s.heap.objs.size,.ref (s.heap.objs.size+1)] }).objs.size=s.heap.objs.size+3:=by rw [W5,z2]
 have z4:((((s.heap.push (CY b1 l1)).push (CY b2 l2)).push { cls:=.type "tuple",data:=.seq #[.ref s.heap.objs.size,.ref (s.heap.objs.size+1)] }).push { cls:=.type "tuple",data:=.seq #[.none,.none] }).objs.size=s.heap.objs.size+4:=by rw [W5,z3]
 have g0:(zH2 b1 b2 l1 l2 s).get? s.heap.objs.size=some _:=B1 _ (B1 _ (B1 _ (B1 _ (M6 _ (MT _ _)))))
 have g1:(zH2 b1 b2 l1 l2 s).get? (s.heap.push (CY b1 l1)).objs.size=some _:=B1 _ (B1 _ (B1 _ (M6 _ (MT _ _))))
 rw [z1] at g1
 have g2:(zH2 b1 b2 l1 l2 s).get? ((s.heap.push (CY b1 l1)).push (CY b2 l2)).objs.size=some _:=B1 _ (B1 _ (M6 _ rfl))
 rw [z2] at g2
 have g3:(zH2 b1 b2 l1 l2 s).get? (((s.heap.push (CY b1 l1)).push (CY b2 l2)).push { cls:=.type "tuple",data:=.seq #[.ref s.heap.objs.size,.ref (s.heap.objs.size+1)] }).objs.size=some _:=B1 _ (M6 _ rfl)
 rw [z3] at g3
 have g4:(zH2 b1 b2 l1 l2 s).get? ((((s.heap.push (CY b1 l1)).push (CY b2 l2)).push { cls:=.type "tuple",data:=.seq #[.ref s.heap.objs.size,.ref (s.heap.objs.size+1)] }).push { cls:=.type "tuple",data:=.seq #[.none,.none] }).objs.size=some _:=M6 _ rfl
 rw [z4] at g4
 exact ⟨⟨_,g4,rfl⟩,q _ g4 g2 g3 (SO g0) (SO g1) fun c o x=>B1 _ (B1 _ (B1 _ (B1 _ (B1 _ x))))⟩
end
def Q1m (K:Fg)(b1 b2:Bool)(l1 l2:Addr):It :=
 ⟨fun i H=>∃ ys1 ys2 y1 y2,SqX K b1 H l1 ys1/\ys1[i]?=some y1/\SqX K b2 H l2 ys2/\ys2[i]?=some y2,
  fun i H v H'=>∃ t y1 y2,v=.ref t/\H t=none/\H'=upd H t (.tup [y1,y2])/\(∀ ys,SqX K b1 H l1 ys->ys[i]?=some y1)/\(∀ ys,SqX K b2 H l2 ys->ys[i]?=some y2),
  fun i H=>(∃ ys,SqX K b1 H l1 ys/\ys.length<=i)/\(∃ ys,SqX K b2 H l2 ys)⟩
structure ZFp2 (z TI TO i1 i2:Addr):Prop where
 z_TI:z≠TI
 z_TO:z≠TO
 z_i1:z≠i1
 z_i2:z≠i2
 TI_z:TI≠z
 TI_TO:TI≠TO
 TI_i1:TI≠i1
 TI_i2:TI≠i2
 TO_z:TO≠z
 TO_TI:TO≠TI
 TO_i1:TO≠i1
 TO_i2:TO≠i2
 i1_z:i1≠z
 i1_TI:i1≠TI
 i1_TO:i1≠TO
 i1_i2:i1≠i2
 i2_z:i2≠z
 i2_TI:i2≠TI
 i2_TO:i2≠TO
 i2_i1:i2≠i1
def Q4w (b1 b2:Bool)(z TI TO i1 i2 l1 l2:Addr)(i:Nat)(h:Heap):Prop:=IsZip h z TI TO .none/\DQ h TI #[.ref i1,.ref i2]/\(∃ a1 a2,DQ h TO #[a1,a2])/\ItAt b1 h i1 l1 i/\ItAt b2 h i2 l2 i
theorem XV {w:World} {elts:List Expr}{c1}{tpos:Pos}{b1 b2:Bool}{z TI TO i1 i2 l1 l2:Addr}(Z:ZFp2 z TI TO i1 i2):Turn P w K (.Tuple elts c1 tpos) (Q1m K b1 b2 l1 l2) [z,TI,TO,i1,i2] z (Q4w b1 b2 z TI TO i1 i2 l1 l2) where
 mem:=by simp
 obj:=fun i h st b hb=>by
  obtain ⟨s1,s2,⟨a1,a2,s3⟩,d1,d2⟩:=st
  simp only [B4,B8,R3] at hb
  rcases hb with rfl|rfl|rfl|rfl|rfl
  · exact ⟨_,s1,fun v q=>by cases q⟩
  · exact ⟨_,s2,fun v q=>by cases q⟩
  · exact ⟨_,s3,fun v q=>by cases q⟩
  · exact d1.obj
  · exact d2.obj
 keep:=fun i h h' st k=>by
  obtain ⟨s1,s2,⟨a1,a2,s3⟩,d1,d2⟩:=st
  exact ⟨k z (by simp) _ s1,k TI (by simp) _ s2,⟨a1,a2,k TO (by simp) _ s3⟩,d1.at fun o e=>k i1 (by simp) o e,d2.at fun o e=>k i2 (by simp) o e⟩
 item:=by
  intro X hP hw hK hc i pins s σ H E I hf st hg
  subst hP hw hK
  obtain ⟨ys1,ys2,y1,y2,h1,q1,h2,q2⟩:=hg
  obtain ⟨s1,s2,⟨a1,a2,s3⟩,d1,d2⟩:=st
  obtain ⟨v1,r1,p1,_⟩:=I.seqX h1
  obtain ⟨u1,m1,t1⟩:=r1.get q1
  obtain ⟨v2,r2,p2,_⟩:=I.seqX h2
  obtain ⟨u2,m2,t2⟩:=r2.get q2
  have D:ZAp2 z TI TO i1 i2 l1 l2:={ z_TI:=Z.z_TI,z_TO:=Z.z_TO,z_i1:=Z.z_i1,z_i2:=Z.z_i2,TI_z:=Z.TI_z,TI_TO:=Z.TI_TO,TI_i1:=Z.TI_i1,TI_i2:=Z.TI_i2,TO_z:=Z.TO_z,TO_TI:=Z.TO_TI,TO_i1:=Z.TO_i1,TO_i2:=Z.TO_i2,i1_z:=Z.i1_z,i1_TI:=Z.i1_TI,i1_TO:=Z.i1_TO,i1_i2:=Z.i1_i2,i2_z:=Z.i2_z,i2_TI:=Z.i2_TI,i2_TO:=Z.i2_TO,i2_i1:=Z.i2_i1,l1_z:=I.seqX_ne h1 (hf z (by simp)),l1_TI:=I.seqX_ne h1 (hf TI (by simp)),l1_TO:=I.seqX_ne h1 (hf TO (by simp)),l1_i1:=I.seqX_ne h1 (hf i1 (by simp)),l1_i2:=I.seqX_ne h1 (hf i2 (by simp)),l2_z:=I.seqX_ne h2 (hf z (by simp)),l2_TI:=I.seqX_ne h2 (hf TI (by simp)),l2_TO:=I.seqX_ne h2 (hf TO (by simp)),l2_i1:=I.seqX_ne h2 (hf i1 (by simp)),l2_i2:=I.seqX_ne h2 (hf i2 (by simp)) }
  have hT:s.TypeIs (.ref z) "zip":=⟨_,s1,rfl⟩
  have szn:∀ b∈[z,TI,TO,i1,i2],b≠s.heap.objs.size:=fun b hb e=>by
   simp only [B4,B8,R3] at hb
   rcases hb with rfl|rfl|rfl|rfl|rfl
   · exact L9 _ (e▸B5 s1)
   · exact L9 _ (e▸B5 s2)
   · exact L9 _ (e▸B5 s3)
   · obtain ⟨_,w1,_⟩:=d1.obj;exact L9 _ (e▸B5 w1)
   · obtain ⟨_,w1,_⟩:=d2.obj;exact L9 _ (e▸B5 w1)
  unfold pyNext
  refine B0 (wpAny_attempt (wpAny_callSpecial?_slot (name:=Str.ofString "__next__") hT F.slot_zip_next (B0o F.slot_zip_next hT F.entry_zip_next (XS D s1 s2 s3 d1 p1 d2 p2 (x1:=u1) (by simpa using m1) (x2:=u2) (by simpa using m2) fun h' e1 e2 f1 f2 e3 kp=>L1 ?_) (F.args_zip_next_1 _))))
  refine ⟨_,rfl,wpAny_letOwnedTupleGo_zip (s:={ s with heap:=h' }) e1 fun hq e4 sb=>?_⟩
  have up:∀ b o,b≠z->h'.get? b=some o->hq.get? b=some o:=fun b o hb e=>sb.extBut _ _ hb e
  have I2:Inv X pins σ (upd H s.heap.objs.size (.tup [y1,y2])) { s with heap:=hq }:=I.zipped (t':=s.toks) (fp:=[z,TI,TO,i1,i2]) hf (fun b o hb e=>up b o (fun x=>hb (by simp [x])) (kp b o (fun x=>hb (by simp [x])) (fun x=>hb (by simp [x])) (fun x=>hb (by simp [x])) (fun x=>hb (by simp [x])) e)) (B9 _)
   ⟨M7 (M1 rfl) BP,[u1,u2],.cons t1 (.cons t2 (.nil)),⟨_,up _ _ (B0f (szn z (by simp))) e3,rfl,_,rfl⟩⟩
  refine ⟨.ref s.heap.objs.size,_,I2,rfl,⟨_,y1,y2,rfl,I.hok.fresh (B9 _),rfl,fun ys hy=>by rw [I.seqX_inj hy h1];exact q1,fun ys hy=>by rw [I.seqX_inj hy h2];exact q2⟩,⟨e4,up _ _ D.TI_z (kp _ _ D.TI_z D.TI_TO D.TI_i1 D.TI_i2 s2),⟨_,_,up _ _ D.TO_z e2⟩,f1.at fun o e=>up _ o D.i1_z e,f2.at fun o e=>up _ o D.i2_z e⟩,fun b hb=>?_⟩
  rw [V7 (szn b hb)]
  exact (hf b hb).1
 done:=by
  intro X hP hw hK hc i pins s σ H E I hf st hg
  subst hP hw hK
  obtain ⟨⟨ys1,h1,q1⟩,⟨ys2,h2⟩⟩:=hg
  obtain ⟨s1,s2,⟨a1,a2,s3⟩,d1,d2⟩:=st
  obtain ⟨v1,r1,p1,_⟩:=I.seqX h1
  obtain ⟨v2,r2,p2,_⟩:=I.seqX h2
  have D:ZAp2 z TI TO i1 i2 l1 l2:={ z_TI:=Z.z_TI,z_TO:=Z.z_TO,z_i1:=Z.z_i1,z_i2:=Z.z_i2,TI_z:=Z.TI_z,TI_TO:=Z.TI_TO,TI_i1:=Z.TI_i1,TI_i2:=Z.TI_i2,TO_z:=Z.TO_z,TO_TI:=Z.TO_TI,TO_i1:=Z.TO_i1,TO_i2:=Z.TO_i2,i1_z:=Z.i1_z,i1_TI:=Z.i1_TI,i1_TO:=Z.i1_TO,i1_i2:=Z.i1_i2,i2_z:=Z.i2_z,i2_TI:=Z.i2_TI,i2_TO:=Z.i2_TO,i2_i1:=Z.i2_i1,l1_z:=I.seqX_ne h1 (hf z (by simp)),l1_TI:=I.seqX_ne h1 (hf TI (by simp)),l1_TO:=I.seqX_ne h1 (hf TO (by simp)),l1_i1:=I.seqX_ne h1 (hf i1 (by simp)),l1_i2:=I.seqX_ne h1 (hf i2 (by simp)),l2_z:=I.seqX_ne h2 (hf z (by simp)),l2_TI:=I.seqX_ne h2 (hf TI (by simp)),l2_TO:=I.seqX_ne h2 (hf TO (by simp)),l2_i1:=I.seqX_ne h2 (hf i1 (by simp)),l2_i2:=I.seqX_ne h2 (hf i2 (by simp)) }
  have hT:s.TypeIs (.ref z) "zip":=⟨_,s1,rfl⟩
  have hl:=r1.length
  unfold pyNext
  refine B0 (wpAny_attempt (wpAny_callSpecial?_slot (name:=Str.ofString "__next__") hT F.slot_zip_next (B0o F.slot_zip_next hT F.entry_zip_next (ZJ (I.ok.hd hc) D s1 s2 s3 d1 p1 d2 p2 (by simp;omega) fun h' e kp he=>?_) (F.args_zip_next_1 _))))
  obtain ⟨oe,f1,f2⟩:=he
  refine B0 (wpAny_isInstance (T:="StopIteration") (b:=true) ⟨oe,f1,f2⟩ isSubtype_stop (L1 ⟨rfl,?_⟩))
  exact I.turnedL (t':=s.toks) (fp:=[z,TI,TO,i1,i2]) hf fun b o hb e=>kp b o (fun x=>hb (by simp [x])) (fun x=>hb (by simp [x])) (fun x=>hb (by simp [x])) (fun x=>hb (by simp [x])) e
 self:=fun _ _ _ _ _ st h=>wpAny_pyIter_zip st.1 h
def J1s (K:Fg)(b1 b2:Bool)(ta:TA):TI:=fun σ H R=>ta σ H fun vs H1=>∃ l1 l2,vs=[.ref l1,.ref l2]/\(∃ ys,SqX K b1 H1 l1 ys)/\(∃ ys,SqX K b2 H1 l2 ys)/\R (Q1m K b1 b2 l1 l2) H1
theorem WC {X:Cx}{elts:List Expr}{c1}{tpos:Pos}(K:Fg)(hK:X.K=K)(b1 b2:Bool){e1 e2:Expr}{ta:TA}{p pos:Pos}(hg:Gl X "zip") (hm:X.mg "zip" = none) (ha:PA X [e1,e2] ta)
 (hs:starEach [e1,e2] X.env=[(false,eval e1 X.env),(false,eval e2 X.env)]:=by rfl) (hs2:starEach [e2] X.env=[(false,eval e2 X.env)]:=by rfl) :
 PI X (.Tuple elts c1 tpos) (.Call (.Name "zip" p) [e1,e2] [] pos) (J1s K b1 b2 ta):=by
 subst hK
 intro pins s σ H R I h
 refine Call_ (KB I hg hm Q1a (D0 (thn (ha pos pins s σ H _ I h) fun us s1 ⟨vs,H1,I1,r1,q1⟩=>?_) (by rw [hs,hs2]) (by rw [hs2];rfl)))
 obtain ⟨l1,l2,e,⟨ys1,h1⟩,⟨ys2,h2⟩,q⟩:=q1
 subst e
 obtain ⟨u1,u2,rfl,t1,t2⟩:=KI r1
 cases t1
 cases t2
 obtain ⟨v1,r1,p1,_⟩:=I1.seqX h1
 obtain ⟨v2,r2,p2,_⟩:=I1.seqX h2
 refine ZE p1 p2 fun h' f1 f2 f3 g1 g2 kp=>?_
 refine wpAny_pyIter_zip (s:={ s1 with heap:=h' }) f1 ?_
 refine ⟨s1.heap.objs.size+4,[s1.heap.objs.size+4,s1.heap.objs.size+2,s1.heap.objs.size+3,s1.heap.objs.size,s1.heap.objs.size+1],_,_,H1,rfl,I1.kept (t':=s1.toks) kp,XV (b1:=b1) (TI:=s1.heap.objs.size+2) (TO:=s1.heap.objs.size+3) (i1:=s1.heap.objs.size) (i2:=s1.heap.objs.size+1) (l1:=l1) (l2:=l2) ⟨by show (_:Nat)≠_;omega,by show (_:Nat)≠_;omega,by show (_:Nat)≠_;omega,by show (_:Nat)≠_;omega,by show (_:Nat)≠_;omega,by show (_:Nat)≠_;omega,by show (_:Nat)≠_;omega,by show (_:Nat)≠_;omega,by show (_:Nat)≠_;omega,by show (_:Nat)≠_;omega,by show (_:Nat)≠_;omega,by show (_:Nat)≠_;omega,by show (_:Nat)≠_;omega,by show (_:Nat)≠_;omega,by show (_:Nat)≠_;omega,by show (_:Nat)≠_;omega,by show (_:Nat)≠_;omega,by show (_:Nat)≠_;omega,by show (_:Nat)≠_;omega,by show (_:Nat)≠_;omega⟩,⟨f1,f2,⟨_,_,f3⟩,g1,g2⟩,fun b hb=>?_,q⟩
 have hge:s1.heap.objs.size<=b:=by
  simp only [B4,B8,R3] at hb
  rcases hb with rfl|rfl|rfl|rfl|rfl<;>first|exact B9 _|exact Nat.le_add_right _ _
 exact I1.fpOk hge (I1.hok.fresh hge)
section
variable {X:Cx}
theorem J0q {x:Str}{n:Int}{pos:Pos}(hg:Gl X x)(hm:∃ t,X.mg x=some (.int n t))(hd:(x==("__debug__" : Str))=false:=by decide):PE X (.Name x pos) (tC (.int n)):=by
 obtain ⟨t,e⟩:=hm
 exact J4n hg e ⟨t,rfl⟩ hd
theorem WH:∀ cs:List (Int×Nat×Pos),PA X (cs.map fun c=>.Constant (.int c.1) c.2.1 c.2.2) (fun σ H Q=>Q (cs.map fun c=>V.int c.1) H)
 | []=>EG
 | c::cs=>by
   intro pos pins s σ H Q I h
   exact BU (e:=.Constant (.int c.1) c.2.1 c.2.2) Z6 (WH cs) (by rfl) pos pins s σ H Q I h
theorem UM {es:List Expr}{x1}{pos:Pos}(cs:List (Int×Nat×Pos))(h:es=cs.map fun c=>.Constant (.int c.1) c.2.1 c.2.2):PE X (.Tuple es x1 pos) (Q1r fun σ H Q=>Q (cs.map fun c=>V.int c.1) H):=by
 subst h
 exact UN (WH cs)
theorem J0h {sts0:List Stmt}{t:TS}(h:PSs X sts0 t):∀ {sts:List Stmt},PSs X sts (fun D σ H=>sts=sts0/\t D σ H):=by
 intro sts pins s σ H D I q
 obtain ⟨e,q⟩:=q
 subst e
 exact h pins s σ H D I q
end
theorem XZ {X:Cx}(K:Fg)(h:X.K=K):SlR X (J0e K):=by subst h;exact J4d
section
variable {X:Cx}{x:Str}{C:Addr}{bm bmN:List Value}{newId Bn inN B nid initId:String}{e0:Expr}{rest:List Expr}{t:TA}{np cpos pos:Pos}
theorem J0i (O:OwnCls x C bm newId X.mg X.base)(Fn:ExcBaseFacts Bn newId inN bmN)(hBn:bm.contains (.type Bn)=true)(FB:ExcBaseFacts B nid initId bm)(hc:X.calm=true)(hg:Gl X x)(E:XK)
 (hx:∀ (pins:List (Addr×Obj)) (σ:St) (H:Hp) (s:Shared) (h':Heap) (e:Addr) (us:List Value),Inv X pins σ H s->Heap.MadeExcOf s.heap h' e (.ref C) us->E (.ref C) none H->X.xe (.ref e) { s with heap:=h' })
 (ha:PA X (e0::rest) t) (hz:∀ σ H Q,t σ H Q->t σ H fun vs H1=>vs.length<=sizeLine/\Q vs H1)
 (he:starEach (e0::rest) X.env=(false,eval e0 X.env)::starEach rest X.env:=by rfl) (hpl:(backTo cpos (starEach rest X.env)).any (·.1)=false:=by rfl) (hd:(x==("__debug__" : Str))=false:=by decide) :
 PS X (.Raise (some (.Call (.Name x np) (e0::rest) [] cpos)) none pos) (fun _ σ H=>t σ H fun _ H1=>E (.ref C) none H1):=by
 intro pins s σ H D I q
 obtain ⟨tl,N,nm,qn,bs,hdct,sn,sub,ab,col,dd,k0,k1,k2,k3,k5,mN,hC,hN,hni,T⟩:=O.obj
 refine wpAny_Raise_call_subU (C:=C) (nm:=nm) (q:=qn) (N:=N) (bs:=bs) (bm:=tl) (hdct:=hdct) (sn:=sn) (sub:=sub) (ab:=ab) (col:=col) (dd:=dd) (k0:=k0) (k1:=k1) (k2:=k2) (k3:=k3) (k5:=k5)
  Fn hBn FB (mN:=mN) (T.hasType FB.hasBase) (I.ok.hd hc) (by rw [he];show (false||(backTo cpos (starEach rest X.env)).any (·.1))=false;rw [hpl];rfl) hni (LK I hg O.bound ⟨rfl,?_⟩ hd)
 have h1:=ha cpos pins s σ H _ I (hz _ _ _ q)
 rw [he] at h1 ⊢
 refine Calls.evalArgs_plain (T6 h1 (fun us s2 ⟨vs,H1,I1,r,z,w⟩=>⟨rfl,by rw [<- r.length];exact z,I1.bk _ _ hC,hN.keeps I1.bk,T.keeps I1.bk,fun h' e hm=>hx pins σ H1 s2 h' e us I1 hm w⟩) fun _ _ y=>y)
end
section
variable {M:Model}{A:Around}{E:Value->Shared->Prop}{s:Shared}
structure Gone (fs:List Addr)(x:Addr)(ox:Obj)(old:List Addr)(h h':Heap)(T:Addr):Prop where
 keep:∀ b o,b∉fs->b≠x->b∉old->h.get? b=some o->h'.get? b=some o
 slot:∀ b o,b∈fs->h.get? b=some o->∃ sl,h'.get? b=some { o with slots:=sl }
 new:h.objs.size<=T
 exc:h'.get? x=some (ox.mapFields (·.setIfInBounds 1 (.ref T)))
 tr:∃ oT ts,h'.get? T=some oT/\oT.data=.fields ts/\ts[3]?=some .none
theorem VB {env:Env}{outer:List Env}{L x:Addr}{ox:Obj}{vs:Array Value}{hd:Value}{nx:Bool}{Q:Unit->Shared->Prop}(f1:A.frames=some (env::outer))(f2:s.heap.FunFrames base (env::outer))(f3:env.frame=some L)
 (x1:s.heap.get? x=some ox) (x2:ox.data=.fields vs) (x3:1<vs.size) (q:∀ h' T,Gone ((env::outer).filterMap (·.frame)) x ox [] s.heap h' T->Q () { s with heap:=h' }) :
 wpAny M A (do let a <- frameOf env;let pl <- entryPlaceOf L nx;let b <- EntryCells.newEntry hd a .none (rawInt L) .none pl;setField (.ref x) 1 b) (fun _ s'=>wpAny M A (setFlight (.ref x) none) Q E s') E s:=by
 have xf:x∉(env::outer).filterMap (·.frame):=fun hm=>by
  obtain ⟨_,o,e1,e2⟩:=f2.mem hm
  rw [x1] at e1
  cases e1
  exact e2 vs x2
 refine B0 (wpAny_frameOf_fun f1 f2 f3 fun g1 m1=>B0 (wpAny_entryPlaceOf fun pl hpl=>?_))
 unfold EntryCells.newEntry newFields
 refine B0 (U3 ?_ (hpl.sizeOk5 _ _ _ _ _))
 generalize hob:({ cls:=.type "traceback",dict:=none,data:=.fields ([hd,.ref L,.none,rawInt L,.none]++(if pl.isEmpty then List.replicate 6 Value.none else pl)).toArray }:Obj)=ob
 have dob:ob.data=.fields ([hd,.ref L,.none,rawInt L,.none]++(if pl.isEmpty then List.replicate 6 Value.none else pl)).toArray:=by rw [<- hob]
 have lob:ob.isFreed=false:=B0l dob
 have xg1:g1.get? x=some ox:=(m1.2.1 x xf).trans x1
 have xg2:=B1 (h:=g1) ob xg1
 refine wpAny_setField xg2 x2 x3 ?_
 have nTx:g1.objs.size≠x:=D3 (B5 xg1)
 have dx:=B0i x2 (·.setIfInBounds 1 (Value.ref g1.objs.size))
 have xg3:=D5 (Obj.mapFields (·.setIfInBounds 1 (Value.ref g1.objs.size))) xg2 (B0l dx)
 have tg3:=(U2 (g1.push ob) (Obj.mapFields (·.setIfInBounds 1 (Value.ref g1.objs.size))) (B0f nTx)).trans (M6 g1 lob)
 unfold setFlight
 refine B0 (U0 xg3 dx (x:=.ref g1.objs.size) (by simp [x3]) ?_)
 rw [if_pos (show (Value.ref g1.objs.size != Value.none)=true from by simp)]
 refine wpAny_setField tg3 dob (by simp only [L3,U4,U5,List.length_nil]<;>omega) (q _ g1.objs.size ⟨?_,?_,?_,?_,?_⟩)
 · intro b o nf nx' _ e
   have e1:g1.get? b=some o:=(m1.2.1 b nf).trans e
   rw [U2 _ _ (D3 (B5 e1)),U2 _ _ (B0f nx')]
   exact B1 _ e1
 · intro b o hb e
   obtain ⟨sl,e1⟩:=m1.2.2 b o e
   refine ⟨sl,?_⟩
   have nbx:b≠x:=fun z=>xf (z▸hb)
   rw [U2 _ _ (D3 (B5 e1)),U2 _ _ (B0f nbx)]
   exact B1 _ e1
 · rw [m1.1]
   exact B9 _
 · rw [U2 _ _ nTx]
   exact xg3
 · refine ⟨_,_,D5 _ tg3 (B0l (B0i dob _)),B0i dob _,?_⟩
   first|(simp;done)|(rcases hpl with rfl|⟨_,_,_,_,_,_,_,rfl⟩<;>simp)
theorem SH {env:Env}{outer:List Env}{L x:Addr}{ox:Obj}{vs:Array Value}{Q:Unit->Shared->Prop}(f1:A.frames=some (env::outer))(f2:s.heap.FunFrames base (env::outer))(f3:env.frame=some L)
 (x1:s.heap.get? x=some ox) (x2:ox.data=.fields vs) (x3:vs[1]?=some .none) (q:∀ h' T,Gone ((env::outer).filterMap (·.frame)) x ox [] s.heap h' T->Q () { s with heap:=h' }):wpAny M A (leaving env (.ref x)) Q E s:=by
 unfold leaving noteFrame;simp only [f3]
 refine B0 (B0 (U0 x1 x2 x3 ?_));rw [if_neg (by decide)]
 exact VB f1 f2 f3 x1 x2 (Array.getElem?_eq_some_iff.mp x3).1 q
end
theorem ObjOk.ex {w:World}{H:Hp}{h:Heap}{a:Addr}{o:HO}(x:ObjOk P w H h a o):∃ ob,h.get? a=some ob:=by
 cases o with
 | lst xs=>obtain ⟨_,_,_,_,e⟩:=x;exact ⟨_,e⟩
 | tup xs=>obtain ⟨_,_,_,ob,e,_⟩:=x;exact ⟨_,e⟩
 | dK kvs=>obtain ⟨_,_,_,_,o,_,_,e,_⟩:=x;exact ⟨_,e⟩
 | dT kvs=>obtain ⟨_,_,_,_,o,_,_,e,_⟩:=x;exact ⟨_,e⟩
 | set S n=>obtain ⟨o,_,_,_,e,_⟩:=x;exact ⟨_,e⟩
 | ins C dx fs=>obtain ⟨_,_,_,e,_⟩:=x;exact ⟨_,e⟩
 | own y=>exact x
 | xd fs=>obtain ⟨_,⟨_,_,_,e,_⟩,_⟩:=x;exact ⟨_,e⟩
 | rng lo hi=>obtain ⟨_,_,_,e⟩:=x;exact ⟨_,e⟩
 | frz ob u=>obtain ⟨e,_⟩:=x;exact ⟨_,e⟩
 | tbl ps=>exact ⟨_,(show h.get? a=some _ from x)⟩
 | cod q=>obtain ⟨_,e,_⟩:=x;exact ⟨_,e⟩
 | met f y=>exact ⟨_,(show h.get? a=some _ from x)⟩
 | ext φ=>obtain ⟨_,e,_⟩:=x;exact e
def Exd (H:Hp)(base g h:Heap)(x C:Addr):Prop:=H x=none/\base.get? x=none/\g.get? x=none/\∃ ox vs T oT ts,h.get? x=some ox/\ox.cls=.ref C/\ox.dict=none/\ox.data=.fields vs/\vs[1]?=some (.ref T)/\vs[2]?=some .none /\
 T≠x/\H T=none/\base.get? T=none/\g.get? T=none/\h.get? T=some oT/\oT.data=.fields ts/\ts[3]?=some .none
def CX1 (P:Program)(w:World)(base:Heap):CXT:=fun outer H s E e s'=>∃ (x C:Addr) (H':Hp),e=.ref x/\s'.os=s.os/\AllBare s'.gens/\Un (frs outer) [] H H' s.heap s'.heap/\HOk P w H' s'.heap/\Exd H' base s.heap s'.heap x C/\E (.ref C) none H'
theorem ZL {P:Program}{w:World}{K:Fg}{mg:Str->Option Value}{base:Heap}{N:List Str}{qual:Str}{scope:Scope}{f:Addr}{cd:Value}{A:Around}{outer:List Env}{s:Shared}{H:Hp}{E:XK}{C:Addr}
 (pins:List (Addr×Obj)) (σ:St) (H1:Hp) (s1:Shared) (h':Heap) (e:Addr) (us:List Value) (I:Inv (DR (CX1 P w base) P w K mg base N qual scope f cd A outer s H E) pins σ H1 s1) (hm:Heap.MadeExcOf s1.heap h' e (.ref C) us) (q:E (.ref C) none H1) :
 (DR (CX1 P w base) P w K mg base N qual scope f cd A outer s H E).xe (.ref e) { s1 with heap:=h' }:=by
 obtain ⟨t,e1,e2,e3⟩:=hm.there
 have nH:∀ b,s1.heap.get? b=none->H1 b=none:=fun b hb=>by
  cases z:H1 b with
  | none=>rfl
  | some o =>
    obtain ⟨ob,eo⟩:∃ ob,s1.heap.get? b=some ob:=(I.hok b o z).ex
    rw [hb] at eo
    cases eo
 have hst:s1.heap.FunFrames base (envOfC qual scope s.heap.objs.size f cd::outer):=I.stack
 have hfree:∀ b∈frs (envOfC qual scope s.heap.objs.size f cd::outer),H1 b=none:=I.stkFree
 show wpAny (model P w) (A.deeper (envOfC qual scope s.heap.objs.size f cd)) (leaving (envOfC qual scope s.heap.objs.size f cd) (.ref e)) _ _ { s1 with heap:=h' }
 refine SH (s:={ s1 with heap:=h' }) (base:=base) I.ok.frames (hst.of_keeps fun b o eb _=>⟨o,hm.keeps b o eb,rfl⟩) rfl e1 rfl rfl fun h2 T g=>?_
 have lt1:∀ b o,s1.heap.get? b=some o->b<h'.objs.size:=fun b o eb=>B5 (hm.keeps b o eb)
 have neE:∀ b o,s1.heap.get? b=some o->b≠e:=fun b o eb z=>by rw [z,hm.new] at eb;cases eb
 have kp:∀ b o,b∉frs (envOfC qual scope s.heap.objs.size f cd::outer)->s1.heap.get? b=some o->h2.get? b=some o:=fun b o nf eb=>g.keep b o nf (neE b o eb) (by simp) (hm.keeps b o eb)
 have sl:∀ b o,b∈frs (envOfC qual scope s.heap.objs.size f cd::outer)->s1.heap.get? b=some o->∃ z,h2.get? b=some { o with slots:=z }:=fun b o hb eb=>g.slot b o hb (hm.keeps b o eb)
 have nTo:∀ b o,s1.heap.get? b=some o->b≠T:=fun b o eb z=>by
  have h1:=lt1 b o eb
  rw [z] at h1
  exact absurd (L7 h1 g.new) (L9 _)
 have baseK:∀ b o,base.get? b=some o->s1.heap.get? b=some o:=I.bk
 have nf:∀ b o,s.heap.get? b=some o->b∉frs outer->b∉frs (envOfC qual scope s.heap.objs.size f cd::outer):=fun b o eb nb hb=>by
  rcases B4.mp (show b∈s.heap.objs.size::frs outer from hb) with z|z
  · exact absurd (B5 eb) (by rw [z];exact L9 _)
  · exact nb z
 have tH:H1 T=none:=by
  cases z:H1 T with
  | none=>rfl
  | some o =>
    obtain ⟨ob,eo⟩:=(I.hok T o z).ex
    exact absurd rfl (nTo T ob eo)
 have U:Un (frs outer) [] H H1 s.heap s1.heap:=I.base
 refine ⟨e,C,H1,rfl,I.os,I.bare,⟨fun b o eb n hb hx=>kp b o (nf b o eb hb) (U.keep b o eb n hb hx),fun b o eb n hb hx=>?_,U.free,fun b o eb hx=>?_,U.tups,U.frzs,U.tbls⟩,fun b o eb=>?_,⟨nH e hm.new,?_,?_,?_⟩,q⟩
 · obtain ⟨z,e4⟩:=U.slot b o eb n hb hx
   obtain ⟨z',e5⟩:=sl b _ (T5 _ hb) e4
   exact ⟨z',e5⟩
 · obtain ⟨o',e4⟩:=U.there b o eb hx
   by_cases hb:b∈frs (envOfC qual scope s.heap.objs.size f cd::outer)
   · obtain ⟨z,e5⟩:=sl b o' hb e4
     exact ⟨_,e5⟩
   · exact ⟨o',kp b o' hb e4⟩
 · refine (I.hok b o eb).stay (fun c v hc ev=>kp c v (fun hb=>?_) ev) (fun _ z=>z) fun _ _ z=>z
   have:=hfree c hb
   rcases hc with z|z
   · rw [z,eb] at this
     cases this
   · rw [z] at this
     cases this
 · cases z:base.get? e with
   | none=>rfl
   | some o=>exact absurd rfl (neE e o (baseK e o z))
 · cases z:s.heap.get? e with
   | none=>rfl
   | some o =>
     obtain ⟨o',e4⟩:=U.there e o z (by simp)
     exact absurd rfl (neE e o' e4)
 · obtain ⟨oT,ts,g1,g2,g3⟩:=g.tr
   refine ⟨_,_,T,oT,ts,g.exc,rfl,rfl,rfl,rfl,rfl,?_,tH,?_,?_,g1,g2,g3⟩
   · intro z
     have:=B5 e1
     rw [<- z] at this
     exact absurd (L7 this g.new) (L9 _)
   · cases z:base.get? T with
     | none=>rfl
     | some o=>exact absurd rfl (nTo T o (baseK T o z))
   · cases z:s.heap.get? T with
     | none=>rfl
     | some o =>
       obtain ⟨o',e4⟩:=U.there T o z (by simp)
       exact absurd rfl (nTo T o' e4)
theorem Fun.okX {P:Program}{w:World} {mg:Str->Option Value}{base:Heap}{CX:CXT}{x qual:Str}{st:Stmt}{f:Addr} {N ps:List Str}{k:Nat}{sp:Sp}(F:Fun K x qual st f fd)(S:FnScope N ps (J5 st))(len:∀ vs H Q E,sp vs H Q E->vs.length=ps.length)
 (hbody:∀ (cdv:Value) (A:Around) (outer:List Env) (s:Shared) (H:Hp) (vs:List V) (Q:VK) (E:XK),Room k (A.deeper (envOfC qual (J5 st) s.heap.objs.size f cdv))->sp vs H Q E ->
  ∃ t,PSs (DR CX P w K mg base N qual (J5 st) f cdv A outer s H E) (CP st) t/\t { nx:=fun _ H'=>Q .non H',rt:=Q } (EO N vs) H):FnOk P w K mg base CX (k+1) f fd ps sp:=by
 obtain ⟨oc,od,kV,doc,pm,an,cdv,ct,osl,rfl,lk,hcd⟩:=F.ex
 exact J7b lk hcd S len fun A outer s H vs Q E hr hsp=>hbody cdv A outer s H vs Q E hr hsp
theorem J4l {X:Cx}{CX:CXT}{k:Nat}{ps:List Str}{sp:Sp}{E:XK}{x:Str}{p pos:Pos}{e:Expr}{es:List Expr}{t:TA}(hp:HK CX X E)(G:Callee X.prog X.w X.K X.mg X.base CX x k ps sp)(hr:Room k X.A)(hg:Gl X x)(ha:PA X (e::es) t)
 (hdb:(x==("__debug__" : Str))=false:=by decide) (he:starEach (e::es) X.env=(false,eval e X.env)::starEach es X.env:=by rfl) (hpl:(backTo pos (starEach es X.env)).any (·.1)=false:=by rfl):PE X (.Call (.Name x p) (e::es) [] pos) (NW sp [] E t):=by
 obtain ⟨f,fd,F,hm,hk,hb⟩:=G.ex
 exact WG F hr hg hm hk hb .nil hp ha hdb he hpl
def ExcO (x C:Addr):HO:=.ext fun h=>∃ (ox:Obj) (vs:Array Value),h.get? x=some ox/\ox.cls=.ref C/\ox.dict=none/\ox.data=.fields vs/\vs[2]?=some .none
theorem ExcO.ok {w:World}{H:Hp}{h:Heap}{x C:Addr}{ox:Obj}{vs:Array Value}(e:h.get? x=some ox)(c:ox.cls=.ref C)(d:ox.dict=none)(f:ox.data=.fields vs)(v:vs[2]?=some .none):ObjOk P w H h x (ExcO x C) :=
 ⟨⟨ox,vs,e,c,d,f,v⟩,⟨ox,e⟩,fun h1 h2 ⟨ox',vs',e',c',d',f',v'⟩ k=>⟨ox',vs',k _ e',c',d',f',v'⟩⟩
structure XCls (K:Fg)(D:Addr):Prop where
 get:PySem.W.findIn K (.ref D) "__getattribute__" = some (some (.builtin "BaseException.__getattribute__"))
 hook:PySem.W.findIn K (.ref D) "__getattr__" = some none
 fnd:PySem.W.findObj K D none "__class__" = some (.bind (.builtin "getset_descriptor.__get__") (.builtin "object.__class__"))
 mro:PySem.W.mroIn K D (.type "object")=some true
 cls:(PySem.W.clsIn K D).isSome=true
 exc:PySem.W.subIn K (.ref D) (.type "BaseException")=some true
structure XBase (K:Fg)(B:Addr):Prop where
 cls:(PySem.W.clsIn K B).isSome=true
 typ:PySem.W.typeIn K (.ref B)=some (.type "type")
 exc:PySem.W.subIn K (.ref B) (.type "BaseException")=some true
abbrev bmV:List Value:=[.type "ValueError",.type "Exception",.type "BaseException",.type "object"]
theorem Q2i {x:Str}{C:Addr}{bmB:List Value}{newId:String}(X:K.In base)(G:base.Ns mainGlobals mg)(e:PySem.W.nsIn K mainGlobals x=some (some (.ref C)))(q:PySem.W.excIn K C bmB newId=true):OwnCls x C bmB newId mg base:=by
 refine ⟨B3 X G e,?_⟩
 unfold PySem.W.excIn at q
 split at q
 · rename_i dd cd sl ho
   split at q
   · rename_i C' bm k0 k1 k2 k3 n k5 hm hs
     simp only [L5,B0e,Bool.not_eq_true'] at q;obtain ⟨⟨⟨⟨⟨rfl,rfl⟩,hdel⟩,ht⟩,hok⟩,hni⟩:=q
     obtain ⟨nm,bs,mro,ns,qn,hd,sn,sub,ab,col,del⟩:=cd
     dsimp only at hm hdel hok hni;subst hm hdel
     have hsl:sl=#[k0,k1,k2,k3,some (.builtin n),k5]:=by
      obtain ⟨l⟩:=sl
      simp only at hs;rw [hs]
     subst hsl
     refine ⟨bm,ns,nm,qn,bs,hd,sn,sub,ab,col,dd,k0,k1,k2,k3,k5,_,X _ _ ho,.of_isNs (PySem.W.isNs_of_in X hok),PySem.W.nsMap_none_of_in X hok hni,PySem.W.tail_of_in X ht⟩
   · cases q
 · cases q
theorem J8t {w:World} {X:Cx}:HK (CX1 P w base) X E0:=fun _ _ _ _ _ _ _ h=>by
 obtain ⟨_,_,_,_,_,_,_,_,_,q⟩:=h
 exact q.elim
theorem YD {P:Program}{w:World}{K:Fg} {N:List Str}{qual:Str}{scope:Scope}{f:Addr}{cd:Value}{A:Around}{outer:List Env}{s:Shared}{H:Hp}{E:XK}{x m:Str}{C:Addr}{j}{mp np cpos pos:Pos}(O:OwnCls x C bmV "ValueError.__new__" mg base)
 (hg:Gl (DR (CX1 P w base) P w K mg base N qual scope f cd A outer s H E) x) (hd:(x==("__debug__" : Str))=false:=by decide) :
 PS (DR (CX1 P w base) P w K mg base N qual scope f cd A outer s H E) (.Raise (some (.Call (.Name x np) [.Constant (.str m) j mp] [] cpos)) none pos) (fun _ _ H1=>E (.ref C) none H1) :=
 J0i (X:=DR (CX1 P w base) P w K mg base N qual scope f cd A outer s H E) O PySem.F.excBase_ValueError (by decide) PySem.F.excBase_ValueError rfl hg E (fun pins σ H1 s1 h' e us I hm q=>ZL pins σ H1 s1 h' e us I hm q) (BU J0n EG) (fun σ H Q q=>⟨M7 (M1 rfl) BP,q⟩) rfl rfl hd
abbrev met (ns:List Int)(k:Nat):List Int:=firstMet (fun i=>ns.getD i 0) k
def Asc (xs:Array Nat):Prop:=xs.toList.Pairwise (· < ·)
structure Tb (w:World)(t:SetTable):Prop where
 dum:t.dummies=#[]
 led:w.params.followText "set-order" = false->t.led=true
 asc:t.plain=true->Asc t.place
def iv:Value->Int
 | .int n _=>n
 | _=>0
abbrev nums (es:Array (Int×Value)):List Int:=es.toList.map fun e=>iv e.2
structure ISo (prog:Program)(w:World)(ns:List Int)(o:Obj)(es:Array (Int×Value))(ep:Nat)(t:SetTable):Prop where
 ex:o.ExactSet
 da:o.data=.set es ep t
 el:ElemsOf (intKind prog w) es.toList
 nd:(nums es).Nodup
 me:∀ z,z∈nums es↔z∈ns
 sz:es.size<=ns.length
 ft:t.fits es.size=true
 tb:Tb w t
structure WSo (w:World)(o:Obj)(es:Array (Int×Value))(ep:Nat)(t:SetTable):Prop where
 ex:o.ExactSet
 da:o.data=.set es ep t
 ft:t.fits es.size=true
 tb:Tb w t
theorem ISo.w {prog:Program}{w:World}{ns:List Int}{o:Obj}{es:Array (Int×Value)}{ep:Nat}{t:SetTable}(I:ISo prog w ns o es ep t):WSo w o es ep t:=⟨I.ex,I.da,I.ft,I.tb⟩
abbrev byT (w:World):Bool:=w.params.followText "set-order"
inductive Way (w:World)(a:Addr)(es:Array (Int×Value))(ep:Nat)(t:SetTable)(ord:List (Int×Value))(fx:List Addr)(h:Heap)(i:Nat)(first:Value):Prop
 | text (k:Nat) (b:byT w=true) (f:first=.int k 0) (o:ord=(pickOrder (w.params.setOrder a ep) es).toList)
 | place (k:Nat) (b:byT w=false) (d:(!t.plain&&decide (es.size>1))=false) (c:Asc t.place) (f:first=.int k 0) (e:SetTable.below t.place k=i) (o:ord=es.toList)
 | drawn (p:Addr) (ps:List Nat) (b:byT w=false) (d:(!t.plain&&decide (es.size>1))=true) (f:first=.ref p) (m:p∈fx) (q:h.get? p=some { cls:=.type "tuple",data:=.seq (ps.map fun x:Nat=>Value.int (x:Int) 0).toArray 0 }) (o:ps.map (fun x=>es[x]?)=ord.map some)
section
variable {w:World}{a:Addr}{o:Obj}{es:Array (Int×Value)}{ep:Nat}{t:SetTable}{ord:List (Int×Value)}{fx:List Addr}{i:Nat}{first:Value}
theorem Way.frame {h h':Heap}(W:Way w a es ep t ord fx h i first)(k:∀ b∈fx,∀ o,h.get? b=some o->h'.get? b=some o):Way w a es ep t ord fx h' i first:=by
 cases W with
 | text k b f o=>exact .text k b f o
 | place k b d c f e o=>exact .place k b d c f e o
 | drawn p ps b d f m q o=>exact .drawn p ps b d f m (k p m _ q) o
end
local macro_rules | `(tactic| walk_at "un gallop") => do let n := Lean.mkIdent (Lean.mkPrivateNameCore `PySem.Builtin.List.W1All `PySem.Builtin.gallop); `(tactic| unfold $n)
local macro_rules | `(tactic| walk_at "un countRun") => do let n := Lean.mkIdent (Lean.mkPrivateNameCore `PySem.Builtin.List.W1All `PySem.Builtin.countRun); `(tactic| unfold $n)
section
variable {prog:Program}{w:World}{A:Around}{E:Value->Shared->Prop}{s:Shared}
theorem SU {it l:Addr}{items:Array Value}(hne:l≠it):∀ (n i:Nat) (s:Shared) (Q:List Value->Shared->Prop),s.heap.IsListIter it l i->s.heap.IsList l items->i+n<=items.size ->
 (∀ h',h'.IsListIter it l (i+n)->Heap.SameBut it s.heap h'->Q ((items.toList.drop i).take n) { s with heap:=h' })->wpAny (model prog w) A (draw (.ref it) n) Q E s
 | 0,i,s,Q,hit,_,_,hQ=>by
   show wpAny _ _ (pure []) Q E s;exact L1 (by simpa using hQ s.heap hit (Heap.SameBut.refl ..))
 | n+1,i,s,Q,hit,ht,hle,hQ=>by
   have hlt:i<items.size:=by omega
   show wpAny _ _ (pyNext (.ref it) >>= _) Q E s;refine B0 (wpAny_pyNext_list_item hit ht (x:=items[i]) (by simp [hlt]) fun h₁ hit₁ hs₁=>?_)
   have ht1:h₁.IsList l items:=by
    obtain ⟨o,e,r⟩:=ht
    exact ⟨o,(hs₁.2 l hne).trans e,r⟩
   refine B0 (W6 (SU hne n (i+1) _ _ hit₁ ht1 (by omega) fun h₂ hit₂ hs₂=>L1 ?_))
   have hd:items.toList.drop i=items[i]::items.toList.drop (i+1):=by simp [D8,hlt]
   have:=hQ h₂ (by rw [show i+(n+1)=i+1+n by omega];exact hit₂) (hs₁.trans hs₂)
   rw [hd,List.take_succ_cons] at this
   exact this
theorem KP {l:Addr}{items:Array Value}{Q:List Value->Shared->Prop}(hh:A.handled=none)(ht:s.heap.IsList l items)
 (hQ:∀ h',Heap.ExtBut s.heap.objs.size s.heap h'->Q items.toList { s with heap:=h' }):wpAny (model prog w) A (unpackItems (.ref l) items.size none) Q E s:=by
 have hlt:l≠s.heap.objs.size:=by obtain ⟨o,ho,_⟩:=ht;exact R7 (B5 ho)
 have ty:s.TypeIs (.ref l) "list":=by obtain ⟨o,ho,hc,_⟩:=ht;exact ⟨o,ho,hc⟩
 unfold unpackItems;refine B0 ?_
 unfold notIterableAtAll;refine B0 (wpAny_specialOf ty slot_list_iter.lookup ?_)
 refine L1 ?_;simp only [Bool.false_eq_true,if_false]
 refine B0 (W6 (B1d ht ?_))
 have hp:∀ ob:Obj,(s.heap.push ob).IsList l items:=fun ob=>by
  obtain ⟨o,e,r⟩:=ht
  exact ⟨o,B1 _ e,r⟩
 refine B0 (W6 (SU hlt items.size 0 _ _ ⟨_,M6 _ rfl,rfl,rfl⟩ (hp _) (by omega) fun h₁ hit₁ hs₁=>?_))
 have hall:List.take items.size (List.drop 0 items.toList)=items.toList:=by rw [List.drop_zero];exact E6 (by simp)
 rw [hall,if_neg (by simp)]
 have ht₁:h₁.IsList l items:=by
  obtain ⟨o,e,r⟩:=ht
  exact ⟨o,(hs₁.2 l hlt).trans (B1 _ e),r⟩
 refine B0 (W6 (wpAny_pyNext_list_end hh hit₁ ht₁ (by simp) fun h₂ he₂=>?_))
 simp only [Option.isSome_none,Bool.false_eq_true,if_false]
 refine L1 (hQ h₂ fun b o hb e=>he₂ b o hb (hs₁.extBut b o hb (B1 _ e)))
end
section
variable {X:Cx}
def Q2x (K:Fg)(n:Nat)(t:TGs):TG:=fun v σ H Q=>∃ a xs,v=.ref a/\SqL K H a xs/\xs.length=n/\t xs σ H Q
theorem AY {es:List Expr}{k:Nat}{t:TGs}{n:Nat}{pos:Pos}(K:Fg)(hK:X.K=K)(hc:X.calm=true)(h:PGs X es t)(hn:(assignEach es X.env).length=n:=by rfl)(hst:(assignEach es X.env).findIdx? (·.1)=none:=by rfl):PG X (.Tuple es k pos) (Q2x K n t):=by
 subst hK
 intro pins s σ H v u Q I r hw
 obtain ⟨a,xs,e1,hq,hl,hw⟩:=hw
 subst e1
 cases r
 obtain ⟨its,rv,p,hz⟩:=I.list hq
 have hl':its.toArray.size=n:=by simp [<- hl,rv.length]
 rw [assign_Tuple];refine B0 (E5 ?_)
 unfold unpack;rw [hn,hst,<- hl']
 refine B0 (W6 (KP (I.ok.hd hc) p.isList fun h' hx=>?_))
 have I1:Inv X pins σ H { s with heap:=h' }:=I.kept (t':=s.toks) fun b o e=>hx b o (R7 (B5 e)) e
 exact h pins _ σ H xs _ Q I1 (by simpa using rv) hw
end
structure Frg where
 ads:List Addr
 R:(Addr->Prop)->Hp->V->Prop
 keep:∀ M H H' v,(∀ c o,(¬ M c\/c∈ads)->H c=some o->H' c=some o)->R M H v->R M H' v
 avoid:∀ M M' H v,(∀ c,M' c->M c\/H c=none)->R M H v->R M' H v
 ref:∀ M H v,R M H v->∃ a,v=.ref a
 nt:∀ M H v,R M H v->∀ c∈ads,∃ o,H c=some o/\∀ vs,o≠.tup vs
abbrev Tg:=List (List Int×Addr×Value)×Nat
inductive D where
 | non|bl (b:Bool)|int (i:Int)|str (x:Str)|ty (n:String)|adr (a:Addr)
 | tup (xs:List D)|lst (xs:List D)|own (xs:List D)|bag|scr (ns:List Int)|dct (t:Tg) (ks:List (List Int)) (xs:List D)|frg (f:Frg) (d:D)
structure BagT where
 ok:Addr->Hp->Prop
 st:∀ p H H',ok p H->(∀ o,H p=some o->H' p=some o)->ok p H'
 dm:∀ p H,ok p H->∃ o,H p=some o
def KTp (K:Fg)(a:Addr)(xs:List V):Prop:=∃ (o:Obj) (its:Array Value) (n:Nat),K.lookup a=some o/\o.cls=.type "tuple"/\o.data=.seq its n/\its.size<=sizeLine/\Vals xs its.toList
def TpA (K:Fg)(M:Addr->Prop)(H:Hp)(a:Addr)(vs:List V):Prop:=(¬ M a/\H a=some (.tup vs))\/KTp K a vs
theorem TpA.sq {H:Hp}{a:Addr}{vs:List V}(h:TpA K M H a vs):SqT K H a vs:=h.elim (fun z=>.inl (.inl z.2)) .inr
theorem TpA.keep {H H':Hp}{a:Addr}{vs:List V}(k:∀ b o,¬ M b->H b=some o->H' b=some o)(h:TpA K M H a vs):TpA K M H' a vs:=h.imp (fun z=>⟨z.1,k _ _ z.1 z.2⟩) id
theorem TpA.avoid {M M':Addr->Prop}{H:Hp}{a:Addr}{vs:List V}(k:∀ b,M' b->M b\/H b=none)(h:TpA K M H a vs):TpA K M' H a vs:=by
 refine h.imp (fun z=>⟨fun m=>?_,z.2⟩) id
 rcases k a m with n|n
 · exact z.1 n
 · rw [n] at z;cases z.2
def KL (K:Fg)(a:Addr)(xs:List V):Prop:=∃ (o:Obj) (its:Array Value) (n:Nat),K.lookup a=some o/\o.cls=.type "list"/\o.dict=none/\o.data=.seq its n/\its.size<=sizeLine/\Vals xs its.toList
def tkH (ns:List Int):Int:=reduceHash (Builtin.Tuple.tupleHashOf (ns.map hashInt))
def Q4p (x:List Int×Addr×Value):DictEntry:=⟨tkH x.1,.ref x.2.1,x.2.2⟩
def DOb (a:Addr)(es:List (List Int×Addr×Value))(ep:Nat):HO:=.ext fun h=>((a==sysModules)=false/\es.length<=sizeLine/\(es.map (·.1)).Nodup)/\∃ (o:Obj) (ds:Array DictEntry),h.get? a=some o/\o.ExactDict/\o.data=.dict ds ep/\ds.toList=es.map Q4p
def DctE (K:Fg)(M:Addr->Prop)(H:Hp)(es:List (List Int×Addr×Value))(ks:List (List Int))(vs:List V):Prop:=es.map (·.1)=ks/\(∀ e∈es,TpA K M H e.2.1 (e.1.map V.int))/\Vals vs (es.map (·.2.2))
theorem DctE.keep {H H':Hp}{es:List (List Int×Addr×Value)}{ks:List (List Int)}{vs:List V}(k:∀ b o,¬ M b->H b=some o->H' b=some o)(h:DctE K M H es ks vs):DctE K M H' es ks vs:=⟨h.1,fun e m=>(h.2.1 e m).keep k,h.2.2⟩
theorem DctE.avoid {M M':Addr->Prop}{H:Hp}{es:List (List Int×Addr×Value)}{ks:List (List Int)}{vs:List V}(k:∀ b,M' b->M b\/H b=none)(h:DctE K M H es ks vs):DctE K M' H es ks vs:=⟨h.1,fun e m=>(h.2.1 e m).avoid k,h.2.2⟩
mutual
def Rep (K:Fg)(M:Addr->Prop)(H:Hp):D->V->Prop
 | .non,v=>v=.non
 | .bl b,v=>v=.bl b
 | .int i,v=>v=.int i
 | .str x,v=>v=.str x
 | .ty n,v=>v=.ty n
 | .adr a,v=>v=.ref a
 | .tup xs,v=>∃ a vs,v=.ref a/\TpA K M H a vs/\Reps K M H xs vs
 | .lst xs,v=>∃ a vs,v=.ref a/\(¬ M a/\H a=some (.lst vs))/\Reps K M H xs vs
 | .own _,_=>False
 | .bag,_=>False
 | .frg _ _,_=>False
 | .scr ns,v=>∃ a,v=.ref a/\((¬ M a/\Rd H a (.lst (ns.map V.int)))\/KL K a (ns.map V.int))
 | .dct t ks xs,v=>∃ (a:Addr) (vs:List V),v=.ref a/\(¬ M a/\H a=some (DOb a t.1 t.2)/\DctE K M H t.1 ks vs)/\Reps K M H xs vs
def Reps (K:Fg)(M:Addr->Prop)(H:Hp):List D->List V->Prop
 | [],vs=>vs=[]
 | d::ds,vs=>∃ v r,vs=v::r/\Rep K M H d v/\Reps K M H ds r
end
theorem Rd.keep {H H':Hp}{a:Addr}{u:HO}(k:∀ o,H a=some o->H' a=some o)(h:Rd H a u):Rd H' a u:=by
 rcases h with h|⟨o,h⟩
 · exact .inl (k _ h)
 · exact .inr ⟨o,k _ h⟩
theorem Rd.some {H:Hp}{a:Addr}{u:HO}(h:Rd H a u):H a≠none:=by
 rcases h with h|⟨o,h⟩<;>rw [h]<;>simp
section
variable {K:Fg}{M M':Addr->Prop}{H H':Hp}
mutual
theorem Rep.keep (k:∀ b o,¬ M b->H b=some o->H' b=some o):∀ (d:D) (v:V),Rep K M H d v->Rep K M H' d v
 | .non,_,h=>h
 | .bl _,_,h=>h
 | .int _,_,h=>h
 | .str _,_,h=>h
 | .ty _,_,h=>h
 | .adr _,_,h=>h
 | .tup xs,v,h=>by
   obtain ⟨a,vs,e,z,r⟩:=h
   exact ⟨a,vs,e,z.keep k,Reps.keep k xs vs r⟩
 | .lst xs,v,h=>by
   obtain ⟨a,vs,e,z,r⟩:=h
   exact ⟨a,vs,e,⟨z.1,k _ _ z.1 z.2⟩,Reps.keep k xs vs r⟩
 | .own _,_,h=>h
 | .bag,_,h=>h
 | .frg _ _,_,h=>h
 | .scr ns,v,h=>by
   obtain ⟨a,e,z⟩:=h
   exact ⟨a,e,z.imp (fun q=>⟨q.1,q.2.keep fun o=>k a o q.1⟩) id⟩
 | .dct t ks xs,v,h=>by
   obtain ⟨a,vs,e,z,r⟩:=h
   exact ⟨a,vs,e,⟨z.1,k _ _ z.1 z.2.1,z.2.2.keep k⟩,Reps.keep k xs _ r⟩
theorem Reps.keep (k:∀ b o,¬ M b->H b=some o->H' b=some o):∀ (ds:List D) (vs:List V),Reps K M H ds vs->Reps K M H' ds vs
 | [],_,h=>h
 | d::ds,vs,h=>by
   obtain ⟨v,r,e,h1,h2⟩:=h
   exact ⟨v,r,e,Rep.keep k d v h1,Reps.keep k ds r h2⟩
end
mutual
theorem Rep.avoid (k:∀ b,M' b->M b\/H b=none):∀ (d:D) (v:V),Rep K M H d v->Rep K M' H d v
 | .non,_,h=>h
 | .bl _,_,h=>h
 | .int _,_,h=>h
 | .str _,_,h=>h
 | .ty _,_,h=>h
 | .adr _,_,h=>h
 | .tup xs,v,h=>by
   obtain ⟨a,vs,e,z,r⟩:=h
   exact ⟨a,vs,e,z.avoid k,Reps.avoid k xs vs r⟩
 | .lst xs,v,h=>by
   obtain ⟨a,vs,e,z,r⟩:=h
   refine ⟨a,vs,e,⟨fun m=>?_,z.2⟩,Reps.avoid k xs vs r⟩
   rcases k a m with n|n
   · exact z.1 n
   · rw [n] at z;cases z.2
 | .own _,_,h=>h
 | .bag,_,h=>h
 | .frg _ _,_,h=>h
 | .scr ns,v,h=>by
   obtain ⟨a,e,z⟩:=h
   refine ⟨a,e,z.imp (fun q=>⟨fun m=>?_,q.2⟩) id⟩
   rcases k a m with n|n
   · exact q.1 n
   · exact q.2.some n
 | .dct t ks xs,v,h=>by
   obtain ⟨a,vs,e,z,r⟩:=h
   refine ⟨a,vs,e,⟨fun m=>?_,z.2.1,z.2.2.avoid k⟩,Reps.avoid k xs _ r⟩
   rcases k a m with n|n
   · exact z.1 n
   · rw [n] at z;cases z.2.1
theorem Reps.avoid (k:∀ b,M' b->M b\/H b=none):∀ (ds:List D) (vs:List V),Reps K M H ds vs->Reps K M' H ds vs
 | [],_,h=>h
 | d::ds,vs,h=>by
   obtain ⟨v,r,e,h1,h2⟩:=h
   exact ⟨v,r,e,Rep.avoid k d v h1,Reps.avoid k ds r h2⟩
end
end
abbrev Ev:=List (Option D)
structure Wd where
 K:Fg
 B:BagT
 H0:Hp
 M0:Addr->Prop
 b0:Option Addr
def okB (B:BagT)(b:Option Addr)(H:Hp):Prop:=∀ p,b=some p->B.ok p H
def Kp (b:Option Addr)(H H':Hp):Prop:=∀ c o,b≠some c->H c=some o->H' c=some o
theorem Kp.refl (b:Option Addr)(H:Hp):Kp b H H:=fun _ _ _ h=>h
theorem Kp.trans {H H1 H2:Hp}(x:Kp b H H1)(y:Kp b H1 H2):Kp b H H2:=fun c o n h=>y c o n (x c o n h)
theorem Kp.upd {H:Hp}{p:Addr}{o:HO}(h:H p=none):Kp b H (upd H p o):=fun c u _ e=>Same.upd h c u e
theorem Kp.same {H H':Hp}(h:Same H H'):Kp b H H':=fun c o _ e=>h c o e
def RepX (W:Wd)(M:Addr->Prop)(b:Option Addr)(H:Hp):D->V->Prop
 | .own xs,v=>∃ a vs,v=.ref a/\M a/\b≠some a/\W.H0 a=none/\¬ W.M0 a/\H a=some (.lst vs)/\Reps W.K M H xs vs
 | .bag,v=>∃ p,b=some p/\v=.ref p
 | .frg f d,v=>(∀ c∈f.ads,M c/\b≠some c/\W.H0 c=none/\¬ W.M0 c)/\f.R M H v/\Rep W.K (fun c=>M c/\c∉f.ads) H d v
 | d,v=>Rep W.K M H d v
def plain:D->Bool
 | .own _=>false
 | .bag=>false
 | .frg _ _=>false
 | _=>true
def BF:D->Bool
 | .own _=>false
 | .frg _ _=>false
 | _=>true
theorem RepX.rep {W:Wd} {H:Hp}{d:D}{v:V}(h:RepX W M b H d v)(p:plain d=true):Rep W.K M H d v:=by
 cases d<;>first|exact h|cases p
theorem Rep.x {W:Wd} {H:Hp}{d:D}{v:V}(h:Rep W.K M H d v):RepX W M b H d v:=by
 cases d<;>first|exact h|exact h.elim
def RepXs (W:Wd)(M:Addr->Prop)(b:Option Addr)(H:Hp):List D->List V->Prop
 | [],vs=>vs=[]
 | d::ds,vs=>∃ v r,vs=v::r/\RepX W M b H d v/\RepXs W M b H ds r
structure Hs (W:Wd)(M:Addr->Prop)(b:Option Addr)(H:Hp):Prop where
 ok:okB W.B b H
 bagM:∀ p,b=some p->M p
 dom:∀ c,M c->∃ o,H c=some o
 m0:∀ c,W.M0 c->M c
theorem RepX.move {W:Wd}{M M':Addr->Prop}{b b':Option Addr}{H H':Hp}{f:Frg}{d:D}{v:V}(h:RepX W M b H (.frg f d) v)(ow:∀ c∈f.ads,M c->b≠some c->M' c/\b'≠some c)(k:∀ c o,(¬ M' c\/c∈f.ads)->H c=some o->H' c=some o)(a:∀ c,M' c->M c\/H c=none):RepX W M' b' H' (.frg f d) v:=by
 refine ⟨fun c m=>?_,f.keep M' H H' v k (f.avoid M M' H v a h.2.1),Rep.keep (fun c o n e=>k c o ?_ e) _ _ (Rep.avoid (fun c m=>(a c m.1).imp (fun z=>⟨z,m.2⟩) id) _ _ h.2.2)⟩
 · obtain ⟨q1,q2,q3,q4⟩:=h.1 c m
   obtain ⟨z1,z2⟩:=ow c m q1 q2
   exact ⟨z1,z2,q3,q4⟩
 · by_cases z:c∈f.ads
   · exact .inr z
   · exact .inl fun m=>n ⟨m,z⟩
theorem RepX.step {W:Wd} {H H':Hp}{d:D}{v:V}(hb:∀ p,b=some p->M p)(k:Kp b H H')(h:RepX W M b H d v):RepX W M b H' d v:=by
 have k':∀ c o,¬ M c->H c=some o->H' c=some o:=fun c o n e=>k c o (fun z=>n (hb c z)) e
 cases d
 case own xs =>
  obtain ⟨a,vs,e,m,n,n0,m0,h1,h2⟩:=h
  exact ⟨a,vs,e,m,n,n0,m0,k _ _ n h1,Reps.keep k' _ _ h2⟩
 case bag=>exact h
 case frg f d=>exact RepX.move h (fun c m m1 n=>⟨m1,n⟩) (fun c o q e=>q.elim (fun n=>k' c o n e) fun m=>k c o (h.1 c m).2.1 e) fun c m=>.inl m
 all_goals exact Rep.keep k' _ _ h
theorem RepXs.reps {W:Wd} {H:Hp}:∀ (ds:List D) (vs:List V),RepXs W M b H ds vs->ds.all plain=true->Reps W.K M H ds vs
 | [],_,h,_=>h
 | d::ds,vs,h,p=>by
   obtain ⟨v,r,e,h1,h2⟩:=h
   simp only [E1,L5] at p
   exact ⟨v,r,e,h1.rep p.1,RepXs.reps ds r h2 p.2⟩
theorem Reps.length {H:Hp}:∀ (ds:List D) (vs:List V),Reps K M H ds vs->vs.length=ds.length
 | [],_,h=>by cases (show _=_ from h);rfl
 | d::ds,vs,h=>by
   obtain ⟨v,r,rfl,h1,h2⟩:=h
   simp [Reps.length ds r h2]
theorem Reps.get {H:Hp}:∀ {ds:List D} {vs:List V} {i:Nat} {d:D},Reps K M H ds vs->ds[i]?=some d->∃ v,vs[i]?=some v/\Rep K M H d v
 | [],_,_,_,h,e=>by simp at e
 | d::ds,vs,0,_,h,e=>by
   obtain ⟨v,r,rfl,h1,h2⟩:=h
   simp at e;subst e
   exact ⟨v,rfl,h1⟩
 | d::ds,vs,i+1,d',h,e=>by
   obtain ⟨v,r,rfl,h1,h2⟩:=h
   obtain ⟨u,e1,e2⟩:=Reps.get (i:=i) h2 (by simpa using e)
   exact ⟨u,by simpa using e1,e2⟩
theorem Reps.at {H:Hp}{ds:List D}{vs:List V}{i:Int}{d:D}(h:Reps K M H ds vs)(e:atI ds i=some d):∃ v,atI vs i=some v/\Rep K M H d v:=by
 unfold atI at *
 rw [h.length]
 cases q:ixN ds.length i with
 | none=>rw [q] at e;cases e
 | some j =>
   rw [q] at e
   exact Reps.get h e
theorem Reps.append {H:Hp}:∀ {ds es:List D} {vs us:List V},Reps K M H ds vs->Reps K M H es us->Reps K M H (ds++es) (vs++us)
 | [],_,_,_,h,h'=>by cases (show _=_ from h);exact h'
 | d::ds,_,_,_,h,h'=>by
   obtain ⟨v,r,rfl,h1,h2⟩:=h
   exact ⟨v,_,rfl,h1,Reps.append h2 h'⟩
theorem Reps.set {H:Hp}{d:D}{v:V}(h0:Rep K M H d v):∀ {ds:List D} {vs:List V} (j:Nat),Reps K M H ds vs->Reps K M H (ds.set j d) (vs.set j v)
 | [],_,_,h=>by cases (show _=_ from h);exact rfl
 | e::ds,_,0,h=>by
   obtain ⟨v',r,rfl,h1,h2⟩:=h
   exact ⟨v,r,rfl,h0,h2⟩
 | e::ds,_,j+1,h=>by
   obtain ⟨v',r,rfl,h1,h2⟩:=h
   exact ⟨v',_,rfl,h1,Reps.set h0 j h2⟩
theorem Reps.drop {H:Hp}:∀ {ds:List D} {vs:List V} (j:Nat),Reps K M H ds vs->Reps K M H (ds.drop j) (vs.drop j)
 | _,_,0,h=>h
 | [],_,_+1,h=>by cases (show _=_ from h);exact rfl
 | e::ds,_,j+1,h=>by
   obtain ⟨v',r,rfl,h1,h2⟩:=h
   exact Reps.drop j h2
theorem Reps.take {H:Hp}:∀ {ds:List D} {vs:List V} (j:Nat),Reps K M H ds vs->Reps K M H (ds.take j) (vs.take j)
 | _,_,0,h=>rfl
 | [],_,_+1,h=>by cases (show _=_ from h);exact rfl
 | e::ds,_,j+1,h=>by
   obtain ⟨v',r,rfl,h1,h2⟩:=h
   exact ⟨v',_,rfl,h1,Reps.take j h2⟩
def PinR (W:Wd)(M:Addr->Prop)(b:Option Addr)(H:Hp):D->V->Prop
 | .own xs,v=>RepX W M b H (.own xs) v
 | d,v=>Rep W.K M H d v
theorem PinR.x {W:Wd} {H:Hp}{d:D}{v:V}(h:PinR W M b H d v):RepX W M b H d v:=by
 cases d<;>first|exact h|exact h.elim
theorem RepX.pin {W:Wd} {H:Hp}{d:D}{v:V}(h:RepX W M b H d v)(p:plain d=true):PinR W M b H d v:=by
 cases d<;>first|exact h|cases p
theorem PinR.to {W:Wd}{M M':Addr->Prop}{b b':Option Addr}{H H':Hp}{d:D}{v:V}(h:PinR W M b H d v)(rep:∀ d v,Rep W.K M H d v->Rep W.K M' H' d v)(reps:∀ ds vs,Reps W.K M H ds vs->Reps W.K M' H' ds vs)(own:∀ xs a vs,d=.own xs->v=.ref a->M a->b≠some a->H a=some (.lst vs)->M' a/\b'≠some a/\H' a=some (.lst vs)):PinR W M' b' H' d v:=by
 cases d
 case own xs =>
  obtain ⟨a,vs,rfl,m1,m2,m3,m4,hh,r⟩:=h
  obtain ⟨q1,q2,q3⟩:=own xs a vs rfl rfl m1 m2 hh
  exact ⟨a,vs,rfl,q1,q2,m3,m4,q3,reps _ _ r⟩
 case bag=>exact h.elim
 all_goals exact rep _ _ h
def FN:D->V->Addr->Prop
 | .own _,v,c=>v=.ref c
 | .frg f _,_,c=>c∈f.ads
 | _,_,_=>False
def mine:D->Bool
 | .own _=>true
 | .frg _ _=>true
 | _=>false
theorem FN.m {d:D}{v:V}{c:Addr}(h:FN d v c):mine d=true:=by cases d<;>first|rfl|exact h.elim
theorem RepX.mine {W:Wd} {H:Hp}{d:D}{v:V}{c:Addr}(h:RepX W M b H d v)(m:FN d v c):M c/\b≠some c/\W.H0 c=none/\¬ W.M0 c:=by
 cases d
 case own xs =>
  obtain ⟨a,vs,e,m1,n,n0,m0,h1,h2⟩:=h
  cases (e.symm.trans (show v=.ref c from m))
  exact ⟨m1,n,n0,m0⟩
 case frg f d=>exact h.1 c m
 all_goals exact m.elim
structure Sta (W:Wd)(pn:List (D×V))(M:Addr->Prop)(b:Option Addr)(H:Hp)(σ:St)(ρ:Ev):Prop extends Hs W M b H where
 kp:Kp W.b0 W.H0 H
 new:b=W.b0\/(W.b0=none/\∀ p,b=some p->W.H0 p=none)
 env:∀ (i:Nat) d,ρ[i]?=some (some d)->∃ v,σ[i]?=some (some v)/\RepX W M b H d v
 len:ρ.length=σ.length
 pin:∀ q∈pn,PinR W M b H q.1 q.2
theorem Sta.step {W:Wd}{pn:List (D×V)} {H H':Hp}{σ:St}{ρ:Ev}(s:Sta W pn M b H σ ρ)(k:Kp b H H')(o:okB W.B b H'):Sta W pn M b H' σ ρ where
 ok:=o
 bagM:=s.bagM
 dom:=fun c m=>by
  by_cases z:b=some c
  · exact W.B.dm c H' (o c z)
  · obtain ⟨u,e⟩:=s.dom c m
    exact ⟨u,k c u z e⟩
 m0:=s.m0
 kp:=fun c u n e=>by
  refine k c u (fun z=>?_) (s.kp c u n e)
  rcases s.new with q|⟨_,q⟩
  · exact n (q▸z)
  · rw [q c z] at e;cases e
 new:=s.new
 env:=fun i d e=>by
  obtain ⟨v,e1,r⟩:=s.env i d e
  exact ⟨v,e1,r.step s.bagM k⟩
 len:=s.len
 pin:=fun q hq=>(s.pin q hq).to (fun _ _ r=>Rep.keep (fun c o n e=>k c o (fun z=>n (s.bagM c z)) e) _ _ r) (fun _ _ r=>Reps.keep (fun c o n e=>k c o (fun z=>n (s.bagM c z)) e) _ _ r) fun xs a vs _ _ m n hh=>⟨m,n,k _ _ n hh⟩
theorem Hs.new {W:Wd} {H:Hp}(s:Hs W M b H){p:Addr}(h:H p=none):¬ M p:=fun m=>by
 obtain ⟨o,e⟩:=s.dom p m
 rw [h] at e;cases e
theorem Hs.okU {W:Wd} {H:Hp}(s:Hs W M b H){p:Addr}{o:HO}(h:H p=none):okB W.B b (upd H p o):=fun q e=>W.B.st q H _ (s.ok q e) fun u e'=>Same.upd h q u e'
abbrev DE:=Ev->(D->Prop)->Prop
abbrev DT:=Ev->(Bool->Prop)->Prop
abbrev DA:=Ev->(List D->Prop)->Prop
def dn (W:Wd)(d:DE):TE:=fun σ H Q=>∃ pn M b ρ P,Sta W pn M b H σ ρ/\d ρ P/\∀ x v H',P x->RepX W M b H' x v->Kp b H H'->okB W.B b H'->Q v H'
def dnT (W:Wd)(d:DT):TT:=fun σ H Q=>∃ pn M b ρ P,Sta W pn M b H σ ρ/\d ρ P/\∀ x H',P x->Kp b H H'->okB W.B b H'->Q x H'
def dnA (W:Wd)(d:DA):TA:=fun σ H Q=>∃ pn M b ρ P,Sta W pn M b H σ ρ/\d ρ P/\∀ xs vs H',P xs->RepXs W M b H' xs vs->Kp b H H'->okB W.B b H'->Q vs H'
theorem dn.elim {W:Wd}{d:DE}{σ:St}{H:Hp}{Q:VK}{R:Prop}(h:dn W d σ H Q)(f:∀ pn M b ρ P,Sta W pn M b H σ ρ->d ρ P->(∀ x v H',P x->RepX W M b H' x v->Kp b H H'->okB W.B b H'->Q v H')->R):R:=by
 obtain ⟨pn,M,b,ρ,P,st,h,k⟩:=h
 exact f pn M b ρ P st h k
theorem dnT.elim {W:Wd}{d:DT}{σ:St}{H:Hp}{Q:Bool->Hp->Prop}{R:Prop}(h:dnT W d σ H Q)(f:∀ pn M b ρ P,Sta W pn M b H σ ρ->d ρ P->(∀ x H',P x->Kp b H H'->okB W.B b H'->Q x H')->R):R:=by
 obtain ⟨pn,M,b,ρ,P,st,h,k⟩:=h
 exact f pn M b ρ P st h k
theorem dnA.elim {W:Wd}{d:DA}{σ:St}{H:Hp}{Q:List V->Hp->Prop}{R:Prop}(h:dnA W d σ H Q)(f:∀ pn M b ρ P,Sta W pn M b H σ ρ->d ρ P->(∀ xs vs H',P xs->RepXs W M b H' xs vs->Kp b H H'->okB W.B b H'->Q vs H')->R):R:=by
 obtain ⟨pn,M,b,ρ,P,st,h,k⟩:=h
 exact f pn M b ρ P st h k
section
variable {X:Cx}{W:Wd}{e a b c:Expr}{es:List Expr}{pos:Pos}{d da db:DE}{dA:DA}{t:TE}
theorem PE.mono {t':TE}(h:PE X e t)(m:∀ σ H Q,t' σ H Q->t σ H Q):PE X e t':=fun pins s σ H Q I q=>h pins s σ H Q I (m σ H Q q)
theorem PT.mono {t t':TT}(h:PT X e t)(m:∀ σ H Q,t' σ H Q->t σ H Q):PT X e t':=fun pins s σ H Q I q=>h pins s σ H Q I (m σ H Q q)
theorem PA.mono {t t':TA}(h:PA X es t)(m:∀ σ H Q,t' σ H Q->t σ H Q):PA X es t':=fun pos pins s σ H Q I q=>h pos pins s σ H Q I (m σ H Q q)
def ZB (i:Nat):DE:=fun ρ P=>match ρ[i]? with|some (some d)=>P d|_=>False
theorem dv (i:Nat) {x:Str} {pos:Pos} (hN:X.N[i]?=some x:=by rfl) (hv:Vis X.env.scope x:=by first|exact Or.inl rfl|exact Or.inr (Or.inl rfl)|exact Or.inr (Or.inr rfl)) (hd:(x==("__debug__" : Str))=false:=by decide)
 (hcd:(x==("__classdict__" : Str))=false:=by decide):PE X (.Name x pos) (dn W (ZB i)):=(UL hN hv hd hcd).mono fun σ H Q hh=>hh.elim fun pn M b ρ P st h k=>by
 unfold ZB at h
 split at h
 case h_1 d e =>
  obtain ⟨v,e1,r⟩:=st.env i d e
  exact ⟨v,e1,k d v H h r (Kp.refl _ _) st.ok⟩
 case h_2=>exact h.elim
def dC (d:D):DE:=fun _ P=>P d
theorem ZA {d:D}{v:V}(h:PE X e (tC v))(hr:∀ M H,Rep W.K M H d v):PE X e (dn W (dC d)):=h.mono fun σ H Q hh=>hh.elim fun pn M b ρ P st h k=>k d v H h (Rep.x (hr M H)) (Kp.refl _ _) st.ok
theorem Q0i {i j pos}:PE X (.Constant (.int i) j pos) (dn W (dC (.int i))):=ZA Z6 fun _ _=>rfl
theorem Q3e {i j pos}:PE X (.Constant (.bool i) j pos) (dn W (dC (.bl i))):=ZA Q2h fun _ _=>rfl
theorem Q0f {j pos}:PE X (.Constant .none j pos) (dn W (dC .non)):=ZA J8r fun _ _=>rfl
theorem Q0b {i j pos}:PE X (.Constant (.str i) j pos) (dn W (dC (.str i))):=ZA J0n fun _ _=>rfl
theorem J2h {x:Str}{n:Int}{pos:Pos}(hg:Gl X x)(hm:∃ t,X.mg x=some (.int n t))(hd:(x==("__debug__" : Str))=false:=by decide):PE X (.Name x pos) (dn W (dC (.int n))):=ZA (J0q hg hm hd) fun _ _=>rfl
theorem J5y {x:Str}{T:String}{pos:Pos}(hg:Gl X x)(hm:X.mg x=none)(hv:bootBuiltins x=some (.type T))(hn:x≠"__name__":=by decide) (hd:(x==("__debug__" : Str))=false:=by decide):PE X (.Name x pos) (dn W (dC (.ty T))):=ZA (J4o (v:=.ty T) hg hm hv rfl hn hd) fun _ _=>rfl
def OpD (W:Wd)(r:R2)(o:D->D->(D->Prop)->Prop):Prop:=∀ M b H x y v u P Q,Hs W M b H->RepX W M b H x v->RepX W M b H y u->o x y P->(∀ z w H',P z->RepX W M b H' z w->Kp b H H'->okB W.B b H'->Q w H')->r v u H Q
def dOp (o:D->D->(D->Prop)->Prop)(da db:DE):DE:=fun ρ P=>da ρ fun x=>db ρ fun y=>o x y P
theorem VU {r:R2}{o:D->D->(D->Prop)->Prop}(hd:OpD W r o):∀ σ H Q,dn W (dOp o da db) σ H Q->tOp r (dn W da) (dn W db) σ H Q:=by
 intro σ H Q hh
 refine hh.elim fun pn M b ρ P st h k=>?_
 refine ⟨pn,M,b,ρ,_,st,h,fun x v H1 hx rx k1 o1=>?_⟩
 refine ⟨pn,M,b,ρ,_,st.step k1 o1,hx,fun y u H2 hy ry k2 o2=>?_⟩
 exact hd M b H2 x y v u P Q ((st.step k1 o1).step k2 o2).toHs (rx.step st.bagM k2) ry hy fun z w H' hz rz k3 o3=>k z w H' hz rz ((k1.trans k2).trans k3) o3
theorem Q3b {op:Operator}{r:R2}{o:D->D->(D->Prop)->Prop}(ho:OpR X (binaryOp op) r)(hd:OpD W r o)(ha:PE X a (dn W da))(hb:PE X b (dn W db)):PE X (.BinOp a op b pos) (dn W (dOp o da db)):=(AS ho ha hb).mono (VU hd)
theorem Q0j {op:CmpOp}{r:R2}{o:D->D->(D->Prop)->Prop}(ho:OpR X (compareOp op) r)(hd:OpD W r o)(ha:PE X a (dn W da))(hb:PE X b (dn W db))(hm:behindInMarks op b=false):PE X (.Compare a [op] [b] pos) (dn W (dOp o da db)):=(WF ho ha hb hm).mono (VU hd)
theorem Q3c {r:R2}{o:D->D->(D->Prop)->Prop}(hr:IxR X r)(hd:OpD W r o)(ha:PE X a (dn W da))(hb:PE X b (dn W db))(hs:LR b):PE X (.Subscript a b pos) (dn W (dOp o da db)):=(GX hr ha hb hs).mono (VU hd)
def oI (C:Int->Int->Prop)(g:Int->Int->Int):D->D->(D->Prop)->Prop
 | .int i,.int j,P=>C i j/\P (.int (g i j))
 | _,_,_=>False
def oI0 (g:Int->Int->Int):D->D->(D->Prop)->Prop
 | .int i,.int j,P=>P (.int (g i j))
 | _,_,_=>False
def oB0 (g:Int->Int->Bool):D->D->(D->Prop)->Prop
 | .int i,.int j,P=>P (.bl (g i j))
 | _,_,_=>False
theorem Z9 {C:Int->Int->Prop}{g:Int->Int->Int}:OpD W (rI C fun i j=>.int (g i j)) (oI C g):=by
 intro M b H x y v u P Q hs rx ry ho k
 cases x<;>first|exact ho.elim|skip
 cases y<;>first|exact ho.elim|skip
 cases (show _=_ from rx)
 cases (show _=_ from ry)
 exact ⟨_,_,rfl,rfl,ho.1,k _ _ H ho.2 (show _=_ from rfl) (Kp.refl _ _) hs.ok⟩
theorem Z7 {g:Int->Int->Int}:OpD W (rI0 fun i j=>.int (g i j)) (oI0 g):=by
 intro M b H x y v u P Q hs rx ry ho k
 cases x<;>first|exact ho.elim|skip
 cases y<;>first|exact ho.elim|skip
 cases (show _=_ from rx)
 cases (show _=_ from ry)
 exact ⟨_,_,rfl,rfl,k _ _ H ho (show _=_ from rfl) (Kp.refl _ _) hs.ok⟩
theorem EH {g:Int->Int->Bool}:OpD W (rI0 fun i j=>.bl (g i j)) (oB0 g):=by
 intro M b H x y v u P Q hs rx ry ho k
 cases x<;>first|exact ho.elim|skip
 cases y<;>first|exact ho.elim|skip
 cases (show _=_ from rx)
 cases (show _=_ from ry)
 exact ⟨_,_,rfl,rfl,k _ _ H ho (show _=_ from rfl) (Kp.refl _ _) hs.ok⟩
def Q2p (neg:Bool):D->D->(D->Prop)->Prop
 | .int i,.int j,P=>P (.bl (decide (i=j)!=neg))
 | .bl i,.bl j,P=>P (.bl (decide (i=j)!=neg))
 | .str i,.str j,P=>P (.bl (decide (i=j)!=neg))
 | .non,.non,P=>P (.bl (true != neg))
 | .non,.int _,P=>P (.bl (false != neg))
 | .int _,.non,P=>P (.bl (false != neg))
 | .str _,.int _,P=>P (.bl (false != neg))
 | .int _,.str _,P=>P (.bl (false != neg))
 | _,_,_=>False
theorem AT:OpD W rEq (Q2p false):=by
 intro M b H x y v u P Q hs rx ry ho k
 cases x<;>cases y<;>first|exact ho.elim|skip
 all_goals (cases (show _=_ from rx);cases (show _=_ from ry);refine ⟨rfl,?_⟩;refine k _ _ H ho ?_ (Kp.refl _ _) hs.ok)
 all_goals (show V.bl _=V.bl _;simp)
theorem MP:OpD W rNe (Q2p true):=by
 intro M b H x y v u P Q hs rx ry ho k
 cases x<;>cases y<;>first|exact ho.elim|skip
 all_goals (cases (show _=_ from rx);cases (show _=_ from ry);refine ⟨rfl,?_⟩;refine k _ _ H ho ?_ (Kp.refl _ _) hs.ok)
 all_goals (show V.bl _=V.bl _;simp)
def J6w:D->Bool
 | .non=>true
 | _=>false
def Q2n (neg:Bool):D->D->(D->Prop)->Prop
 | x,.non,P=>P (.bl (J6w x != neg))
 | _,_,_=>False
theorem WP {b:Option Addr}{H:Hp}{x:D}{v:V}(rx:RepX W M b H x v):decide (v=.non)=J6w x:=by
 cases x
 case non=>cases (show _=_ from rx);rfl
 case own=>obtain ⟨a,vs,rfl,_⟩:=rx;rfl
 case frg f d=>obtain ⟨a,rfl⟩:=f.ref _ _ _ rx.2.1;rfl
 case bag=>obtain ⟨a,_,rfl⟩:=rx;rfl
 case tup=>obtain ⟨a,vs,rfl,_⟩:=rx;rfl
 case lst=>obtain ⟨a,vs,rfl,_⟩:=rx;rfl
 case scr=>obtain ⟨a,rfl,_⟩:=rx;rfl
 case dct=>obtain ⟨a,vs,rfl,_⟩:=rx;rfl
 all_goals (cases (show _=_ from rx);rfl)
theorem J0y:OpD W (fun x y H Q=>y=.non/\Q (.bl (decide (x=.non))) H) (Q2n false):=by
 intro M b H x y v u P Q hs rx ry ho k
 cases y<;>first|exact ho.elim|skip
 cases (show _=_ from ry)
 refine ⟨rfl,k _ _ H ho ?_ (Kp.refl _ _) hs.ok⟩
 show V.bl _=V.bl _
 rw [WP rx];simp
theorem WJ:OpD W (fun x y H Q=>y=.non/\Q (.bl (!decide (x=.non))) H) (Q2n true):=by
 intro M b H x y v u P Q hs rx ry ho k
 cases y<;>first|exact ho.elim|skip
 cases (show _=_ from ry)
 refine ⟨rfl,k _ _ H ho ?_ (Kp.refl _ _) hs.ok⟩
 show V.bl _=V.bl _
 rw [WP rx];simp
def oIx:D->D->(D->Prop)->Prop
 | .tup xs,.int i,P=>(atI xs i).elim False P
 | .lst xs,.int i,P=>(atI xs i).elim False P
 | .own xs,.int i,P=>(atI xs i).elim False P
 | _,_,_=>False
theorem J9 (K:Fg)(h:X.K=K):IxR X (fun x y H Q=>J4f K x y H Q\/J4g K x y H Q):=(QK K h).or (DZ K h)
theorem Q8:OpD W (fun x y H Q=>J4f W.K x y H Q\/J4g W.K x y H Q) oIx:=by
 intro M b H x y v u P Q hs rx ry ho k
 cases x<;>first|exact ho.elim|skip
 all_goals (cases y<;>first|exact ho.elim|skip)
 all_goals cases (show _=_ from ry)
 case tup.int xs i =>
  obtain ⟨a,vs,rfl,hh,r⟩:=rx
  simp only [oIx] at ho
  cases e:atI xs i with
  | none=>rw [e] at ho;exact ho.elim
  | some d =>
    rw [e] at ho
    obtain ⟨w,e1,r1⟩:=r.at e
    exact .inl ⟨a,vs,i,w,rfl,rfl,hh.sq,e1,k d w H ho r1.x (Kp.refl _ _) hs.ok⟩
 case lst.int xs i =>
  obtain ⟨a,vs,rfl,hh,r⟩:=rx
  simp only [oIx] at ho
  cases e:atI xs i with
  | none=>rw [e] at ho;exact ho.elim
  | some d =>
    rw [e] at ho
    obtain ⟨w,e1,r1⟩:=r.at e
    exact .inr ⟨a,vs,i,w,rfl,rfl,SqL.of hh.2,e1,k d w H ho r1.x (Kp.refl _ _) hs.ok⟩
 case own.int xs i =>
  obtain ⟨a,vs,rfl,_,_,_,_,hh,r⟩:=rx
  simp only [oIx] at ho
  cases e:atI xs i with
  | none=>rw [e] at ho;exact ho.elim
  | some d =>
    rw [e] at ho
    obtain ⟨w,e1,r1⟩:=r.at e
    exact .inr ⟨a,vs,i,w,rfl,rfl,SqL.of hh,e1,k d w H ho r1.x (Kp.refl _ _) hs.ok⟩
def dUn (o:D->(D->Prop)->Prop)(da:DE):DE:=fun ρ P=>da ρ fun x=>o x P
def J8w:D->(D->Prop)->Prop
 | .int i,P=>P (.int (-i))
 | _,_=>False
theorem Q0g (ha:PE X a (dn W da)):PE X (.UnaryOp .USub a pos) (dn W (dUn J8w da)):=(Q2f J7z ha).mono fun σ H Q hh=>hh.elim fun pn M b ρ P st h k=>by
 refine ⟨pn,M,b,ρ,_,st,h,fun x v H1 hx rx k1 o1=>?_⟩
 cases x<;>first|exact hx.elim|skip
 cases (show _=_ from rx)
 exact ⟨_,rfl,k _ _ H1 hx (show _=_ from rfl) k1 o1⟩
inductive IfP (c:Bool)(A B:Prop):Prop
 | t (e:c=true) (h:A):IfP c A B
 | f (e:c=false) (h:B):IfP c A B
theorem IfP.of {c:Bool}{A B:Prop}(h1:c=true->A)(h2:c=false->B):IfP c A B:=by
 cases c
 · exact .f rfl (h2 rfl)
 · exact .t rfl (h1 rfl)
theorem IfP.true_of {A B:Prop}(h:IfP true A B):A:=by
 cases h with
 | t _ h=>exact h
 | f e _=>cases e
theorem IfP.false_of {A B:Prop}(h:IfP false A B):B:=by
 cases h with
 | f _ h=>exact h
 | t e _=>cases e
theorem TR {A B:Prop}:IfP true A B=A:=propext ⟨IfP.true_of,fun h=>.t rfl h⟩
theorem ZI {A B:Prop}:IfP false A B=B:=propext ⟨IfP.false_of,fun h=>.f rfl h⟩
def Q3k (da db:DE):DE:=fun ρ P=>da ρ fun x=>match x with|.bl k=>IfP k (db ρ P) (P (.bl false))|_=>False
def dOr (da db:DE):DE:=fun ρ P=>da ρ fun x=>match x with|.bl k=>IfP k (P (.bl true)) (db ρ P)|_=>False
def Q3i (da:DE):DE:=fun ρ P=>da ρ fun x=>match x with|.bl k=>P (.bl (!k))|_=>False
variable {rest:List Expr}
theorem Q0d {op}(h:PE X a (dn W da)):PE X (.BoolOp op [a] pos) (dn W da):=J8p h
theorem Q0k (ha:PE X a (dn W da))(hb:PE X (.BoolOp .And (b::rest) pos) (dn W db)):PE X (.BoolOp .And (a::b::rest) pos) (dn W (Q3k da db)):=(J8s ha hb).mono fun σ H Q hh=>hh.elim fun pn M b ρ P st h k=>by
 refine ⟨pn,M,b,ρ,_,st,h,fun x v H1 hx rx k1 o1=>?_⟩
 cases x<;>first|exact hx.elim|skip
 case bl c =>
  cases (show _=_ from rx)
  refine ⟨c,rfl,?_⟩
  cases hx with
  | f e hx=>subst e;rw [if_neg B7];exact k _ _ H1 hx (show _=_ from rfl) k1 o1
  | t e hx=>subst e;rw [if_pos rfl];exact ⟨pn,M,b,ρ,P,st.step k1 o1,hx,fun x v H' hp r k2 o2=>k x v H' hp r (k1.trans k2) o2⟩
theorem Q3a (ha:PE X a (dn W da))(hb:PE X (.BoolOp .Or (b::rest) pos) (dn W db)):PE X (.BoolOp .Or (a::b::rest) pos) (dn W (dOr da db)):=(Q2g ha hb).mono fun σ H Q hh=>hh.elim fun pn M b ρ P st h k=>by
 refine ⟨pn,M,b,ρ,_,st,h,fun x v H1 hx rx k1 o1=>?_⟩
 cases x<;>first|exact hx.elim|skip
 case bl c =>
  cases (show _=_ from rx)
  refine ⟨c,rfl,?_⟩
  cases hx with
  | f e hx=>subst e;rw [if_neg B7];exact ⟨pn,M,b,ρ,P,st.step k1 o1,hx,fun x v H' hp r k2 o2=>k x v H' hp r (k1.trans k2) o2⟩
  | t e hx=>subst e;rw [if_pos rfl];exact k _ _ H1 hx (show _=_ from rfl) k1 o1
theorem Q0e (ha:PE X a (dn W da)):PE X (.UnaryOp .Not a pos) (dn W (Q3i da)):=(J8q ha).mono fun σ H Q hh=>hh.elim fun pn M b ρ P st h k=>by
 refine ⟨pn,M,b,ρ,_,st,h,fun x v H1 hx rx k1 o1=>?_⟩
 cases x<;>first|exact hx.elim|skip
 case bl c =>
  cases (show _=_ from rx)
  exact ⟨c,rfl,k _ _ H1 hx (show _=_ from rfl) k1 o1⟩
def J2k (da:DE):DT:=fun ρ P=>da ρ fun x=>match x with|.bl k=>P k|_=>False
theorem J9t {op:CmpOp}{r:R2}{o:D->D->(D->Prop)->Prop}(ho:OpR X (compareOp op) r)(hd:OpD W r o)(ha:PE X a (dn W da))(hb:PE X b (dn W db))(hm:behindInMarks op b=false):PT X (.Compare a [op] [b] pos) (dnT W (J2k (dOp o da db))):=(LH ho ha hb hm).mono fun σ H Q hh=>hh.elim fun pn M b ρ P st h k=>by
 refine VU hd σ H _ ⟨pn,M,b,ρ,_,st,h,fun x v H1 hx rx k1 o1=>?_⟩
 cases x<;>first|exact hx.elim|skip
 case bl c =>
  cases (show _=_ from rx)
  exact ⟨c,rfl,k _ H1 hx k1 o1⟩
def Q3g (da:DE):DT:=fun ρ P=>da ρ fun x=>match x with
 | .bl k=>P k
 | .int i=>P (i != 0)
 | .non=>P false
 | .tup xs=>P (!xs.isEmpty)
 | .lst xs=>P (!xs.isEmpty)
 | .own xs=>P (!xs.isEmpty)
 | _=>False
theorem Reps.empty {H:Hp}{ds:List D}{vs:List V}(h:Reps K M H ds vs):(!ds.isEmpty) = !vs.isEmpty:=by
 cases ds with
 | nil=>cases (show _=_ from h);rfl
 | cons d ds=>obtain ⟨v,r,rfl,_⟩:=h;rfl
theorem J2b (hK:X.K=W.K)(ha:PE X a (dn W da))(he:∀ whole,isTrue a X.env whole=(do let v <- whole;standAt a.pos;holding [v] (truthy v))):PT X a (dnT W (Q3g da)):=(YC W.K hK ha he).mono fun σ H Q hh=>hh.elim fun pn M b ρ P st h k=>by
 refine ⟨pn,M,b,ρ,_,st,h,fun x v H1 hx rx k1 o1=>?_⟩
 cases x<;>first|exact hx.elim|skip
 case bl c=>cases (show _=_ from rx);exact ⟨_,rfl,k _ H1 hx k1 o1⟩
 case int c=>cases (show _=_ from rx);exact ⟨_,rfl,k _ H1 hx k1 o1⟩
 case non=>cases (show _=_ from rx);exact ⟨_,rfl,k _ H1 hx k1 o1⟩
 case tup xs=>obtain ⟨a,vs,rfl,hh,r⟩:=rx;exact ⟨_,.inr (.inl ⟨vs,hh.sq,r.empty⟩),k _ H1 hx k1 o1⟩
 case lst xs=>obtain ⟨a,vs,rfl,hh,r⟩:=rx;exact ⟨_,.inl ⟨vs,SqL.of hh.2,r.empty⟩,k _ H1 hx k1 o1⟩
 case own xs=>obtain ⟨a,vs,rfl,_,_,_,_,hh,r⟩:=rx;exact ⟨_,.inl ⟨vs,SqL.of hh,r.empty⟩,k _ H1 hx k1 o1⟩
def J2l (t u:DT):DT:=fun ρ P=>t ρ fun c=>IfP c (u ρ P) (P false)
def J6a (t u:DT):DT:=fun ρ P=>t ρ fun c=>IfP c (P true) (u ρ P)
def J7f (t:DT):DT:=fun ρ P=>t ρ fun c=>P (!c)
variable {ta tb:DT}
theorem J7y:∀ σ H Q,dnT W (J2l ta tb) σ H Q->Q2b (dnT W ta) (dnT W tb) σ H Q:=by
 intro σ H Q hh
 refine hh.elim fun pn M b ρ P st h k=>?_
 refine ⟨pn,M,b,ρ,_,st,h,fun x H1 hx k1 o1=>?_⟩
 cases hx with
 | t e hx=>rw [if_pos e];exact ⟨pn,M,b,ρ,P,st.step k1 o1,hx,fun x H' hp k2 o2=>k x H' hp (k1.trans k2) o2⟩
 | f e hx=>rw [if_neg (by rw [e];exact B7)];exact k _ H1 hx k1 o1
theorem Q1q:∀ σ H Q,dnT W (J6a ta tb) σ H Q->tOr (dnT W ta) (dnT W tb) σ H Q:=by
 intro σ H Q hh
 refine hh.elim fun pn M b ρ P st h k=>?_
 refine ⟨pn,M,b,ρ,_,st,h,fun x H1 hx k1 o1=>?_⟩
 cases hx with
 | t e hx=>rw [if_pos e];exact k _ H1 hx k1 o1
 | f e hx=>rw [if_neg (by rw [e];exact B7)];exact ⟨pn,M,b,ρ,P,st.step k1 o1,hx,fun x H' hp k2 o2=>k x H' hp (k1.trans k2) o2⟩
theorem PW.mono {t t':TT}(h:PW X e t)(m:∀ σ H Q,t' σ H Q->t σ H Q):PW X e t':=fun wh pins s σ H Q I q=>h wh pins s σ H Q I (m σ H Q q)
theorem J5o (ha:PT X a (dnT W ta)):PW X (.BoolOp .And [a] pos) (dnT W ta):=J4h ha
theorem J9q (ha:PT X a (dnT W ta)):PW X (.BoolOp .Or [a] pos) (dnT W ta):=J8k ha
theorem J9r (ha:PT X a (dnT W ta))(hb:PW X (.BoolOp .And (b::rest) pos) (dnT W tb)):PW X (.BoolOp .And (a::b::rest) pos) (dnT W (J2l ta tb)):=(J8l ha hb).mono J7y
theorem J7d (ha:PT X a (dnT W ta))(hb:PW X (.BoolOp .Or (b::rest) pos) (dnT W tb)):PW X (.BoolOp .Or (a::b::rest) pos) (dnT W (J6a ta tb)):=(Q2e ha hb).mono Q1q
theorem J9s (ha:PT X a (dnT W ta)):PT X (.UnaryOp .Not a pos) (dnT W (J7f ta)):=(J8m ha).mono fun σ H Q hh=>hh.elim fun pn M b ρ P st h k=>⟨pn,M,b,ρ,_,st,h,fun x H1 hx k1 o1=>k _ H1 hx k1 o1⟩
def dIf (t:DT)(da db:DE):DE:=fun ρ P=>t ρ fun c=>IfP c (da ρ P) (db ρ P)
theorem Q3d (hc:PT X c (dnT W ta))(ha:PE X a (dn W da))(hb:PE X b (dn W db)):PE X (.IfExp c a b pos) (dn W (dIf ta da db)):=(J0p hc ha hb).mono fun σ H Q hh=>hh.elim fun pn M b ρ P st h k=>by
 refine ⟨pn,M,b,ρ,_,st,h,fun x H1 hx k1 o1=>?_⟩
 cases hx with
 | t e hx=>rw [if_pos e];exact ⟨pn,M,b,ρ,P,st.step k1 o1,hx,fun x v H' hp r k2 o2=>k x v H' hp r (k1.trans k2) o2⟩
 | f e hx=>rw [if_neg (by rw [e];exact B7)];exact ⟨pn,M,b,ρ,P,st.step k1 o1,hx,fun x v H' hp r k2 o2=>k x v H' hp r (k1.trans k2) o2⟩
def J3g:DA:=fun _ P=>P []
def J3h (da:DE)(dr:DA):DA:=fun ρ P=>da ρ fun x=>dr ρ fun xs=>P (x::xs)
theorem Q0l:PA X [] (dnA W J3g):=EG.mono fun σ H Q hh=>hh.elim fun pn M b ρ P st h k=>k [] [] H h rfl (Kp.refl _ _) st.ok
theorem J5z {dr:DA}(ha:PE X e (dn W da))(hr:PA X es (dnA W dr))(hs:starEach (e::es) X.env=(false,eval e X.env)::starEach es X.env:=by rfl):PA X (e::es) (dnA W (J3h da dr)):=(BU ha hr hs).mono fun σ H Q hh=>hh.elim fun pn M b ρ P st h k=>by
 refine ⟨pn,M,b,ρ,_,st,h,fun x v H1 hx rx k1 o1=>?_⟩
 refine ⟨pn,M,b,ρ,_,st.step k1 o1,hx,fun xs vs H2 hy ry k2 o2=>?_⟩
 exact k _ _ H2 hy ⟨v,vs,rfl,rx.step st.bagM k2,ry⟩ (k1.trans k2) o2
def DY (xs:List D):Bool:=xs.all plain&&decide (xs.length<=1000)
def Q3f (dA:DA):DE:=fun ρ P=>dA ρ fun xs=>DY xs=true/\P (.tup xs)
def Q3j (dA:DA):DE:=fun ρ P=>dA ρ fun xs=>DY xs=true/\P (.lst xs)
theorem DY.len {xs:List D}(h:DY xs=true):xs.length<=sizeLine:=by
 unfold DY at h
 simp only [L5,I0] at h
 exact M7 h.2 BP
theorem DY.pl {xs:List D}(h:DY xs=true):xs.all plain=true:=by
 unfold DY at h
 simp only [L5,I0] at h
 exact h.1
theorem GF {bg:Option Addr}{H:Hp}{xs:List D}{vs:List V}{p:Addr}(hs:Hs W M bg H)(r:Reps W.K M H xs vs)(h:H p=none):RepX W M bg (upd H p (.tup vs)) (.tup xs) (.ref p) :=
 ⟨p,vs,rfl,.inl ⟨hs.new h,AM⟩,Reps.keep (fun c o _ e=>Same.upd h c o e) _ _ r⟩
theorem GG {bg:Option Addr}{H:Hp}{xs:List D}{vs:List V}{p:Addr}(hs:Hs W M bg H)(r:Reps W.K M H xs vs)(h:H p=none):RepX W M bg (upd H p (.lst vs)) (.lst xs) (.ref p) :=
 ⟨p,vs,rfl,⟨hs.new h,AM⟩,Reps.keep (fun c o _ e=>Same.upd h c o e) _ _ r⟩
theorem Q0a {x1}(h:PA X es (dnA W dA)):PE X (.Tuple es x1 pos) (dn W (Q3f dA)):=(UN h).mono fun σ H Q hh=>hh.elim fun pn M b ρ P st h k=>by
 refine ⟨pn,M,b,ρ,_,st,h,fun xs vs H1 hx rx k1 o1=>?_⟩
 have rr:=rx.reps _ _ (DY.pl hx.1)
 refine ⟨by rw [rr.length];exact DY.len hx.1,fun p hp=>k _ _ _ hx.2 (GF (st.step k1 o1).toHs rr hp) (k1.trans (Kp.upd hp)) ((st.step k1 o1).okU hp)⟩
theorem Q0h (h:PA X es (dnA W dA)):PE X (.List es pos) (dn W (Q3j dA)):=(MH h).mono fun σ H Q hh=>hh.elim fun pn M b ρ P st h k=>by
 refine ⟨pn,M,b,ρ,_,st,h,fun xs vs H1 hx rx k1 o1=>?_⟩
 have rr:=rx.reps _ _ (DY.pl hx.1)
 refine ⟨by rw [rr.length];exact DY.len hx.1,fun p hp=>k _ _ _ hx.2 (GG (st.step k1 o1).toHs rr hp) (k1.trans (Kp.upd hp)) ((st.step k1 o1).okU hp)⟩
end
abbrev DSp:=List D->(D->Prop)->(Addr->Prop)->Prop
def Q3w (K:Fg)(M:Addr->Prop)(b:Option Addr)(H:Hp):D->V->Prop
 | .own _,_=>False
 | .bag,v=>∃ p,b=some p/\v=.ref p
 | d,v=>Rep K M H d v
def RepAs (K:Fg)(M:Addr->Prop)(b:Option Addr)(H:Hp):List D->List V->Prop
 | [],vs=>vs=[]
 | d::ds,vs=>∃ v r,vs=v::r/\Q3w K M b H d v/\RepAs K M b H ds r
def J8 (K:Fg)(B:BagT)(S:DSp):Sp:=fun vs H Q E=>∃ (M:Addr->Prop) (b:Option Addr) (ds:List D) (P:D->Prop) (Ed:Addr->Prop),S ds P Ed/\RepAs K M b H ds vs/\okB B b H/\(∀ p,b=some p->M p)/\(∀ c,M c->∃ o,H c=some o) /\
 (∀ d v H',P d->Rep K M H' d v->Kp b H H'->okB B b H'->Q v H')/\∀ C H',Ed C->Kp b H H'->okB B b H'->E (.ref C) none H'
theorem RepXs.args {W:Wd} {H:Hp}:∀ (ds:List D) (vs:List V),RepXs W M b H ds vs->ds.all BF=true->RepAs W.K M b H ds vs
 | [],_,h,_=>h
 | d::ds,vs,h,p=>by
   obtain ⟨v,r,e,h1,h2⟩:=h
   simp only [E1,L5] at p
   refine ⟨v,r,e,?_,RepXs.args ds r h2 p.2⟩
   cases d<;>first|exact h1|cases p.1
theorem RepAs.length {H:Hp}:∀ {ds:List D} {vs:List V},RepAs K M b H ds vs->vs.length=ds.length
 | [],_,h=>by cases (show _=_ from h);rfl
 | d::ds,vs,h=>by
   obtain ⟨v,r,rfl,h1,h2⟩:=h
   simp [RepAs.length h2]
def NH (W:Wd)(E:XK)(Ed:Addr->Prop):Prop:=∀ C H',Ed C->Kp W.b0 W.H0 H'->okB W.B W.b0 H'->E (.ref C) none H'
theorem Sta.ok0 {W:Wd}{pn:List (D×V)} {H:Hp}{σ:St}{ρ:Ev}(s:Sta W pn M b H σ ρ):okB W.B W.b0 H:=by
 rcases s.new with q|⟨q,_⟩
 · rw [<- q];exact s.ok
 · intro p e;rw [q] at e;cases e
section
variable {X:Cx}{W:Wd}{e a b c:Expr}{es:List Expr}{pos p:Pos}{d:DE}{dA:DA}{x:Str}{k:Nat}{ps:List Str}{S:DSp}
def MX (S:DSp)(Ed:Addr->Prop)(dA:DA):DE:=fun ρ P=>dA ρ fun ds=>ds.all BF=true/\S ds P Ed
theorem PC {E:XK}{Ed:Addr->Prop}(hE:NH W E Ed):∀ σ H Q,dn W (MX S Ed dA) σ H Q->NW (J8 W.K W.B S) [] E (dnA W dA) σ H Q:=by
 intro σ H Q hh
 refine hh.elim fun pn M b ρ P st h k=>?_
 refine ⟨pn,M,b,ρ,_,st,h,fun xs vs H1 hx rx k1 o1=>?_⟩
 have st1:=st.step k1 o1
 refine ⟨M,b,xs,P,Ed,hx.2,?_,o1,st.bagM,st1.dom,fun d v H' hd rd k2 o2=>k d v H' hd rd.x (k1.trans k2) o2,fun C H' hC k2 o2=>?_⟩
 · rw [E7];exact rx.args _ _ hx.1
 · have st2:=st1.step k2 o2
   exact hE C H' hC st2.kp st2.ok0
theorem VC:NH W E0 (fun _=>False):=fun _ _ h=>h.elim
theorem Q0c (G:Callee X.prog X.w X.K X.mg X.base CX0 x k ps (J8 W.K W.B S))(hr:Room k X.A)(hg:Gl X x)(ha:PA X (e::es) (dnA W dA))(hdb:(x==("__debug__" : Str))=false:=by decide) (he:starEach (e::es) X.env=(false,eval e X.env)::starEach es X.env:=by rfl) (hpl:(backTo pos (starEach es X.env)).any (·.1)=false:=by rfl) :
 PE X (.Call (.Name x p) (e::es) [] pos) (dn W (MX S (fun _=>False) dA)):=(PV G hr hg ha hdb he hpl).mono (PC VC)
theorem J5w {CX:CXT}{E:XK}{Ed:Addr->Prop}(hE:NH W E Ed)(hp:HK CX X E)(G:Callee X.prog X.w X.K X.mg X.base CX x k ps (J8 W.K W.B S))(hr:Room k X.A)(hg:Gl X x)(ha:PA X (e::es) (dnA W dA))(hdb:(x==("__debug__" : Str))=false:=by decide) (he:starEach (e::es) X.env=(false,eval e X.env)::starEach es X.env:=by rfl) (hpl:(backTo pos (starEach es X.env)).any (·.1)=false:=by rfl) :
 PE X (.Call (.Name x p) (e::es) [] pos) (dn W (MX S Ed dA)):=(J4l hp G hr hg ha hdb he hpl).mono (PC hE)
def EB (W:Wd)(r:List V->Hp->VK->Prop)(o:List D->(D->Prop)->Prop):Prop:=∀ M b H xs vs P Q,Hs W M b H->RepXs W M b H xs vs->o xs P->(∀ z w H',P z->RepX W M b H' z w->Kp b H H'->okB W.B b H'->Q w H')->r vs H Q
def dCB (o:List D->(D->Prop)->Prop)(dA:DA):DE:=fun ρ P=>dA ρ fun xs=>o xs P
variable {r:List V->Hp->VK->Prop}{o:List D->(D->Prop)->Prop}{id T:String}
theorem J6o (hd:EB W r o):∀ σ H Q,dn W (dCB o dA) σ H Q->tCB r (dnA W dA) σ H Q:=by
 intro σ H Q hh
 refine hh.elim fun pn M b ρ P st h k=>?_
 refine ⟨pn,M,b,ρ,_,st,h,fun xs vs H1 hx rx k1 o1=>?_⟩
 exact hd M b H1 xs vs P Q (st.step k1 o1).toHs rx hx fun z w H' hz rz k2 o2=>k z w H' hz rz (k1.trans k2) o2
theorem J2i (hc:CK X (.builtin id) r)(hd:EB W r o)(hg:Gl X x)(hm:X.mg x=none)(hv:bootBuiltins x=some (.builtin id))(ha:PA X (e::es) (dnA W dA))(hn:x≠"__name__":=by decide) (hdb:(x==("__debug__" : Str))=false:=by decide)
 (he:starEach (e::es) X.env=(false,eval e X.env)::starEach es X.env:=by rfl) (hpl:(backTo pos (starEach es X.env)).any (·.1)=false:=by rfl):PE X (.Call (.Name x p) (e::es) [] pos) (dn W (dCB o dA)):=(GY hc hg hm hv ha hn hdb he hpl).mono (J6o hd)
theorem YZ (hc:CK X (.type T) r)(hd:EB W r o)(hg:Gl X x)(hm:X.mg x=none)(hv:bootBuiltins x=some (.type T))(ha:PA X (e::es) (dnA W dA))(hn:x≠"__name__":=by decide) (hdb:(x==("__debug__" : Str))=false:=by decide)
 (he:starEach (e::es) X.env=(false,eval e X.env)::starEach es X.env:=by rfl) (hpl:(backTo pos (starEach es X.env)).any (·.1)=false:=by rfl):PE X (.Call (.Name x p) (e::es) [] pos) (dn W (dCB o dA)):=(JV hc hg hm hv ha hn hdb he hpl).mono (J6o hd)
theorem rx1 {b:Option Addr}{H:Hp}{x:D}{vs:List V}(h:RepXs W M b H [x] vs):∃ v,vs=[v]/\RepX W M b H x v:=by
 obtain ⟨v,r,rfl,h1,h2⟩:=h
 cases (show _=_ from h2)
 exact ⟨v,rfl,h1⟩
theorem rx2 {b:Option Addr}{H:Hp}{x y:D}{vs:List V}(h:RepXs W M b H [x,y] vs):∃ v u,vs=[v,u]/\RepX W M b H x v/\RepX W M b H y u:=by
 obtain ⟨v,r,rfl,h1,h2⟩:=h
 obtain ⟨u,rfl,h3⟩:=rx1 h2
 exact ⟨v,u,rfl,h1,h3⟩
def HC:List D->Option (List Int)
 | []=>some []
 | .int i::r=>(HC r).map (i::·)
 | _=>none
def GO:List D->Option (List Bool)
 | []=>some []
 | .bl i::r=>(GO r).map (i::·)
 | _=>none
theorem HC.eq:∀ {ds:List D} {ns:List Int},HC ds=some ns->ds=ns.map D.int
 | [],ns,h=>by cases h;rfl
 | d::r,ns,h=>by
   cases d<;>first|cases h|skip
   case int i =>
    simp only [HC,L8] at h
    obtain ⟨m,e,rfl⟩:=h
    rw [HC.eq e];rfl
theorem GO.eq:∀ {ds:List D} {ns:List Bool},GO ds=some ns->ds=ns.map D.bl
 | [],ns,h=>by cases h;rfl
 | d::r,ns,h=>by
   cases d<;>first|cases h|skip
   case bl i =>
    simp only [GO,L8] at h
    obtain ⟨m,e,rfl⟩:=h
    rw [GO.eq e];rfl
theorem OO (ns:List Bool):GO (ns.map D.bl)=some ns:=by
 induction ns with
 | nil=>rfl
 | cons n ns ih=>simp [GO,ih]
theorem Reps.ints {H:Hp}:∀ {ns:List Int} {vs:List V},Reps K M H (ns.map D.int) vs->vs=ns.map V.int
 | [],_,h=>by cases (show _=_ from h);rfl
 | n::ns,_,h=>by
   obtain ⟨v,r,rfl,h1,h2⟩:=h
   cases (show _=_ from h1)
   rw [Reps.ints h2];rfl
theorem Reps.bls {H:Hp}:∀ {ns:List Bool} {vs:List V},Reps K M H (ns.map D.bl) vs->vs=ns.map V.bl
 | [],_,h=>by cases (show _=_ from h);rfl
 | n::ns,_,h=>by
   obtain ⟨v,r,rfl,h1,h2⟩:=h
   cases (show _=_ from h1)
   rw [Reps.bls h2];rfl
def asL:D->Option (List D)
 | .lst xs=>some xs
 | .own xs=>some xs
 | _=>none
def asS:D->Option (List D)
 | .lst xs=>some xs
 | .own xs=>some xs
 | .tup xs=>some xs
 | _=>none
theorem asL.rep {b:Option Addr}{H:Hp}{x:D}{v:V}{xs:List D}(h:RepX W M b H x v)(e:asL x=some xs):∃ a vs,v=.ref a/\H a=some (.lst vs)/\Reps W.K M H xs vs:=by
 cases x<;>first|cases e|skip
 case lst=>obtain ⟨a,vs,rfl,hh,r⟩:=h;exact ⟨a,vs,rfl,hh.2,r⟩
 case own=>obtain ⟨a,vs,rfl,_,_,_,_,hh,r⟩:=h;exact ⟨a,vs,rfl,hh,r⟩
theorem asS.rep {b:Option Addr}{H:Hp}{x:D}{v:V}{xs:List D}(h:RepX W M b H x v)(e:asS x=some xs):∃ a vs,v=.ref a/\(SqL W.K H a vs\/SqT W.K H a vs)/\Reps W.K M H xs vs:=by
 cases x<;>first|cases e|skip
 case lst=>obtain ⟨a,vs,rfl,hh,r⟩:=h;exact ⟨a,vs,rfl,.inl (SqL.of hh.2),r⟩
 case own=>obtain ⟨a,vs,rfl,_,_,_,_,hh,r⟩:=h;exact ⟨a,vs,rfl,.inl (SqL.of hh),r⟩
 case tup=>obtain ⟨a,vs,rfl,hh,r⟩:=h;exact ⟨a,vs,rfl,.inr (hh.sq),r⟩
def Q4g:List D->(D->Prop)->Prop
 | [.lst xs],P=>P (.int xs.length)
 | [.own xs],P=>P (.int xs.length)
 | [.tup xs],P=>P (.int xs.length)
 | [.scr ns],P=>P (.int ns.length)
 | _,_=>False
theorem BR:EB W (fun xs H Q=>∃ p ys,xs=[.ref p]/\(SqL W.K H p ys\/SqT W.K H p ys)/\Q (.int ys.length) H) Q4g:=by
 intro M b H xs vs P Q hs rx ho k
 match xs,ho with
 | [.lst xs],ho =>
   obtain ⟨v,rfl,r⟩:=rx1 rx
   obtain ⟨a,us,rfl,hh,r'⟩:=r
   exact ⟨a,us,rfl,.inl (SqL.of hh.2),k _ _ H ho (by show _=_;rw [r'.length]) (Kp.refl _ _) hs.ok⟩
 | [.own xs],ho =>
   obtain ⟨v,rfl,r⟩:=rx1 rx
   obtain ⟨a,us,rfl,_,_,_,_,hh,r'⟩:=r
   exact ⟨a,us,rfl,.inl (SqL.of hh),k _ _ H ho (by show _=_;rw [r'.length]) (Kp.refl _ _) hs.ok⟩
 | [.tup xs],ho =>
   obtain ⟨v,rfl,r⟩:=rx1 rx
   obtain ⟨a,us,rfl,hh,r'⟩:=r
   exact ⟨a,us,rfl,.inr (hh.sq),k _ _ H ho (by show _=_;rw [r'.length]) (Kp.refl _ _) hs.ok⟩
 | [.scr ns],ho =>
   obtain ⟨v,rfl,r⟩:=rx1 rx
   obtain ⟨a,rfl,hh⟩:=r
   refine ⟨a,ns.map V.int,rfl,.inl (hh.imp (·.2) id),k _ _ H ho (by show _=_;rw [L0]) (Kp.refl _ _) hs.ok⟩
def J0z:List D->(D->Prop)->Prop
 | [.lst xs],P=>P (.tup xs)
 | [.own xs],P=>P (.tup xs)
 | [.tup xs],P=>P (.tup xs)
 | _,_=>False
theorem HG:EB W (fun xs H Q=>∃ p ys,xs=[.ref p]/\((SqL W.K H p ys/\∀ l,H l=none->Q (.ref l) (upd H l (.tup ys)))\/(SqT W.K H p ys/\Q (.ref p) H))) J0z:=by
 intro M b H xs vs P Q hs rx ho k
 match xs,ho with
 | [.lst xs],ho =>
   obtain ⟨v,rfl,r⟩:=rx1 rx
   obtain ⟨a,us,rfl,hh,r'⟩:=r
   exact ⟨a,us,rfl,.inl ⟨SqL.of hh.2,fun l hl=>k _ _ _ ho (GF hs r' hl) (Kp.upd hl) (hs.okU hl)⟩⟩
 | [.own xs],ho =>
   obtain ⟨v,rfl,r⟩:=rx1 rx
   obtain ⟨a,us,rfl,_,_,_,_,hh,r'⟩:=r
   exact ⟨a,us,rfl,.inl ⟨SqL.of hh,fun l hl=>k _ _ _ ho (GF hs r' hl) (Kp.upd hl) (hs.okU hl)⟩⟩
 | [.tup xs],ho =>
   obtain ⟨v,rfl,r⟩:=rx1 rx
   obtain ⟨a,us,rfl,hh,r'⟩:=r
   exact ⟨a,us,rfl,.inr ⟨hh.sq,k _ _ H ho ⟨a,us,rfl,hh,r'⟩ (Kp.refl _ _) hs.ok⟩⟩
def Q4i:List D->(D->Prop)->Prop
 | [.int i],P=>P (.int (if i<0 then -i else i))
 | _,_=>False
theorem VM:EB W (fun xs H Q=>∃ i,xs=[.int i]/\Q (.int (if i<0 then -i else i)) H) Q4i:=by
 intro M b H xs vs P Q hs rx ho k
 match xs,ho with
 | [.int i],ho =>
   obtain ⟨v,rfl,r⟩:=rx1 rx
   cases (show _=_ from r)
   exact ⟨i,rfl,k _ _ H ho (show _=_ from rfl) (Kp.refl _ _) hs.ok⟩
def Q2o:List D->(D->Prop)->Prop
 | [.int i],P=>P (.int i)
 | [.bl c],P=>P (.int (if c then 1 else 0))
 | _,_=>False
theorem XE:EB W (fun xs H Q=>(∃ i,xs=[.int i]/\Q (.int i) H)\/∃ k,xs=[.bl k]/\Q (.int (if k then 1 else 0)) H) Q2o:=by
 intro M b H xs vs P Q hs rx ho k
 match xs,ho with
 | [.int i],ho =>
   obtain ⟨v,rfl,r⟩:=rx1 rx
   cases (show _=_ from r)
   exact .inl ⟨i,rfl,k _ _ H ho (show _=_ from rfl) (Kp.refl _ _) hs.ok⟩
 | [.bl i],ho =>
   obtain ⟨v,rfl,r⟩:=rx1 rx
   cases (show _=_ from r)
   exact .inr ⟨i,rfl,k _ _ H ho (show _=_ from rfl) (Kp.refl _ _) hs.ok⟩
def o2I (g:Int->Int->Int):List D->(D->Prop)->Prop
 | [.int i,.int j],P=>P (.int (g i j))
 | _,_=>False
theorem J7j {g:Int->Int->Int}:EB W (fun xs H Q=>∃ i j,xs=[.int i,.int j]/\Q (.int (g i j)) H) (o2I g):=by
 intro M b H xs vs P Q hs rx ho k
 match xs,ho with
 | [.int i,.int j],ho =>
   obtain ⟨v,u,rfl,r,r'⟩:=rx2 rx
   cases (show _=_ from r)
   cases (show _=_ from r')
   exact ⟨i,j,rfl,k _ _ H ho (show _=_ from rfl) (Kp.refl _ _) hs.ok⟩
def Q2l:List D->(D->Prop)->Prop
 | [x],P=>(asL x).elim False fun xs=>(HC xs).elim False fun ns=>P (.int ns.sum)
 | _,_=>False
theorem Q0t:EB W (fun xs H Q=>∃ (p:Addr) (ns:List Int),xs=[.ref p]/\SqL W.K H p (ns.map V.int)/\Q (.int ns.sum) H) Q2l:=by
 intro M b H xs vs P Q hs rx ho k
 match xs,ho with
 | [x],ho =>
   obtain ⟨v,rfl,r⟩:=rx1 rx
   simp only [Q2l] at ho
   cases ex:asL x with
   | none=>rw [ex] at ho;exact ho.elim
   | some xs =>
     rw [ex] at ho
     simp only [Option.elim] at ho
     cases en:HC xs with
     | none=>rw [en] at ho;exact ho.elim
     | some ns =>
       rw [en] at ho
       cases HC.eq en
       obtain ⟨a,us,rfl,hh,r'⟩:=asL.rep r ex
       cases r'.ints
       exact ⟨a,ns,rfl,SqL.of hh,k _ _ H ho (show _=_ from rfl) (Kp.refl _ _) hs.ok⟩
def Q2q (g:List Bool->Bool):List D->(D->Prop)->Prop
 | [x],P=>(asL x).elim False fun xs=>(GO xs).elim False fun ns=>P (.bl (g ns))
 | _,_=>False
theorem HH {g:List Bool->Bool}:EB W (fun xs H Q=>∃ (p:Addr) (bs:List Bool),xs=[.ref p]/\SqL W.K H p (bs.map V.bl)/\Q (.bl (g bs)) H) (Q2q g):=by
 intro M b H xs vs P Q hs rx ho k
 match xs,ho with
 | [x],ho =>
   obtain ⟨v,rfl,r⟩:=rx1 rx
   simp only [Q2q] at ho
   cases ex:asL x with
   | none=>rw [ex] at ho;exact ho.elim
   | some xs =>
     rw [ex] at ho
     simp only [Option.elim] at ho
     cases en:GO xs with
     | none=>rw [en] at ho;exact ho.elim
     | some ns =>
       rw [en] at ho
       cases GO.eq en
       obtain ⟨a,us,rfl,hh,r'⟩:=asL.rep r ex
       cases r'.bls
       exact ⟨a,ns,rfl,SqL.of hh,k _ _ H ho (show _=_ from rfl) (Kp.refl _ _) hs.ok⟩
theorem Y4 (K:Fg)(h:X.K=K):CK X (.builtin "isinstance") (fun xs H Q=>∃ y c t b,xs=[y,.ty c]/\(TyOf K H y t\/∃ a vs,y=.ref a/\KTp K a vs/\t=.type "tuple")/\PySem.W.kitOne K t (.type c)=some b/\Q (.bl b) H):=by
 subst h
 intro pins s σ H xs us Q I rs q
 obtain ⟨y,c,t,b,rfl,ty,e,q⟩:=q
 rcases ty with ty|⟨a,vs,rfl,⟨o,its,n,hk,hc,hs,hz,r⟩,rfl⟩
 · exact TJ pins s σ H _ us Q I rs ⟨y,c,t,b,rfl,ty,e,q⟩
 · obtain ⟨u1,u2,rfl,r1,r2⟩:=KI rs
   cases (show u2=Value.type c from r2)
   cases (show u1=Value.ref a from r1)
   refine T7 PySem.W.kitx_tuple I.kIn ⟨o,I.kIn a o hk,hc⟩ e (fun z=>nomatch z) fun tk=>?_
   exact ⟨.bl b,H,I.tok _,rfl,q⟩
def ZR:D->Option String
 | .non=>some "NoneType"
 | .bl _=>some "bool"
 | .int _=>some "int"
 | .str _=>some "str"
 | .lst _=>some "list"
 | .own _=>some "list"
 | .tup _=>some "tuple"
 | .frg _ (.lst _)=>some "list"
 | _=>none
def Q4n (K:Fg)(t c:String)(b:Bool):Prop:=PySem.W.kitOne K (.type t) (.type c)=some b
def J8x (K:Fg):List D->(D->Prop)->Prop
 | [x,.ty c],P=>match ZR x with|some t=>∃ b,Q4n K t c b/\P (.bl b)|none=>False
 | _,_=>False
theorem AF:EB W (fun xs H Q=>∃ y c t b,xs=[y,.ty c]/\(TyOf W.K H y t\/∃ a vs,y=.ref a/\KTp W.K a vs/\t=.type "tuple")/\PySem.W.kitOne W.K t (.type c)=some b/\Q (.bl b) H) (J8x W.K):=by
 intro M b H xs vs P Q hs rx ho k
 match xs,ho with
 | [x,.ty c],ho =>
   obtain ⟨v,u,rfl,r,r'⟩:=rx2 rx
   cases (show _=_ from r')
   simp only [J8x] at ho
   split at ho
   case h_2=>exact ho.elim
   case h_1 t et =>
    obtain ⟨q,hq,hp⟩:=ho
    refine ⟨v,c,.type t,q,rfl,?_,hq,k _ _ H hp (show _=_ from rfl) (Kp.refl _ _) hs.ok⟩
    cases x<;>first|cases et|skip
    case non=>cases (show _=_ from r);exact .inl (.non)
    case bl=>cases (show _=_ from r);exact .inl (.bl _)
    case int=>cases (show _=_ from r);exact .inl (.int _)
    case str=>cases (show _=_ from r);exact .inl (.str _)
    case lst=>obtain ⟨a,us,rfl,hh,r'⟩:=r;exact .inl (.lst hh.2)
    case own=>obtain ⟨a,us,rfl,_,_,_,_,hh,r'⟩:=r;exact .inl (.lst hh)
    case frg f d =>
     cases d<;>first|cases et|skip
     case lst=>obtain ⟨a,us,rfl,hh,r'⟩:=r.2.2;exact .inl (.lst hh.2)
    case tup =>
     obtain ⟨a,us,rfl,hh,r'⟩:=r
     exact hh.elim (fun z=>.inl (.tup z.2)) fun z=>.inr ⟨a,us,rfl,z,rfl⟩
end
theorem Reps.plain {H:Hp}:∀ {ds:List D} {vs:List V},Reps K M H ds vs->ds.all plain=true
 | [],_,_=>rfl
 | d::ds,_,h=>by
   obtain ⟨v,r,rfl,h1,h2⟩:=h
   rw [E1,Reps.plain h2,Bool.and_true]
   cases d<;>first|rfl|exact h1.elim
theorem Reps.xs {W:Wd} {H:Hp}:∀ {ds:List D} {vs:List V},Reps W.K M H ds vs->RepXs W M b H ds vs
 | [],_,h=>h
 | d::ds,_,h=>by
   obtain ⟨v,r,rfl,h1,h2⟩:=h
   exact ⟨v,r,rfl,h1.x,Reps.xs h2⟩
def IN (W:Wd)(J:It)(need:List (D×V))(items:List D):Prop:=∀ M b H,Hs W M b H->(∀ q∈need,RepX W M b H q.1 q.2) ->
 (∀ (i:Nat) d,items[i]?=some d->J.go i H/\∀ x H3,J.yld i H x H3->Same H H3/\RepX W M b H3 d x)/\∀ i,items.length<=i->J.stop i H
def dnI (W:Wd)(fz:Bool)(di:DA):TI:=fun σ H R=>∃ pn M b ρ P,Sta W pn M b H σ ρ/\di ρ P/\∀ items J need H',P items->items.all plain=true->IN W J need items->(∀ q∈need,RepX W M b H' q.1 q.2/\(fz=true->plain q.1=true))->Kp b H H'->okB W.B b H'->R J H'
theorem dnI.elim {W:Wd}{fz:Bool}{d:DA}{σ:St}{H:Hp}{R:It->Hp->Prop}{Z:Prop}(h:dnI W fz d σ H R)(f:∀ pn M b ρ P,Sta W pn M b H σ ρ->d ρ P->(∀ items J need H',P items->items.all plain=true->IN W J need items->(∀ q∈need,RepX W M b H' q.1 q.2/\(fz=true->plain q.1=true))->Kp b H H'->okB W.B b H'->R J H')->Z):Z:=by
 obtain ⟨pn,M,b,ρ,P,st,h,k⟩:=h
 exact f pn M b ρ P st h k
section
variable {X:Cx}{W:Wd}{tg l e a b:Expr}{pos p:Pos}{d dl:DE}{dA:DA}{fz:Bool}
theorem PI.mono {t t':TI}(h:PI X tg l t)(m:∀ σ H R,t' σ H R->t σ H R):PI X tg l t':=fun pins s σ H R I q=>h pins s σ H R I (m σ H R q)
theorem J8n {tl:TE}(K:Fg)(h:X.K=K)(hl:PE X l tl):PI X tg l (fun σ H R=>tl σ H fun x H1=>(∃ a,x=.ref a/\(∃ xs,SqL K H1 a xs)/\R (Itl K a) H1)\/(∃ a,x=.ref a/\(∃ xs,SqT K H1 a xs)/\R (Itt K a) H1)):=by
 subst h
 intro pins s σ H R I h
 refine thn (hl pins s σ H _ I h) fun v s1 ⟨x,H1,I1,r1,q1⟩=>?_
 rcases q1 with ⟨a,e,⟨xs,hq⟩,q⟩|⟨a,e,⟨xs,hq⟩,q⟩
 · subst e
   cases r1
   obtain ⟨its,rv,p,hz⟩:=I1.list hq
   refine B1d p.isList ?_
   refine ⟨s1.heap.objs.size,[s1.heap.objs.size],_,_,H1,rfl,I1.kept (t':=s1.toks) fun b o e=>B1 _ e,XW a _,⟨_,M6 _ rfl,rfl,rfl⟩,fun b hb=>?_,q⟩
   have e:b=s1.heap.objs.size:=by simpa using hb
   subst e
   exact I1.fpOk (B9 _) (I1.hok.fresh (B9 _))
 · subst e
   cases r1
   obtain ⟨its,rv,p,hz⟩:=I1.tuple hq
   refine wpAny_pyIter_tuple (show s1.heap.IsTuple a its.toArray from p) ?_
   refine ⟨s1.heap.objs.size,[s1.heap.objs.size],_,_,H1,rfl,I1.kept (t':=s1.toks) fun b o e=>B1 _ e,TX a _,⟨_,M6 _ rfl,rfl,rfl⟩,fun b hb=>?_,q⟩
   have e:b=s1.heap.objs.size:=by simpa using hb
   subst e
   exact I1.fpOk (B9 _) (I1.hok.fresh (B9 _))
def J9l (fz:Bool)(dl:DE):DA:=fun ρ P=>dl ρ fun x=>match x with
 | .lst xs=>P xs
 | .tup xs=>P xs
 | .own xs=>fz=false/\P xs
 | _=>False
theorem J1r {x:D}{xs:List D}{a:Addr}(hx:asL x=some xs):IN W (Itl W.K a) [(x,.ref a)] xs:=by
 intro M b H hs hn
 obtain ⟨a',vs,e,hh,r⟩:=asL.rep (hn _ (R0.mpr rfl)) hx
 cases e
 refine ⟨fun i d e=>?_,fun i hi=>⟨vs,SqL.of hh,by rw [r.length];exact hi⟩⟩
 obtain ⟨v,e1,r1⟩:=r.get e
 refine ⟨⟨vs,v,SqL.of hh,e1⟩,fun y H3 ⟨eH,hy⟩=>?_⟩
 subst eH
 have:=hy vs (SqL.of hh)
 rw [e1] at this;cases this
 exact ⟨Same.refl _,r1.x⟩
theorem J9k {xs:List D}{a:Addr}:IN W (Itt W.K a) [(.tup xs,.ref a)] xs:=by
 intro M b H hs hn
 obtain ⟨a',vs,e,hh,r⟩:=hn _ (R0.mpr rfl)
 cases e
 refine ⟨fun i d e=>?_,fun i hi=>⟨vs,hh.sq,by rw [r.length];exact hi⟩⟩
 obtain ⟨v,e1,r1⟩:=r.get e
 refine ⟨⟨vs,v,hh.sq,e1⟩,fun y H3 ⟨eH,hy⟩=>?_⟩
 subst eH
 have:=hy vs (hh.sq)
 rw [e1] at this;cases this
 exact ⟨Same.refl _,r1.x⟩
theorem J1b {b:Option Addr}{H:Hp}{x:D}{v:V}(r:RepX W M b H x v)(h:fz=true->plain x=true):∀ q∈[(x,v)],RepX W M b H q.1 q.2/\(fz=true->plain q.1=true):=fun q hq=>by
 have e:=R0.mp hq
 subst e
 exact ⟨r,h⟩
theorem J9z (hK:X.K=W.K)(hl:PE X l (dn W dl)):PI X tg l (dnI W fz (J9l fz dl)):=(J8n W.K hK hl).mono fun σ H R hh=>hh.elim fun pn M b ρ P st h k=>by
 refine ⟨pn,M,b,ρ,_,st,h,fun x v H1 hx rx k1 o1=>?_⟩
 cases x<;>first|exact hx.elim|skip
 case lst xs =>
  obtain ⟨a,vs,rfl,hh,r⟩:=(show RepX W M b H1 (.lst xs) v from rx)
  exact .inl ⟨a,rfl,⟨vs,SqL.of hh.2⟩,k xs _ _ H1 hx r.plain (J1r (x:=.lst xs) rfl) (J1b rx fun _=>rfl) k1 o1⟩
 case tup xs =>
  obtain ⟨a,vs,rfl,hh,r⟩:=(show RepX W M b H1 (.tup xs) v from rx)
  exact .inr ⟨a,rfl,⟨vs,hh.sq⟩,k xs _ _ H1 hx r.plain J9k (J1b rx fun _=>rfl) k1 o1⟩
 case own xs =>
  obtain ⟨a,vs,rfl,m1,m2,m3,m4,hh,r⟩:=(show RepX W M b H1 (.own xs) v from rx)
  exact .inl ⟨a,rfl,⟨vs,SqL.of hh⟩,k xs _ _ H1 hx.2 r.plain (J1r (x:=.own xs) rfl) (J1b rx fun z=>by rw [hx.1] at z;cases z) k1 o1⟩
def DJ (lo:Int)(n:Nat):List D:=(List.range n).map fun (i:Nat)=>.int (lo+i)
theorem IV (lo:Int)(n:Nat):(DJ lo n).all plain=true:=by
 simp [DJ,plain]
theorem SN {lo:Int}{n:Nat}:IN W (Itr lo n) [] (DJ lo n):=by
 intro M b H hs _
 refine ⟨fun i d e=>?_,fun i hi=>by show n<=i;simpa [DJ] using hi⟩
 have hi:i<n:=by
  have:=(B6.mp e).1
  simpa [DJ] using this
 refine ⟨hi,fun x H3 ⟨eH,ex⟩=>?_⟩
 subst eH ex
 refine ⟨Same.refl _,?_⟩
 simp [DJ,hi] at e
 subst e
 exact (show _=_ from rfl)
def WQ (dA:DA):DA:=fun ρ P=>dA ρ fun xs=>match xs with
 | [.int j]=>(-(2 ^ 62)<=j/\j<2 ^ 62)/\P (DJ 0 j.toNat)
 | _=>False
theorem YY (hg:Gl X "range") (hm:X.mg "range" = none) (ha:PA X [a] (dnA W dA)) (hs:starEach [a] X.env=[(false,eval a X.env)]:=by rfl):PI X tg (.Call (.Name "range" p) [a] [] pos) (dnI W fz (WQ dA)):=(NY hg hm ha hs).mono fun σ H R hh=>hh.elim fun pn M b ρ P st h k=>by
 refine ⟨pn,M,b,ρ,_,st,h,fun xs vs H1 hx rx k1 o1=>?_⟩
 match xs,hx with
 | [.int j],hx =>
   obtain ⟨v,rfl,r⟩:=rx1 rx
   cases (show _=_ from r)
   exact ⟨j,rfl,hx.1.1,hx.1.2,k _ _ _ H1 hx.2 (IV _ _) SN (fun q hq=>by cases hq) k1 o1⟩
def asK (fz t:Bool):D->Option (List D)
 | .tup xs=>if t then some xs else none
 | .lst xs=>if t then none else some xs
 | .own xs=>if t||fz then none else some xs
 | _=>none
theorem asK.rep {b:Option Addr}{H:Hp}{t:Bool}{x:D}{v:V}{xs:List D}(h:RepX W M b H x v)(e:asK fz t x=some xs):(∃ a vs,v=.ref a/\SqX W.K t H a vs/\Reps W.K M H xs vs)/\(fz=true->plain x=true):=by
 cases x<;>first|cases e|skip
 case lst =>
  obtain ⟨a,vs,rfl,hh,r⟩:=h
  cases t<;>cases e
  exact ⟨⟨a,vs,rfl,SqL.of hh.2,r⟩,fun _=>rfl⟩
 case own =>
  obtain ⟨a,vs,rfl,_,_,_,_,hh,r⟩:=h
  cases t<;>cases fz<;>cases e
  exact ⟨⟨a,vs,rfl,SqL.of hh,r⟩,fun z=>by cases z⟩
 case tup =>
  obtain ⟨a,vs,rfl,hh,r⟩:=h
  cases t<;>cases e
  exact ⟨⟨a,vs,rfl,hh.sq,r⟩,fun _=>rfl⟩
def RJ (xs ys:List D):List D:=List.zipWith (fun x y=>.tup [x,y]) xs ys
def J6y (fz t1 t2:Bool)(dA:DA):DA:=fun ρ P=>dA ρ fun zs=>match zs with
 | [x,y]=>(match asK fz t1 x,asK fz t2 y with|some xs,some ys=>xs.length<=ys.length/\P (RJ xs ys)|_,_=>False)
 | _=>False
theorem LS:∀ (xs ys:List D),(RJ xs ys).all plain=true
 | [],_=>rfl
 | _::_,[]=>rfl
 | x::xs,y::ys=>by
   show (plain (.tup [x,y])&&(RJ xs ys).all plain)=true
   rw [LS xs ys];rfl
theorem J9j {t1 t2:Bool}{x y:D}{xs ys:List D}{l1 l2:Addr}(h1:asK fz t1 x=some xs)(h2:asK fz t2 y=some ys)(hl:xs.length<=ys.length):IN W (Q1m W.K t1 t2 l1 l2) [(x,.ref l1),(y,.ref l2)] (RJ xs ys):=by
 intro M b H hs hn
 obtain ⟨⟨a1,us,e1,q1,r1⟩,_⟩:=asK.rep (hn _ (.head _)) h1
 obtain ⟨⟨a2,ws,e2,q2,r2⟩,_⟩:=asK.rep (hn _ (.tail _ (.head _))) h2
 cases e1
 cases e2
 have hlen:(RJ xs ys).length=xs.length:=by simp [RJ];omega
 refine ⟨fun i d e=>?_,fun i hi=>⟨⟨us,q1,by rw [r1.length,<- hlen];exact hi⟩,⟨ws,q2⟩⟩⟩
 have hi:i<xs.length:=by rw [<- hlen];exact (B6.mp e).1
 obtain ⟨u,eu,ru⟩:=r1.get (L4 hi)
 obtain ⟨w,ew,rw'⟩:=r2.get (L4 (L7 hi hl))
 refine ⟨⟨us,ws,u,w,q1,eu,q2,ew⟩,fun v H3 ⟨t,y1,y2,ev,ht,eH,k1,k2⟩=>?_⟩
 subst ev eH
 have z1:=k1 us q1
 have z2:=k2 ws q2
 rw [eu] at z1;cases z1
 rw [ew] at z2;cases z2
 refine ⟨Same.upd ht,?_⟩
 have ed:d=.tup [xs[i],ys[i]'(L7 hi hl)]:=by
  have:(RJ xs ys)[i]?=some (.tup [xs[i],ys[i]'(L7 hi hl)]):=by
   simp [RJ,List.getElem?_zipWith,hi,L7 hi hl]
  rw [this] at e;exact (Option.some.inj e).symm
 subst ed
 exact GF hs ⟨u,[w],rfl,ru,w,[],rfl,rw',rfl⟩ ht
theorem J9y {elts:List Expr}{c1}{tpos:Pos}(hK:X.K=W.K)(t1 t2:Bool)(hg:Gl X "zip") (hm:X.mg "zip" = none) (ha:PA X [a,b] (dnA W dA))
 (h:PI X (.Tuple elts c1 tpos) (.Call (.Name "zip" p) [a,b] [] pos) (J1s W.K t1 t2 (dnA W dA))):PI X (.Tuple elts c1 tpos) (.Call (.Name "zip" p) [a,b] [] pos) (dnI W fz (J6y fz t1 t2 dA)):=h.mono fun σ H R hh=>hh.elim fun pn M b ρ P st h k=>by
 refine ⟨pn,M,b,ρ,_,st,h,fun zs vs H1 hx rx k1 o1=>?_⟩
 match zs,hx with
 | [x,y],hx =>
   obtain ⟨v,u,rfl,r,r'⟩:=rx2 rx
   dsimp only at hx
   split at hx
   case h_2=>exact hx.elim
   case h_1 xs ys e1 e2 =>
    obtain ⟨⟨a1,us,z1,q1,r1⟩,f1⟩:=asK.rep r e1
    obtain ⟨⟨a2,ws,z2,q2,r2⟩,f2⟩:=asK.rep r' e2
    subst z1 z2
    refine ⟨a1,a2,rfl,⟨us,q1⟩,⟨ws,q2⟩,k _ _ _ H1 hx.2 (LS _ _) (J9j e1 e2 hx.1) (fun q hq=>?_) k1 o1⟩
    rcases B4.mp hq with z|z
    · subst z;exact ⟨r,f1⟩
    · have z:=R0.mp z
      subst z;exact ⟨r',f2⟩
end
def GD (W:Wd)(g:TG)(gd:D->Ev->(Ev->Prop)->Prop):Prop:=∀ pn M b H σ ρ x v Q P,Sta W pn M b H σ ρ->RepX W M b H x v->plain x=true->gd x ρ P->(∀ ρ' σ',P ρ'->Sta W pn M b H σ' ρ'->(∀ (i:Nat) d,mine d=true->ρ'[i]?=some (some d)->ρ[i]?=some (some d)/\σ'[i]?=σ[i]?)->Q σ' H)->g v σ H Q
theorem Sta.set {W:Wd}{pn:List (D×V)} {H:Hp}{σ:St}{ρ:Ev}{x:D}{v:V}(s:Sta W pn M b H σ ρ)(j:Nat)(r:RepX W M b H x v):Sta W pn M b H (σ.set j (some v)) (ρ.set j (some x)) where
 toHs:=s.toHs
 kp:=s.kp
 new:=s.new
 len:=by simp [s.len]
 pin:=s.pin
 env:=fun i d e=>by
  by_cases z:j=i
  · subst z
    rw [M5] at e
    simp at e
    obtain ⟨hl,rfl⟩:=e
    exact ⟨v,by rw [M5];simp [<- s.len,hl],r⟩
  · rw [L6 z] at e
    obtain ⟨w,e1,r1⟩:=s.env i d e
    exact ⟨w,by rw [L6 z];exact e1,r1⟩
theorem LJ {ρ:Ev}{σ:St}{j:Nat}{x:D}{v:V}(p:plain x=true):∀ (i:Nat) d,mine d=true->(ρ.set j (some x))[i]?=some (some d)->ρ[i]?=some (some d)/\(σ.set j (some v))[i]?=σ[i]?:=fun i d hm e=>by
 by_cases z:j=i
 · subst z
   rw [M5] at e
   simp at e
   obtain ⟨hl,rfl⟩:=e
   cases x<;>first|(cases hm;done)|(cases p;done)
 · rw [L6 z] at e
   exact ⟨e,by rw [L6 z]⟩
def gdN (j:Nat):D->Ev->(Ev->Prop)->Prop:=fun x ρ P=>P (ρ.set j (some x))
theorem Z3 {W:Wd}(j:Nat):GD W (SR j) (gdN j):=fun pn M b H σ ρ x v Q P st r p h k=>k _ _ h (st.set j r) (LJ p)
def LY:List Nat->List D->Ev->Ev
 | j::js,x::xs,ρ=>LY js xs (ρ.set j (some x))
 | _,_,ρ=>ρ
def HD:List Nat->TGs
 | []=>J9n
 | j::js=>WR (SR j) (HD js)
def Q2w (K:Fg)(n:Nat)(t:TGs):TG:=fun v σ H Q=>J5j K n t v σ H Q\/Q2x K n t v σ H Q
def gdU (js:List Nat):D->Ev->(Ev->Prop)->Prop:=fun x ρ P=>match x with
 | .tup xs=>xs.length=js.length/\P (LY js xs ρ)
 | .lst xs=>xs.length=js.length/\P (LY js xs ρ)
 | _=>False
theorem MW {W:Wd}{pn:List (D×V)} {H:Hp}{Q:St->Hp->Prop}{P:Ev->Prop}:∀ (js:List Nat) (xs:List D) (vs:List V) (σ:St) (ρ:Ev),Sta W pn M b H σ ρ->Reps W.K M H xs vs->xs.length=js.length->P (LY js xs ρ)->(∀ ρ' σ',P ρ'->Sta W pn M b H σ' ρ'->(∀ (i:Nat) d,mine d=true->ρ'[i]?=some (some d)->ρ[i]?=some (some d)/\σ'[i]?=σ[i]?)->Q σ' H)->HD js vs σ H Q
 | [],[],vs,σ,ρ,st,r,hl,h,k=>⟨r,k _ _ h st fun _ _ _ e=>⟨e,rfl⟩⟩
 | j::js,x::xs,vs,σ,ρ,st,r,hl,h,k=>by
   obtain ⟨v,us,rfl,r1,r2⟩:=r
   refine ⟨v,us,rfl,?_⟩
   have p:plain x=true:=by cases x<;>first|rfl|exact r1.elim
   refine MW js xs us _ (ρ.set j (some x)) (st.set j r1.x) r2 (by simpa using hl) h fun ρ' σ' hp st' ho=>k ρ' σ' hp st' fun i xs hm e=>?_
   obtain ⟨z1,z2⟩:=ho i xs hm e
   obtain ⟨z3,z4⟩:=LJ (v:=v) (σ:=σ) p i xs hm z1
   exact ⟨z3,z2.trans z4⟩
theorem CB {W:Wd}(js:List Nat):GD W (Q2w W.K js.length (HD js)) (gdU js):=fun pn M b H σ ρ x v Q P st r p h k=>by
 cases x<;>first|exact h.elim|skip
 case tup xs =>
  obtain ⟨a,vs,rfl,hh,r⟩:=r
  exact .inl ⟨a,vs,rfl,hh.sq,by rw [r.length];exact h.1,MW js xs vs σ ρ st r h.1 h.2 k⟩
 case lst xs =>
  obtain ⟨a,vs,rfl,hh,r⟩:=r
  exact .inr ⟨a,vs,rfl,SqL.of hh.2,by rw [r.length];exact h.1,MW js xs vs σ ρ st r h.1 h.2 k⟩
theorem PG.or {X:Cx}{tg:Expr}{t u:TG}(h:PG X tg t)(h':PG X tg u):PG X tg (fun v σ H Q=>t v σ H Q\/u v σ H Q):=by
 intro pins s σ H v u' Q I r q
 rcases q with q|q
 · exact h pins s σ H v u' Q I r q
 · exact h' pins s σ H v u' Q I r q
theorem gkeep_seq {js:List Nat}{n:Nat}{map:List (Option Nat)}(hj:∀ j∈js,map[j]?=some none):HL (Q2w K n (HD js)) map:=by
 have key:∀ (js:List Nat),(∀ j∈js,map[j]?=some none)->∀ vs σ H Q,HD js vs σ H Q->HD js vs σ H fun σ' H'=>(σ'.length=σ.length/\∀ j i:Nat,map[j]?=some (some i)->σ'[j]?=σ[j]?)/\Q σ' H':=by
  intro js
  induction js with
  | nil=>intro _ vs σ H Q h;exact ⟨h.1,⟨rfl,fun _ _ _=>rfl⟩,h.2⟩
  | cons j js ih =>
    intro hj vs σ H Q h
    obtain ⟨v,r,e,h⟩:=h
    refine ⟨v,r,e,?_⟩
    have q:=ih (fun j' m=>hj j' (.tail _ m)) r _ H _ h
    have mono:∀ (js:List Nat) vs σ H (Q Q':St->Hp->Prop),(∀ s h,Q s h->Q' s h)->HD js vs σ H Q->HD js vs σ H Q':=by
     intro js
     induction js with
     | nil=>intro vs σ H Q Q' m h;exact ⟨h.1,m _ _ h.2⟩
     | cons j js ih=>intro vs σ H Q Q' m ⟨v,r,e,h⟩;exact ⟨v,r,e,ih _ _ _ _ _ m h⟩
    refine mono js r _ H _ _ (fun s h ⟨⟨l,z⟩,w⟩=>⟨⟨by rw [l];simp,fun j' i hm=>?_⟩,w⟩) q
    rw [z j' i hm]
    have n1:j≠j':=fun z=>by
     have:=hj j (.head _)
     rw [z,hm] at this;cases this
    rw [L6 n1]
 intro v σ H Q h
 rcases h with ⟨a,xs,e,s,l,h⟩|⟨a,xs,e,s,l,h⟩
 · exact .inl ⟨a,xs,e,s,l,key js hj _ _ _ _ h⟩
 · exact .inr ⟨a,xs,e,s,l,key js hj _ _ _ _ h⟩
def JH (ρ:Ev)(map:List (Option Nat)):Ev:=map.map fun o=>o.bind fun i=>(ρ[i]?).join
def QQ (gd:D->Ev->(Ev->Prop)->Prop)(dt:DT)(de:DE)(ρc:Ev):List D->List D->(List D->Prop)->Prop
 | [],acc,P=>P acc
 | x::xs,acc,P=>gd x ρc fun ρ1=>dt ρ1 fun c=>IfP c (de ρ1 fun y=>plain y=true/\QQ gd dt de ρc xs (acc++[y]) P) (QQ gd dt de ρc xs acc P)
inductive compI (gd:D->Ev->(Ev->Prop)->Prop)(dt:DT)(de:DE)(ρc:Ev)(items:List D)(P:List D->Prop):Prop
 | mk (I:Nat->List D->Prop) (h0:I 0 []) (hs:∀ (i:Nat) x acc,items[i]?=some x->I i acc->gd x ρc fun ρ1=>dt ρ1 fun c=>IfP c (de ρ1 fun y=>plain y=true/\I (i+1) (acc++[y])) (I (i+1) acc)) (hd:∀ acc,I items.length acc->P acc):compI gd dt de ρc items P
theorem J2s {gd:D->Ev->(Ev->Prop)->Prop}{dt:DT}{de:DE}{ρc:Ev}{items:List D}{P:List D->Prop}(h:QQ gd dt de ρc items [] P):compI gd dt de ρc items P:=by
 refine ⟨fun i acc=>QQ gd dt de ρc (items.drop i) acc P,h,fun i x acc e q=>?_,fun acc q=>?_⟩
 · obtain ⟨hlt,rfl⟩:=B6.mp e
   try dsimp only at q
   rw [D8 hlt] at q
   exact q
 · (try dsimp only at q);rw [List.drop_length] at q;exact q
def J2p (map:List (Option Nat))(gd:D->Ev->(Ev->Prop)->Prop)(di:DA)(dt:DT)(de:DE):DE:=fun ρ P=>di ρ fun items=>items.length<=1000/\compI gd dt de (JH ρ map) items fun acc=>P (.lst acc)
theorem Sta.capt {W:Wd}{pn:List (D×V)} {H:Hp}{σ:St}{ρ:Ev}(s:Sta W pn M b H σ ρ)(map:List (Option Nat)):Sta W pn M b H (capt σ map) (JH ρ map) where
 toHs:=s.toHs
 kp:=s.kp
 new:=s.new
 len:=by simp [L2.capt,JH]
 pin:=s.pin
 env:=fun j d e=>by
  unfold JH at e
  rw [M9] at e
  simp only [L8] at e
  obtain ⟨o,e1,e2⟩:=e
  simp only [E3] at e2
  obtain ⟨i,rfl,e3⟩:=e2
  have e4:ρ[i]?=some (some d):=by
   cases q:ρ[i]? with
   | none=>rw [q] at e3;cases e3
   | some z=>rw [q] at e3;exact W9 some e3
  obtain ⟨v,e5,r⟩:=s.env i d e4
  exact ⟨v,by unfold L2.capt;rw [M9,e1];simp [e5],r⟩
theorem VE {W:Wd}{pn:List (D×V)}{M:Addr->Prop}{b:Option Addr}{H:Hp}{σ:St}{ρ:Ev}{J:It}{need:List (D×V)}{items:List D}{g:TG}{gd:D->Ev->(Ev->Prop)->Prop}{dt:DT}{de:DE}{P:List D->Prop}{Fin:List V->Hp->Prop}
 (hG:GD W g gd) (st:Sta W pn M b H σ ρ) (hp:items.all plain=true) (hI:IN W J need items) (hn:∀ q∈need,RepX W M b H q.1 q.2) (hl:items.length<=1000) (h:compI gd dt de ρ items P)
 (fin:∀ ds acc H',P ds->Reps W.K M H' ds acc->acc.length<=sizeLine->Kp b H H'->okB W.B b H'->Fin acc H'):∃ Wf:Nat->Nat->List V->Hp->Prop,(∃ m,Wf 0 m [] H)/\ND J g (dnT W dt) (dn W de) σ Fin Wf:=by
 obtain ⟨I,i0,istep,idone⟩:=h
 refine ⟨fun i m acc H2=>m=items.length - i/\i<=items.length/\acc.length<=i/\Kp b H H2/\okB W.B b H2/\∃ ds,Reps W.K M H2 ds acc/\I i ds,⟨items.length,by simp,W1 _,B9 _,Kp.refl _ _,st.ok,[],rfl,i0⟩,?_⟩
 rintro i m acc H2 ⟨rfl,hi,ha,k2,o2,ds,r,q⟩
 have st2:=st.step k2 o2
 obtain ⟨hgo,hstop⟩:=hI M b H2 st2.toHs fun q hq=>(hn q hq).step st.bagM k2
 by_cases hlt:i<items.length
 · have ei:items[i]?=some items[i]:=L4 hlt
   replace q:=istep i _ ds ei q
   refine .inr ⟨(hgo i _ ei).1,by have:=BP;omega,fun acc' H'=>acc'.length<=i+1/\Kp b H H'/\okB W.B b H'/\∃ ds,Reps W.K M H' ds acc'/\I (i+1) ds,fun acc' H' n=>⟨items.length - (i+1),by omega,rfl,hlt,n⟩,fun x H3 y=>?_⟩
   obtain ⟨S3,rx⟩:=(hgo i _ ei).2 x H3 y
   have o3:okB W.B b H3:=fun p e=>W.B.st p H2 H3 (o2 p e) fun o e'=>S3 p o e'
   have k3:Kp b H2 H3:=Kp.same S3
   have st3:=st2.step k3 o3
   refine hG pn M b H3 σ ρ items[i] x _ _ st3 rx (R5.mp hp _ (U6 hlt)) q fun ρ1 σ1 h1 st4 _=>?_
   refine ⟨pn,M,b,ρ1,_,st4,h1,fun c H5 h5 k5 o5=>?_⟩
   cases h5 with
   | t e h5 =>
     rw [if_pos e]
     refine ⟨pn,M,b,ρ1,_,st4.step k5 o5,h5,fun y v H6 h6 ry k6 o6=>?_⟩
     have kk:=((k3.trans k5).trans k6)
     refine ⟨by simp;omega,k2.trans kk,o6,ds++[y],Reps.append (Reps.keep (fun c o n e=>kk c o (fun z=>n (st.bagM c z)) e) _ _ r) ⟨v,[],rfl,ry.rep h6.1,rfl⟩,h6.2⟩
   | f e h5 =>
     rw [if_neg (by rw [e];exact B7)]
     have kk:=k3.trans k5
     exact ⟨by omega,k2.trans kk,o5,ds,Reps.keep (fun c o n e=>kk c o (fun z=>n (st.bagM c z)) e) _ _ r,h5⟩
 · have e:i=items.length:=by omega
   subst e
   exact .inl ⟨hstop _ (B9 _),by have:=BP;omega,fin ds acc H2 (idone _ q) r (by have:=BP;omega) k2 o2⟩
section
variable {X:Cx}{W:Wd}{elt iter tg:Expr}{ifs:List Expr}{scope:Scope}{pos:Pos}{N':List Str}{map:List (Option Nat)}{g:TG}{gd:D->Ev->(Ev->Prop)->Prop}{di:DA}{dt:DT}{de:DE}
theorem J5x (hG:GD W g gd)(B:Blk X N' scope map tg elt ifs g (dnT W dt) (dn W de))(hi:PI X tg iter (dnI W false di))(hs:∀ x,foldedSetIterable iter X.env x=pure x:=by intro _;rfl):PE X (.ListComp elt [⟨tg,iter,ifs,0⟩] scope pos) (dn W (J2p map gd di dt de)):=(WE B hi hs).mono fun σ H Q hh=>hh.elim fun pn M b ρ P st h k=>by
 refine ⟨pn,M,b,ρ,_,st,h,fun items J need H1 hx hp hI hn k1 o1=>?_⟩
 have st1:=st.step k1 o1
 refine VE hG (st1.capt map) hp hI (fun q hq=>(hn q hq).1) hx.1 hx.2 fun ds acc H' hP r hl k2 o2 D hD=>?_
 exact k _ _ _ hP (GG (st1.step k2 o2).toHs r hD) ((k1.trans k2).trans (Kp.upd hD)) ((st1.step k2 o2).okU hD)
def OJ:DT:=fun _ P=>P true
theorem J5v:PIf X [] (dnT W OJ):=fun pins s σ H Q I hh=>hh.elim fun pn M b ρ P st h k=>WB pins s σ H Q I (k true H h (Kp.refl _ _) st.ok)
end
structure StS (W:Wd)(pn:List (D×V))(M:Addr->Prop)(b:Option Addr)(H:Hp)(σ:St)(ρ:Ev):Prop extends Sta W pn M b H σ ρ where
 dj:∀ (i j:Nat) d e v u c,ρ[i]?=some (some d)->ρ[j]?=some (some e)->σ[i]?=some (some v)->σ[j]?=some (some u)->FN d v c->FN e u c->i=j
 lj:∀ ys a,(D.own ys,V.ref a)∈pn->∀ (i:Nat) d v,ρ[i]?=some (some d)->σ[i]?=some (some v)->¬ FN d v a
theorem StS.own {W:Wd}{pn:List (D×V)} {H:Hp}{σ:St}{ρ:Ev}(s:StS W pn M b H σ ρ):∀ (i j:Nat) xs ys a,ρ[i]?=some (some (.own xs))->ρ[j]?=some (some (.own ys))->σ[i]?=some (some (.ref a))->σ[j]?=some (some (.ref a))->i=j:=fun i j xs ys a e1 e2 e3 e4=>s.dj i j _ _ _ _ a e1 e2 e3 e4 rfl rfl
theorem StS.lk {W:Wd}{pn:List (D×V)} {H:Hp}{σ:St}{ρ:Ev}(s:StS W pn M b H σ ρ):∀ ys a,(D.own ys,V.ref a)∈pn->∀ (i:Nat) xs,ρ[i]?=some (some (.own xs))->σ[i]?≠some (some (.ref a)):=fun ys a hq i xs e y=>s.lj ys a hq i _ _ e y rfl
theorem StS.step {W:Wd}{pn:List (D×V)} {H H':Hp}{σ:St}{ρ:Ev}(s:StS W pn M b H σ ρ)(k:Kp b H H')(o:okB W.B b H'):StS W pn M b H' σ ρ:=⟨s.toSta.step k o,s.dj,s.lj⟩
theorem StS.of2 {W:Wd}{pn pn':List (D×V)}{M M':Addr->Prop}{b b':Option Addr}{H H':Hp}{σ σ':St}{ρ ρ':Ev}(s:StS W pn M b H σ ρ)(t:Sta W pn' M' b' H' σ' ρ')(hp:∀ ys a,(D.own ys,V.ref a)∈pn'->(D.own ys,V.ref a)∈pn)(h:∀ (i:Nat) d v c,ρ'[i]?=some (some d)->σ'[i]?=some (some v)->FN d v c->∃ d0,ρ[i]?=some (some d0)/\σ[i]?=some (some v)/\FN d0 v c):StS W pn' M' b' H' σ' ρ' :=
 ⟨t,fun i j d e v u c e1 e2 e3 e4 m1 m2=>by
  obtain ⟨d0,z1,z2,z3⟩:=h i d v c e1 e3 m1
  obtain ⟨d1,y1,y2,y3⟩:=h j e u c e2 e4 m2
  exact s.dj i j d0 d1 v u c z1 y1 z2 y2 z3 y3,fun ys a hq i d v e1 e2 m=>by
  obtain ⟨d0,z1,z2,z3⟩:=h i d v a e1 e2 m
  exact s.lj ys a (hp ys a hq) i d0 v z1 z2 z3⟩
theorem StS.of {W:Wd}{pn:List (D×V)}{M M':Addr->Prop}{b b':Option Addr}{H H':Hp}{σ σ':St}{ρ ρ':Ev}(s:StS W pn M b H σ ρ)(t:Sta W pn M' b' H' σ' ρ')(h:∀ (i:Nat) d,mine d=true->ρ'[i]?=some (some d)->ρ[i]?=some (some d)/\σ'[i]?=σ[i]?):StS W pn M' b' H' σ' ρ' :=
 s.of2 t (fun _ _ q=>q) fun i d v c e1 e2 m=>by
  obtain ⟨z1,z2⟩:=h i d m.m e1
  exact ⟨d,z1,z2▸e2,m⟩
theorem StS.add {W:Wd}{pn:List (D×V)}{M M':Addr->Prop}{b b':Option Addr}{H H':Hp}{σ:St}{ρ:Ev}(s:StS W pn M b H σ ρ)(i:Nat){d:D}{v:V}(t:Sta W pn M' b' H' (σ.set i (some v)) (ρ.set i (some d)))(h:∀ c,FN d v c->¬ M c):StS W pn M' b' H' (σ.set i (some v)) (ρ.set i (some d)):=by
 have slot:∀ (j:Nat) e u,(ρ.set i (some d))[j]?=some (some e)->(σ.set i (some v))[j]?=some (some u)->(j=i/\e=d/\u=v)\/(j≠i/\ρ[j]?=some (some e)/\σ[j]?=some (some u)):=fun j e u e1 e2=>by
  by_cases z:i=j
  · subst z
    rw [M5] at e1 e2
    simp at e1 e2
    exact .inl ⟨rfl,e1.2.symm,e2.2.symm⟩
  · rw [L6 z] at e1 e2
    exact .inr ⟨fun y=>z y.symm,e1,e2⟩
 have old:∀ (j:Nat) e u c,ρ[j]?=some (some e)->σ[j]?=some (some u)->FN e u c->M c:=fun j e u c e1 e2 m=>by
  obtain ⟨w,e3,r⟩:=s.env j e e1
  rw [e2] at e3;cases e3
  exact (r.mine m).1
 refine ⟨t,fun j k e f u w c e1 e2 e3 e4 m1 m2=>?_,fun ys a hq j e u e1 e2 m=>?_⟩
 · rcases slot j e u e1 e3 with ⟨z1,z2,z3⟩|⟨z1,z2,z3⟩<;>rcases slot k f w e2 e4 with ⟨y1,y2,y3⟩|⟨y1,y2,y3⟩
   · rw [z1,y1]
   · subst z2 z3;exact absurd (old k f w c y2 y3 m2) (h c m1)
   · subst y2 y3;exact absurd (old j e u c z2 z3 m1) (h c m2)
   · exact s.dj j k e f u w c z2 y2 z3 y3 m1 m2
 · rcases slot j e u e1 e2 with ⟨z1,z2,z3⟩|⟨z1,z2,z3⟩
   · subst z2 z3
     obtain ⟨a2,us2,ev,n1,_⟩:=(s.pin _ hq)
     cases ev
     exact absurd n1 (h a m)
   · exact s.lj ys a hq j e u z2 z3 m
structure DEnds where
 nx:Ev->Prop
 rt:D->Prop
 bk:Ev->Prop:=fun _=>False
 ct:Ev->Prop:=fun _=>False
 ro:List D->Prop:=fun _=>False
abbrev DS:=DEnds->Ev->Prop
structure Link (W:Wd)(pn:List (D×V))(E:Ends)(F:DEnds):Prop where
 nx:∀ M b ρ σ H,StS W pn M b H σ ρ->F.nx ρ->E.nx σ H
 rt:∀ d v H,F.rt d->Rep W.K W.M0 H d v->Kp W.b0 W.H0 H->okB W.B W.b0 H->E.rt v H
 bk:∀ M b ρ σ H,StS W pn M b H σ ρ->F.bk ρ->E.bk σ H
 ct:∀ M b ρ σ H,StS W pn M b H σ ρ->F.ct ρ->E.ct σ H
 ro:∀ xs a vs H,F.ro xs->W.H0 a=none->¬ W.M0 a->H a=some (.lst vs)->Reps W.K (fun c=>W.M0 c\/c=a) H xs vs->Kp W.b0 W.H0 H->okB W.B W.b0 H->E.rt (.ref a) H
def sn (W:Wd)(d:DS):TS:=fun E σ H=>∃ pn M b ρ F,StS W pn M b H σ ρ/\Link W pn E F/\d F ρ
theorem sn.elim {W:Wd}{d:DS}{E:Ends}{σ:St}{H:Hp}{Z:Prop}(h:sn W d E σ H)(f:∀ pn M b ρ F,StS W pn M b H σ ρ->Link W pn E F->d F ρ->Z):Z:=by
 obtain ⟨pn,M,b,ρ,F,s,l,h⟩:=h
 exact f pn M b ρ F s l h
section
variable {X:Cx}{W:Wd}{e a b c tg iter l:Expr}{es:List Expr}{pos p:Pos}{d db de:DE}{dA di:DA}{dt:DT}{st:Stmt}{rest sts:List Stmt}{d1 d2:DS}{t:TS}
theorem PS.mono {t':TS}(h:PS X st t)(m:∀ E σ H,t' E σ H->t E σ H):PS X st t':=fun pins s σ H D I q=>h pins s σ H D I (m D σ H q)
theorem PSs.mono {t':TS}(h:PSs X sts t)(m:∀ E σ H,t' E σ H->t E σ H):PSs X sts t':=fun pins s σ H D I q=>h pins s σ H D I (m D σ H q)
def J2n:DS:=fun F ρ=>F.nx ρ
def Q0m (d1 d2:DS):DS:=fun F ρ=>d1 { F with nx:=d2 F } ρ
theorem J5q:PSs X [] (sn W J2n):=LI.mono fun E σ H hh=>hh.elim fun pn M b ρ F s l h=>l.nx _ _ _ _ _ s h
theorem J5p (h:PS X st (sn W d1)):PSs X [st] (sn W d1):=EV h
theorem J2c (h1:PS X st (sn W d1))(h2:PSs X rest (sn W d2)):PSs X (st::rest) (sn W (Q0m d1 d2)):=(AX h1 h2).mono fun E σ H hh=>hh.elim fun pn M b ρ F s l h=>⟨pn,M,b,ρ,{ F with nx:=d2 F },s,⟨fun M b ρ σ H s' h'=>⟨pn,M,b,ρ,F,s',l,h'⟩,l.rt,l.bk,l.ct,l.ro⟩,h⟩
def Q0n (de:DE):DS:=fun F ρ=>de ρ fun x=>match x with|.own xs=>F.rt (.lst xs)|.bag=>False|.frg _ _=>False|x=>F.rt x
theorem VZ {b:Option Addr}{H:Hp}{x:D}{v:V}(hs:Hs W M b H)(r:Rep W.K M H x v):Rep W.K W.M0 H x v:=Rep.avoid (fun c m=>.inl (hs.m0 c m)) _ _ r
theorem J9v (he:PE X e (dn W de)):PS X (.Return (some e) pos) (sn W (Q0n de)):=(JR he).mono fun E σ H hh=>hh.elim fun pn M b ρ F s l h=>by
 refine ⟨pn,M,b,ρ,_,s.toSta,h,fun x v H' hx rx k o=>?_⟩
 have s':=s.toSta.step k o
 cases x
 case own xs =>
  obtain ⟨a,vs,rfl,m,n,n0,m0,hh,r⟩:=rx
  exact l.rt _ _ H' hx ⟨a,vs,rfl,⟨m0,hh⟩,Reps.avoid (fun c m=>.inl (s'.m0 c m)) _ _ r⟩ s'.kp s'.ok0
 case bag=>exact hx.elim
 case frg=>exact hx.elim
 all_goals exact l.rt _ _ H' hx (VZ s'.toHs (RepX.rep rx rfl)) s'.kp s'.ok0
def Q0p (dt:DT)(d1 d2:DS):DS:=fun F ρ=>dt ρ fun c=>IfP c (d1 F ρ) (d2 F ρ)
theorem Q2z {s1 s2:List Stmt}(hc:PT X c (dnT W dt))(ha:PSs X s1 (sn W d1))(hb:PSs X s2 (sn W d2)):PS X (.If c s1 s2 pos) (sn W (Q0p dt d1 d2)):=(WA hc ha hb).mono fun E σ H hh=>hh.elim fun pn M b ρ F s l h=>by
 refine ⟨pn,M,b,ρ,_,s.toSta,h,fun x H' hx k o=>?_⟩
 cases hx with
 | t e hx=>rw [if_pos e];exact ⟨pn,M,b,ρ,F,s.step k o,l,hx⟩
 | f e hx=>rw [if_neg (by rw [e];exact B7)];exact ⟨pn,M,b,ρ,F,s.step k o,l,hx⟩
def ZC (de:DE)(gd:D->Ev->(Ev->Prop)->Prop):DS:=fun F ρ=>de ρ fun x=>plain x=true/\gd x ρ F.nx
theorem ZQ {g:TG}{gd:D->Ev->(Ev->Prop)->Prop}(hG:GD W g gd):∀ E σ H,sn W (ZC de gd) E σ H->ZT (dn W de) g E σ H:=fun E σ H hh=>hh.elim fun pn M b ρ F s l h=>by
 refine ⟨pn,M,b,ρ,_,s.toSta,h,fun x v H' hx rx k o=>?_⟩
 exact hG pn M b H' σ ρ x v E.nx F.nx (s.toSta.step k o) rx hx.1 hx.2 fun ρ' σ' hp st' ho=>l.nx _ _ _ _ _ (s.of st' ho) hp
theorem J9u {i:Nat} {x:Str} {pos':Pos} (hN:X.N.Nodup) (hi:X.N[i]?=some x) (hx:Loc X.env.scope x) (he:PE X e (dn W de)) (hs:swapsWith e (some (.Name x pos')) pos.line X.env=pure false:=by rfl) (hf:X.fn x=true\/X.env.scope.names.lookup x=some .local:=by first|exact .inl rfl|exact .inr rfl|assumption) :
 PS X (.Assign [.Name x pos'] e pos) (sn W (ZC de (gdN i))):=(DK hN hi hx he hs hf).mono (ZQ (Z3 i))
theorem J9x {g:TG}{gd:D->Ev->(Ev->Prop)->Prop}(hG:GD W g gd)(he:PE X e (dn W de))(hg:PG X tg g)(hs:swapsWithSole [tg] e pos.line X.env=pure false:=by rfl)(hw:swappedStores [tg] e X.env=pure none:=by rfl)
 (h1:(assignEach [tg] X.env).map (·.2)=[assign tg X.env]:=by rfl):PS X (.Assign [tg] e pos) (sn W (ZC de gd)):=(JU he hg hs hw h1).mono (ZQ hG)
def Q4o (i j:Nat)(dA:DA):DS:=fun F ρ=>dA ρ fun xs=>match xs with | [x,y]=>(plain x&&plain y)=true/\F.nx ((ρ.set i (some x)).set j (some y))|_=>False
theorem J7t {i j:Nat}:∀ E σ H,sn W (Q4o i j dA) E σ H->Q1v i j (dnA W dA) E σ H:=fun E σ H hh=>hh.elim fun pn M b ρ F s l h=>by
 refine ⟨pn,M,b,ρ,_,s.toSta,h,fun xs vs H' hx rx k o=>?_⟩
 match xs,hx with
 | [x,y],hx =>
   obtain ⟨v,u,rfl,r,r'⟩:=rx2 rx
   obtain ⟨p1,p2⟩:=(L5 _ _).mp hx.1
   refine ⟨v,u,rfl,l.nx _ _ _ _ _ (s.of (((s.toSta.step k o).set i r).set j r') fun n zs hm e=>?_) hx.2⟩
   obtain ⟨z1,z2⟩:=LJ (σ:=σ.set i (some v)) (v:=u) p2 n zs hm e
   obtain ⟨z3,z4⟩:=LJ (σ:=σ) (v:=v) p1 n zs hm z1
   exact ⟨z3,z2.trans z4⟩
theorem StS.newOwn {pn:List (D×V)} {b:Option Addr}{H:Hp}{σ:St}{ρ:Ev}{xs:List D}{vs:List V}{p:Addr}(s:StS W pn M b H σ ρ)(i:Nat)(r:Reps W.K M H xs vs)(h:H p=none) :
 StS W pn (fun c=>M c\/c=p) b (upd H p (.lst vs)) (σ.set i (some (.ref p))) (ρ.set i (some (.own xs))):=by
 have hM:∀ c,(M c\/c=p)->M c\/H c=none:=fun c hc=>hc.imp id (fun z=>by rw [z];exact h)
 have kk:∀ c o,H c=some o->upd H p (.lst vs) c=some o:=fun c o e=>Same.upd h c o e
 have rep:∀ d v,Rep W.K M H d v->Rep W.K (fun c=>M c\/c=p) (upd H p (.lst vs)) d v:=fun d v r=>Rep.keep (fun c o _ e=>kk c o e) _ _ (Rep.avoid hM _ _ r)
 have reps:∀ d v,Reps W.K M H d v->Reps W.K (fun c=>M c\/c=p) (upd H p (.lst vs)) d v:=fun d v r=>Reps.keep (fun c o _ e=>kk c o e) _ _ (Reps.avoid hM _ _ r)
 have hbp:b≠some p:=fun z=>by
  obtain ⟨o,e⟩:=W.B.dm p H (s.ok p z)
  rw [h] at e;cases e
 have h0:W.H0 p=none:=by
  cases q:W.H0 p with
  | none=>rfl
  | some o =>
    by_cases z:W.b0=some p
    · rcases s.new with y|⟨y,_⟩
      · exact absurd (y.trans z) hbp
      · rw [y] at z;cases z
    · have:=s.kp p o z q
      rw [h] at this;cases this
 have hm0:¬ W.M0 p:=fun z=>s.toHs.new h (s.m0 p z)
 refine s.add i ⟨⟨s.toHs.okU h,fun q e=>.inl (s.bagM q e),fun c hc=>?_,fun c m=>.inl (s.m0 c m)⟩,fun c o n e=>kk c o (s.kp c o n e),s.new,fun j d e=>?_,by simp [s.len],fun q hq=>(s.pin q hq).to rep reps fun xs a vs _ _ m n hh=>⟨.inl m,n,kk _ _ hh⟩⟩ fun c m=>by
  cases (show V.ref p=V.ref c from m)
  exact s.toHs.new h
 · rcases hc with hc|hc
   · obtain ⟨o,e⟩:=s.dom c hc;exact ⟨o,kk c o e⟩
   · rw [hc];exact ⟨_,AM⟩
 · by_cases z:i=j
   · subst z
     rw [M5] at e
     simp at e
     obtain ⟨hl,rfl⟩:=e
     exact ⟨.ref p,by rw [M5];simp [<- s.len,hl],p,vs,rfl,.inr rfl,hbp,h0,hm0,AM,reps _ _ r⟩
   · rw [L6 z] at e
     obtain ⟨w,e1,r1⟩:=s.env j d e
     refine ⟨w,by rw [L6 z];exact e1,?_⟩
     cases d
     case own ys =>
      obtain ⟨a,us,rfl,m1,m2,m3,m4,hh,r'⟩:=r1
      exact ⟨a,us,rfl,.inl m1,m2,m3,m4,kk _ _ hh,reps _ _ r'⟩
     case bag=>exact r1
     case frg f _=>exact RepX.move r1 (fun c _ m n=>⟨.inl m,n⟩) (fun c o _ e=>kk c o e) hM
     all_goals exact rep _ _ r1
theorem StS.setOwn {pn:List (D×V)} {b:Option Addr}{H:Hp}{σ:St}{ρ:Ev}{xs ys:List D}{vs:List V}{a:Addr}(s:StS W pn M b H σ ρ)(i:Nat)(e:ρ[i]?=some (some (.own xs)))(ea:σ[i]?=some (some (.ref a)))(r:Reps W.K M H ys vs) :
 StS W pn M b (upd H a (.lst vs)) σ (ρ.set i (some (.own ys))):=by
 obtain ⟨v,e1,a',us,ev,m1,m2,m3,m4,hh,r'⟩:=s.env i _ e
 rw [ea] at e1;cases e1;cases ev
 have kk:∀ c o,¬ M c->H c=some o->upd H a (.lst vs) c=some o:=fun c o n q=>by rw [V7 (show c≠a from fun z=>n (by rw [z];exact m1))];exact q
 have kb:∀ c o,c≠a->H c=some o->upd H a (.lst vs) c=some o:=fun c o n q=>by rw [V7 n];exact q
 refine s.of2 ⟨⟨fun q z=>W.B.st q H _ (s.ok q z) fun o h=>kb q o (fun w=>m2 (w▸z)) h,s.bagM,fun c hc=>?_,s.m0⟩,fun c o n q=>kb c o (fun z=>by rw [z,m3] at q;cases q) (s.kp c o n q),s.new,fun j d e'=>?_,by simp [s.len],fun q hq=>(s.pin q hq).to (fun _ _ r=>Rep.keep kk _ _ r) (fun _ _ r=>Reps.keep kk _ _ r) fun zs a2 us ed ev m n hh2=>⟨m,n,kb _ _ (fun y=>s.lk zs a2 (by rw [<- ed,<- ev];exact hq) i xs e (by rw [y];exact ea)) hh2⟩⟩ (fun _ _ q=>q) fun j d v c e' e2 m=>?_
 · by_cases z:c=a
   · rw [z];exact ⟨_,AM⟩
   · obtain ⟨o,q⟩:=s.dom c hc;exact ⟨o,kb c o z q⟩
 · by_cases z:i=j
   · subst z
     rw [M5] at e'
     simp at e'
     obtain ⟨hl,rfl⟩:=e'
     exact ⟨.ref a,ea,a,vs,rfl,m1,m2,m3,m4,AM,Reps.keep kk _ _ r⟩
   · rw [L6 z] at e'
     obtain ⟨w,e1,r1⟩:=s.env j d e'
     refine ⟨w,e1,?_⟩
     cases d
     case own zs =>
      obtain ⟨a2,us2,rfl,n1,n2,n3,n4,hh2,r2⟩:=r1
      have na:a2≠a:=fun y=>z (s.own i j xs zs a e e' ea (y▸e1))
      exact ⟨a2,us2,rfl,n1,n2,n3,n4,kb _ _ na hh2,Reps.keep kk _ _ r2⟩
     case bag=>exact r1
     case frg f _ =>
      have na:a∉f.ads:=fun y=>z (s.dj i j _ _ _ _ a e e' ea e1 rfl y)
      exact RepX.move r1 (fun c _ m n=>⟨m,n⟩) (fun c o q h=>kb c o (fun y=>q.elim (fun n=>n (by rw [y];exact m1)) (fun n=>na (by rw [<- y];exact n))) h) fun c m=>.inl m
     all_goals exact Rep.keep kk _ _ r1
 · by_cases z:i=j
   · subst z
     rw [M5] at e'
     simp at e'
     obtain ⟨_,rfl⟩:=e'
     exact ⟨_,e,e2,m⟩
   · rw [L6 z] at e'
     exact ⟨d,e',e2,m⟩
def J7i (i:Nat)(dA:DA):DS:=fun F ρ=>dA ρ fun xs=>DY xs=true/\F.nx (ρ.set i (some (.own xs)))
theorem J5s {i:Nat} {x:Str} {pos' lpos:Pos} (hN:X.N.Nodup) (hi:X.N[i]?=some x) (hx:Loc X.env.scope x) (ha:PA X es (dnA W dA)) (hs:swapsWith (.List es lpos) (some (.Name x pos')) pos.line X.env=pure false:=by rfl) (hf:X.fn x=true\/X.env.scope.names.lookup x=some .local:=by first|exact .inl rfl|exact .inr rfl|assumption) :
 PS X (.Assign [.Name x pos'] (.List es lpos) pos) (sn W (J7i i dA)):=(DK hN hi hx (MH ha) hs hf).mono fun E σ H hh=>hh.elim fun pn M b ρ F s l h=>by
 refine ⟨pn,M,b,ρ,_,s.toSta,h,fun xs vs H' hx rx k o=>?_⟩
 have rr:=rx.reps _ _ (DY.pl hx.1)
 exact ⟨by rw [rr.length];exact DY.len hx.1,fun q hq=>l.nx _ _ _ _ _ ((s.step k o).newOwn i rr hq) hx.2⟩
def J6c (i:Nat)(dA:DA):DS:=fun F ρ=>match ρ[i]? with
 | some (some (.own ys))=>dA ρ fun xs=>(match xs with | [y]=>(plain y&&decide (ys.length<1000))=true/\F.nx (ρ.set i (some (.own (ys++[y]))))|_=>False)
 | _=>False
theorem CU {pn:List (D×V)} {b:Option Addr}{H:Hp}{σ:St}{ρ:Ev}{i:Nat}{ys:List D}(s:Sta W pn M b H σ ρ)(e:ρ[i]?=some (some (.own ys))):∃ a vs,σ[i]?=some (some (.ref a))/\b≠some a/\H a=some (.lst vs)/\Reps W.K M H ys vs:=by
 obtain ⟨v,e1,a,us,rfl,m1,m2,m3,m4,hh,r⟩:=s.env i _ e
 exact ⟨a,us,e1,m2,hh,r⟩
theorem J7x {i:Nat}:∀ E σ H,sn W (J6c i dA) E σ H->RM (tBM W.K "list" HQ (HX i) (dnA W dA)) E σ H:=fun E σ H hh=>hh.elim fun pn M b ρ F s l h=>by
 unfold J6c at h
 split at h
 case h_2=>exact h.elim
 case h_1 ys e =>
  obtain ⟨a,vs,ea,nb,hh,r⟩:=CU s.toSta e
  refine ⟨.ref a,ea,.inl ⟨rfl,vs,SqL.of hh⟩,pn,M,b,ρ,_,s.toSta,h,fun xs us H' hx rx k o=>?_⟩
  match xs,hx with
  | [y],hx =>
    obtain ⟨u,rfl,ru⟩:=rx1 rx
    obtain ⟨p1,p2⟩:=(L5 _ _).mp hx.1
    have p2:=T0 p2
    have s':=s.step k o
    obtain ⟨a',vs',ea',nb',hh',r'⟩:=CU s'.toSta e
    rw [ea] at ea';cases ea'
    refine ⟨a,vs',u,rfl,rfl,hh',by rw [r'.length];have:=BP;omega,l.nx _ _ _ _ _ (s'.setOwn i e ea (Reps.append r' (show Reps W.K M H' [y] [u] from ⟨u,[],rfl,ru.rep p1,rfl⟩))) hx.2⟩
theorem YX {i:Nat}{x:Str}{e:Expr}{npos apos cpos:Pos}(hK:X.K=W.K)(hN:X.N[i]?=some x)(hv:Vis X.env.scope x)(ha:PA X [e] (dnA W dA))
 (h:PE X (.Call (.Attribute (.Name x npos) "append" apos) [e] [] cpos) (tBM X.K "list" HQ (HX i) (dnA W dA))) (hs:swapsWith (.Call (.Attribute (.Name x npos) "append" apos) [e] [] cpos) none pos.line X.env=pure false:=by rfl) :
 PS X (.Expr (.Call (.Attribute (.Name x npos) "append" apos) [e] [] cpos) pos) (sn W (J6c i dA)):=(IW (by rw [hK] at h;exact h) hs).mono J7x
def WX (gd:D->Ev->(Ev->Prop)->Prop)(db:DS)(F:DEnds):List D->Ev->Prop
 | [],ρ=>F.nx ρ
 | x::xs,ρ=>gd x ρ fun ρ1=>db { F with nx:=WX gd db F xs,ct:=WX gd db F xs,bk:=F.nx } ρ1
inductive forI (gd:D->Ev->(Ev->Prop)->Prop)(db:DS)(F:DEnds)(items:List D)(ρ:Ev):Prop
 | mk (I:Nat->Ev->Prop) (h0:I 0 ρ) (hs:∀ (i:Nat) x ρ,items[i]?=some x->I i ρ->gd x ρ fun ρ1=>db { F with nx:=I (i+1),ct:=I (i+1),bk:=F.nx } ρ1) (hd:∀ ρ,I items.length ρ->F.nx ρ):forI gd db F items ρ
theorem J5l {gd:D->Ev->(Ev->Prop)->Prop}{db:DS}{F:DEnds}{items:List D}{ρ:Ev}(h:WX gd db F items ρ):forI gd db F items ρ:=by
 refine ⟨fun i ρ=>WX gd db F (items.drop i) ρ,h,fun i x ρ e q=>?_,fun ρ q=>?_⟩
 · obtain ⟨hlt,rfl⟩:=B6.mp e
   try dsimp only at q
   rw [D8 hlt] at q
   exact q
 · (try dsimp only at q);rw [List.drop_length] at q;exact q
def J6b (gd:D->Ev->(Ev->Prop)->Prop)(di:DA)(db:DS):DS:=fun F ρ=>di ρ fun items=>forI gd db F items ρ
theorem Sta.pins {pn pn':List (D×V)} {b:Option Addr}{H:Hp}{σ:St}{ρ:Ev}(s:Sta W pn M b H σ ρ)(h:∀ q∈pn',PinR W M b H q.1 q.2):Sta W pn' M b H σ ρ:=⟨s.toHs,s.kp,s.new,s.env,s.len,h⟩
theorem J7v {g:TG}{gd:D->Ev->(Ev->Prop)->Prop}{db:DS}(hG:GD W g gd):∀ E σ H,sn W (J6b gd di db) E σ H->J8e (dnI W true di) g (sn W db) E σ H:=fun E σ H hh=>hh.elim fun pn M b ρ F s l h=>by
 refine ⟨pn,M,b,ρ,_,s.toSta,h,fun items J need H1 hx hp hI hn k1 o1=>?_⟩
 have s1:=s.step k1 o1
 have pins:∀ q∈need++pn,PinR W M b H1 q.1 q.2:=fun q hq=>(T8.mp hq).elim (fun z=>(hn q z).1.pin ((hn q z).2 rfl)) fun z=>s1.pin q z
 obtain ⟨I,i0,istep,idone⟩:=hx
 refine ⟨fun i m σ H=>m=items.length - i/\i<=items.length/\∃ M b ρ,StS W (need++pn) M b H σ ρ/\I i ρ,⟨items.length,by simp,W1 _,M,b,ρ,⟨s1.toSta.pins pins,s1.dj,fun ys a hq=>(T8.mp hq).elim (fun z=>by have:=(hn _ z).2 rfl;cases this) fun z=>s1.lj ys a z⟩,i0⟩,?_⟩
 rintro i m σ2 H2 ⟨rfl,hi,M2,b2,ρ2,s2,q⟩
 have unp:∀ {M b ρ σ H},StS W (need++pn) M b H σ ρ->StS W pn M b H σ ρ:=fun s=>⟨s.toSta.pins fun q hq=>s.pin q (B2 _ hq),s.dj,fun ys a hq=>s.lj ys a (B2 _ hq)⟩
 obtain ⟨hgo,hstop⟩:=hI M2 b2 H2 s2.toHs fun q hq=>(s2.pin q (R4 _ hq)).x
 by_cases hlt:i<items.length
 · have ei:items[i]?=some items[i]:=L4 hlt
   replace q:=istep i _ ρ2 ei q
   refine .inr ⟨(hgo i _ ei).1,fun σ' H'=>∃ M b ρ,StS W (need++pn) M b H' σ' ρ/\I (i+1) ρ,fun σ' H' n=>⟨items.length - (i+1),by omega,rfl,hlt,n⟩,fun x H3 y=>?_⟩
   obtain ⟨S3,rx⟩:=(hgo i _ ei).2 x H3 y
   have o3:okB W.B b2 H3:=fun p e=>W.B.st p H2 H3 (s2.ok p e) fun o e'=>S3 p o e'
   have s3:=s2.step (Kp.same S3) o3
   refine hG (need++pn) M2 b2 H3 σ2 ρ2 items[i] x _ _ s3.toSta rx (R5.mp hp _ (U6 hlt)) q fun ρ1 σ1 h1 st4 ho=>?_
   exact ⟨need++pn,M2,b2,ρ1,{ F with nx:=I (i+1),ct:=I (i+1),bk:=F.nx },s3.of st4 ho,⟨fun M b ρ σ H s' h'=>⟨M,b,ρ,s',h'⟩,l.rt,fun M b ρ σ H s' h'=>l.nx _ _ _ _ _ (unp s') h',fun M b ρ σ H s' h'=>⟨M,b,ρ,s',h'⟩,l.ro⟩,h1⟩
 · have e:i=items.length:=by omega
   subst e
   exact .inl ⟨hstop _ (B9 _),l.nx _ _ _ _ _ (unp s2) (idone _ q)⟩
theorem J9w {g:TG}{gd:D->Ev->(Ev->Prop)->Prop}{db:DS}{body:List Stmt}(hG:GD W g gd)(hp:PassesOwn (model X.prog X.w) X.A X.env X.xe)(hc:X.calm=true)(hi:PI X tg iter (dnI W true di))(hg:PG X tg g)(hb:PSs X body (sn W db))
 (hs:∀ x,foldedSetIterable iter X.env x=pure x:=by intro _;rfl):PS X (.For tg iter body [] pos) (sn W (J6b gd di db)):=(J0l hp hc hi hg hb hs).mono (J7v hG)
def Q0q (i:Nat)(d:DS):DS:=fun F ρ=>match ρ[i]? with|some (some (.own xs))=>d F (ρ.set i (some (.lst xs)))|_=>False
theorem Sta.avoid {pn:List (D×V)}{M M':Addr->Prop}{b:Option Addr}{H:Hp}{σ:St}{ρ:Ev}(s:Sta W pn M b H σ ρ)(h:∀ c,M' c->M c)(hb:∀ p,b=some p->M' p)(h0:∀ c,W.M0 c->M' c)(ho:∀ (i:Nat) d v c,ρ[i]?=some (some d)->σ[i]?=some (some v)->FN d v c->M' c)(hpo:∀ xs a,(D.own xs,V.ref a)∈pn->M' a):Sta W pn M' b H σ ρ where
 ok:=s.ok
 bagM:=hb
 dom:=fun c m=>s.dom c (h c m)
 m0:=h0
 kp:=s.kp
 new:=s.new
 len:=s.len
 pin:=fun q hq=>(s.pin q hq).to (fun _ _ r=>Rep.avoid (fun c m=>.inl (h c m)) _ _ r) (fun _ _ r=>Reps.avoid (fun c m=>.inl (h c m)) _ _ r) fun xs a vs ed ev m n hh=>⟨hpo xs a (by rw [<- ed,<- ev];exact hq),n,hh⟩
 env:=fun i d e=>by
  obtain ⟨v,e1,r⟩:=s.env i d e
  refine ⟨v,e1,?_⟩
  cases d
  case own xs =>
   obtain ⟨a,us,rfl,m1,m2,m3,m4,hh,r'⟩:=r
   exact ⟨a,us,rfl,ho i _ _ a e e1 rfl,m2,m3,m4,hh,Reps.avoid (fun c m=>.inl (h c m)) _ _ r'⟩
  case bag=>exact r
  case frg f _=>exact RepX.move r (fun c m _ n=>⟨ho i _ _ c e e1 m,n⟩) (fun c o _ e=>e) fun c m=>.inl (h c m)
  all_goals exact Rep.avoid (fun c m=>.inl (h c m)) _ _ r
theorem J5r (i:Nat)(h:PSs X sts (sn W d1)):PSs X sts (sn W (Q0q i d1)):=h.mono fun E σ H hh=>hh.elim fun pn M b ρ F s l h=>by
 unfold Q0q at h
 split at h
 case h_2=>exact h.elim
 case h_1 xs e =>
  obtain ⟨v,e1,a,us,rfl,m1,m2,m3,m4,hh,r⟩:=s.env i _ e
  have st:Sta W pn (fun c=>M c/\c≠a) b H σ (ρ.set i none):=by
   refine Sta.avoid (M:=M) ⟨s.toHs,s.kp,s.new,fun j d e'=>?_,by simp [s.len],s.pin⟩ (fun c m=>m.1) (fun p z=>⟨s.bagM p z,fun y=>m2 (by rw [<- y];exact z)⟩) (fun c m=>⟨s.m0 c m,fun y=>m4 (by rw [<- y];exact m)⟩) (fun j d' v' c' e' e2 mm=>?_) fun ys a' hq=>⟨by
    obtain ⟨a2,us2,ev,n1,_⟩:=(s.pin _ hq)
    cases ev;exact n1,fun y=>s.lk ys a' hq i xs e (by rw [y];exact e1)⟩
   · by_cases z:i=j
     · subst z;rw [M5] at e';simp at e'
     · rw [L6 z] at e';exact s.env j d e'
   · by_cases z:i=j
     · subst z;rw [M5] at e';simp at e'
     · rw [L6 z] at e'
       obtain ⟨v3,e3,r3⟩:=s.env j _ e'
       rw [e2] at e3;cases e3
       exact ⟨(r3.mine mm).1,fun y=>z (s.dj i j _ _ _ _ a e e' e1 e2 rfl (by rw [<- y];exact mm))⟩
  have st2:=st.set (x:=.lst xs) (v:=.ref a) i ⟨a,us,rfl,⟨fun m=>m.2 rfl,hh⟩,Reps.avoid (fun c m=>.inl m.1) _ _ r⟩
  have eσ:σ.set i (some (.ref a))=σ:=by
   apply List.ext_getElem?
   intro n
   by_cases z:i=n
   · subst z;rw [M5,e1];simp;exact (B6.mp e1).1
   · rw [L6 z]
  rw [eσ,List.set_set] at st2
  refine ⟨pn,_,b,_,F,s.of st2 fun j ys hm e'=>?_,l,h⟩
  by_cases z:i=j
  · subst z;rw [M5] at e';simp at e';rw [<- e'.2] at hm;cases hm
  · rw [L6 z] at e';exact ⟨e',rfl⟩
def J2m (Ed:Addr->Prop)(C:Addr):DS:=fun _ _=>Ed C
theorem J2d {E:XK}{Ed:Addr->Prop}{C:Addr}(hE:NH W E Ed)(h:PS X st (fun _ _ H1=>E (.ref C) none H1)):PS X st (sn W (J2m Ed C)):=h.mono fun E' σ H hh=>hh.elim fun pn M b ρ F s l h=>hE C H h s.kp s.ok0
def J2o:DS:=fun _ _=>False
theorem J2e:PS X st (sn W J2o):=J0k.mono fun E σ H hh=>hh.elim fun pn M b ρ F s l h=>h.elim
end
def DB (N:List Str)(ds:List D):Ev:=ds.map some++List.replicate (N.length - ds.length) none
theorem RepAs.get {H:Hp}:∀ {ds:List D} {vs:List V} {i:Nat} {d:D},RepAs K M b H ds vs->ds[i]?=some d->∃ v,vs[i]?=some v/\Q3w K M b H d v
 | [],_,_,_,h,e=>by simp at e
 | d::ds,vs,0,_,h,e=>by
   obtain ⟨v,r,rfl,h1,h2⟩:=h
   simp at e;subst e
   exact ⟨v,rfl,h1⟩
 | d::ds,vs,i+1,d',h,e=>by
   obtain ⟨v,r,rfl,h1,h2⟩:=h
   obtain ⟨u,e1,e2⟩:=RepAs.get (i:=i) h2 (by simpa using e)
   exact ⟨u,by simpa using e1,e2⟩
theorem LU {N:List Str}{ds:List D}{i:Nat}{d:D}(h:(DB N ds)[i]?=some (some d)):ds[i]?=some d:=by
 unfold DB at h
 by_cases hi:i<ds.length
 · rw [D7 (by simpa using hi),M9] at h
   simpa using h
 · rw [B0s (by simpa using hi)] at h
   have:=M3 h
   simp at this
theorem J7c {B:BagT} {N:List Str}{ds:List D}{vs:List V}{H:Hp}(hr:RepAs K M b H ds vs)(ho:okB B b H)(hb:∀ p,b=some p->M p)(hd:∀ c,M c->∃ o,H c=some o):StS ⟨K,B,H,M,b⟩ [] M b H (EO N vs) (DB N ds):=by
 refine ⟨⟨⟨ho,hb,hd,fun _ m=>m⟩,Kp.refl _ _,.inl rfl,fun i d e=>?_,by simp [EO,DB,hr.length],fun _ hq=>by cases hq⟩,fun i j d e v u c e0 _ _ _ m _=>?_,fun _ _ hq=>by cases hq⟩
 · obtain ⟨v,e1,r⟩:=hr.get (LU e)
   refine ⟨v,?_,?_⟩
   · unfold EO
     rw [D7 (by simpa using (B6.mp e1).1),M9,e1];rfl
   · cases d<;>first|exact r|exact r.elim
 · obtain ⟨v',e1,r⟩:=hr.get (LU e0)
   cases d<;>first|exact m.elim|exact r.elim
theorem Q2t {B:BagT} {H:Hp}{Q:VK}{P:D->Prop}(hq:∀ d v H',P d->Rep K M H' d v->Kp b H H'->okB B b H'->Q v H'):Link ⟨K,B,H,M,b⟩ [] { nx:=fun _ H'=>Q .non H',rt:=Q } { nx:=fun _=>P .non,rt:=P } :=
 ⟨fun M b ρ σ H s h=>hq _ _ _ h rfl s.kp s.ok0,fun d v H h r k o=>hq d v H h r k o,fun _ _ _ _ _ _ h=>h.elim,fun _ _ _ _ _ _ h=>h.elim,fun _ _ _ _ h=>h.elim⟩
theorem run {B:BagT} {N:List Str}{ds:List D}{vs:List V}{H:Hp}{Q:VK}{P:D->Prop}{d:DS}(hr:RepAs K M b H ds vs)(ho:okB B b H)(hb:∀ p,b=some p->M p)(hd:∀ c,M c->∃ o,H c=some o)(hq:∀ d v H',P d->Rep K M H' d v->Kp b H H'->okB B b H'->Q v H')
 (h:d { nx:=fun _=>P .non,rt:=P } (DB N ds)):sn ⟨K,B,H,M,b⟩ d { nx:=fun _ H'=>Q .non H',rt:=Q } (EO N vs) H :=
 ⟨[],M,b,DB N ds,_,J7c hr ho hb hd,Q2t hq,h⟩
theorem J8.len {B:BagT}{S:DSp}{n:Nat}(h:∀ ds P Ed,S ds P Ed->ds.length=n):∀ vs H Q E,J8 K B S vs H Q E->vs.length=n:=fun vs H Q E ⟨M,b,ds,P,Ed,hS,hr,_⟩=>by rw [hr.length];exact h _ _ _ hS
section
variable {X:Cx}{W:Wd}{e a b:Expr}{pos p:Pos}{d dl de:DE}{st:Stmt}
abbrev DO:=Ev->(Option Int->Prop)->Prop
def dnO (W:Wd)(d:DO):TO:=fun σ H Q=>∃ pn M b ρ P,Sta W pn M b H σ ρ/\d ρ P/\∀ x H',P x->Kp b H H'->okB W.B b H'->Q x H'
theorem dnO.elim {W:Wd}{d:DO}{σ:St}{H:Hp}{Q:Option Int->Hp->Prop}{R:Prop}(h:dnO W d σ H Q)(f:∀ pn M b ρ P,Sta W pn M b H σ ρ->d ρ P->(∀ x H',P x->Kp b H H'->okB W.B b H'->Q x H')->R):R:=by
 obtain ⟨pn,M,b,ρ,P,st,h,k⟩:=h
 exact f pn M b ρ P st h k
def oNo:DO:=fun _ P=>P none
def oPt (de:DE):DO:=fun ρ P=>de ρ fun x=>match x with|.int i=>P (some i)|_=>False
theorem J5u:PO X none (dnO W oNo):=fun pins s σ H Q I hh=>hh.elim fun pn M b ρ P st h k=>J4k pins s σ H Q I (k _ H h (Kp.refl _ _) st.ok)
theorem J5t (h:PE X e (dn W de)):PO X (some e) (dnO W (oPt de)):=fun pins s σ H Q I hh=>hh.elim fun pn M b ρ P st q k=>J4j h pins s σ H Q I (by
 refine ⟨pn,M,b,ρ,_,st,q,fun x v H1 hx rx k1 o1=>?_⟩
 cases x<;>first|exact hx.elim|skip
 cases (show _=_ from rx)
 exact ⟨_,rfl,k _ H1 hx k1 o1⟩)
def VD (xs:List D)(lo hi:Option Int):List D:=(xs.drop (HT.sIx xs.length 0 lo)).take (HT.sIx xs.length xs.length hi - HT.sIx xs.length 0 lo)
theorem Reps.cut {H:Hp}{ds:List D}{vs:List V}(h:Reps K M H ds vs)(lo hi:Option Int):Reps K M H (VD ds lo hi) (SW vs lo hi):=by
 unfold VD SW
 rw [h.length]
 exact Reps.take _ (Reps.drop _ h)
def oSl (x:D)(lo hi:Option Int)(P:D->Prop):Prop:=match x with
 | .tup xs=>¬ (HT.sIx xs.length 0 lo=0/\HT.sIx xs.length xs.length hi=xs.length)/\P (.tup (VD xs lo hi))
 | .lst xs=>P (.lst (VD xs lo hi))
 | .own xs=>P (.lst (VD xs lo hi))
 | _=>False
def dSl (de:DE)(dl dh:DO):DE:=fun ρ P=>de ρ fun x=>dl ρ fun lo=>dh ρ fun hi=>oSl x lo hi P
theorem J4c (K:Fg)(h:X.K=K):SlR X (J0d K):=by subst h;exact J8h
theorem ZV (K:Fg)(h:X.K=K):SlR X (fun x lo hi H Q=>J0d K x lo hi H Q\/J0e K x lo hi H Q):=(J4c K h).or (XZ K h)
theorem J2g {lo hi:Option Expr}{dl dh:DO}{p2:Pos}(hr:SlR X (fun x lo hi H Q=>J0d W.K x lo hi H Q\/J0e W.K x lo hi H Q))(he:PE X e (dn W de))(hl:PO X lo (dnO W dl))(hu:PO X hi (dnO W dh)):PE X (.Subscript e (.Slice lo hi none p2) pos) (dn W (dSl de dl dh)):=(J0o hr he hl hu).mono fun σ H Q hh=>hh.elim fun pn M b ρ P st h k=>by
 refine ⟨pn,M,b,ρ,_,st,h,fun x v H1 hx rx k1 o1=>?_⟩
 refine ⟨pn,M,b,ρ,_,st.step k1 o1,hx,fun lo H2 hy k2 o2=>?_⟩
 refine ⟨pn,M,b,ρ,_,(st.step k1 o1).step k2 o2,hy,fun hi H3 hz k3 o3=>?_⟩
 have s3:=((st.step k1 o1).step k2 o2).step k3 o3
 have rx:=(rx.step st.bagM k2).step st.bagM k3
 have kk:=(k1.trans k2).trans k3
 cases x<;>first|exact hz.elim|skip
 case tup xs =>
  obtain ⟨a,vs,rfl,hh,r⟩:=rx
  refine .inl ⟨a,vs,rfl,hh.sq,by rw [r.length];exact hz.1,fun p hp=>k _ _ _ hz.2 (GF s3.toHs (r.cut lo hi) hp) (kk.trans (Kp.upd hp)) (s3.okU hp)⟩
 case lst xs =>
  obtain ⟨a,vs,rfl,hh,r⟩:=rx
  refine .inr ⟨a,vs,rfl,SqL.of hh.2,fun p hp=>k _ _ _ hz (GG s3.toHs (r.cut lo hi) hp) (kk.trans (Kp.upd hp)) (s3.okU hp)⟩
 case own xs =>
  obtain ⟨a,vs,rfl,_,_,_,_,hh,r⟩:=rx
  refine .inr ⟨a,vs,rfl,SqL.of hh,fun p hp=>k _ _ _ hz (GG s3.toHs (r.cut lo hi) hp) (kk.trans (Kp.upd hp)) (s3.okU hp)⟩
theorem Reps.ne {H:Hp}{ds:List D}{vs:List V}(h:Reps K M H ds vs)(n:ds≠[]):vs≠[]:=fun z=>by
 have:=h.length
 rw [z] at this
 exact n (List.length_eq_zero_iff.mp this.symm)
def BH (ρ:Ev):Ev:=ρ.map fun o=>match o with|some .bag=>none|o=>o
theorem BG {ρ:Ev}{i:Nat}{d:D}(h:(BH ρ)[i]?=some (some d)):ρ[i]?=some (some d)/\d≠.bag:=by
 unfold BH at h
 rw [M9] at h
 cases q:ρ[i]? with
 | none=>rw [q] at h;cases h
 | some o =>
   rw [q] at h
   cases o with
   | none=>cases h
   | some d'=>cases d'<;>simp at h<;>subst h<;>exact ⟨rfl,by intro z;cases z⟩
end
end L2
namespace K
open PySem L2
theorem _root_.L2.Room.m {k n:Nat}{A:Around}(h:Room n A)(e:k<=n:=by decide):Room k A:=h.mono e
theorem Q2y {a b:Int}(hb:b≠0):(a.fmod b).natAbs<b.natAbs:=by
 by_cases h:0<b
 · rw [D2 a (by omega)]
   have:=W8 a hb
   have:=W0 a h
   omega
 · have e:a.fmod b = -((-a).fmod (-b)):=by grind [Int.neg_fmod_neg]
   rw [e,D2 (-a) (show 0<=-b by omega)]
   have:=W8 (-a) (show -b≠0 by omega)
   have:=W0 (-a) (show 0 < -b by omega)
   omega
theorem SQ {a b:Int}:Int.gcd b (a.fmod b)=Int.gcd a b:=by
 rw [Int.gcd_comm a b,Int.fmod_def]
 apply Nat.dvd_antisymm
 · apply Int.dvd_gcd
   · exact E4 ..
   · have h1:((Int.gcd b (a - b*a.fdiv b):Nat):Int) ∣ b:=E4 ..
     have h2:((Int.gcd b (a - b*a.fdiv b):Nat):Int) ∣ a - b*a.fdiv b:=U9 ..
     have h3:=Int.dvd_add h2 (E9 h1 (Int.dvd_mul_right b (a.fdiv b)))
     have e3:a - b*a.fdiv b+b*a.fdiv b=a:=by omega
     rw [e3] at h3
     exact h3
 · apply Int.dvd_gcd
   · exact E4 ..
   · have h1:((Int.gcd b a:Nat):Int) ∣ b:=E4 ..
     have h2:((Int.gcd b a:Nat):Int) ∣ a:=U9 ..
     exact Int.dvd_sub h2 (E9 h1 (Int.dvd_mul_right b (a.fdiv b)))
def LB (ns:List Int):Int:=ns.foldl (fun g n=>((Int.gcd g n:Nat):Int)) 0
theorem OH (ns:List Int)(n:Int):LB (ns++[n])=((Int.gcd (LB ns) n:Nat):Int):=by unfold LB;rw [List.foldl_append];rfl
theorem HS {ns:List Int}{n:Int}(h:n≠0):0<LB (ns++[n])/\LB (ns++[n])<=n.natAbs:=by
 rw [OH]
 have h1:0<Int.gcd (LB ns) n:=Int.gcd_pos_of_ne_zero_right _ h
 have h2:Int.gcd (LB ns) n ∣ n.natAbs:=Int.gcd_dvd_natAbs_right ..
 have h3:=Nat.le_of_dvd (by omega) h2
 omega
def low (ns:List Int)(last:Int):Int:=if last<0 then -LB (ns++[last]) else LB (ns++[last])
theorem J1h {ns:List Int}{n:Int}(h:n≠0):low ns n≠0:=by
 have:=HS (ns:=ns) h
 unfold low
 split<;>omega
theorem J8z {ns:List Int}{n:Int}(h:n≠0):(low ns n).natAbs<=n.natAbs:=by
 have:=HS (ns:=ns) h
 unfold low
 split<;>omega
theorem Q2v (x y z w:Int):LB ([x,y,z]++[w])=((Nat.gcd (Int.gcd x y) (Int.gcd z w):Nat):Int):=by
 unfold LB Int.gcd
 show ((Nat.gcd (Int.natAbs ((Nat.gcd (Int.natAbs ((Nat.gcd (Int.natAbs ((Nat.gcd (Int.natAbs 0) x.natAbs:Nat):Int)) y.natAbs:Nat):Int)) z.natAbs:Nat):Int)) w.natAbs:Nat):Int)=_
 simp only [Int.natAbs_natCast,Int.natAbs_zero,Nat.gcd_zero_left,Nat.gcd_assoc]
theorem SG (x y z w:Int):(low [x,y,z] w).natAbs=Nat.gcd (Int.gcd x y) (Int.gcd z w):=by
 unfold low
 split<;>rw [Q2v]<;>omega
theorem WL {ns:List Int}{n:Int}(h:n≠0):(n<0->low ns n<0)/\(0<n->0<low ns n):=by
 have:=HS (ns:=ns) h
 unfold low
 refine ⟨fun h1=>?_,fun h1=>?_⟩
 · rw [if_pos h1];omega
 · rw [if_neg (by omega)];omega
theorem J1g {x y z w:Int}(h:w≠0):∃ a b c d,x.fdiv (low [x,y,z] w)=a/\y.fdiv (low [x,y,z] w)=b/\z.fdiv (low [x,y,z] w)=c/\w.fdiv (low [x,y,z] w)=d/\0<d/\Nat.gcd (Int.gcd a b) (Int.gcd c d)=1/\(a*w=x*d/\b*w=y*d/\c*w=z*d) /\
 (a.natAbs<=x.natAbs/\b.natAbs<=y.natAbs/\c.natAbs<=z.natAbs/\d.natAbs<=w.natAbs):=by
 have hne:=J1h (ns:=[x,y,z]) h
 have habs:=SG x y z w
 obtain ⟨s1,s2⟩:=WL (ns:=[x,y,z]) h
 generalize low [x,y,z] w=L at *
 have g1:Nat.gcd (Int.gcd x y) (Int.gcd z w) ∣ Int.gcd x y:=Nat.gcd_dvd_left ..
 have g2:Nat.gcd (Int.gcd x y) (Int.gcd z w) ∣ Int.gcd z w:=Nat.gcd_dvd_right ..
 have dv:∀ n:Int,L.natAbs ∣ n.natAbs->L ∣ n:=fun n h=>Int.natAbs_dvd_natAbs.mp h
 have d1:L ∣ x:=dv x (by rw [habs];exact Nat.dvd_trans g1 (Nat.gcd_dvd_left ..))
 have d2:L ∣ y:=dv y (by rw [habs];exact Nat.dvd_trans g1 (Nat.gcd_dvd_right ..))
 have d3:L ∣ z:=dv z (by rw [habs];exact Nat.dvd_trans g2 (Nat.gcd_dvd_left ..))
 have d4:L ∣ w:=dv w (by rw [habs];exact Nat.dvd_trans g2 (Nat.gcd_dvd_right ..))
 have e1:=B0m d1
 have e2:=B0m d2
 have e3:=B0m d3
 have e4:=B0m d4
 generalize x.fdiv L=a at *
 generalize y.fdiv L=b at *
 generalize z.fdiv L=c at *
 generalize w.fdiv L=d at *
 have bnd:∀ n m:Int,n*L=m->n.natAbs<=m.natAbs:=fun n m e=>by
  rw [<- e,Int.natAbs_mul]
  exact Nat.le_mul_of_pos_right _ (by omega)
 refine ⟨a,b,c,d,rfl,rfl,rfl,rfl,?_,?_,⟨?_,?_,?_⟩,⟨bnd _ _ e1,bnd _ _ e2,bnd _ _ e3,bnd _ _ e4⟩⟩
 · by_cases hd:0<d
   · exact hd
   · rcases Int.lt_or_gt_of_ne h with hw|hw
     · have:=Int.mul_nonneg_of_nonpos_of_nonpos (show d<=0 by omega) (B0q (s1 hw));omega
     · have:=Int.mul_nonpos_of_nonpos_of_nonneg (show d<=0 by omega) (B0q (s2 hw));omega
 · have q1:Int.gcd (a*L) (b*L)=Int.gcd a b*L.natAbs:=B0w ..
   have q2:Int.gcd (c*L) (d*L)=Int.gcd c d*L.natAbs:=B0w ..
   rw [<- e1,<- e2,<- e3,<- e4,q1,q2,Nat.gcd_mul_right] at habs
   have hp:0<L.natAbs:=by omega
   have:1*L.natAbs=Nat.gcd (Int.gcd a b) (Int.gcd c d)*L.natAbs:=by rw [Nat.one_mul];exact habs
   exact (Nat.eq_of_mul_eq_mul_right hp this).symm
 · rw [<- e1,<- e4];grind
 · rw [<- e2,<- e4];grind
 · rw [<- e3,<- e4];grind
def dot (r s:List Int):Int:=(List.zipWith (· * ·) r s).sum
end K
namespace L2
open PySem PySem.Spec PyProof.Rows
theorem J4v {xs:List D}{i:Int}{P:D->Prop}(h0:0<=i)(h1:i<xs.length)(h:∀ d∈xs,P d):oIx (.lst xs) (.int i) P:=by
 obtain ⟨j,rfl⟩:∃ j:Nat,i=j:=⟨i.toNat,by omega⟩
 have hj:j<xs.length:=by omega
 have e:atI xs (j:Int)=some xs[j]:=HV (L4 hj)
 simp only [oIx,e]
 exact h _ (U6 hj)
theorem ixm {xs:List D}{i:Int}{P:D->Prop}(h0:0<=i)(h1:i<xs.length)(h:∀ d∈xs,P d):(atI xs i).elim False P:=J4v (P:=P) h0 h1 h
theorem II {lo:Int}{n i:Nat}{d:D}(h:(DJ lo n)[i]?=some d):d=.int (lo+i)/\i<n:=by
 have hi:i<n:=by
  have:=(B6.mp h).1
  simpa [DJ] using this
 simp [DJ,hi] at h
 exact ⟨h.symm,hi⟩
theorem MF (lo:Int)(n:Nat):(DJ lo n).length=n:=by simp [DJ]
abbrev sp4 (x y z w:Int):D:=.tup [.int x,.int y,.int z,.int w]
abbrev t3 (x y z:Int):D:=.tup [.int x,.int y,.int z]
abbrev t2 (x y:Int):D:=.tup [.int x,.int y]
theorem J2t {gd:D->Ev->(Ev->Prop)->Prop}{de:DE}{ρc:Ev}{items:List D}{P:List D->Prop}(Pv:Nat->D->Prop)
 (hs:∀ (i:Nat) x (Q:D->Prop),items[i]?=some x->(∀ y,Pv i y->Q y)->gd x ρc fun ρ1=>de ρ1 Q) (hp:∀ i y,Pv i y->plain y=true)
 (hd:∀ acc:List D,acc.length=items.length->(∀ i y,acc[i]?=some y->Pv i y)->P acc):compI gd OJ de ρc items P:=by
 refine ⟨fun i acc=>acc.length=i/\∀ j y,acc[j]?=some y->Pv j y,⟨rfl,fun j y e=>by simp at e⟩,fun i x acc e ⟨hl,ha⟩=>?_,fun acc ⟨hl,ha⟩=>hd acc hl ha⟩
 have:=hs i x (fun y=>plain y=true/\((acc++[y]).length=i+1/\∀ j z,(acc++[y])[j]?=some z->Pv j z)) e fun y hy=>⟨hp i y hy,by simp [hl],fun j z ez=>?_⟩
 · simpa only [OJ,TR] using this
 · by_cases hj:j<acc.length
   · rw [D7 hj] at ez
     exact ha j z ez
   · rw [B0s (by omega)] at ez
     have:j - acc.length=0:=by
      cases q:j - acc.length with
      | zero=>rfl
      | succ m=>rw [q] at ez;simp at ez
     rw [this] at ez
     simp at ez
     subst ez
     have:j=i:=by omega
     subst this
     exact hy
theorem DN {gd:D->Ev->(Ev->Prop)->Prop}{de:DE}{ρc:Ev}{items:List D}{P:List D->Prop}(f:D->D)
 (hs:∀ x (Q:D->Prop),x∈items->Q (f x)->gd x ρc fun ρ1=>de ρ1 Q) (hp:∀ x∈items,plain (f x)=true) (hd:P (items.map f)):compI gd OJ de ρc items P:=by
 refine J2t (fun i y=>∃ x,items[i]?=some x/\y=f x) (fun i x Q e h=>hs x Q (M3 e) (h _ ⟨x,e,rfl⟩)) (fun i y ⟨x,e,h⟩=>by rw [h];exact hp x (M3 e)) fun acc hl ha=>?_
 have:acc=items.map f:=by
  apply List.ext_getElem?
  intro i
  rw [M9]
  cases q:acc[i]? with
  | none =>
    have:items.length<=i:=by rw [<- hl];exact List.getElem?_eq_none_iff.mp q
    rw [List.getElem?_eq_none_iff.mpr this];rfl
  | some y =>
    obtain ⟨x,e,rfl⟩:=ha i y q
    rw [e];rfl
 rw [this];exact hd
theorem J6j {α:Type}{l:List α}{x:α}:atI (l++[x]) (-1)=some x:=by
 have e:ixN (l++[x]).length (-1)=some l.length:=by
  unfold ixN
  rw [if_neg (by decide),if_pos (by simp;omega)]
  congr 1
  simp
  omega
 unfold atI
 rw [e]
 simp
structure JE (X:Cx)(W:Wd)(e:Expr)(d:DE):Prop where
 h:PE X e (dn W d)
structure JT (X:Cx)(W:Wd)(e:Expr)(d:DT):Prop where
 h:PT X e (dnT W d)
structure JW (X:Cx)(W:Wd)(e:Expr)(d:DT):Prop where
 h:PW X e (dnT W d)
structure JA (X:Cx)(W:Wd)(es:List Expr)(d:DA):Prop where
 h:PA X es (dnA W d)
structure JO (X:Cx)(W:Wd)(e:Option Expr)(d:DO):Prop where
 h:PO X e (dnO W d)
structure JIf (X:Cx)(W:Wd)(es:List Expr)(d:DT):Prop where
 h:PIf X es (dnT W d)
structure JI (X:Cx)(W:Wd)(fz:Bool)(tg l:Expr)(d:DA):Prop where
 h:PI X tg l (dnI W fz d)
structure JS (X:Cx)(W:Wd)(st:Stmt)(d:DS):Prop where
 h:PS X st (sn W d)
structure JSs (X:Cx)(W:Wd)(st:List Stmt)(d:DS):Prop where
 h:PSs X st (sn W d)
section
variable {X:Cx}{W:Wd}{e a b c:Expr}{es:List Expr}{pos:Pos}{da db:DE}{dA:DA}{t:TE}
theorem jdv (i:Nat) {x:Str} {pos:Pos} (hN:X.N[i]?=some x:=by rfl) (hv:Vis X.env.scope x:=by first|exact Or.inl rfl|exact Or.inr (Or.inl rfl)|exact Or.inr (Or.inr rfl)) (hd:(x==("__debug__" : Str))=false:=by decide)
 (hcd:(x==("__classdict__" : Str))=false:=by decide):JE X W (.Name x pos) (ZB i):=⟨dv i hN hv hd hcd⟩
theorem J1 {i j pos}:JE X W (.Constant (.int i) j pos) (dC (.int i)):=⟨Q0i ⟩
theorem AL {i j pos}:JE X W (.Constant (.bool i) j pos) (dC (.bl i)):=⟨Q3e ⟩
theorem CJ {j pos}:JE X W (.Constant .none j pos) (dC .non):=⟨Q0f ⟩
theorem CO {i j pos}:JE X W (.Constant (.str i) j pos) (dC (.str i)):=⟨Q0b ⟩
theorem YQ {x:Str}{n:Int}{pos:Pos}(hg:Gl X x)(hm:∃ t,X.mg x=some (.int n t))(hd:(x==("__debug__" : Str))=false:=by decide):JE X W (.Name x pos) (dC (.int n)):=⟨J2h hg hm hd⟩
theorem AD {x:Str}{T:String}{pos:Pos}(hg:Gl X x)(hm:X.mg x=none)(hv:bootBuiltins x=some (.type T))(hn:x≠"__name__":=by decide) (hd:(x==("__debug__" : Str))=false:=by decide):JE X W (.Name x pos) (dC (.ty T)):=⟨J5y hg hm hv hn hd⟩
theorem Q4 {op:Operator}{r:R2}{o:D->D->(D->Prop)->Prop}(ho:OpR X (binaryOp op) r)(hd:OpD W r o)(ha:JE X W a da)(hb:JE X W b db):JE X W (.BinOp a op b pos) (dOp o da db):=⟨Q3b ho hd ha.h hb.h⟩
theorem AK {op:CmpOp}{r:R2}{o:D->D->(D->Prop)->Prop}(ho:OpR X (compareOp op) r)(hd:OpD W r o)(ha:JE X W a da)(hb:JE X W b db)(hm:behindInMarks op b=false):JE X W (.Compare a [op] [b] pos) (dOp o da db):=⟨Q0j ho hd ha.h hb.h hm⟩
theorem Q3 {r:R2}{o:D->D->(D->Prop)->Prop}(hr:IxR X r)(hd:OpD W r o)(ha:JE X W a da)(hb:JE X W b db)(hs:LR b):JE X W (.Subscript a b pos) (dOp o da db):=⟨Q3c hr hd ha.h hb.h hs⟩
theorem BL (ha:JE X W a da):JE X W (.UnaryOp .USub a pos) (dUn J8w da):=⟨Q0g ha.h⟩
variable {rest:List Expr}
theorem DW {op}(h:JE X W a da):JE X W (.BoolOp op [a] pos) da:=⟨Q0d h.h⟩
theorem BW (ha:JE X W a da)(hb:JE X W (.BoolOp .And (b::rest) pos) db):JE X W (.BoolOp .And (a::b::rest) pos) (Q3k da db):=⟨Q0k ha.h hb.h⟩
theorem J9g (ha:JE X W a da)(hb:JE X W (.BoolOp .Or (b::rest) pos) db):JE X W (.BoolOp .Or (a::b::rest) pos) (dOr da db):=⟨Q3a ha.h hb.h⟩
theorem WN (ha:JE X W a da):JE X W (.UnaryOp .Not a pos) (Q3i da):=⟨Q0e ha.h⟩
theorem Y0 {op:CmpOp}{r:R2}{o:D->D->(D->Prop)->Prop}(ho:OpR X (compareOp op) r)(hd:OpD W r o)(ha:JE X W a da)(hb:JE X W b db)(hm:behindInMarks op b=false):JT X W (.Compare a [op] [b] pos) (J2k (dOp o da db)):=⟨J9t ho hd ha.h hb.h hm⟩
theorem V8 (hK:X.K=W.K)(ha:JE X W a da)(he:∀ whole,isTrue a X.env whole=(do let v <- whole;standAt a.pos;holding [v] (truthy v))):JT X W a (Q3g da):=⟨J2b hK ha.h he⟩
variable {ta tb:DT}
theorem EI (ha:JT X W a ta):JW X W (.BoolOp .And [a] pos) ta:=⟨J5o ha.h⟩
theorem DV (ha:JT X W a ta):JW X W (.BoolOp .Or [a] pos) ta:=⟨J9q ha.h⟩
theorem KC (ha:JT X W a ta)(hb:JW X W (.BoolOp .Or (b::rest) pos) tb):JW X W (.BoolOp .Or (a::b::rest) pos) (J6a ta tb):=⟨J7d ha.h hb.h⟩
theorem AJ (ha:JT X W a ta):JT X W (.UnaryOp .Not a pos) (J7f ta):=⟨J9s ha.h⟩
theorem QJ (hc:JT X W c ta)(ha:JE X W a da)(hb:JE X W b db):JE X W (.IfExp c a b pos) (dIf ta da db):=⟨Q3d hc.h ha.h hb.h⟩
theorem J3:JA X W [] J3g:=⟨Q0l ⟩
theorem J0 {dr:DA}(ha:JE X W e da)(hr:JA X W es dr)(hs:starEach (e::es) X.env=(false,eval e X.env)::starEach es X.env:=by rfl):JA X W (e::es) (J3h da dr):=⟨J5z ha.h hr.h hs⟩
theorem V3 {x1}(h:JA X W es dA):JE X W (.Tuple es x1 pos) (Q3f dA):=⟨Q0a h.h⟩
theorem Z8 (h:JA X W es dA):JE X W (.List es pos) (Q3j dA):=⟨Q0h h.h⟩
end
section
variable {X:Cx}{W:Wd}{e:Expr}{es:List Expr}{pos p:Pos}{dA:DA}{x:Str}{k:Nat}{ps:List Str}{S:DSp}
theorem Q6 (G:Callee X.prog X.w X.K X.mg X.base CX0 x k ps (J8 W.K W.B S))(hr:Room k X.A)(hg:Gl X x)(ha:JA X W (e::es) dA)(hdb:(x==("__debug__" : Str))=false:=by decide) (he:starEach (e::es) X.env=(false,eval e X.env)::starEach es X.env:=by rfl) (hpl:(backTo pos (starEach es X.env)).any (·.1)=false:=by rfl) :
 JE X W (.Call (.Name x p) (e::es) [] pos) (MX S (fun _=>False) dA):=⟨Q0c G hr hg ha.h hdb he hpl⟩
theorem J1p {CX:CXT}{E:XK}{Ed:Addr->Prop}(hE:NH W E Ed)(hp:HK CX X E)(G:Callee X.prog X.w X.K X.mg X.base CX x k ps (J8 W.K W.B S))(hr:Room k X.A)(hg:Gl X x)(ha:JA X W (e::es) dA)(hdb:(x==("__debug__" : Str))=false:=by decide) (he:starEach (e::es) X.env=(false,eval e X.env)::starEach es X.env:=by rfl) (hpl:(backTo pos (starEach es X.env)).any (·.1)=false:=by rfl) :
 JE X W (.Call (.Name x p) (e::es) [] pos) (MX S Ed dA):=⟨J5w hE hp G hr hg ha.h hdb he hpl⟩
variable {r:List V->Hp->VK->Prop}{o:List D->(D->Prop)->Prop}{id T:String}
theorem Q5 (hc:CK X (.builtin id) r)(hd:EB W r o)(hg:Gl X x)(hm:X.mg x=none)(hv:bootBuiltins x=some (.builtin id))(ha:JA X W (e::es) dA)(hn:x≠"__name__":=by decide) (hdb:(x==("__debug__" : Str))=false:=by decide)
 (he:starEach (e::es) X.env=(false,eval e X.env)::starEach es X.env:=by rfl) (hpl:(backTo pos (starEach es X.env)).any (·.1)=false:=by rfl):JE X W (.Call (.Name x p) (e::es) [] pos) (dCB o dA):=⟨J2i hc hd hg hm hv ha.h hn hdb he hpl⟩
theorem CV (hc:CK X (.type T) r)(hd:EB W r o)(hg:Gl X x)(hm:X.mg x=none)(hv:bootBuiltins x=some (.type T))(ha:JA X W (e::es) dA)(hn:x≠"__name__":=by decide) (hdb:(x==("__debug__" : Str))=false:=by decide)
 (he:starEach (e::es) X.env=(false,eval e X.env)::starEach es X.env:=by rfl) (hpl:(backTo pos (starEach es X.env)).any (·.1)=false:=by rfl):JE X W (.Call (.Name x p) (e::es) [] pos) (dCB o dA):=⟨YZ hc hd hg hm hv ha.h hn hdb he hpl⟩
end
section
variable {X:Cx}{W:Wd}{tg l a b:Expr}{pos p:Pos}{dl:DE}{dA:DA}{fz:Bool}
theorem AB (hK:X.K=W.K)(hl:JE X W l dl):JI X W fz tg l (J9l fz dl):=⟨J9z hK hl.h⟩
theorem IL (hg:Gl X "range") (hm:X.mg "range" = none) (ha:JA X W [a] dA) (hs:starEach [a] X.env=[(false,eval a X.env)]:=by rfl):JI X W fz tg (.Call (.Name "range" p) [a] [] pos) (WQ dA):=⟨YY hg hm ha.h hs⟩
theorem WM {elts:List Expr}{c1}{tpos:Pos}(hK:X.K=W.K)(t1 t2:Bool)(hg:Gl X "zip") (hm:X.mg "zip" = none) (ha:JA X W [a,b] dA)
 (h:PI X (.Tuple elts c1 tpos) (.Call (.Name "zip" p) [a,b] [] pos) (J1s W.K t1 t2 (dnA W dA))):JI X W fz (.Tuple elts c1 tpos) (.Call (.Name "zip" p) [a,b] [] pos) (J6y fz t1 t2 dA):=⟨J9y hK t1 t2 hg hm ha.h h⟩
end
section
variable {X:Cx}{W:Wd}{elt iter tg:Expr}{ifs:List Expr}{scope:Scope}{pos:Pos}{N':List Str}{map:List (Option Nat)}{g:TG}{gd:D->Ev->(Ev->Prop)->Prop}{di:DA}{dt:DT}{de:DE}
theorem BA (hG:GD W g gd)(B:Blk X N' scope map tg elt ifs g (dnT W dt) (dn W de))(hi:JI X W false tg iter di)(hs:∀ x,foldedSetIterable iter X.env x=pure x:=by intro _;rfl):JE X W (.ListComp elt [⟨tg,iter,ifs,0⟩] scope pos) (J2p map gd di dt de):=⟨J5x hG B hi.h hs⟩
theorem AU:JIf X W [] OJ:=⟨J5v ⟩
end
section
variable {X:Cx}{W:Wd}{e c tg iter:Expr}{es:List Expr}{pos:Pos}{db de:DE}{dA di:DA}{dt:DT}{st:Stmt}{rest sts:List Stmt}{d1 d2:DS}
theorem Y7:JSs X W [] J2n:=⟨J5q ⟩
theorem J7 (h:JS X W st d1):JSs X W [st] d1:=⟨J5p h.h⟩
theorem J6 (h1:JS X W st d1)(h2:JSs X W rest d2):JSs X W (st::rest) (Q0m d1 d2):=⟨J2c h1.h h2.h⟩
theorem V0 (he:JE X W e de):JS X W (.Return (some e) pos) (Q0n de):=⟨J9v he.h⟩
theorem AQ {s1 s2:List Stmt}(hc:JT X W c dt)(ha:JSs X W s1 d1)(hb:JSs X W s2 d2):JS X W (.If c s1 s2 pos) (Q0p dt d1 d2):=⟨Q2z hc.h ha.h hb.h⟩
theorem V9 {i:Nat} {x:Str} {pos':Pos} (hN:X.N.Nodup) (hi:X.N[i]?=some x) (hx:Loc X.env.scope x) (he:JE X W e de) (hs:swapsWith e (some (.Name x pos')) pos.line X.env=pure false:=by rfl) (hf:X.fn x=true\/X.env.scope.names.lookup x=some .local:=by first|exact .inl rfl|exact .inr rfl|assumption) :
 JS X W (.Assign [.Name x pos'] e pos) (ZC de (gdN i)):=⟨J9u hN hi hx he.h hs hf⟩
theorem ED {g:TG}{gd:D->Ev->(Ev->Prop)->Prop}(hG:GD W g gd)(he:JE X W e de)(hg:PG X tg g)(hs:swapsWithSole [tg] e pos.line X.env=pure false:=by rfl)(hw:swappedStores [tg] e X.env=pure none:=by rfl)
 (h1:(assignEach [tg] X.env).map (·.2)=[assign tg X.env]:=by rfl):JS X W (.Assign [tg] e pos) (ZC de gd):=⟨J9x hG he.h hg hs hw h1⟩
theorem SJ {i:Nat} {x:Str} {pos' lpos:Pos} (hN:X.N.Nodup) (hi:X.N[i]?=some x) (hx:Loc X.env.scope x) (ha:JA X W es dA) (hs:swapsWith (.List es lpos) (some (.Name x pos')) pos.line X.env=pure false:=by rfl) (hf:X.fn x=true\/X.env.scope.names.lookup x=some .local:=by first|exact .inl rfl|exact .inr rfl|assumption) :
 JS X W (.Assign [.Name x pos'] (.List es lpos) pos) (J7i i dA):=⟨J5s hN hi hx ha.h hs hf⟩
theorem MS {i:Nat}{x:Str}{e:Expr}{npos apos cpos:Pos}(hK:X.K=W.K)(hN:X.N[i]?=some x)(hv:Vis X.env.scope x)(ha:JA X W [e] dA)
 (h:PE X (.Call (.Attribute (.Name x npos) "append" apos) [e] [] cpos) (tBM X.K "list" HQ (HX i) (dnA W dA))) (hs:swapsWith (.Call (.Attribute (.Name x npos) "append" apos) [e] [] cpos) none pos.line X.env=pure false:=by rfl) :
 JS X W (.Expr (.Call (.Attribute (.Name x npos) "append" apos) [e] [] cpos) pos) (J6c i dA):=⟨YX hK hN hv ha.h h hs⟩
theorem EC {g:TG}{gd:D->Ev->(Ev->Prop)->Prop}{db:DS}{body:List Stmt}(hG:GD W g gd)(hp:PassesOwn (model X.prog X.w) X.A X.env X.xe)(hc:X.calm=true)(hi:JI X W true tg iter di)(hg:PG X tg g)(hb:JSs X W body db)
 (hs:∀ x,foldedSetIterable iter X.env x=pure x:=by intro _;rfl):JS X W (.For tg iter body [] pos) (J6b gd di db):=⟨J9w hG hp hc hi.h hg hb.h hs⟩
theorem J1l (i:Nat)(h:JSs X W sts d1):JSs X W sts (Q0q i d1):=⟨J5r i h.h⟩
theorem YO {E:XK}{Ed:Addr->Prop}{C:Addr}(hE:NH W E Ed)(h:PS X st (fun _ _ H1=>E (.ref C) none H1)):JS X W st (J2m Ed C):=⟨J2d hE h⟩
theorem OE:JS X W st J2o:=⟨J2e ⟩
end
section
variable {X:Cx}{W:Wd}{e:Expr}{pos:Pos}{dl de:DE}
theorem SL:JO X W none oNo:=⟨J5u ⟩
theorem SK (h:JE X W e de):JO X W (some e) (oPt de):=⟨J5t h.h⟩
theorem OF {lo hi:Option Expr}{dl dh:DO}{p2:Pos}(hr:SlR X (fun x lo hi H Q=>J0d W.K x lo hi H Q\/J0e W.K x lo hi H Q))(he:JE X W e de)(hl:JO X W lo dl)(hu:JO X W hi dh):JE X W (.Subscript e (.Slice lo hi none p2) pos) (dSl de dl dh):=⟨J2g hr he.h hl.h hu.h⟩
end
section
variable {X:Cx}{W:Wd}{a b:Expr}{rest:List Expr}{pos:Pos}{ta tb:DT}
theorem GI (ha:JT X W a ta)(hb:JW X W (.BoolOp .And (b::rest) pos) tb):JT X W (.BoolOp .And (a::b::rest) pos) (J2l ta tb):=⟨(J9r ha.h hb.h).pt⟩
theorem FH (ha:JT X W a ta)(hb:JW X W (.BoolOp .Or (b::rest) pos) tb):JT X W (.BoolOp .Or (a::b::rest) pos) (J6a ta tb):=⟨(J7d ha.h hb.h).pt⟩
end
theorem FP {es:List Expr}{pos:Pos}{env:Env}:∀ x,foldedSetIterable (.List es pos) env x=pure x:=fun _=>rfl
theorem JJ {X:Cx} {W:Wd} {N':List Str} {scope:Scope} {map:List (Option Nat)} {tg elt:Expr} {ifs:List Expr} {g:TG} {dt:DT} {de:DE} (calm:X.calm=true) (kind:scope.kind=.function) (loc:∀ x∈scope.names,x.2=.local->scope.names.lookup x.1=some .local) (free:(scope.names.all fun p=>!(p.2==NameKind.free)||(X.env.kindOf p.1==some .cell||X.env.kindOf p.1==some .free))=true) (cap:CapOk X scope map N') (keep:HL g map)
 (run:∀ cells C fp s H,PG (V2 X N' scope cells C fp s H) tg g/\JIf (V2 X N' scope cells C fp s H) W ifs dt/\JE (V2 X N' scope cells C fp s H) W elt de):Blk X N' scope map tg elt ifs g (dnT W dt) (dn W de) :=
 ⟨calm,kind,loc,free,cap,keep,fun cells C fp s H _=>⟨(run cells C fp s H).1,(run cells C fp s H).2.1.h,(run cells C fp s H).2.2.h⟩⟩
theorem Fun.okD {P:Program}{w:World} {mg:Str->Option Value}{base:Heap}{x qual:Str}{st:Stmt}{f:Addr} {N ps:List Str}{k:Nat}{B:BagT}{Sd:DSp}(F:Fun K x qual st f fd)(S:FnScope N ps (J5 st))(len:∀ ds PP Ed,Sd ds PP Ed->ds.length=ps.length)
 (hbody:∀ (cdv:Value) (A:Around) (outer:List Env) (s:Shared) (H:Hp) (E:XK) (M:Addr->Prop) (bg:Option Addr) (ds:List D) (PP:D->Prop) (Ed:Addr->Prop),Room k (A.deeper (envOfC qual (J5 st) s.heap.objs.size f cdv))->Sd ds PP Ed ->
  ∃ d,JSs (DR CX0 P w K mg base N qual (J5 st) f cdv A outer s H E).nox ⟨K,B,H,M,bg⟩ (CP st) d/\d { nx:=fun _=>PP .non,rt:=PP } (DB N ds)):FnOk P w K mg base CX0 (k+1) f fd ps (J8 K B Sd) :=
 F.ok S (J8.len len) fun cdv A outer s H vs Q E hr h=>by
  obtain ⟨M,bg,ds,PP,Ed,hS,hR,ho,hb,hd,hq,hx⟩:=h
  obtain ⟨d,J,q⟩:=hbody cdv A outer s H E M bg ds PP Ed hr hS
  exact ⟨_,J.h,run hR ho hb hd hq q⟩
theorem Fun.okDX {P:Program}{w:World} {mg:Str->Option Value}{base:Heap}{CX:CXT}{x qual:Str}{st:Stmt}{f:Addr} {N ps:List Str}{k:Nat}{B:BagT}{Sd:DSp}(F:Fun K x qual st f fd)(S:FnScope N ps (J5 st))(len:∀ ds PP Ed,Sd ds PP Ed->ds.length=ps.length)
 (hbody:∀ (cdv:Value) (A:Around) (outer:List Env) (s:Shared) (H:Hp) (E:XK) (M:Addr->Prop) (bg:Option Addr) (ds:List D) (PP:D->Prop) (Ed:Addr->Prop),Room k (A.deeper (envOfC qual (J5 st) s.heap.objs.size f cdv))->NH ⟨K,B,H,M,bg⟩ E Ed->Sd ds PP Ed ->
  ∃ d,JSs (DR CX P w K mg base N qual (J5 st) f cdv A outer s H E) ⟨K,B,H,M,bg⟩ (CP st) d/\d { nx:=fun _=>PP .non,rt:=PP } (DB N ds)):FnOk P w K mg base CX (k+1) f fd ps (J8 K B Sd) :=
 F.okX S (J8.len len) fun cdv A outer s H vs Q E hr h=>by
  obtain ⟨M,bg,ds,PP,Ed,hS,hR,ho,hb,hd,hq,hx⟩:=h
  obtain ⟨d,J,q⟩:=hbody cdv A outer s H E M bg ds PP Ed hr (fun C H' e k o=>hx C H' e k o) hS
  exact ⟨_,J.h,run hR ho hb hd hq q⟩
mutual
def AC:D->Option PyData
 | .non=>some .none
 | .bl b=>some (.bool b)
 | .int i=>some (.int i)
 | .str x=>if PyData.strOk x then some (.str x) else none
 | .tup xs=>(DU xs).map .tuple
 | .lst xs=>(DU xs).map .list
 | .own xs=>(DU xs).map .list
 | .ty _=>none
 | .adr _=>none
 | .bag=>none
 | .frg _ d=>AC d
 | .scr _=>none
 | .dct _ _ _=>none
def DU:List D->Option (List PyData)
 | []=>some []
 | d::ds=>(AC d).bind fun p=>(DU ds).map (p::·)
end
mutual
theorem AC.lay:∀ (d:D) (p:PyData),AC d=some p->p.canLay0=true
 | .non,p,h=>by cases h;rfl
 | .bl b,p,h=>by cases h;rfl
 | .int i,p,h=>by cases h;rfl
 | .str x,p,h=>by
   unfold AC at h
   split at h
   · cases h;unfold PyData.canLay0;assumption
   · cases h
 | .tup xs,p,h=>by
   unfold AC at h
   obtain ⟨ps,e,rfl⟩:=L8.mp h
   unfold PyData.canLay0
   exact DU.lay xs ps e
 | .lst xs,p,h=>by
   unfold AC at h
   obtain ⟨ps,e,rfl⟩:=L8.mp h
   unfold PyData.canLay0
   exact DU.lay xs ps e
 | .own xs,p,h=>by
   unfold AC at h
   obtain ⟨ps,e,rfl⟩:=L8.mp h
   unfold PyData.canLay0
   exact DU.lay xs ps e
 | .ty _,p,h=>by unfold AC at h;cases h
 | .adr _,p,h=>by unfold AC at h;cases h
 | .bag,p,h=>by unfold AC at h;cases h
 | .frg _ d,p,h=>by unfold AC at h;exact AC.lay d p h
 | .scr _,p,h=>by unfold AC at h;cases h
 | .dct _ _ _,p,h=>by unfold AC at h;cases h
theorem DU.lay:∀ (ds:List D) (ps:List PyData),DU ds=some ps->PyData.canLayAll0 ps=true
 | [],ps,h=>by cases h;rfl
 | d::ds,ps,h=>by
   unfold DU at h
   obtain ⟨p,e1,h⟩:=E3.mp h
   obtain ⟨qs,e2,rfl⟩:=L8.mp h
   unfold PyData.canLayAll0
   rw [AC.lay d p e1,DU.lay ds qs e2];rfl
end
section
variable {X:Cx}{pins:List (Addr×Obj)}{σ:St}{H:Hp}{s:Shared}{M:Addr->Prop}
mutual
theorem HP (I:Inv X pins σ H s):∀ (d:D) (v:V) (u:Value) (p:PyData),Rep X.K M H d v->RelV v u->AC d=some p->∃ as,Reads s.heap u p as
 | .non,v,u,p,r,q,h=>by cases h;cases (show _=_ from r);cases (show u=Value.none from q);exact ⟨_,.none⟩
 | .bl b,v,u,p,r,q,h=>by cases h;cases (show _=_ from r);cases (show u=Value.bool b from q);exact ⟨_,.bool _⟩
 | .int i,v,u,p,r,q,h=>by
   cases h;cases (show _=_ from r)
   obtain ⟨t,rfl⟩:=(show ∃ t,u=Value.int i t from q)
   exact ⟨_,.int _ _⟩
 | .str x,v,u,p,r,q,h=>by
   unfold AC at h
   split at h
   · cases h;cases (show _=_ from r)
     obtain ⟨t,rfl⟩:=(show ∃ t,u=Value.str x t from q)
     exact ⟨_,.str _ _⟩
   · cases h
 | .tup xs,v,u,p,r,q,h=>by
   unfold AC at h
   obtain ⟨ps,e,rfl⟩:=L8.mp h
   obtain ⟨a,vs,rfl,z,rs⟩:=r
   cases (show u=Value.ref a from q)
   obtain ⟨its,r1,⟨o,h1,h2,n,h3⟩,_⟩:=I.tuple z.sq
   obtain ⟨as,ra⟩:=GA I xs vs its ps rs r1 e
   exact ⟨as,.tuple h1 h2 h3 (by simpa using ra)⟩
 | .lst xs,v,u,p,r,q,h=>by
   unfold AC at h
   obtain ⟨ps,e,rfl⟩:=L8.mp h
   obtain ⟨a,vs,rfl,z,rs⟩:=r
   cases (show u=Value.ref a from q)
   obtain ⟨its,r1,⟨o,n,h1,h2,_,h3⟩,_⟩:=I.list (SqL.of z.2)
   obtain ⟨as,ra⟩:=GA I xs vs its ps rs r1 e
   exact ⟨a::as,.list h1 h2 h3 (by simpa using ra)⟩
 | .own xs,v,u,p,r,q,h=>r.elim
 | .ty _,_,_,p,_,_,h=>by unfold AC at h;cases h
 | .adr _,_,_,p,_,_,h=>by unfold AC at h;cases h
 | .bag,_,_,p,_,_,h=>by unfold AC at h;cases h
 | .frg _ _,_,_,p,r,_,h=>r.elim
 | .scr _,_,_,p,_,_,h=>by unfold AC at h;cases h
 | .dct _ _ _,_,_,p,_,_,h=>by unfold AC at h;cases h
theorem GA (I:Inv X pins σ H s):∀ (ds:List D) (vs:List V) (us:List Value) (ps:List PyData),Reps X.K M H ds vs->Vals vs us->DU ds=some ps->∃ as,ReadsAll s.heap us ps as
 | [],vs,us,ps,r,q,h=>by
   cases h
   cases (show vs=[] from r)
   cases q
   exact ⟨[],.nil⟩
 | d::ds,vs,us,ps,r,q,h=>by
   unfold DU at h
   obtain ⟨p,e1,h⟩:=E3.mp h
   obtain ⟨qs,e2,rfl⟩:=L8.mp h
   obtain ⟨v,rv,rfl,r1,r2⟩:=r
   cases q with
   | cons q1 q2 =>
     obtain ⟨as,a1⟩:=HP I d v _ p r1 q1 e1
     obtain ⟨bs,a2⟩:=GA I ds rv _ qs r2 q2 e2
     exact ⟨as++bs,.cons a1 a2⟩
end
end
def J6m (K:Fg)(M:Addr->Prop)(H:Hp):D->V->Prop
 | .own xs,v=>∃ a vs,v=.ref a/\H a=some (.lst vs)/\Reps K M H xs vs
 | .frg _ d,v=>∃ M',Rep K M' H d v
 | d,v=>Rep K M H d v
theorem RepX.g {W:Wd} {H:Hp}{d:D}{v:V}{p:PyData}(h:RepX W M b H d v)(e:AC d=some p):J6m W.K M H d v:=by
 cases d
 case own xs=>obtain ⟨a,vs,rfl,_,_,_,_,hh,r⟩:=h;exact ⟨a,vs,rfl,hh,r⟩
 case bag=>unfold AC at e;cases e
 case frg f d=>exact ⟨_,h.2.2⟩
 all_goals exact h
theorem GB {X:Cx}{pins:List (Addr×Obj)}{σ:St}{H:Hp}{s:Shared} (I:Inv X pins σ H s){d:D}{v:V}{u:Value}{p:PyData}(r:J6m X.K M H d v)(q:RelV v u)(h:AC d=some p):∃ as,Reads s.heap u p as:=by
 cases d
 case own xs =>
  obtain ⟨a,vs,rfl,hh,r⟩:=r
  unfold AC at h
  obtain ⟨ps,e,rfl⟩:=L8.mp h
  cases (show u=Value.ref a from q)
  obtain ⟨its,r1,⟨o,n,h1,h2,_,h3⟩,_⟩:=I.list (SqL.of hh)
  obtain ⟨as,ra⟩:=GA I xs vs its ps r r1 e
  exact ⟨a::as,.list h1 h2 h3 (by simpa using ra)⟩
 case frg f d =>
  obtain ⟨M',r⟩:=r
  exact HP (M:=M') I d _ _ _ r q (by unfold AC at h;exact h)
 all_goals exact HP I _ _ _ _ r q h
def J8j (K:Fg)(neg:Bool):R2:=fun x y H Q=>∃ M dx dy p q,J6m K M H dx x/\J6m K M H dy y/\AC dx=some p/\AC dy=some q/\min p.depth q.depth<=60/\Q (.bl (PyData.eqv p q != neg)) H
theorem HA {X:Cx}(K:Fg)(hK:X.K=K)(hu:X.A.units+64<cLine):OpR X (compareOp .Eq) (J8j K false):=by
 subst hK
 intro pins s σ H x y v u Q I rx ry h
 obtain ⟨M,dx,dy,p,q,r1,r2,e1,e2,hd,hq⟩:=h
 obtain ⟨as,a1⟩:=GB I r1 rx e1
 obtain ⟨bs,a2⟩:=GB I r2 ry e2
 refine SeqAt.compareEq_reads a1 a2 (AC.lay _ _ e1) (AC.lay _ _ e2) (by omega) ?_
 exact ⟨.bl _,H,I,rfl,by simpa using hq⟩
theorem J0t {X:Cx}(K:Fg)(hK:X.K=K)(hu:X.A.units+64<cLine):OpR X (compareOp .NotEq) (J8j K true):=by
 subst hK
 intro pins s σ H x y v u Q I rx ry h
 obtain ⟨M,dx,dy,p,q,r1,r2,e1,e2,hd,hq⟩:=h
 obtain ⟨as,a1⟩:=GB I r1 rx e1
 obtain ⟨bs,a2⟩:=GB I r2 ry e2
 refine SeqAt.compareNe_reads a1 a2 (AC.lay _ _ e1) (AC.lay _ _ e2) (by omega) ?_
 exact ⟨.bl _,H,I,rfl,by simpa using hq⟩
inductive EqG (neg:Bool)(x y:D)(P:D->Prop):Prop
 | mk (p q:PyData) (e1:AC x=some p) (e2:AC y=some q) (hd:min p.depth q.depth<=60) (h:P (.bl (PyData.eqv p q != neg))):EqG neg x y P
def Q4h (neg:Bool):D->D->(D->Prop)->Prop:=fun x y P=>EqG neg x y P
theorem FG {W:Wd}{neg:Bool}:OpD W (J8j W.K neg) (Q4h neg):=by
 intro M b H x y v u P Q hs rx ry ho k
 obtain ⟨p,q,e1,e2,hd,hp⟩:=ho
 exact ⟨M,x,y,p,q,rx.g e1,ry.g e2,e1,e2,hd,k _ _ H hp (show _=_ from rfl) (Kp.refl _ _) hs.ok⟩
mutual
def Y6:Nat->D->Bool
 | _,.non=>true
 | _,.bl _=>true
 | _,.int _=>true
 | _,.str x=>PyData.strOk x
 | n+1,.tup xs=>BQ n xs
 | n+1,.lst xs=>BQ n xs
 | n+1,.own xs=>BQ n xs
 | n,.frg _ d=>Y6 n d
 | _,_=>false
def BQ:Nat->List D->Bool
 | _,[]=>true
 | n,d::ds=>Y6 n d&&BQ n ds
end
mutual
theorem LL:∀ (n:Nat) (d:D),Y6 n d=true->∃ p,AC d=some p/\p.depth<=n/\PyData.eqv p p=true
 | n,.non,h=>⟨_,rfl,W1 _,rfl⟩
 | n,.bl b,h=>⟨_,rfl,W1 _,by simp [PyData.eqv]⟩
 | n,.int i,h=>⟨_,rfl,W1 _,by simp [PyData.eqv]⟩
 | n,.str x,h=>by
   have h:PyData.strOk x=true:=by cases n<;>simpa [Y6] using h
   exact ⟨.str x,by unfold AC;rw [if_pos h],W1 _,by simp [PyData.eqv]⟩
 | 0,.tup xs,h=>by simp [Y6] at h
 | 0,.lst xs,h=>by simp [Y6] at h
 | 0,.own xs,h=>by simp [Y6] at h
 | n+1,.tup xs,h=>by
   obtain ⟨ps,e,hd,hq⟩:=HE n xs (by simpa [Y6] using h)
   exact ⟨.tuple ps,by unfold AC;rw [e];rfl,by unfold PyData.depth;omega,by unfold PyData.eqv;exact hq⟩
 | n+1,.lst xs,h=>by
   obtain ⟨ps,e,hd,hq⟩:=HE n xs (by simpa [Y6] using h)
   exact ⟨.list ps,by unfold AC;rw [e];rfl,by unfold PyData.depth;omega,by unfold PyData.eqv;exact hq⟩
 | n+1,.own xs,h=>by
   obtain ⟨ps,e,hd,hq⟩:=HE n xs (by simpa [Y6] using h)
   exact ⟨.list ps,by unfold AC;rw [e];rfl,by unfold PyData.depth;omega,by unfold PyData.eqv;exact hq⟩
 | n,.ty _,h=>by cases n<;>simp [Y6] at h
 | n,.adr _,h=>by cases n<;>simp [Y6] at h
 | n,.bag,h=>by cases n<;>simp [Y6] at h
 | n,.frg _ d,h=>by
   obtain ⟨p,e,h1,h2⟩:=LL n d (by cases n<;>simpa [Y6] using h)
   exact ⟨p,by unfold AC;exact e,h1,h2⟩
 | n,.scr _,h=>by cases n<;>simp [Y6] at h
 | n,.dct _ _ _,h=>by cases n<;>simp [Y6] at h
theorem HE:∀ (n:Nat) (ds:List D),BQ n ds=true->∃ ps,DU ds=some ps/\PyData.depthAll ps<=n/\PyData.eqvAll ps ps=true
 | n,[],h=>⟨[],rfl,W1 _,rfl⟩
 | n,d::ds,h=>by
   unfold BQ at h
   obtain ⟨h1,h2⟩:=(L5 _ _).mp h
   obtain ⟨p,e1,d1,q1⟩:=LL n d h1
   obtain ⟨ps,e2,d2,q2⟩:=HE n ds h2
   exact ⟨p::ps,by unfold DU;rw [e1,e2];rfl,by unfold PyData.depthAll;omega,by unfold PyData.eqvAll;rw [q1,q2];rfl⟩
end
theorem HU {n:Nat}:∀ {ds:List D},(∀ d∈ds,Y6 n d=true)->BQ n ds=true
 | [],_=>by unfold BQ;rfl
 | d::ds,h=>by
   unfold BQ
   rw [h d (M4 ..),HU fun e he=>h e (T5 _ he)];rfl
theorem J1q {X:Cx}{W:Wd}{x:Str}{k:Nat}{ps:List Str}{S:DSp}{p pos:Pos}(G:Callee X.prog X.w X.K X.mg X.base CX0 x k ps (J8 W.K W.B S))(hr:Room k X.A)(hg:Gl X x)(hdb:(x==("__debug__" : Str))=false:=by decide):JE X W (.Call (.Name x p) [] [] pos) (MX S (fun _=>False) J3g) :=
 ⟨(J4m G hr hg hdb).mono fun σ H Q hh=>by
   have:=PC (W:=W) (S:=S) (dA:=J3g) VC σ H Q hh
   obtain ⟨pn,M,b,ρ,P,st,h,k⟩:=this
   exact k [] [] H h (show _=_ from rfl) (Kp.refl _ _) st.ok⟩
def Ite (K:Fg)(l:Addr):It :=
 ⟨fun i H=>∃ ys y,SqL K H l ys/\ys[i]?=some y,
  fun i H v H'=>∃ t y,v=.ref t/\H t=none/\H'=upd H t (.tup [.int i,y])/\∀ ys,SqL K H l ys->ys[i]?=some y,
  fun i H=>∃ ys,SqL K H l ys/\ys.length<=i⟩
def ETn (e it l:Addr)(i:Nat)(h:Heap):Prop:=(∃ old,IsEnum h e it i old)/\ItAt false h it l i
theorem XX {w:World} {elts:List Expr}{c1}{tpos:Pos}{e it l:Addr}(hne:e≠it):Turn P w K (.Tuple elts c1 tpos) (Ite K l) [e,it] e (ETn e it l) where
 mem:=by simp
 obj:=fun i h st b hb=>by
  obtain ⟨⟨old,s1⟩,d1⟩:=st
  simp only [B4,B8,R3] at hb
  rcases hb with rfl|rfl
  · exact ⟨_,s1,fun v q=>by cases q⟩
  · exact d1.obj
 keep:=fun i h h' st k=>by
  obtain ⟨⟨old,s1⟩,d1⟩:=st
  exact ⟨⟨old,k e (by simp) _ s1⟩,d1.at fun o x=>k it (by simp) o x⟩
 item:=by
  intro X hP hw hK hc i pins s σ H E I hf st hg
  subst hP hw hK
  obtain ⟨ys,y,h1,q1⟩:=hg
  obtain ⟨⟨old,s1⟩,d1⟩:=st
  obtain ⟨v1,r1,p1,_⟩:=I.list h1
  obtain ⟨u1,m1,t1⟩:=r1.get q1
  have szn:∀ b∈[e,it],b≠s.heap.objs.size:=fun b hb z=>by
   simp only [B4,B8,R3] at hb
   rcases hb with rfl|rfl
   · exact L9 _ (z▸B5 s1)
   · obtain ⟨_,w1,_⟩:=d1.obj;exact L9 _ (z▸B5 w1)
  refine wpAny_pyNext_enum_item s1 d1 p1.isList (x:=u1) (by simpa using m1) hne fun h' eo it' tp sz kp=>?_
  refine ⟨_,rfl,wpAny_letOwnedTupleGo_enum (s:={ s with heap:=h',toks:=s.toks+1 }) eo fun hq e4 sb=>?_⟩
  have up:∀ b o,b≠e->h'.get? b=some o->hq.get? b=some o:=fun b o hb x=>sb.extBut _ _ hb x
  have I2:Inv X pins σ (upd H s.heap.objs.size (.tup [.int i,y])) { s with heap:=hq,toks:=s.toks+1 }:=I.zipped (t':=s.toks+1) (fp:=[e,it]) hf (fun b o hb x=>up b o (fun z=>hb (by simp [z])) (kp b o (fun z=>hb (by simp [z])) (fun z=>hb (by simp [z])) x)) (B9 _)
   ⟨M7 (M1 rfl) BP,[.int i s.toks,u1],.cons ⟨_,rfl⟩ (.cons t1 .nil),⟨_,up _ _ (B0f (szn e (by simp))) tp,rfl,_,rfl⟩⟩
  refine ⟨.ref s.heap.objs.size,_,I2,rfl,⟨_,y,rfl,I.hok.fresh (B9 _),rfl,fun zs hz=>by rw [I.list_inj hz h1];exact q1⟩,⟨⟨_,e4⟩,ItAt.at (b:=false) it' fun o x=>up _ o (B0f hne) x⟩,fun b hb=>?_⟩
  rw [V7 (szn b hb)]
  exact (hf b hb).1
 done:=by
  intro X hP hw hK hc i pins s σ H E I hf st hg
  subst hP hw hK
  obtain ⟨ys,h1,q1⟩:=hg
  obtain ⟨⟨old,s1⟩,d1⟩:=st
  obtain ⟨v1,r1,p1,_⟩:=I.list h1
  have hl:=r1.length
  refine wpAny_pyNext_enum_end (I.ok.hd hc) s1 d1 p1.isList (by simp;omega) fun h' kp=>⟨rfl,?_⟩
  exact I.turnedL (t':=s.toks) (fp:=[e,it]) hf fun b o hb x=>kp b o (fun z=>hb (by simp [z])) x
 self:=fun _ _ _ _ _ st h=>by
  obtain ⟨⟨old,s1⟩,d1⟩:=st
  exact wpAny_pyIter_enum s1 h
def J6z (K:Fg)(ta:TA):TI:=fun σ H R=>ta σ H fun vs H1=>∃ l,vs=[.ref l]/\(∃ ys,SqL K H1 l ys)/\R (Ite K l) H1
theorem WD {X:Cx}{elts:List Expr}{c1}{tpos:Pos}(K:Fg)(hK:X.K=K){e1:Expr}{ta:TA}{p pos:Pos}(hg:Gl X "enumerate") (hm:X.mg "enumerate" = none) (ha:PA X [e1] ta)
 (hs:starEach [e1] X.env=[(false,eval e1 X.env)]:=by rfl):PI X (.Tuple elts c1 tpos) (.Call (.Name "enumerate" p) [e1] [] pos) (J6z K ta):=by
 subst hK
 intro pins s σ H R I h
 refine Call_ (KB I hg hm RB (D0 (thn (ha pos pins s σ H _ I h) fun us s1 ⟨vs,H1,I1,r1,q1⟩=>?_) hs rfl))
 obtain ⟨l,rfl,⟨ys,h1⟩,q⟩:=q1
 cases r1 with
 | cons r rr =>
 cases rr
 cases r
 obtain ⟨v1,r1,p1,_⟩:=I1.list h1
 refine call_enumerate_list p1.isList fun h' f1 f2 f3 kp=>?_
 refine wpAny_pyIter_enum (s:={ s1 with heap:=h' }) f1 ?_
 refine ⟨s1.heap.objs.size+1,[s1.heap.objs.size+1,s1.heap.objs.size],_,_,H1,rfl,I1.kept (t':=s1.toks) kp,XX (l:=l) (by show (_:Nat)≠_;omega),⟨⟨_,f1⟩,f2⟩,fun b hb=>?_,q⟩
 have hge:s1.heap.objs.size<=b:=by
  simp only [B4,B8,R3] at hb
  rcases hb with rfl|rfl<;>first|exact B9 _|exact Nat.le_add_right _ _
 exact I1.fpOk hge (I1.hok.fresh hge)
section
variable {X:Cx}{W:Wd}{e a b l:Expr}{pos p:Pos}{d:DE}{dA:DA}{fz:Bool}{x:Str}{k:Nat}{ps:List Str}
def EW (xs:List D):List D:=xs.mapIdx fun i x=>.tup [.int i,x]
theorem ST (xs:List D):(EW xs).all plain=true:=by
 unfold EW
 rw [R5]
 intro y hy
 obtain ⟨i,h,rfl⟩:=List.mem_mapIdx.mp hy
 rfl
def J9m (fz:Bool)(dA:DA):DA:=fun ρ P=>dA ρ fun zs=>match zs with
 | [x]=>(asK fz false x).elim False fun xs=>P (EW xs)
 | _=>False
theorem J5c {x:D}{xs:List D}{l1:Addr}(h1:asK fz false x=some xs):IN W (Ite W.K l1) [(x,.ref l1)] (EW xs):=by
 intro M b H hs hn
 obtain ⟨⟨a1,us,e1,q1,r1⟩,_⟩:=asK.rep (hn _ (.head _)) h1
 cases e1
 have q1:SqL W.K H l1 us:=q1
 have hlen:(EW xs).length=xs.length:=by simp [EW]
 refine ⟨fun i d e=>?_,fun i hi=>⟨us,q1,by rw [r1.length,<- hlen];exact hi⟩⟩
 have hi:i<xs.length:=by rw [<- hlen];exact (B6.mp e).1
 obtain ⟨u,eu,ru⟩:=r1.get (L4 hi)
 refine ⟨⟨us,u,q1,eu⟩,fun v H3 ⟨t,y1,ev,ht,eH,k1⟩=>?_⟩
 subst ev eH
 have z1:=k1 us q1
 rw [eu] at z1;cases z1
 refine ⟨Same.upd ht,?_⟩
 have ed:d=.tup [.int i,xs[i]]:=by
  have:(EW xs)[i]?=some (.tup [.int i,xs[i]]):=by simp [EW,hi]
  rw [this] at e;exact (Option.some.inj e).symm
 subst ed
 exact GF hs ⟨.int i,[u],rfl,rfl,u,[],rfl,ru,rfl⟩ ht
theorem SM {elts:List Expr}{c1}{tpos:Pos}(hK:X.K=W.K)(ha:JA X W [a] dA)
 (h:PI X (.Tuple elts c1 tpos) (.Call (.Name "enumerate" p) [a] [] pos) (J6z W.K (dnA W dA))):JI X W fz (.Tuple elts c1 tpos) (.Call (.Name "enumerate" p) [a] [] pos) (J9m fz dA):=⟨h.mono fun σ H R hh=>hh.elim fun pn M b ρ P st h k=>by
 refine ⟨pn,M,b,ρ,_,st,h,fun zs vs H1 hx rx k1 o1=>?_⟩
 match zs,hx with
 | [x],hx =>
   obtain ⟨v,rfl,r⟩:=rx1 rx
   cases e1:asK fz false x with
   | none=>simp only [e1] at hx;exact hx.elim
   | some xs =>
     simp only [e1] at hx
     obtain ⟨⟨a1,us,z1,q1,r1⟩,f1⟩:=asK.rep r e1
     subst z1
     exact ⟨a1,rfl,⟨us,q1⟩,k _ _ _ H1 hx (ST _) (J5c e1) (fun q hq=>by
      have z:=R0.mp hq
      subst z;exact ⟨r,f1⟩) k1 o1⟩⟩
def Q3h (i:Nat)(dA:DA):DS:=fun F ρ=>dA ρ fun xs=>match xs with
 | [x]=>(asS x).elim False fun ys=>F.nx (ρ.set i (some (.own ys)))
 | _=>False
theorem J1o {i:Nat}{y:Str}{pos' lpos npos:Pos}(hN:X.N.Nodup)(hi:X.N[i]?=some y)(hx:Loc X.env.scope y)(ha:JA X W [a] dA)
 (h:PE X (.Call (.Name "list" npos) [a] [] lpos) (tCB (fun xs H Q=>∃ p ys,xs=[.ref p]/\(SqL W.K H p ys\/SqT W.K H p ys)/\∀ l,H l=none->Q (.ref l) (upd H l (.lst ys))) (dnA W dA)))
 (hs:swapsWith (.Call (.Name "list" npos) [a] [] lpos) (some (.Name y pos')) pos.line X.env=pure false:=by rfl) (hf:X.fn y=true\/X.env.scope.names.lookup y=some .local:=by first|exact .inl rfl|exact .inr rfl|assumption) :
 JS X W (.Assign [.Name y pos'] (.Call (.Name "list" npos) [a] [] lpos) pos) (Q3h i dA):=⟨(DK hN hi hx h hs hf).mono fun E σ H hh=>hh.elim fun pn M b ρ F s l h=>by
 refine ⟨pn,M,b,ρ,_,s.toSta,h,fun xs vs H' hx rx k o=>?_⟩
 match xs,hx with
 | [x],hx =>
   obtain ⟨v,rfl,r⟩:=rx1 rx
   cases e1:asS x with
   | none=>simp only [e1] at hx;exact hx.elim
   | some ys =>
     simp only [e1] at hx
     obtain ⟨a,us,rfl,hh,r'⟩:=asS.rep r e1
     exact ⟨a,us,rfl,hh,fun q hq=>l.nx _ _ _ _ _ ((s.step k o).newOwn i r' hq) hx⟩⟩
theorem J5n {xs:List D}{neg:Bool}{P:D->Prop}(n:Nat)(h:BQ n xs=true)(hp:P (.bl (xs.isEmpty != neg))):EqG neg (.own xs) (.lst []) P:=by
 obtain ⟨ps,e,hd,hq⟩:=HE n xs h
 refine ⟨.list ps,.list [],by unfold AC;rw [e];rfl,rfl,M7 (Nat.min_le_right _ _) (by decide),?_⟩
 have:PyData.eqv (.list ps) (.list [])=xs.isEmpty:=by
  cases xs with
  | nil=>cases e;rfl
  | cons x xs =>
    unfold DU at e
    obtain ⟨p,e1,e⟩:=E3.mp e
    obtain ⟨qs,e2,rfl⟩:=L8.mp e
    rfl
 rw [this]
 exact hp
end
abbrev DSO:=List D->(List D->Prop)->(Addr->Prop)->Prop
section
variable {W:Wd}{e a b c:Expr}{d:DE}
def BorAt:List D->List V->Addr->Prop
 | .own _::ds,v::vs,c=>v=.ref c\/BorAt ds vs c
 | .frg f _::ds,_::vs,c=>c∈f.ads\/BorAt ds vs c
 | _::ds,_::vs,c=>BorAt ds vs c
 | _,_,_=>False
theorem BorAt.lst {b:Option Addr}{H:Hp}{c:Addr}:∀ (ds:List D) (vs:List V),RepXs W M b H ds vs->BorAt ds vs c->b≠some c/\∃ o,H c=some o/\∀ vs,o≠.tup vs
 | [],vs,h,q=>by cases (show vs=[] from h);exact q.elim
 | d::ds,vs,h,q=>by
   obtain ⟨v,r,rfl,h1,h2⟩:=h
   cases d
   case own xs =>
    rcases q with z|z
    · obtain ⟨a,us,e,m1,m2,m3,m4,hh,r'⟩:=h1
      rw [z] at e;cases e
      exact ⟨m2,_,hh,fun _ y=>by cases y⟩
    · exact BorAt.lst ds r h2 z
   case frg f d =>
    rcases q with z|z
    · exact ⟨(h1.1 c z).2.1,f.nt _ _ _ h1.2.1 c z⟩
    · exact BorAt.lst ds r h2 z
   all_goals exact BorAt.lst ds r h2 q
end
section
variable {X:Cx}{W:Wd}{pos:Pos}{dA:DA}
def Q0r (i:Nat)(dA:DA):DS:=fun F ρ=>match ρ[i]? with
 | some (some (.own ys))=>dA ρ fun xs=>(match xs with | [.lst zs]=>ys.length+zs.length<=1000/\F.nx (ρ.set i (some (.own (ys++zs))))|_=>False)
 | _=>False
theorem J7w {i:Nat}:∀ E σ H,sn W (Q0r i dA) E σ H->RM (tBM W.K "list" PR (HX i) (dnA W dA)) E σ H:=fun E σ H hh=>hh.elim fun pn M b ρ F s l h=>by
 unfold Q0r at h
 split at h
 case h_2=>exact h.elim
 case h_1 ys e =>
  obtain ⟨a,vs,ea,nb,hh,r⟩:=CU s.toSta e
  refine ⟨.ref a,ea,.inl ⟨rfl,vs,SqL.of hh⟩,pn,M,b,ρ,_,s.toSta,h,fun xs us H' hx rx k o=>?_⟩
  match xs,hx with
  | [.lst zs],hx =>
    obtain ⟨u,rfl,ru⟩:=rx1 rx
    obtain ⟨a2,ws,rfl,⟨n2,h2⟩,r2⟩:=(show ∃ a vs,u=.ref a/\(¬ M a/\H' a=some (.lst vs))/\Reps W.K M H' zs vs from ru)
    have s':=s.step k o
    obtain ⟨a',vs',ea',nb',hh',r'⟩:=CU s'.toSta e
    rw [ea] at ea';cases ea'
    exact ⟨a,a2,vs',ws,rfl,rfl,hh',h2,by rw [r'.length,r2.length];exact M7 hx.1 BP,l.nx _ _ _ _ _ (s'.setOwn i e ea (Reps.append r' r2)) hx.2⟩
theorem UY {i:Nat}{x:Str}{e:Expr}{npos apos cpos:Pos}(hK:X.K=W.K)(ha:JA X W [e] dA)
 (h:PE X (.Call (.Attribute (.Name x npos) "extend" apos) [e] [] cpos) (tBM X.K "list" PR (HX i) (dnA W dA))) (hs:swapsWith (.Call (.Attribute (.Name x npos) "extend" apos) [e] [] cpos) none pos.line X.env=pure false:=by rfl) :
 JS X W (.Expr (.Call (.Attribute (.Name x npos) "extend" apos) [e] [] cpos) pos) (Q0r i dA):=⟨(IW (by rw [hK] at h;exact h) hs).mono J7w⟩
end
section
variable {κ:Type} [DecidableEq κ]
def J3x (kvs:List (κ×V))(k:κ):Option V:=(kvs.find? fun kv=>decide (kv.1=k)).map (·.2)
def J4i (kvs:List (κ×V))(k:κ)(v:V):List (κ×V) :=
 if (kvs.any fun kv=>decide (kv.1=k))=true then kvs.map (fun kv=>if kv.1=k then (kv.1,v) else kv) else kvs++[(k,v)]
theorem KV.length {kvs:List (κ×V)}{vs:List (κ×Value)}(r:KV kvs vs):kvs.length=vs.length:=Paired.length r
end
def DGet (H:Hp)(a:Addr)(y:V)(r:Option V):Prop :=
 (∃ kvs k,Rd H a (.dK kvs)/\y=kV k/\r=J3x kvs k)\/∃ kvs k b,Rd H a (.dT kvs)/\y=.ref b/\H b=some (.tup (k.map kV))/\r=J3x kvs k
def DPut (H:Hp)(a:Addr)(y v:V)(H':Hp):Prop :=
 (∃ kvs k,H a=some (.dK kvs)/\y=kV k/\kvs.length<sizeLine/\H'=upd H a (.dK (J4i kvs k v))) \/
 ∃ kvs k b,H a=some (.dT kvs)/\y=.ref b/\H b=some (.tup (k.map kV))/\kvs.length<sizeLine/\H'=upd H a (.dT (J4i kvs k v))
theorem DGet.k {H:Hp}{a:Addr}{kvs:List (Key×V)}{k:Key}(e:H a=some (.dK kvs)):DGet H a (kV k) (J3x kvs k):=.inl ⟨kvs,k,.inl e,rfl,rfl⟩
theorem DGet.t {H:Hp}{a b:Addr}{kvs:List (List Key×V)}{k:List Key}(e:H a=some (.dT kvs))(eb:H b=some (.tup (k.map kV))):DGet H a (.ref b) (J3x kvs k):=.inr ⟨kvs,k,b,.inl e,rfl,eb,rfl⟩
theorem DPut.k {H:Hp}{a:Addr}{kvs:List (Key×V)}{k:Key}{v:V}(e:H a=some (.dK kvs))(hl:kvs.length<sizeLine):DPut H a (kV k) v (upd H a (.dK (J4i kvs k v))):=.inl ⟨kvs,k,e,rfl,hl,rfl⟩
theorem DPut.t {H:Hp}{a b:Addr}{kvs:List (List Key×V)}{k:List Key}{v:V}(e:H a=some (.dT kvs))(eb:H b=some (.tup (k.map kV)))(hl:kvs.length<sizeLine) :
 DPut H a (.ref b) v (upd H a (.dT (J4i kvs k v))):=.inr ⟨kvs,k,b,e,rfl,eb,hl,rfl⟩
structure M2 (X:Cx)(o:Expr)(m:Str)(apos:Pos)(e f:Expr)(cpos:Pos):Prop where
 base:attributeBase o m X.env (eval o X.env)=eval o X.env
 few:((backTo cpos (starEach [e,f] X.env)).all (fun x=>!x.1)&&(backToKw cpos (keywordEach [] X.env)).all (fun x=>x.1.isSome)
  && decide (([e,f]:List Expr).length+([]:List Keyword).length+(if ([]:List Keyword).isEmpty then 0 else 1)<30))=true
 line:(apos.endLine==cpos.line)=true
 trees:backTo cpos (starEach [e,f] X.env)=[(false,eval e X.env),(false,eval f X.env)]
abbrev Ens:=List (List Int×Addr×Value)
theorem Reps.erase {H:Hp}:∀ {ds:List D} {vs:List V} (j:Nat),Reps K M H ds vs->Reps K M H (ds.eraseIdx j) (vs.eraseIdx j)
 | [],_,_,h=>by cases (show _=_ from h);exact rfl
 | d::ds,_,0,h=>by
   obtain ⟨v,r,rfl,h1,h2⟩:=h
   exact h2
 | d::ds,_,j+1,h=>by
   obtain ⟨v,r,rfl,h1,h2⟩:=h
   exact ⟨v,_,rfl,h1,Reps.erase j h2⟩
theorem TB (elt:Expr)(g1:Comprehension)(target iter:Expr)(ifs:List Expr)(scope:Scope)(pos:Pos)(it acc:Value)(env:Env) :
 compTurn (.ListComp elt [g1,⟨target,iter,ifs,0⟩] scope pos) 1 it acc env=(do
  standAt iter.pos
  match <- pyNext it with
  | none=>pure (.done .next)
  | some v =>
    letOwnedTupleGo target it v
    assign target env v
    let mut ok:=true
    for c in ifs do
     if ok then ok <- isTrue c env (eval c env)
    if ok then
     (do let _ <- call (.builtin "list.append") [acc,<- eval elt env])
    again (.compLoop (.ListComp elt [g1,⟨target,iter,ifs,0⟩] scope pos) 1 it acc env)):=by rfl
theorem QR (elt target iter target' iter':Expr)(ifs:List Expr)(scope:Scope)(pos:Pos)(it acc:Value)(env:Env) :
 compTurn (.ListComp elt [⟨target,iter,[],0⟩,⟨target',iter',ifs,0⟩] scope pos) 0 it acc env=(do
  standAt iter.pos
  match <- pyNext it with
  | none=>pure (.done .next)
  | some v =>
    letOwnedTupleGo target it v
    assign target env v
    let mut ok:=true
    for c in ([]:List Expr) do
     if ok then ok <- isTrue c env (eval c env)
    if ok then
     let x <- eval iter' env
     standAt iter'.pos
     let x <- foldedSetIterable iter' env x
     let _ <- runOwn (.compStart (.ListComp elt [⟨target,iter,[],0⟩,⟨target',iter',ifs,0⟩] scope pos) 1 (<- holding [x] (pyIter x)) acc env) env
    again (.compLoop (.ListComp elt [⟨target,iter,[],0⟩,⟨target',iter',ifs,0⟩] scope pos) 0 it acc env)):=by rfl
theorem TC {prog:Program}{w:World}{A:Around}{R:Result->Shared->Prop}{s:Shared}{elt target iter:Expr}{g1:Comprehension}{ifs:List Expr}{scope:Scope}{pos:Pos}{it acc:Value}{env:Env}(J:Nat->Shared->Prop)
 (turn:∀ n s,J n s->wpAny (model prog w) A (pyNext it) (fun r s₁=>match r with
  | none=>R (.ok .next) s₁
  | some v=>wpAny (model prog w) A (letOwnedTupleGo target it v) (fun _ s₁'=>wpAny (model prog w) A (assign target env v) (fun _ s₂=>wpAny (model prog w) A (ZS ifs env) (fun ok s₃ =>
   if ok=true then wpAny (model prog w) A (eval elt env) (fun x s₄=>wpAny (model prog w) A (call (.builtin "list.append") [acc,x]) (fun _ s₅=>∃ m,m<n/\J m s₅) (notedBy (model prog w) A env fun e s'=>R (.error e) s') s₄)
    (notedBy (model prog w) A env fun e s'=>R (.error e) s') s₃
   else ∃ m,m<n/\J m s₃) (notedBy (model prog w) A env fun e s'=>R (.error e) s') s₂) (notedBy (model prog w) A env fun e s'=>R (.error e) s') s₁') (notedBy (model prog w) A env fun e s'=>R (.error e) s') s₁)
   (notedBy (model prog w) A env fun e s'=>R (.error e) s') s) (n:Nat) (h:J n s) :
 codeAny (model prog w) A (.compLoop (.ListComp elt [g1,⟨target,iter,ifs,0⟩] scope pos) 1 it acc env) R s:=by
 refine codeAny_loop rfl J (fun n s hJ=>?_) n h
 show wpAny _ _ (Sem.onRaise (compTurn (.ListComp elt [g1,⟨target,iter,ifs,0⟩] scope pos) 1 it acc env) fun x=>do noteFrame x env;theTreesLotGoes x) _ _ _
 refine wpAny_noted ?_
 rw [TB]
 refine B0 (E5 (B0 (thn (turn n s hJ) fun r s₁ h₁=>?_)))
 cases r with
 | none=>exact L1 h₁
 | some v =>
   refine B0 (thn h₁ fun _ s₁' h₁'=>B0 (thn h₁' fun _ s₂ h₂=>B0 (thn h₂ fun ok s₃ h₃=>?_)))
   cases ok with
   | true=>exact B0 (B0 (thn h₃ fun x s₄ h₄=>B0 (thn h₄ fun _ s₅ h₅=>L1 (L1 ⟨rfl,h₅⟩))))
   | false=>exact L1 ⟨rfl,h₃⟩
theorem QS {prog:Program}{w:World}{A:Around}{R:Result->Shared->Prop}{s:Shared}{elt target iter:Expr}{g1:Comprehension}{ifs:List Expr}{scope:Scope}{pos:Pos}{it acc:Value}{env:Env}
 (h0:codeAny (model prog w) A (.compLoop (.ListComp elt [g1,⟨target,iter,ifs,0⟩] scope pos) 1 it acc env) R s)
 (h:wpAny (model prog w) A (pyIter it) (fun it' s'=>codeAny (model prog w) A (.compLoop (.ListComp elt [g1,⟨target,iter,ifs,0⟩] scope pos) 1 it' acc env) R s')
  (notedBy (model prog w) A env fun x s'=>R (.error x) s') s) :
 codeAny (model prog w) A (.compStart (.ListComp elt [g1,⟨target,iter,ifs,0⟩] scope pos) 1 it acc env) R s:=by
 refine codeAny_of_tree ?_
 show wpAny _ _ ((compStart (.ListComp elt [g1,⟨target,iter,ifs,0⟩] scope pos) 1 it acc env).onRaise (fun x=>do noteFrame x env;standAt theWindowsPlace)) _ _ s
 refine wpAny_notedAt ?_
 unfold compStart
 show wpAny _ _ (ask >>= _) _ _ s
 refine B0 (wpAny_askSetting (wpAny_ite ?_))
 split
 · first
    | exact B0 (L1 (L1 (And.intro rfl h0)))
    | exact L1 (And.intro rfl h0)
 · first
    | exact B0 (wpAny_rule (B0 (E5 (B0 (T6 h (fun it' s' h'=>L1 (And.intro rfl h')) fun _ _ x=>x)))))
    | (refine B0 (wpAny_rule ?_);show wpAny _ _ (standAt iter.pos >>= _) _ _ s;exact B0 (E5 (B0 (T6 h (fun it' s' h'=>L1 (And.intro rfl h')) fun _ _ x=>x))))
theorem QT {prog:Program}{w:World}{A:Around}{R:Result->Shared->Prop}{s:Shared}{elt target iter target' iter':Expr}{ifs:List Expr}{scope:Scope}{pos:Pos}{it acc:Value}{env:Env}(J:Nat->Shared->Prop)
 (hs:∀ x,foldedSetIterable iter' env x=pure x)
 (turn:∀ n s,J n s->wpAny (model prog w) A (pyNext it) (fun r s₁=>match r with
  | none=>R (.ok .next) s₁
  | some v=>wpAny (model prog w) A (letOwnedTupleGo target it v) (fun _ s₁'=>wpAny (model prog w) A (assign target env v) (fun _ s₂=>wpAny (model prog w) A (eval iter' env) (fun x s₃=>wpAny (model prog w) A (pyIter x) (fun it' s₄ =>
   codeAny (model prog w) A (.compStart (.ListComp elt [⟨target,iter,[],0⟩,⟨target',iter',ifs,0⟩] scope pos) 1 it' acc env) (fun r s'=>r=.ok .next/\∃ m,m<n/\J m s') s₄)
    (fun _ _=>False) s₃) (fun _ _=>False) s₂) (fun _ _=>False) s₁') (fun _ _=>False) s₁)
   (fun _ _=>False) s) (n:Nat) (h:J n s) :
 codeAny (model prog w) A (.compLoop (.ListComp elt [⟨target,iter,[],0⟩,⟨target',iter',ifs,0⟩] scope pos) 0 it acc env) R s:=by
 refine codeAny_loop rfl J (fun n s hJ=>?_) n h
 show wpAny _ _ (Sem.onRaise (compTurn (.ListComp elt [⟨target,iter,[],0⟩,⟨target',iter',ifs,0⟩] scope pos) 0 it acc env) fun x=>do noteFrame x env;theTreesLotGoes x) _ _ _
 refine wpAny_noted ?_
 rw [QR]
 refine B0 (E5 (B0 (T6 (turn n s hJ) (fun r s₁ h₁=>?_) fun _ _ z=>False.elim z)))
 cases r with
 | none=>exact L1 h₁
 | some v =>
   refine B0 (T6 h₁ (fun _ s₁' h₁'=>B0 (T6 h₁' (fun _ s₂ h₂=>B0 (wpAny_tests_nil ?_)) fun _ _ z=>False.elim z)) fun _ _ z=>False.elim z)
   refine B0 (T6 h₂ (fun x s₃ h₃=>?_) fun _ _ z=>False.elim z)
   refine B0 (E5 (B0 (wpAny_of_eq (hs x) (B0 (W6 (T6 h₃ (fun it' s₄ h₄=>?_) fun _ _ z=>False.elim z))))))
   refine B0 (wpAny_runOwn (codeAny_mono h₄ fun r s' q=>?_))
   obtain ⟨rfl,q⟩:=q
   exact L1 ⟨rfl,q⟩
def OG:Nat->List (Option Nat)->Bool
 | _,[]=>true
 | n,none::m=>OG (n+1) m
 | n,some i::m=>(i==n)&&OG (n+1) m
theorem HR:∀ {m:List (Option Nat)} {n:Nat},OG n m=true->∀ j i:Nat,m[j]?=some (some i)->i=n+j
 | [],_,_,j,i,e=>by simp at e
 | none::m,n,h,0,i,e=>by simp at e
 | none::m,n,h,j+1,i,e=>by
   have:=HR (n:=n+1) h j i (by simpa using e)
   omega
 | some a::m,n,h,j,i,e=>by
   unfold OG at h
   rw [L5,B0e] at h
   cases j with
   | zero=>simp at e;omega
   | succ j =>
     have:=HR h.2 j i (by simpa using e)
     omega
def EX:List (Option Nat)->List (Option Nat)->Bool
 | [],[]=>true
 | none::m,_::n=>EX m n
 | some _::m,some _::n=>EX m n
 | _,_=>false
theorem IB:∀ {m n:List (Option Nat)},EX m n=true->m.length=n.length
 | [],[],_=>rfl
 | none::m,_::n,h=>W9 Nat.succ (IB (m:=m) (n:=n) (by unfold EX at h;exact h))
 | some _::m,some _::n,h=>W9 Nat.succ (IB (m:=m) (n:=n) (by unfold EX at h;exact h))
 | [],_::_,h=>by cases h
 | none::_,[],h=>by cases h
 | some _::_,[],h=>by cases h
 | some _::_,none::_,h=>by cases h
theorem IC:∀ {m n:List (Option Nat)},EX m n=true->∀ j i:Nat,m[j]?=some (some i)->∃ i',n[j]?=some (some i')
 | [],[],_,j,i,e=>by simp at e
 | none::m,_::n,h,0,i,e=>by simp at e
 | none::m,_::n,h,j+1,i,e=>by
   obtain ⟨i',q⟩:=IC (m:=m) (n:=n) (by unfold EX at h;exact h) j i (by simpa using e)
   exact ⟨i',by simpa using q⟩
 | some _::m,some b::n,h,0,i,e=>⟨b,rfl⟩
 | some _::m,some _::n,h,j+1,i,e=>by
   obtain ⟨i',q⟩:=IC (m:=m) (n:=n) (by unfold EX at h;exact h) j i (by simpa using e)
   exact ⟨i',by simpa using q⟩
 | [],_::_,h,_,_,_=>by cases h
 | none::_,[],h,_,_,_=>by cases h
 | some _::_,[],h,_,_,_=>by cases h
 | some _::_,none::_,h,_,_,_=>by cases h
theorem NA {σ:St}{map:List (Option Nat)}{j:Nat}{v:V}(e:(capt σ map)[j]?=some (some v)):∃ i,map[j]?=some (some i)/\σ[i]?=some (some v):=by
 unfold capt at e
 rw [M9] at e
 cases hm:map[j]? with
 | none=>rw [hm] at e;cases e
 | some o =>
   rw [hm] at e
   cases o with
   | none=>simp at e
   | some i =>
     refine ⟨i,rfl,?_⟩
     have e':(σ[i]?).join=some v:=by simpa using e
     cases q:σ[i]? with
     | none=>rw [q] at e';cases e'
     | some o'=>rw [q] at e';exact W9 some e'
theorem J6g {σ:St}{map:List (Option Nat)}{j i:Nat}{v:V}(hm:map[j]?=some (some i))(e:σ[i]?=some (some v)):(capt σ map)[j]?=some (some v):=by
 unfold capt
 rw [M9,hm]
 simp [e]
structure DOk (X:Cx)(P0:List (Addr×Obj))(D:Addr):Prop where
 loc:D≠X.env.locals
 fs:D∉X.fs
 cell:∀ x c,X.env.cells.lookup x=some c->c≠D
 sz:X.s₀.heap.objs.size<=D
 pn:∀ p∈X.pn++P0,p.1≠D
abbrev NQ (its:List Value)(k:Nat):Obj:={ cls:=.type "list",data:=.seq (List.toArray its) k }
theorem YV {X:Cx}{P0:List (Addr×Obj)}{σ:St}{map:List (Option Nat)}{H1:Hp}{s:Shared}{D:Addr}{acc0:List V}{its0:List Value}{k0:Nat}{tg elt iter:Expr}{g1:Comprehension}{ifs:List Expr}{scope:Scope}{pos:Pos}{fp:List Addr}{it:Addr}{tn:Nat->Heap->Prop}{J:It}{g:TG}{tt:TT}{te:TE}{W:Nat->Nat->List V->Hp->Prop}{m0:Nat}{Fin:List V->Hp->Prop}
 (calm:X.calm=true) (d:DOk X P0 D) (I:Inv X P0 (capt σ map) H1 s) (hD:H1 D=none) (oD:s.heap.get? D=some (NQ its0 k0)) (rv:Vals acc0 its0)
 (T:Turn X.prog X.w X.K tg J fp it tn) (st:tn 0 s.heap) (hf:∀ b∈fp,GK X P0 H1 b) (nD:∀ b∈fp,b≠D)
 (pg:PG X tg g) (pif:PIf X ifs tt) (pel:PE X elt te) (nx:X.xe=fun _ _=>False) (keep:HL g map) (w0:W 0 m0 acc0 H1) (ht:ND J g tt te (capt σ map) Fin W) :
 codeAny (model X.prog X.w) X.A (.compLoop (.ListComp elt [g1,⟨tg,iter,ifs,0⟩] scope pos) 1 (.ref it) (.ref D) X.env) (fun r s'=>r=.ok .next/\∃ acc its k H',Inv X P0 (capt σ map) H' s'/\H' D=none/\s'.heap.get? D=some (NQ its k)/\Vals acc its/\Fin acc H') s:=by
 refine TC (fun n s'=>∃ i acc H' its k,Inv X P0 (capt σ map) H' s'/\tn i s'.heap/\(∀ b∈fp,H' b=none)/\H' D=none/\s'.heap.get? D=some (NQ its k)/\Vals acc its/\W i n acc H') ?_ m0 ⟨0,acc0,H1,its0,k0,I,st,fun b hb=>(hf b hb).1,hD,oD,rv,w0⟩
 rintro n s5 ⟨i,acc,H5,its,k,I5,st5,fr5,hD5,oD5,rv5,w5⟩
 have pinD:Inv X ((D,NQ its k)::P0) (capt σ map) H5 s5:=I5.pins_of fun p hp=>by
  rcases B4.mp hp with e|e
  · subst e;exact ⟨oD5,hD5,d.loc,d.fs,fun v z=>by cases z⟩
  · exact I5.pin p (B2 _ e)
 have f4:∀ {H':Hp},(∀ b∈fp,H' b=none)->∀ b∈fp,GK X ((D,NQ its k)::P0) H' b:=fun {H'} hn b hb=>by
  obtain ⟨_,f1,f2,f3,f4,f5⟩:=hf b hb
  refine ⟨hn b hb,f1,f2,f3,f4,fun p hp=>?_⟩
  rcases T8.mp hp with z|z
  · exact f5 p (R4 _ z)
  · rcases B4.mp z with e|e
    · rw [e];exact (nD b hb).symm
    · exact f5 p (B2 _ e)
 have err:∀ {Z:Prop} e s',X.xe e s'->Z:=fun {Z} e s' z=>by rw [nx] at z;exact z.elim
 rcases ht i n acc H5 w5 with ⟨stop,hsz,fin⟩|⟨go,hsz,NN,hNN,step⟩
 · refine thn (T.done X rfl rfl rfl calm i _ s5 (capt σ map) H5 _ pinD (f4 fr5) st5 stop) fun r s6 ⟨hr,I6⟩=>?_
   subst hr
   have pD:=I6.pin (D,NQ its k) (B2 _ M4)
   exact ⟨rfl,acc,its,k,H5,I6.pins_of (fun p hp=>I6.pin p (B2 _ (T5 _ hp))),pD.2.1,pD.1,rv5,fin⟩
 · refine thn (T.item X rfl rfl rfl calm i _ s5 (capt σ map) H5 _ pinD (f4 fr5) st5 go) fun r s6 ⟨u,hr,h6⟩=>?_
   subst hr
   refine thn h6 fun _ s7 ⟨x,H7,I7,r7,y7,st7,fr7⟩=>?_
   have I7':=I7.pinned (f4 fr7) (T.obj _ _ st7)
   have stp:=keep _ _ _ _ (step x H7 y7)
   refine T6 (pg _ s7 (capt σ map) H7 x u _ I7' r7 stp) (fun _ s8 ⟨σ8,H8,I8,⟨kl,k8⟩,q8⟩=>?_) fun e s' z=>err e s' z
   refine T6 (pif _ s8 σ8 H8 _ I8 q8) (fun b s9 ⟨H9,I9,q9⟩=>?_) fun e s' z=>err e s' z
   have wk:∀ {σa:St} {Ha:Hp} {sa:Shared},σa=σ8->Inv X (((D,NQ its k)::P0)++GE fp s7.heap) σa Ha sa ->
    Inv X P0 (capt σ map) Ha sa/\tn (i+1) sa.heap/\(∀ b∈fp,Ha b=none)/\Ha D=none/\sa.heap.get? D=some (NQ its k):=fun {σa Ha sa} ea Ia=>by
    subst ea
    refine ⟨(Ia.pins_of (pins':=P0) fun p hp=>Ia.pin p (B2 _ (R4 _ (T5 _ hp)))).weak kl.symm fun j v e=>?_,T.keep _ _ _ st7 fun b hb o e=>(Ia.pin (b,o) (B2 _ (B2 _ (CA hb e)))).1,fun b hb=>?_,?_,?_⟩
    · obtain ⟨i',hm,_⟩:=NA e
      rw [k8 j i' hm];exact e
    · obtain ⟨o,e,d⟩:=T.obj _ _ st7 b hb
      exact (Ia.pin (b,o) (B2 _ (B2 _ (CA hb e)))).2.1
    · exact (Ia.pin (D,NQ its k) (B2 _ (R4 _ M4))).2.1
    · exact (Ia.pin (D,NQ its k) (B2 _ (R4 _ M4))).1
   cases b with
   | false =>
     rw [if_neg B7] at q9 ⊢
     obtain ⟨m',hm',w9⟩:=hNN _ _ q9
     obtain ⟨a1,a2,a3,a4,a5⟩:=wk rfl I9
     exact ⟨m',hm',i+1,acc,H9,its,k,a1,a2,a3,a4,a5,rv5,w9⟩
   | true =>
     rw [if_pos rfl] at q9 ⊢
     refine T6 (pel _ s9 σ8 H9 _ I9 q9) (fun v s10 ⟨y,H10,I10,r10,q10⟩=>?_) fun e s' z=>err e s' z
     obtain ⟨m',hm',w10⟩:=hNN _ _ q10
     obtain ⟨a1,a2,a3,a4,a5⟩:=wk rfl I10
     have hl:=rv5.length
     refine wpAny_list_append_plain (items:=List.toArray its) ⟨k,a5⟩ (fun h11 pl11 sb11=>?_) (by simp only [L3];omega)
     obtain ⟨k',e11⟩:=pl11
     refine ⟨m',hm',i+1,acc++[y],H10,its++[v],k',a1.turned (t':=s10.toks) (it:=D) (fun b o hb e=>(sb11.2 b hb).trans e) a4 d.loc (.inr d.sz) d.cell d.pn,T.keep _ _ _ a2 fun b hb o e=>(sb11.2 b (nD b hb)).trans e,a3,a4,?_,rv5.append (.cons r10 .nil),w10⟩
     rw [e11,List.push_toArray]
structure Blk2 (X:Cx)(N':List Str)(scope:Scope)(map mp2:List (Option Nat))(tg tg2 iter2 elt:Expr)(ifs:List Expr)(g:TG)(wi2:TI)(g2:TG)(tt:TT)(te:TE):Prop where
 calm:X.calm=true
 kind:scope.kind=.function
 loc:∀ x∈scope.names,x.2=.local->scope.names.lookup x.1=some .local
 free:(scope.names.all fun p=>!(p.2==NameKind.free)||(X.env.kindOf p.1==some .cell||X.env.kindOf p.1==some .free))=true
 cap:CapOk X scope map N'
 keep:HL g map
 keep2:HL g2 mp2
 ids:OG 0 mp2=true
 sub:EX map mp2=true
 fold:∀ env x,foldedSetIterable iter2 env x=pure x
 run:∀ cells C fp s H,PG (V2 X N' scope cells C fp s H).nox tg g/\PI (V2 X N' scope cells C fp s H).nox tg2 iter2 wi2/\PG (V2 X N' scope cells C fp s H).nox tg2 g2/\PIf (V2 X N' scope cells C fp s H).nox ifs tt/\PE (V2 X N' scope cells C fp s H).nox elt te
def VP (J:It)(g:TG)(mp2:List (Option Nat))(wi2:TI)(g2:TG)(tt:TT)(te:TE)(σc:St)(Fin:List V->Hp->Prop)(W:Nat->Nat->List V->Hp->Prop):Prop :=
 ∀ i m acc H2,W i m acc H2->(J.stop i H2/\acc.length<=sizeLine/\Fin acc H2) \/
  (J.go i H2/\∃ N:List V->Hp->Prop,(∀ acc' H',N acc' H'->∃ m',m'<m/\W (i+1) m' acc' H')/\∀ x H3,J.yld i H2 x H3->g x σc H3 fun σ4 H4=>wi2 σ4 H4 fun J2 H5=>∃ W2:Nat->Nat->List V->Hp->Prop,(∃ m,W2 0 m acc H5)/\ND J2 g2 tt te (capt σ4 mp2) N W2)
section
variable {X:Cx}{elt iter tg tg2 iter2:Expr}{ifs:List Expr}{scope:Scope}{pos:Pos}{N':List Str}{map mp2:List (Option Nat)}{wi wi2:TI}{g g2:TG}{tt:TT}{te:TE}
theorem Blk2.one (B:Blk2 X N' scope map mp2 tg tg2 iter2 elt ifs g wi2 g2 tt te):Blk X N' scope map tg elt ifs (fun _ _ _ _=>False) (fun _ _ _=>False) (fun _ _ _=>False) :=
 ⟨B.calm,B.kind,B.loc,B.free,B.cap,fun _ _ _ _ z=>z.elim,fun _ _ _ _ _ _=>⟨fun _ _ _ _ _ _ _ _ _ z=>z.elim,fun _ _ _ _ _ _ z=>z.elim,fun _ _ _ _ _ _ z=>z.elim⟩⟩
theorem J3d {pins:List (Addr×Obj)}{σ:St}{H1:Hp}{s2:Shared}{cl:List (Str×Addr)}{fp:List Addr}{it:Addr}{tn:Nat->Heap->Prop}{J:It}{E:Value->Shared->Prop}(I:Inv X pins σ H1 s2)(B:Blk2 X N' scope map mp2 tg tg2 iter2 elt ifs g wi2 g2 tt te)
 (hsub:∀ x c,cl.lookup x=some c->X.env.cells.lookup x=some c) (hhas:∀ x,(x,NameKind.free)∈scope.names->(cl.lookup x).isSome=true)
 (T:Turn X.prog X.w X.K tg J fp it tn) (st:tn 0 s2.heap) (hf:∀ b∈fp,GK X pins H1 b) {Fin:List V->Hp->Prop} {W:Nat->Nat->List V->Hp->Prop} {m0:Nat} (w0:W 0 m0 [] H1) (ht:VP J g mp2 wi2 g2 tt te (capt σ map) Fin W)
 {RR:Value->Addr->Result->Shared->Prop}
 (hOk:∀ D C acc H' s' m,Inv X pins σ (upd H' D (.lst acc)) s'->H' D=none->s'.heap.Ns C m->upd H' D (.lst acc) C=none->C≠X.env.locals->X.s₀.heap.objs.size<=C->(∀ x c,X.env.cells.lookup x=some c->c≠C)->(∀ p∈X.pn++pins,p.1≠C)->Fin acc H'->RR (.ref D) C (.ok .next) s') :
 wpAny (model X.prog X.w) X.A (newList []) (fun acc s3=>wpAny (model X.prog X.w) X.A (newFunctionEnv scope X.env.globals cl [] X.env.qual none .none (some X.env)) (fun cenv s4 =>
  codeAny (model X.prog X.w) X.A (.compStart (.ListComp elt [⟨tg,iter,[],0⟩,⟨tg2,iter2,ifs,0⟩] scope pos) 0 (.ref it) acc { cenv with scope:=relabel scope X.env }) (RR acc cenv.locals) s4) E s3) E s2:=by
 have fo:∀ b∈fp,∃ o,s2.heap.get? b=some o:=fun b hb=>by obtain ⟨o,e,_⟩:=T.obj 0 _ st b hb;exact ⟨o,e⟩
 refine U3 ?_
 generalize hH2:s2.heap.push { cls:=.type "list",dict:=none,data:=.seq ([]:List Value).toArray }=H2
 have szD:H2.objs.size=s2.heap.objs.size+1:=by rw [<- hH2,W5]
 have kD:∀ b o,s2.heap.get? b=some o->H2.get? b=some o:=fun b o e=>hH2▸B1 _ e
 simp only [newFunctionEnv,Option.isSome_some,if_true]
 refine B0 (wpAny_alloc ?_)
 refine B0 (wpAny_layCells _ (fun name kind cells=>by cases hkc:kind==NameKind.cell<;>simp [hkc]) _ _ _ _ ?_)
 dsimp only
 generalize hH3:H2.push { cls:=.type "dict",dict:=none,data:=.dict #[] }=h3
 have sz3:h3.objs.size=H2.objs.size+1:=by rw [<- hH3,W5]
 have kC:∀ b o,H2.get? b=some o->h3.get? b=some o:=fun b o e=>hH3▸B1 _ e
 have nsC:h3.Ns H2.objs.size fun _=>none:=hH3▸Heap.Ns.new H2 (.type "dict")
 refine B0 (L1 (L1 ?_))
 show codeAny _ _ (.compStart (.ListComp elt [⟨tg,iter,[],0⟩,⟨tg2,iter2,ifs,0⟩] scope pos) 0 (.ref it) (.ref s2.heap.objs.size) (compEnvC scope (cellsFrom h3.objs.size scope.names cl) H2.objs.size X.env)) _ _
 generalize hX':(V2 X N' scope (cellsFrom h3.objs.size scope.names cl) H2.objs.size fp s2 H1).nox=X'
 have I4:Inv X' [] (capt σ map) H1 { s2 with heap:=pushCells h3 scope.names }:=hX'▸(XG I B.one.m hsub hhas hf fo H2.objs.size h3 (by rw [szD];exact Nat.le_succ _) (fun b o e=>kC b o (kD b o e)) (by rw [sz3];exact T9 _) nsC s2.toks).wish _
 obtain ⟨pg,pi2,pg2,pif,pel⟩:=B.run (cellsFrom h3.objs.size scope.names cl) H2.objs.size fp s2 H1
 rw [hX'] at pg pi2 pg2 pif pel
 have eprog:X'.prog=X.prog:=by rw [<- hX'];rfl
 have ew:X'.w=X.w:=by rw [<- hX'];rfl
 have eK:X'.K=X.K:=by rw [<- hX'];rfl
 have eA:X'.A=X.A:=by rw [<- hX'];rfl
 have ecalm:X'.calm=true:=by rw [<- hX'];exact B.calm
 have eenv:X'.env=compEnvC scope (cellsFrom h3.objs.size scope.names cl) H2.objs.size X.env:=by rw [<- hX'];rfl
 have exe:X'.xe=fun _ _=>False:=by rw [<- hX']
 have es0:X'.s₀=s2:=by rw [<- hX'];rfl
 have eH0:X'.H₀=H1:=by rw [<- hX'];rfl
 have eex:X'.ex=fp:=by rw [<- hX'];rfl
 have efs:X'.fs=frs X.stack:=by rw [<- hX'];rfl
 have epn:X'.pn=[]:=by rw [<- hX'];rfl
 have eL:X'.env.locals=H2.objs.size:=by rw [eenv];rfl
 generalize hDd:s2.heap.objs.size=D at *
 have fD:∀ b∈fp,b≠D:=fun b hb=>by obtain ⟨o,e⟩:=fo b hb;exact R7 (hDd▸B5 e)
 have nfsD:D∉X'.fs:=fun hb=>by
  rw [efs] at hb
  have h1:=I.stkSub D hb
  rcases B4.mp h1 with z|z
  · have:=I.lt;rw [hDd,<- z] at this;exact L9 _ this
  · exact I.nofs (by rw [hDd];exact B9 _) z
 have ncD:∀ x c,X'.env.cells.lookup x=some c->c≠D:=fun x c e z=>by
  rw [eenv] at e
  rcases TF _ _ _ x c e with q|q
  · obtain ⟨v,o,ho,_⟩:=I.cell x c (hsub x c q)
    have:=B5 ho
    rw [hDd,z] at this
    exact L9 _ this
  · rw [z,sz3,szD] at q
    exact absurd (L7 (Nat.lt_succ_of_lt (T9 D)) q) (L9 _)
 have f4:∀ {H':Hp} {pl:List (Addr×Obj)},(∀ b∈fp,H' b=none)->(∀ p∈pl,p.1=D)->∀ b∈fp,GK X' pl H' b:=fun {H' pl} hn hpl b hb=>by
  have q:=hf b hb
  refine ⟨hn b hb,?_,?_,.inl (by rw [eex];exact hb),fun x c e=>?_,fun p hp=>?_⟩
  · rw [eL]
    obtain ⟨o,e⟩:=fo b hb
    have:=B5 e
    rw [hDd] at this
    intro z
    rw [z,szD] at this
    exact absurd (W4 this) (L9 _)
  · have:=I4.ok.exfs b (by rw [eex];exact hb)
    exact this
  · exact (I4.ok.exf b (by rw [eex];exact hb)).2 x c e
  · rw [epn] at hp
    have hp:p∈pl:=by simpa using hp
    rw [hpl p hp]
    exact (fD b hb).symm
 have noCell:∀ {its:Array Value} {n:Nat} (v:Option Value),({ cls:=.type "list",data:=.seq its n }:Obj).data≠.cell v:=fun v z=>by cases z
 have hD4:(pushCells h3 scope.names).get? D=some { cls:=.type "list",data:=.seq ([]:List Value).toArray 0 }:=E2 _ _ _ _ (kC _ _ (by rw [<- hH2,<- hDd];exact M6 _ rfl))
 have loop:codeAny (model X.prog X.w) X.A (.compLoop (.ListComp elt [⟨tg,iter,[],0⟩,⟨tg2,iter2,ifs,0⟩] scope pos) 0 (.ref it) (.ref D) (compEnvC scope (cellsFrom h3.objs.size scope.names cl) H2.objs.size X.env)) (RR (.ref D) H2.objs.size) { s2 with heap:=pushCells h3 scope.names }:=by
  refine QT (fun n s'=>∃ i acc H' its k,Inv X' [] (capt σ map) H' s'/\tn i s'.heap/\(∀ b∈fp,H' b=none)/\H' D=none/\s'.heap.get? D=some { cls:=.type "list",data:=.seq (List.toArray its) k }/\Vals acc its/\W i n acc H') (B.fold _) ?_ m0
   ⟨0,[],H1,[],0,I4,T.keep _ _ _ st fun b hb o e=>E2 _ _ _ _ (kC _ _ (kD _ _ e)),fun b hb=>(hf b hb).1,I.hok.fresh (by rw [hDd];exact B9 _),hD4,.nil,w0⟩
  rintro n s5 ⟨i,acc,H5,its,k,I5,st5,fr5,hD5,oD5,rv5,w5⟩
  have pinD:Inv X' [(D,{ cls:=.type "list",data:=.seq (List.toArray its) k })] (capt σ map) H5 s5:=I5.pins_of fun p hp=>by
   have e:p=(D,{ cls:=.type "list",data:=.seq (List.toArray its) k }):=by simpa using hp
   subst e
   refine ⟨oD5,hD5,?_,nfsD,fun v=>noCell v⟩
   rw [eL,szD]
   exact R7 (T9 _)
  have plD:∀ p∈[(D,({ cls:=.type "list",data:=.seq (List.toArray its) k }:Obj))],p.1=D:=fun p hp=>by
   have e:p=(D,{ cls:=.type "list",data:=.seq (List.toArray its) k }):=by simpa using hp
   rw [e]
  have err:∀ {Z:Prop} e s',X'.xe e s'->Z:=fun {Z} e s' z=>by rw [exe] at z;exact z.elim
  rcases ht i n acc H5 w5 with ⟨stop,hsz,fin⟩|⟨go,NN,hNN,step⟩
  · have dn:=T.done X' eprog ew eK ecalm i _ s5 (capt σ map) H5 (fun _ _=>False) pinD (f4 fr5 plD) st5 stop
    rw [eA] at dn
    refine thn dn fun r s6 ⟨hr,I6⟩=>?_
    subst hr
    obtain ⟨oD6,hD6,_⟩:=I6.pin (D,_) (by rw [epn];exact M4)
    obtain ⟨m,nsm,_⟩:=I6.loc
    rw [eL] at nsm
    have un:=I6.base
    rw [efs,eex,eH0,es0] at un
    have hok:=I6.hok
    rw [eprog,ew] at hok
    have os6:=I6.os
    rw [es0] at os6
    have fC:H5 H2.objs.size=none:=by rw [<- eL];exact I6.free
    have nDC:H2.objs.size≠D:=by rw [szD];exact D3 (T9 _)
    refine hOk D H2.objs.size acc H5 s6 m (I.call' (ch:=fp) os6 ?_ ?_ I6.bare fun b hb=>?_) hD5 nsm (by rw [V7 nDC];exact fC) ?_ ?_ ?_ ?_ fin
    · refine ⟨un.keep,un.slot,fun b o e n hx=>?_,un.there,fun b xs e=>?_,fun b o u e=>?_,fun b ps e=>?_⟩
      · rw [V7 (R7 (hDd▸B5 e))]
        exact un.free b o e n hx
      · have:=un.tups b xs e
        rw [V7 (Y2 this hD5)]
        exact this
      · have:=un.frzs b o u e
        rw [V7 (Y2 this hD5)]
        exact this
      · obtain ⟨more,this⟩:=un.tbls b ps e
        exact ⟨more,by rw [V7 (Y2 this hD5)];exact this⟩
    · intro b o e
      by_cases hb:b=D
      · subst hb
        rw [AM] at e
        cases e
        exact ⟨hsz,its,k,rv5,oD6⟩
      · rw [V7 hb] at e
        exact (hok b o e).stay (fun _ _ _ q=>q) (fun c q=>by rw [V7 (Y2 q hD5)];exact q) fun c xs q=>by rw [V7 (Y2 q hD5)];exact q
    · obtain ⟨f0,f1,f2,f3,f4',f5⟩:=hf b hb
      exact ⟨f3,f1,f4',f5⟩
    · have:=I.lt
      rw [hDd] at this
      intro z
      rw [<- z,szD] at this
      exact absurd (W4 this) (L9 _)
    · have:=I.sz
      rw [hDd] at this
      omega
    · intro x c e z
      obtain ⟨v,o,ho,_⟩:=I.cell x c e
      have:=B5 ho
      rw [hDd,z,szD] at this
      exact absurd (W4 this) (L9 _)
    · intro p hp z
      have:=B5 (I.pin p hp).1
      rw [hDd,z,szD] at this
      exact absurd (W4 this) (L9 _)
  · have im:=T.item X' eprog ew eK ecalm i _ s5 (capt σ map) H5 (fun _ _=>False) pinD (f4 fr5 plD) st5 go
    rw [eA] at im
    refine thn im fun r s6 ⟨u,hr,h6⟩=>?_
    subst hr
    refine thn h6 fun _ s7 ⟨x,H7,I7,r7,y7,st7,fr7⟩=>?_
    have I7':=I7.pinned (f4 fr7 plD) (T.obj _ _ st7)
    have stp:=B.keep _ _ _ _ (step x H7 y7)
    have pgx:=pg _ s7 (capt σ map) H7 x u _ I7' r7 stp
    rw [eprog,ew,eA,eenv] at pgx
    refine T6 pgx (fun _ s8 ⟨σ8,H8,I8,⟨kl,k8⟩,q8⟩=>?_) fun e s' z=>err e s' z
    have pix:=pi2 _ s8 σ8 H8 _ I8 q8
    rw [eprog,ew,eA,eenv] at pix
    refine T6 pix (fun v s9 h9=>T6 h9 (fun itv s10 h10=>?_) fun e s' z=>err e s' z) fun e s' z=>err e s' z
    obtain ⟨it2,fp2,tn2,J2,H10,e,I10,T2,st10,f10,W2,⟨m2,w10⟩,tr2⟩:=h10
    subst e
    have pD10:=I10.pin (D,{ cls:=.type "list",data:=.seq (List.toArray its) k }) (B2 _ (R4 _ M4))
    have dk:DOk X' (GE fp s7.heap) D:=⟨by rw [eL,szD];exact R7 (T9 _),nfsD,ncD,by rw [es0,hDd];exact B9 _,fun p hp=>by
     rw [epn] at hp
     exact fD p.1 (OB (by simpa using hp)).1⟩
    have len8:(capt σ8 mp2).length=σ8.length:=by
     have h1:=IB B.sub
     have h2:(capt σ map).length=map.length:=by unfold capt;rw [L0]
     have h3:(capt σ8 mp2).length=mp2.length:=by unfold capt;rw [L0]
     omega
    have I11:Inv X' (GE fp s7.heap) (capt σ8 mp2) H10 s10:=(I10.pins_of (pins':=GE fp s7.heap) fun p hp=>I10.pin p (B2 _ (B2 _ hp))).weak len8 fun j v e=>by
     obtain ⟨i',hm,e'⟩:=NA e
     have:i'=j:=by have:=HR B.ids j i' hm;omega
     rw [<- this];exact e'
    have run:=YV (g1:=⟨tg,iter,[],0⟩) (iter:=iter2) (scope:=scope) (pos:=pos) (X:=X') (σ:=σ8) (map:=mp2) (by rw [ecalm]) dk I11 pD10.2.1 pD10.1 rv5 T2 st10 (fun b hb=>by
     obtain ⟨z0,z1,z2,z3,z4,z5⟩:=f10 b hb
     exact ⟨z0,z1,z2,z3,z4,fun p hp=>(T8.mp hp).elim (fun q=>z5 p (R4 _ q)) fun q=>z5 p (B2 _ (B2 _ q))⟩) (fun b hb=>by
     obtain ⟨z0,z1,z2,z3,z4,z5⟩:=f10 b hb
     exact (z5 (D,{ cls:=.type "list",data:=.seq (List.toArray its) k }) (B2 _ (R4 _ M4))).symm) pg2 pif pel exe B.keep2 w10 tr2
    rw [eprog,ew,eA,eenv] at run
    have run':=codeAny_mono (R':=fun r s'=>r=.ok .next/\∃ m,m<n/\∃ i acc H' its k,Inv X' [] (capt σ map) H' s'/\tn i s'.heap/\(∀ b∈fp,H' b=none)/\H' D=none/\s'.heap.get? D=some { cls:=.type "list",data:=.seq (List.toArray its) k }/\Vals acc its/\W i m acc H') run fun r s' q=>by
     obtain ⟨rfl,acc',its',k',H',I',hD',oD',rv',nn⟩:=q
     obtain ⟨m',hm',w'⟩:=hNN _ _ nn
     refine ⟨rfl,m',hm',i+1,acc',H',its',k',(I'.pins_of (pins':=[]) fun p hp=>absurd hp (by simp)).weak (by rw [len8,kl]) fun j v e=>?_,T.keep _ _ _ st7 fun b hb o e=>(I'.pin (b,o) (B2 _ (CA hb e))).1,fun b hb=>?_,hD',oD',rv',w'⟩
     · obtain ⟨i',hm,_⟩:=NA e
       obtain ⟨i2,hm2⟩:=IC B.sub j i' hm
       have:i2=j:=by have:=HR B.ids j i2 hm2;omega
       subst this
       exact J6g hm2 (by rw [k8 _ i' hm];exact e)
     · obtain ⟨o,e,d⟩:=T.obj _ _ st7 b hb
       exact (I'.pin (b,o) (B2 _ (CA hb e))).2.1
    have sf:=fun Q E=>T2.self X'.A 0 s10 Q E st10
    rw [eprog,ew,eA] at sf
    exact QS run' (sf _ _ run')
 exact codeAny_compStart_list loop (T.self _ 0 _ _ _ (T.keep _ _ _ st fun b hb o e=>E2 _ _ _ _ (kC _ _ (kD _ _ e))) loop)
theorem Blk2.clos {pins:List (Addr×Obj)}{σ:St}{H:Hp}{s:Shared}(B:Blk2 X N' scope map mp2 tg tg2 iter2 elt ifs g wi2 g2 tt te)(I:Inv X pins σ H s) :
 ∃ cl,closureFor scope X.env=pure cl/\(∀ x c,cl.lookup x=some c->X.env.cells.lookup x=some c)/\∀ x,(x,NameKind.free)∈scope.names->(cl.lookup x).isSome=true:=B.one.clos I
def J8f (wi:TI)(map mp2:List (Option Nat))(g:TG)(wi2:TI)(g2:TG)(tt:TT)(te:TE):TE:=fun σ H Q=>wi σ H fun J H1=>∃ W:Nat->Nat->List V->Hp->Prop,(∃ m,W 0 m [] H1) /\
 VP J g mp2 wi2 g2 tt te (capt σ map) (fun acc H'=>∀ D,H' D=none->Q (.ref D) (upd H' D (.lst acc))) W
theorem J0r (B:Blk2 X N' scope map mp2 tg tg2 iter2 elt ifs g wi2 g2 tt te)(hi:PI X tg iter wi)(hs:∀ x,foldedSetIterable iter X.env x=pure x:=by intro _;rfl):PE X (.ListComp elt [⟨tg,iter,[],0⟩,⟨tg2,iter2,ifs,0⟩] scope pos) (J8f wi map mp2 g wi2 g2 tt te):=by
 intro pins s σ H Q I h
 obtain ⟨cl,hcl,hsub,hhas⟩:=B.clos I
 rw [eval_ListComp]
 refine wpAny_comprehension_free (use:=none) rfl hs hcl B.kind B.loc (thn (hi pins s σ H _ I h) fun v s1 h1=>thn h1 fun itv s2 h2=>?_)
 obtain ⟨it,fp,tn,J,H2,e,I2,T,st2,f2,W,⟨m0,w0⟩,turn⟩:=h2
 subst e
 refine J3d (RR:=fun acc C=>compPost (model X.prog X.w) X.A X.xe none (EP X pins σ Q) acc C) I2 B hsub hhas T st2 f2 w0 turn fun D C acc H' s' m I' hD nsm fC c1 c2 c3 c4 fin=>?_
 refine ⟨m,nsm,fun h' sb=>⟨.ref D,_,?_,rfl,fin D hD⟩⟩
 exact I'.turned (t':=s'.toks) (fun b o hb e=>(sb.2 b hb).trans e) fC c1 (.inr c2) c3 c4
end
def okA (acc:List V):Prop:=(∃ ns:List Int,acc=ns.map V.int)/\acc.length<=2000
inductive compG (gd:D->Ev->(Ev->Prop)->Prop)(dt:DT)(de:DE)(ρc:Ev)(items acc0:List D)(P:List D->Prop):Prop
 | mk (I:Nat->List D->Prop) (h0:I 0 acc0) (hs:∀ (i:Nat) x acc,items[i]?=some x->I i acc->gd x ρc fun ρ1=>dt ρ1 fun c=>IfP c (de ρ1 fun y=>plain y=true/\I (i+1) (acc++[y])) (I (i+1) acc)) (hd:∀ acc,I items.length acc->P acc):compG gd dt de ρc items acc0 P
inductive compI2 (gd:D->Ev->(Ev->Prop)->Prop)(mp2:List (Option Nat))(di2:DA)(gd2:D->Ev->(Ev->Prop)->Prop)(dt:DT)(de:DE)(ρc:Ev)(items:List D)(P:List D->Prop):Prop
 | mk (I:Nat->List D->Prop) (h0:I 0 []) (hs:∀ (i:Nat) x acc,items[i]?=some x->I i acc->gd x ρc fun ρ1=>di2 ρ1 fun ys=>ys.length<=1000/\compG gd2 dt de (JH ρ1 mp2) ys acc (I (i+1))) (hd:∀ acc,I items.length acc->P acc):compI2 gd mp2 di2 gd2 dt de ρc items P
def Q0s (map mp2:List (Option Nat))(gd:D->Ev->(Ev->Prop)->Prop)(di:DA)(gd2:D->Ev->(Ev->Prop)->Prop)(di2:DA)(dt:DT)(de:DE):DE:=fun ρ P=>di ρ fun items=>items.length<=1000/\compI2 gd mp2 di2 gd2 dt de (JH ρ map) items fun acc=>P (.lst acc)
theorem leM:2000000<=sizeLine:=by rw [sizeLine_eq];decide
theorem SX {W:Wd}{pn:List (D×V)}{M:Addr->Prop}{b:Option Addr}{H:Hp}{σ:St}{ρ:Ev}{J:It}{need:List (D×V)}{items ds0:List D}{acc0:List V}{g:TG}{gd:D->Ev->(Ev->Prop)->Prop}{dt:DT}{de:DE}{P:List D->Prop}{Fin:List V->Hp->Prop}
 (hG:GD W g gd) (st:Sta W pn M b H σ ρ) (hp:items.all plain=true) (hI:IN W J need items) (hn:∀ q∈need,RepX W M b H q.1 q.2) (r0:Reps W.K M H ds0 acc0) (hl:acc0.length+items.length<=2000000) (h:compG gd dt de ρ items ds0 P)
 (fin:∀ ds acc H',P ds->Reps W.K M H' ds acc->acc.length<=acc0.length+items.length->Kp b H H'->okB W.B b H'->Fin acc H'):∃ Wf:Nat->Nat->List V->Hp->Prop,(∃ m,Wf 0 m acc0 H)/\ND J g (dnT W dt) (dn W de) σ Fin Wf:=by
 obtain ⟨I,i0,istep,idone⟩:=h
 refine ⟨fun i m acc H2=>m=items.length - i/\i<=items.length/\acc.length<=acc0.length+i/\Kp b H H2/\okB W.B b H2/\∃ ds,Reps W.K M H2 ds acc/\I i ds,⟨items.length,by simp,W1 _,B9 _,Kp.refl _ _,st.ok,ds0,r0,i0⟩,?_⟩
 rintro i m acc H2 ⟨rfl,hi,ha,k2,o2,ds,r,q⟩
 have st2:=st.step k2 o2
 obtain ⟨hgo,hstop⟩:=hI M b H2 st2.toHs fun q hq=>(hn q hq).step st.bagM k2
 by_cases hlt:i<items.length
 · have ei:items[i]?=some items[i]:=L4 hlt
   replace q:=istep i _ ds ei q
   refine .inr ⟨(hgo i _ ei).1,by have:=leM;omega,fun acc' H'=>acc'.length<=acc0.length+(i+1)/\Kp b H H'/\okB W.B b H'/\∃ ds,Reps W.K M H' ds acc'/\I (i+1) ds,fun acc' H' n=>⟨items.length - (i+1),by omega,rfl,hlt,n⟩,fun x H3 y=>?_⟩
   obtain ⟨S3,rx⟩:=(hgo i _ ei).2 x H3 y
   have o3:okB W.B b H3:=fun p e=>W.B.st p H2 H3 (o2 p e) fun o e'=>S3 p o e'
   have k3:Kp b H2 H3:=Kp.same S3
   have st3:=st2.step k3 o3
   refine hG pn M b H3 σ ρ items[i] x _ _ st3 rx (R5.mp hp _ (U6 hlt)) q fun ρ1 σ1 h1 st4 _=>?_
   refine ⟨pn,M,b,ρ1,_,st4,h1,fun c H5 h5 k5 o5=>?_⟩
   cases h5 with
   | t e h5 =>
     rw [if_pos e]
     refine ⟨pn,M,b,ρ1,_,st4.step k5 o5,h5,fun y v H6 h6 ry k6 o6=>?_⟩
     have kk:=((k3.trans k5).trans k6)
     refine ⟨by simp;omega,k2.trans kk,o6,ds++[y],Reps.append (Reps.keep (fun c o n e=>kk c o (fun z=>n (st.bagM c z)) e) _ _ r) ⟨v,[],rfl,ry.rep h6.1,rfl⟩,h6.2⟩
   | f e h5 =>
     rw [if_neg (by rw [e];exact B7)]
     have kk:=k3.trans k5
     exact ⟨by omega,k2.trans kk,o5,ds,Reps.keep (fun c o n e=>kk c o (fun z=>n (st.bagM c z)) e) _ _ r,h5⟩
 · have e:i=items.length:=by omega
   subst e
   exact .inl ⟨hstop _ (B9 _),by have:=leM;omega,fin ds acc H2 (idone _ q) r ha k2 o2⟩
theorem SZ {W:Wd}{pn:List (D×V)}{M:Addr->Prop}{b:Option Addr}{H:Hp}{σ:St}{ρ:Ev}{J:It}{need:List (D×V)}{items:List D}{g g2:TG}{gd gd2:D->Ev->(Ev->Prop)->Prop}{mp2:List (Option Nat)}{di2:DA}{dt:DT}{de:DE}{P:List D->Prop}{Fin:List V->Hp->Prop}
 (hG:GD W g gd) (hG2:GD W g2 gd2) (st:Sta W pn M b H σ ρ) (hp:items.all plain=true) (hI:IN W J need items) (hn:∀ q∈need,RepX W M b H q.1 q.2) (hl:items.length<=1000) (h:compI2 gd mp2 di2 gd2 dt de ρ items P)
 (fin:∀ ds acc H',P ds->Reps W.K M H' ds acc->acc.length<=sizeLine->Kp b H H'->okB W.B b H'->Fin acc H'):∃ Wf:Nat->Nat->List V->Hp->Prop,(∃ m,Wf 0 m [] H)/\VP J g mp2 (dnI W false di2) g2 (dnT W dt) (dn W de) σ Fin Wf:=by
 obtain ⟨I,i0,istep,idone⟩:=h
 refine ⟨fun i m acc H2=>m=items.length - i/\i<=items.length/\acc.length<=1000*i/\Kp b H H2/\okB W.B b H2/\∃ ds,Reps W.K M H2 ds acc/\I i ds,⟨items.length,by simp,W1 _,B9 _,Kp.refl _ _,st.ok,[],rfl,i0⟩,?_⟩
 rintro i m acc H2 ⟨rfl,hi,ha,k2,o2,ds,r,q⟩
 have st2:=st.step k2 o2
 obtain ⟨hgo,hstop⟩:=hI M b H2 st2.toHs fun q hq=>(hn q hq).step st.bagM k2
 by_cases hlt:i<items.length
 · have ei:items[i]?=some items[i]:=L4 hlt
   replace q:=istep i _ ds ei q
   refine .inr ⟨(hgo i _ ei).1,fun acc' H'=>acc'.length<=1000*(i+1)/\Kp b H H'/\okB W.B b H'/\∃ ds,Reps W.K M H' ds acc'/\I (i+1) ds,fun acc' H' n=>⟨items.length - (i+1),by omega,rfl,hlt,n⟩,fun x H3 y=>?_⟩
   obtain ⟨S3,rx⟩:=(hgo i _ ei).2 x H3 y
   have o3:okB W.B b H3:=fun p e=>W.B.st p H2 H3 (o2 p e) fun o e'=>S3 p o e'
   have k3:Kp b H2 H3:=Kp.same S3
   have st3:=st2.step k3 o3
   refine hG pn M b H3 σ ρ items[i] x _ _ st3 rx (R5.mp hp _ (U6 hlt)) q fun ρ1 σ1 h1 st4 _=>?_
   refine ⟨pn,M,b,ρ1,_,st4,h1,fun ys J2 need2 H5 hys hp2 hI2 hn2 k5 o5=>?_⟩
   have st5:=(st4.step k5 o5).capt mp2
   have kk:=k3.trans k5
   have hy:=hys.1
   exact SX hG2 st5 hp2 hI2 (fun q hq=>(hn2 q hq).1) (Reps.keep (fun c o n e=>kk c o (fun z=>n (st.bagM c z)) e) _ _ r) (by omega) hys.2 fun ds acc H' hP r hl' k o=>⟨by omega,(k2.trans kk).trans k,o,ds,r,hP⟩
 · have e:i=items.length:=by omega
   subst e
   exact .inl ⟨hstop _ (B9 _),by have:=leM;omega,fin ds acc H2 (idone _ q) r (by have:=leM;omega) k2 o2⟩
section
variable {X:Cx}{W:Wd}{elt iter tg tg2 iter2:Expr}{ifs:List Expr}{scope:Scope}{pos:Pos}{N':List Str}{map mp2:List (Option Nat)}{g g2:TG}{gd gd2:D->Ev->(Ev->Prop)->Prop}{di di2:DA}{dt:DT}{de:DE}
theorem YR (hG:GD W g gd)(hG2:GD W g2 gd2)(B:Blk2 X N' scope map mp2 tg tg2 iter2 elt ifs g (dnI W false di2) g2 (dnT W dt) (dn W de))(hi:JI X W false tg iter di)(hs:∀ x,foldedSetIterable iter X.env x=pure x:=by intro _;rfl):JE X W (.ListComp elt [⟨tg,iter,[],0⟩,⟨tg2,iter2,ifs,0⟩] scope pos) (Q0s map mp2 gd di gd2 di2 dt de):=⟨(J0r B hi.h hs).mono fun σ H Q hh=>hh.elim fun pn M b ρ P st h k=>by
 refine ⟨pn,M,b,ρ,_,st,h,fun items J need H1 hx hp hI hn k1 o1=>?_⟩
 have st1:=st.step k1 o1
 refine SZ hG hG2 (st1.capt map) hp hI (fun q hq=>(hn q hq).1) hx.1 hx.2 fun ds acc H' hP r hl k2 o2 D hD=>?_
 exact k _ _ _ hP (GG (st1.step k2 o2).toHs r hD) ((k1.trans k2).trans (Kp.upd hD)) ((st1.step k2 o2).okU hD)⟩
theorem Q3s (calm:X.calm=true) (kind:scope.kind=.function) (loc:∀ x∈scope.names,x.2=.local->scope.names.lookup x.1=some .local) (free:(scope.names.all fun p=>!(p.2==NameKind.free)||(X.env.kindOf p.1==some .cell||X.env.kindOf p.1==some .free))=true) (cap:CapOk X scope map N') (keep:HL g map) (keep2:HL g2 mp2) (ids:OG 0 mp2=true) (sub:EX map mp2=true)
 (run:∀ cells C fp s H,PG (V2 X N' scope cells C fp s H).nox tg g/\JI (V2 X N' scope cells C fp s H).nox W false tg2 iter2 di2/\PG (V2 X N' scope cells C fp s H).nox tg2 g2/\JIf (V2 X N' scope cells C fp s H).nox W ifs dt/\JE (V2 X N' scope cells C fp s H).nox W elt de)
 (fold:∀ env x,foldedSetIterable iter2 env x=pure x:=by intro _ _;rfl):Blk2 X N' scope map mp2 tg tg2 iter2 elt ifs g (dnI W false di2) g2 (dnT W dt) (dn W de) :=
 ⟨calm,kind,loc,free,cap,keep,keep2,ids,sub,fold,fun cells C fp s H=>by
  obtain ⟨a,b,c,d,e⟩:=run cells C fp s H
  exact ⟨a,b.h,c,d.h,e.h⟩⟩
end
def J6x (acc:List D):Prop:=(∃ ns:List Int,acc=ns.map D.int)/\acc.length<=2000
theorem NX {H:Hp}:∀ {ns:List Int} {vs:List V},Reps K M H (ns.map D.int) vs->vs=ns.map V.int
 | [],vs,h=>h
 | n::ns,vs,h=>by
   obtain ⟨v,r,rfl,h1,h2⟩:=h
   cases (show _=_ from h1)
   rw [NX h2]
   rfl
theorem J6x.ok {H:Hp}{ds:List D}{vs:List V}(h:J6x ds)(r:Reps K M H ds vs):okA vs:=by
 obtain ⟨⟨ns,rfl⟩,hl⟩:=h
 have e:=NX r
 exact ⟨⟨ns,e⟩,by rw [e,L0];rwa [L0] at hl⟩
inductive whI (dc:DT)(db:DS)(F:DEnds)(ρ:Ev):Prop
 | mk (I:Nat->Ev->Prop) (m:Nat) (h0:I m ρ) (hs:∀ m ρ,I m ρ->dc ρ fun c=>IfP c (db { F with nx:=fun ρ'=>∃ m',m'<m/\I m' ρ',ct:=fun ρ'=>∃ m',m'<m/\I m' ρ',bk:=F.nx } ρ) (F.nx ρ)):whI dc db F ρ
def J2j (dc:DT)(db:DS):DS:=fun F ρ=>whI dc db F ρ
section
variable {X:Cx}{W:Wd}{c:Expr}{dc:DT}{db:DS}{body:List Stmt}{pos:Pos}
theorem ZO:∀ E σ H,sn W (J2j dc db) E σ H->TZ (dnT W dc) (sn W db) E σ H:=fun E σ H hh=>hh.elim fun pn M b ρ F s l h=>by
 obtain ⟨I,m0,i0,step⟩:=h
 refine ⟨fun m σ H=>∃ M b ρ,StS W pn M b H σ ρ/\I m ρ,⟨m0,M,b,ρ,s,i0⟩,?_⟩
 rintro m σ H ⟨M,b,ρ,s,i⟩
 refine ⟨pn,M,b,ρ,_,s.toSta,step m ρ i,fun c H1 h1 k1 o1=>?_⟩
 have s1:=s.step k1 o1
 cases h1 with
 | t e h1 =>
   dsimp only
   rw [if_pos e]
   exact ⟨fun σ' H'=>∃ m',m'<m/\∃ M b ρ,StS W pn M b H' σ' ρ/\I m' ρ,fun σ' H' n=>n,pn,M,b,ρ,{ F with nx:=fun ρ'=>∃ m',m'<m/\I m' ρ',ct:=fun ρ'=>∃ m',m'<m/\I m' ρ',bk:=F.nx },s1,⟨fun M b ρ σ H s' ⟨m',lt,h'⟩=>⟨m',lt,M,b,ρ,s',h'⟩,l.rt,fun M b ρ σ H s' h'=>l.nx _ _ _ _ _ s' h',fun M b ρ σ H s' ⟨m',lt,h'⟩=>⟨m',lt,M,b,ρ,s',h'⟩,l.ro⟩,h1⟩
 | f e h1 =>
   dsimp only
   rw [if_neg (by rw [e];exact B7)]
   exact l.nx _ _ _ _ _ s1 h1
theorem YN (hp:PassesOwn (model X.prog X.w) X.A X.env X.xe)(hc:JT X W c dc)(hb:JSs X W body db):JS X W (.While c body [] pos) (J2j dc db):=⟨(RX hp hc.h hb.h).mono ZO⟩
end
section
variable {W:Wd}
theorem RepXs.asA {b':Option Addr}{H:Hp}:∀ (ds:List D) (vs:List V),RepXs W M b H ds vs->ds.all L2.plain=true->RepAs W.K M b' H ds vs
 | [],_,h,_=>h
 | d::ds,vs,h,q=>by
   obtain ⟨v,r,e,h1,h2⟩:=h
   simp only [E1,L5] at q
   refine ⟨v,r,e,?_,RepXs.asA ds r h2 q.2⟩
   cases d<;>first|exact h1|cases q.1
end
abbrev Om:=Nat->Prop
def HF (p:Addr)(H:Hp):Nat:=match H p with|some (.lst [_,_,.int st])=>st.toNat|_=>0
def cnt (b:Option Addr)(H:Hp):Nat:=match b with|none=>0|some p=>HF p H
theorem DP {B:BagT} {H H':Hp}(o:okB B b H)(k:Kp none H H'):cnt b H'=cnt b H:=by
 cases b with
 | none=>rfl
 | some p =>
   obtain ⟨u,e⟩:=B.dm p H (o p rfl)
   have e':=k p u (by intro z;cases z) e
   show HF p H'=HF p H
   unfold HF
   rw [e,e']
theorem KH {H H':Hp}(k:Kp none H H'):Kp b H H':=fun c o _ e=>k c o (by intro z;cases z) e
theorem HB {B:BagT}{H:Hp}:okB B none H:=fun p e=>by cases e
theorem FM {B:BagT} {H H':Hp}(o:okB B b H)(k:Kp none H H'):okB B b H':=fun p e=>B.st p H H' (o p e) fun u z=>k p u (by intro y;cases y) z
abbrev DE3:=Ev->(D->Om)->Om
abbrev DT3:=Ev->(Bool->Om)->Om
abbrev DA3:=Ev->(List D->Om)->Om
def cn (W:Wd)(d:DE3):TE:=fun σ H Q=>∃ pn M b ρ P,Sta W pn M b H σ ρ/\d ρ P (cnt b H)/\∀ x v H',P x (cnt b H')->RepX W M b H' x v->Kp b H H'->okB W.B b H'->Q v H'
def cnT (W:Wd)(d:DT3):TT:=fun σ H Q=>∃ pn M b ρ P,Sta W pn M b H σ ρ/\d ρ P (cnt b H)/\∀ x H',P x (cnt b H')->Kp b H H'->okB W.B b H'->Q x H'
def cnA (W:Wd)(d:DA3):TA:=fun σ H Q=>∃ pn M b ρ P,Sta W pn M b H σ ρ/\d ρ P (cnt b H)/\∀ xs vs H',P xs (cnt b H')->RepXs W M b H' xs vs->Kp b H H'->okB W.B b H'->Q vs H'
def cnI (W:Wd)(fz:Bool)(di:DA3):TI:=fun σ H R=>∃ pn M b ρ P,Sta W pn M b H σ ρ/\di ρ P (cnt b H)/\∀ items J need H',P items (cnt b H')->items.all plain=true->IN W J need items->(∀ q∈need,RepX W M b H' q.1 q.2/\(fz=true->plain q.1=true))->Kp b H H'->okB W.B b H'->R J H'
theorem cn.elim {W:Wd}{d:DE3}{σ:St}{H:Hp}{Q:VK}{R:Prop}(h:cn W d σ H Q)(f:∀ pn M b ρ P,Sta W pn M b H σ ρ->d ρ P (cnt b H)->(∀ x v H',P x (cnt b H')->RepX W M b H' x v->Kp b H H'->okB W.B b H'->Q v H')->R):R:=by
 obtain ⟨pn,M,b,ρ,P,st,h,k⟩:=h
 exact f pn M b ρ P st h k
theorem cnT.elim {W:Wd}{d:DT3}{σ:St}{H:Hp}{Q:Bool->Hp->Prop}{R:Prop}(h:cnT W d σ H Q)(f:∀ pn M b ρ P,Sta W pn M b H σ ρ->d ρ P (cnt b H)->(∀ x H',P x (cnt b H')->Kp b H H'->okB W.B b H'->Q x H')->R):R:=by
 obtain ⟨pn,M,b,ρ,P,st,h,k⟩:=h
 exact f pn M b ρ P st h k
theorem cnA.elim {W:Wd}{d:DA3}{σ:St}{H:Hp}{Q:List V->Hp->Prop}{R:Prop}(h:cnA W d σ H Q)(f:∀ pn M b ρ P,Sta W pn M b H σ ρ->d ρ P (cnt b H)->(∀ xs vs H',P xs (cnt b H')->RepXs W M b H' xs vs->Kp b H H'->okB W.B b H'->Q vs H')->R):R:=by
 obtain ⟨pn,M,b,ρ,P,st,h,k⟩:=h
 exact f pn M b ρ P st h k
theorem cnI.elim {W:Wd}{fz:Bool}{d:DA3}{σ:St}{H:Hp}{R:It->Hp->Prop}{Z:Prop}(h:cnI W fz d σ H R)(f:∀ pn M b ρ P,Sta W pn M b H σ ρ->d ρ P (cnt b H)->(∀ items J need H',P items (cnt b H')->items.all plain=true->IN W J need items->(∀ q∈need,RepX W M b H' q.1 q.2/\(fz=true->plain q.1=true))->Kp b H H'->okB W.B b H'->R J H')->Z):Z:=by
 obtain ⟨pn,M,b,ρ,P,st,h,k⟩:=h
 exact f pn M b ρ P st h k
structure CJE (X:Cx)(W:Wd)(e:Expr)(d:DE3):Prop where
 h:PE X e (cn W d)
structure CJT (X:Cx)(W:Wd)(e:Expr)(d:DT3):Prop where
 h:PT X e (cnT W d)
structure CJA (X:Cx)(W:Wd)(es:List Expr)(d:DA3):Prop where
 h:PA X es (cnA W d)
structure CJIf (X:Cx)(W:Wd)(es:List Expr)(d:DT3):Prop where
 h:PIf X es (cnT W d)
structure CJI (X:Cx)(W:Wd)(fz:Bool)(tg l:Expr)(d:DA3):Prop where
 h:PI X tg l (cnI W fz d)
def noH (b:Option Addr)(H0:Hp):Hp:=fun c=>if b=some c then none else H0 c
abbrev Wn (W:Wd)(H0:Hp):Wd:=⟨W.K,W.B,H0,W.M0,none⟩
theorem MQ {H0:Hp}{c:Addr}(h:H0 c=none):noH b H0 c=none:=by unfold noH;split<;>first|rfl|exact h
theorem WK {W:Wd}{pn:List (D×V)} {H:Hp}{σ:St}{ρ:Ev}(s:Sta W pn M b H σ ρ):Sta (Wn W (noH b W.H0)) [] M none H σ (BH ρ):=by
 refine ⟨⟨HB,fun p e=>(by cases e),s.dom,s.m0⟩,fun c o _ e=>?_,.inl rfl,fun i d e=>?_,by simp [BH,s.len],fun q hq=>(by cases hq)⟩
 · have e:noH b W.H0 c=some o:=e
   unfold noH at e
   split at e
   · cases e
   · rename_i nb
     refine s.kp c o (fun z=>?_) e
     rcases s.new with q|⟨q,_⟩
     · exact nb (q.trans z)
     · rw [q] at z;cases z
 · obtain ⟨e1,nb⟩:=BG e
   obtain ⟨v,e2,r⟩:=s.env i d e1
   refine ⟨v,e2,?_⟩
   cases d
   case own xs =>
    obtain ⟨a,vs,rfl,m1,m2,m3,m4,hh,r'⟩:=r
    exact ⟨a,vs,rfl,m1,(by intro z;cases z),MQ m3,m4,hh,r'⟩
   case bag=>exact absurd rfl nb
   case frg f _=>exact ⟨fun c m=>⟨(r.1 c m).1,(by intro z;cases z),MQ (r.1 c m).2.2.1,(r.1 c m).2.2.2⟩,r.2⟩
   all_goals exact r
theorem J0b {W W':Wd}(hK:W'.K=W.K) {b b':Option Addr}{H:Hp}{d:D}{v:V}(h:RepX W' M b H d v)(p:plain d=true):RepX W M b' H d v:=by
 have:=h.rep p
 rw [hK] at this
 exact Rep.x (W:=W) this
section
variable {X:Cx}{W:Wd}{e b l tg:Expr}{es:List Expr}{pos p:Pos}{fz:Bool}
def cP (d:DE):DE3:=fun ρ P n=>d (BH ρ) fun x=>plain x=true/\P x n
def cPT (d:DT):DT3:=fun ρ P n=>d (BH ρ) fun x=>P x n
def cPA (d:DA):DA3:=fun ρ P n=>d (BH ρ) fun xs=>xs.all plain=true/\P xs n
def cPI (d:DA):DA3:=fun ρ P n=>d (BH ρ) fun xs=>P xs n
theorem Q7 {d:DE}(h:∀ H0,JE X (Wn W H0) e d):CJE X W e (cP d):=⟨fun pins s σ H Q I hh=>hh.elim fun pn M b ρ P st hd k=>by
 refine (h (noH b W.H0)).h pins s σ H Q I ⟨[],M,none,BH ρ,_,(WK st),hd,fun x v H' hx rx k' o'=>?_⟩
 exact k x v H' (by rw [DP st.ok k'];exact hx.2) (J0b (W:=W) (W':=Wn W (noH b W.H0)) rfl rx hx.1) (KH k') (FM st.ok k')⟩
theorem BO {d:DT}(h:∀ H0,JT X (Wn W H0) e d):CJT X W e (cPT d):=⟨fun pins s σ H Q I hh=>hh.elim fun pn M b ρ P st hd k=>by
 refine (h (noH b W.H0)).h pins s σ H Q I ⟨[],M,none,BH ρ,_,(WK st),hd,fun x H' hx k' o'=>?_⟩
 exact k x H' (by rw [DP st.ok k'];exact hx) (KH k') (FM st.ok k')⟩
theorem xsW {W W':Wd}(hK:W'.K=W.K) {b b':Option Addr}{H:Hp}:∀ (ds:List D) (vs:List V),RepXs W' M b H ds vs->ds.all L2.plain=true->RepXs W M b' H ds vs
 | [],_,h,_=>h
 | d::ds,vs,h,q=>by
   obtain ⟨v,r,e,h1,h2⟩:=h
   simp only [E1,L5] at q
   refine ⟨v,r,e,?_,xsW hK ds r h2 q.2⟩
   have:=h1.rep q.1
   rw [hK] at this
   exact Rep.x (W:=W) this
theorem J2z {d:DA}(h:∀ H0,JA X (Wn W H0) es d):CJA X W es (cPA d):=⟨fun pos pins s σ H Q I hh=>hh.elim fun pn M b ρ P st hd k=>by
 refine (h (noH b W.H0)).h pos pins s σ H Q I ⟨[],M,none,BH ρ,_,(WK st),hd,fun xs vs H' hx rx k' o'=>?_⟩
 exact k xs vs H' (by rw [DP st.ok k'];exact hx.2) (xsW (W:=W) (W':=Wn W (noH b W.H0)) (b':=b) rfl _ _ rx hx.1) (KH k') (FM st.ok k')⟩
theorem J5d {W:Wd}{H0:Hp}{J:It}{need:List (D×V)}{items:List D}(hI:IN (Wn W H0) J need items)(hn:∀ q∈need,plain q.1=true)(hp:items.all plain=true):IN W J need items:=fun M b H hs hq=>by
 obtain ⟨h1,h2⟩:=hI M none H ⟨HB,fun p e=>(by cases e),hs.dom,hs.m0⟩ fun q hq'=>J0b (W:=Wn W H0) (W':=W) rfl (hq q hq') (hn q hq')
 refine ⟨fun i d e=>⟨(h1 i d e).1,fun x H3 y=>⟨((h1 i d e).2 x H3 y).1,?_⟩⟩,h2⟩
 have r:=((h1 i d e).2 x H3 y).2
 exact J0b (W:=W) (W':=Wn W H0) rfl r (R5.mp hp d (M3 e))
theorem JG {d:DA}(h:∀ H0,JI X (Wn W H0) true tg l d):CJI X W fz tg l (cPI d):=⟨fun pins s σ H R I hh=>hh.elim fun pn M b ρ P st hd k=>by
 refine (h (noH b W.H0)).h pins s σ H R I ⟨[],M,none,BH ρ,_,(WK st),hd,fun items J need H' hx hp hI hn k' o'=>?_⟩
 exact k items J need H' (by rw [DP st.ok k'];exact hx) hp (J5d hI (fun q hq=>(hn q hq).2 rfl) hp) (fun q hq=>⟨J0b (W:=W) (W':=Wn W (noH b W.H0)) rfl (hn q hq).1 ((hn q hq).2 rfl),fun _=>(hn q hq).2 rfl⟩) (KH k') (FM st.ok k')⟩
end
def noB:D->Bool
 | .bag=>false
 | _=>true
theorem RepX.nob {W:Wd} {H:Hp}{d:D}{v:V}(h:RepX W M b H d v)(p:noB d=true):RepX W M none H d v:=by
 cases d
 case own xs =>
  obtain ⟨a,vs,e,m1,m2,m3,m4,hh,r⟩:=h
  exact ⟨a,vs,e,m1,(by intro z;cases z),m3,m4,hh,r⟩
 case bag=>cases p
 case frg f _=>exact ⟨fun c m=>⟨(h.1 c m).1,(by intro z;cases z),(h.1 c m).2.2⟩,h.2⟩
 all_goals exact h
theorem Hs.nob {W:Wd} {H:Hp}(s:Hs W M b H):Hs W M none H:=⟨HB,fun p e=>(by cases e),s.dom,s.m0⟩
section
variable {X:Cx}{W:Wd}{e a b c tg:Expr}{es:List Expr}{pos p:Pos}{d da db:DE3}{dA:DA3}{x:Str}{k:Nat}{ps:List Str}
def Q3m (i:Nat):DE3:=fun ρ P n=>match ρ[i]? with|some (some d)=>P d n|_=>False
theorem cjv (i:Nat) {x:Str} {pos:Pos} (hN:X.N[i]?=some x:=by rfl) (hv:Vis X.env.scope x:=by first|exact Or.inl rfl|exact Or.inr (Or.inl rfl)|exact Or.inr (Or.inr rfl)) (hd:(x==("__debug__" : Str))=false:=by decide)
 (hcd:(x==("__classdict__" : Str))=false:=by decide):CJE X W (.Name x pos) (Q3m i):=⟨(UL hN hv hd hcd).mono fun σ H Q hh=>hh.elim fun pn M b ρ P st h k=>by
 unfold Q3m at h
 split at h
 case h_1 d e =>
  obtain ⟨v,e1,r⟩:=st.env i d e
  exact ⟨v,e1,k d v H h r (Kp.refl _ _) st.ok⟩
 case h_2=>exact h.elim⟩
def cOp (o:D->D->(D->Prop)->Prop)(da db:DE3):DE3:=fun ρ P=>da ρ fun x=>db ρ fun y n=>(noB x&&noB y)=true/\o x y fun z=>plain z=true/\P z n
theorem ZP {r:R2}{o:D->D->(D->Prop)->Prop}(hd:OpD W r o):∀ σ H Q,cn W (cOp o da db) σ H Q->tOp r (cn W da) (cn W db) σ H Q:=by
 intro σ H Q hh
 refine hh.elim fun pn M b ρ P st h k=>?_
 refine ⟨pn,M,b,ρ,_,st,h,fun x v H1 hx rx k1 o1=>?_⟩
 refine ⟨pn,M,b,ρ,_,st.step k1 o1,hx,fun y u H2 hy ry k2 o2=>?_⟩
 have st2:=(st.step k1 o1).step k2 o2
 obtain ⟨n1,n2⟩:=(L5 _ _).mp hy.1
 exact hd M none H2 x y v u _ Q st2.toHs.nob ((rx.step st.bagM k2).nob n1) (ry.nob n2) hy.2 fun z w H' hz rz k3 o3=>k z w H' (by rw [DP o2 k3];exact hz.2) (J0b (W:=W) (W':=W) rfl rz hz.1) ((k1.trans k2).trans (KH k3)) (FM o2 k3)
theorem FI {op:Operator}{r:R2}{o:D->D->(D->Prop)->Prop}(ho:OpR X (binaryOp op) r)(hd:OpD W r o)(ha:CJE X W a da)(hb:CJE X W b db):CJE X W (.BinOp a op b pos) (cOp o da db):=⟨(AS ho ha.h hb.h).mono (ZP hd)⟩
theorem KE {r:R2}{o:D->D->(D->Prop)->Prop}(hr:IxR X r)(hd:OpD W r o)(ha:CJE X W a da)(hb:CJE X W b db)(hs:LR b):CJE X W (.Subscript a b pos) (cOp o da db):=⟨(GX hr ha.h hb.h hs).mono (ZP hd)⟩
def Q3p:DA3:=fun _ P=>P []
def Q0y (da:DE3)(dr:DA3):DA3:=fun ρ P=>da ρ fun x=>dr ρ fun xs=>P (x::xs)
theorem Y1:CJA X W [] Q3p:=⟨EG.mono fun σ H Q hh=>hh.elim fun pn M b ρ P st h k=>k [] [] H h rfl (Kp.refl _ _) st.ok⟩
theorem Q0 {dr:DA3}(ha:CJE X W e da)(hr:CJA X W es dr)(hs:starEach (e::es) X.env=(false,eval e X.env)::starEach es X.env:=by rfl):CJA X W (e::es) (Q0y da dr):=⟨(BU ha.h hr.h hs).mono fun σ H Q hh=>hh.elim fun pn M b ρ P st h k=>by
 refine ⟨pn,M,b,ρ,_,st,h,fun x v H1 hx rx k1 o1=>?_⟩
 refine ⟨pn,M,b,ρ,_,st.step k1 o1,hx,fun xs vs H2 hy ry k2 o2=>?_⟩
 exact k _ _ H2 hy ⟨v,vs,rfl,rx.step st.bagM k2,ry⟩ (k1.trans k2) o2⟩
theorem LN {B:BagT}{b:Option Addr}{H:Hp}{q:Addr}{o:HO}(ok:okB B b H)(h:H q=none):cnt b (upd H q o)=cnt b H:=DP ok (Kp.upd h)
def Q4q (dA:DA3):DE3:=fun ρ P=>dA ρ fun xs n=>DY xs=true/\P (.tup xs) n
def Q4r (dA:DA3):DE3:=fun ρ P=>dA ρ fun xs n=>DY xs=true/\P (.lst xs) n
theorem XB {x1}(h:CJA X W es dA):CJE X W (.Tuple es x1 pos) (Q4q dA):=⟨(UN h.h).mono fun σ H Q hh=>hh.elim fun pn M b ρ P st h k=>by
 refine ⟨pn,M,b,ρ,_,st,h,fun xs vs H1 hx rx k1 o1=>?_⟩
 have rr:=rx.reps _ _ (DY.pl hx.1)
 refine ⟨by rw [rr.length];exact DY.len hx.1,fun p hp=>k _ _ _ (by rw [LN o1 hp];exact hx.2) (GF (st.step k1 o1).toHs rr hp) (k1.trans (Kp.upd hp)) ((st.step k1 o1).okU hp)⟩⟩
theorem XC (h:CJA X W es dA):CJE X W (.List es pos) (Q4r dA):=⟨(MH h.h).mono fun σ H Q hh=>hh.elim fun pn M b ρ P st h k=>by
 refine ⟨pn,M,b,ρ,_,st,h,fun xs vs H1 hx rx k1 o1=>?_⟩
 have rr:=rx.reps _ _ (DY.pl hx.1)
 refine ⟨by rw [rr.length];exact DY.len hx.1,fun p hp=>k _ _ _ (by rw [LN o1 hp];exact hx.2) (GG (st.step k1 o1).toHs rr hp) (k1.trans (Kp.upd hp)) ((st.step k1 o1).okU hp)⟩⟩
abbrev LC:=List D->(D->Om)->Om
def Z5 (K:Fg)(B:BagT)(S:LC):Sp:=fun vs H Q E=>∃ (M:Addr->Prop) (b:Option Addr) (ds:List D) (P:D->Om),S ds P (cnt b H)/\RepAs K M b H ds vs/\okB B b H/\(∀ p,b=some p->M p)/\(∀ c,M c->∃ o,H c=some o) /\
 (∀ d v H',P d (cnt b H')->Rep K M H' d v->Kp b H H'->okB B b H'->Q v H')
def Q3n (S:LC)(dA:DA3):DE3:=fun ρ P=>dA ρ fun ds n=>ds.all BF=true/\S ds P n
theorem Z1 {S:LC}(G:Callee X.prog X.w X.K X.mg X.base CX0 x k ps (Z5 W.K W.B S))(hr:Room k X.A)(hg:Gl X x)(ha:CJA X W (e::es) dA)(hdb:(x==("__debug__" : Str))=false:=by decide) (he:starEach (e::es) X.env=(false,eval e X.env)::starEach es X.env:=by rfl) (hpl:(backTo pos (starEach es X.env)).any (·.1)=false:=by rfl) :
 CJE X W (.Call (.Name x p) (e::es) [] pos) (Q3n S dA):=⟨(PV G hr hg ha.h hdb he hpl).mono fun σ H Q hh=>hh.elim fun pn M b ρ P st h k=>by
 refine ⟨pn,M,b,ρ,_,st,h,fun xs vs H1 hx rx k1 o1=>?_⟩
 have st1:=st.step k1 o1
 refine ⟨M,b,xs,P,hx.2,?_,o1,st.bagM,st1.dom,fun d v H' hd rd k2 o2=>k d v H' hd rd.x (k1.trans k2) o2⟩
 rw [E7];exact rx.args _ _ hx.1⟩
def Q0u (S:DSp)(dA:DA3):DE3:=fun ρ P=>dA ρ fun ds n=>ds.all plain=true/\S ds (fun x=>P x n) (fun _=>False)
theorem J2x {S:DSp}(G:Callee X.prog X.w X.K X.mg X.base CX0 x k ps (J8 W.K W.B S))(hr:Room k X.A)(hg:Gl X x)(ha:CJA X W (e::es) dA)(hdb:(x==("__debug__" : Str))=false:=by decide) (he:starEach (e::es) X.env=(false,eval e X.env)::starEach es X.env:=by rfl) (hpl:(backTo pos (starEach es X.env)).any (·.1)=false:=by rfl) :
 CJE X W (.Call (.Name x p) (e::es) [] pos) (Q0u S dA):=⟨(PV G hr hg ha.h hdb he hpl).mono fun σ H Q hh=>hh.elim fun pn M b ρ P st h k=>by
 refine ⟨pn,M,b,ρ,_,st,h,fun xs vs H1 hx rx k1 o1=>?_⟩
 have st1:=st.step k1 o1
 refine ⟨M,none,xs,_,fun _=>False,hx.2,?_,HB,fun p e=>(by cases e),st1.dom,fun d v H' hd rd k2 o2=>k d v H' (by rw [DP o1 k2];exact hd) rd.x (k1.trans (KH k2)) (FM o1 k2),fun C H' hC=>hC.elim⟩
 rw [E7];exact RepXs.asA _ _ rx hx.1⟩
variable {r:List V->Hp->VK->Prop}{o:List D->(D->Prop)->Prop}
def Q0v:DT3:=fun _ P=>P true
theorem J2w:CJIf X W [] Q0v:=⟨fun pins s σ H Q I hh=>hh.elim fun pn M b ρ P st h k=>WB pins s σ H Q I (k true H h (Kp.refl _ _) st.ok)⟩
inductive compI3 (gd:D->Ev->(Ev->Prop)->Prop)(dt:DT3)(de:DE3)(ρc:Ev)(items:List D)(P:List D->Om)(n0:Nat):Prop
 | mk (I:Nat->List D->Om) (h0:I 0 [] n0) (hs:∀ (i:Nat) x acc n,items[i]?=some x->I i acc n->gd x ρc fun ρ1=>dt ρ1 (fun c n1=>IfP c (de ρ1 (fun y n2=>plain y=true/\I (i+1) (acc++[y]) n2) n1) (I (i+1) acc n1)) n) (hd:∀ acc n,I items.length acc n->P acc n):compI3 gd dt de ρc items P n0
def LP (gd:D->Ev->(Ev->Prop)->Prop)(dt:DT3)(de:DE3)(ρc:Ev):List D->List D->(List D->Om)->Om
 | [],acc,P=>P acc
 | x::xs,acc,P=>fun n=>gd x ρc fun ρ1=>dt ρ1 (fun c n1=>IfP c (de ρ1 (fun y n2=>plain y=true/\LP gd dt de ρc xs (acc++[y]) P n2) n1) (LP gd dt de ρc xs acc P n1)) n
theorem ZD {gd:D->Ev->(Ev->Prop)->Prop}{dt:DT3}{de:DE3}{ρc:Ev}{items:List D}{P:List D->Om}{n0:Nat}(h:LP gd dt de ρc items [] P n0):compI3 gd dt de ρc items P n0:=by
 refine ⟨fun i acc n=>LP gd dt de ρc (items.drop i) acc P n,h,fun i x acc n e q=>?_,fun acc n q=>?_⟩
 · obtain ⟨hlt,rfl⟩:=B6.mp e
   try dsimp only at q
   rw [D8 hlt] at q
   exact q
 · (try dsimp only at q);rw [List.drop_length] at q;exact q
theorem Q3l {N':List Str} {scope:Scope} {map:List (Option Nat)} {elt:Expr} {ifs:List Expr} {g:TG} {dt:DT3} {de:DE3} (calm:X.calm=true) (kind:scope.kind=.function) (loc:∀ x∈scope.names,x.2=.local->scope.names.lookup x.1=some .local) (free:(scope.names.all fun p=>!(p.2==NameKind.free)||(X.env.kindOf p.1==some .cell||X.env.kindOf p.1==some .free))=true) (cap:CapOk X scope map N') (keep:HL g map)
 (run:∀ cells C fp s H,PG (V2 X N' scope cells C fp s H) tg g/\CJIf (V2 X N' scope cells C fp s H) W ifs dt/\CJE (V2 X N' scope cells C fp s H) W elt de):Blk X N' scope map tg elt ifs g (cnT W dt) (cn W de) :=
 ⟨calm,kind,loc,free,cap,keep,fun cells C fp s H _=>⟨(run cells C fp s H).1,(run cells C fp s H).2.1.h,(run cells C fp s H).2.2.h⟩⟩
theorem SY {pn:List (D×V)}{M:Addr->Prop}{b:Option Addr}{H:Hp}{σ:St}{ρ:Ev}{J:It}{need:List (D×V)}{items:List D}{g:TG}{gd:D->Ev->(Ev->Prop)->Prop}{dt:DT3}{de:DE3}{P:List D->Om}{Fin:List V->Hp->Prop}
 (hG:GD W g gd) (st:Sta W pn M b H σ ρ) (hp:items.all plain=true) (hI:IN W J need items) (hn:∀ q∈need,RepX W M b H q.1 q.2) (hl:items.length<=1000) (h:compI3 gd dt de ρ items P (cnt b H))
 (fin:∀ ds acc H',P ds (cnt b H')->Reps W.K M H' ds acc->acc.length<=sizeLine->Kp b H H'->okB W.B b H'->Fin acc H'):∃ Wf:Nat->Nat->List V->Hp->Prop,(∃ m,Wf 0 m [] H)/\ND J g (cnT W dt) (cn W de) σ Fin Wf:=by
 obtain ⟨I,i0,istep,idone⟩:=h
 refine ⟨fun i m acc H2=>m=items.length - i/\i<=items.length/\acc.length<=i/\Kp b H H2/\okB W.B b H2/\∃ ds,Reps W.K M H2 ds acc/\I i ds (cnt b H2),⟨items.length,by simp,W1 _,B9 _,Kp.refl _ _,st.ok,[],rfl,i0⟩,?_⟩
 rintro i m acc H2 ⟨rfl,hi,ha,k2,o2,ds,r,q⟩
 have st2:=st.step k2 o2
 obtain ⟨hgo,hstop⟩:=hI M b H2 st2.toHs fun q hq=>(hn q hq).step st.bagM k2
 by_cases hlt:i<items.length
 · have ei:items[i]?=some items[i]:=L4 hlt
   replace q:=istep i _ ds _ ei q
   refine .inr ⟨(hgo i _ ei).1,by have:=BP;omega,fun acc' H'=>acc'.length<=i+1/\Kp b H H'/\okB W.B b H'/\∃ ds,Reps W.K M H' ds acc'/\I (i+1) ds (cnt b H'),fun acc' H' n=>⟨items.length - (i+1),by omega,rfl,hlt,n⟩,fun x H3 y=>?_⟩
   obtain ⟨S3,rx⟩:=(hgo i _ ei).2 x H3 y
   have o3:okB W.B b H3:=fun p e=>W.B.st p H2 H3 (o2 p e) fun o e'=>S3 p o e'
   have k3:Kp b H2 H3:=Kp.same S3
   have c3:cnt b H3=cnt b H2:=DP o2 (Kp.same S3)
   have st3:=st2.step k3 o3
   rw [<- c3] at q
   refine hG pn M b H3 σ ρ items[i] x _ _ st3 rx (R5.mp hp _ (U6 hlt)) q fun ρ1 σ1 h1 st4 _=>?_
   refine ⟨pn,M,b,ρ1,_,st4,h1,fun c H5 h5 k5 o5=>?_⟩
   cases h5 with
   | t e h5 =>
     rw [if_pos e]
     refine ⟨pn,M,b,ρ1,_,st4.step k5 o5,h5,fun y v H6 h6 ry k6 o6=>?_⟩
     have kk:=((k3.trans k5).trans k6)
     refine ⟨by simp;omega,k2.trans kk,o6,ds++[y],Reps.append (Reps.keep (fun c o n e=>kk c o (fun z=>n (st.bagM c z)) e) _ _ r) ⟨v,[],rfl,ry.rep h6.1,rfl⟩,h6.2⟩
   | f e h5 =>
     rw [if_neg (by rw [e];exact B7)]
     have kk:=k3.trans k5
     exact ⟨by omega,k2.trans kk,o5,ds,Reps.keep (fun c o n e=>kk c o (fun z=>n (st.bagM c z)) e) _ _ r,h5⟩
 · have e:i=items.length:=by omega
   subst e
   exact .inl ⟨hstop _ (B9 _),by have:=BP;omega,fin ds acc H2 (idone _ _ q) r (by have:=BP;omega) k2 o2⟩
def Q0z (map:List (Option Nat))(gd:D->Ev->(Ev->Prop)->Prop)(di:DA3)(dt:DT3)(de:DE3):DE3:=fun ρ P=>di ρ fun items n=>items.length<=1000/\compI3 gd dt de (JH ρ map) items (fun acc=>P (.lst acc)) n
theorem J2y {elt iter:Expr}{ifs:List Expr}{scope:Scope}{N':List Str}{map:List (Option Nat)}{g:TG}{gd:D->Ev->(Ev->Prop)->Prop}{di:DA3}{dt:DT3}{de:DE3}(hG:GD W g gd)(B:Blk X N' scope map tg elt ifs g (cnT W dt) (cn W de))(hi:CJI X W false tg iter di)(hs:∀ x,foldedSetIterable iter X.env x=pure x:=by intro _;rfl):CJE X W (.ListComp elt [⟨tg,iter,ifs,0⟩] scope pos) (Q0z map gd di dt de):=⟨(WE B hi.h hs).mono fun σ H Q hh=>hh.elim fun pn M b ρ P st h k=>by
 refine ⟨pn,M,b,ρ,_,st,h,fun items J need H1 hx hp hI hn k1 o1=>?_⟩
 have st1:=st.step k1 o1
 refine SY hG (st1.capt map) hp hI (fun q hq=>(hn q hq).1) hx.1 hx.2 fun ds acc H' hP r hl k2 o2 D hD=>?_
 exact k _ _ _ (by rw [LN o2 hD];exact hP) (GG (st1.step k2 o2).toHs r hD) ((k1.trans k2).trans (Kp.upd hD)) ((st1.step k2 o2).okU hD)⟩
end
structure DEnds3 where
 nx:Ev->Om
 rt:D->Om
 bk:Ev->Om:=fun _ _=>False
 ct:Ev->Om:=fun _ _=>False
 ro:List D->Om:=fun _ _=>False
abbrev DS3:=DEnds3->Ev->Om
structure Link3 (W:Wd)(pn:List (D×V))(E:Ends)(F:DEnds3):Prop where
 nx:∀ M b ρ σ H,StS W pn M b H σ ρ->F.nx ρ (cnt b H)->E.nx σ H
 rt:∀ d v H n,F.rt d n->(∀ p,W.b0=some p->n=cnt W.b0 H)->Rep W.K W.M0 H d v->Kp W.b0 W.H0 H->okB W.B W.b0 H->E.rt v H
 bk:∀ M b ρ σ H,StS W pn M b H σ ρ->F.bk ρ (cnt b H)->E.bk σ H
 ct:∀ M b ρ σ H,StS W pn M b H σ ρ->F.ct ρ (cnt b H)->E.ct σ H
 ro:∀ xs a vs H n,F.ro xs n->(∀ p,W.b0=some p->n=cnt W.b0 H)->W.H0 a=none->¬ W.M0 a->H a=some (.lst vs)->Reps W.K W.M0 H xs vs->Kp W.b0 W.H0 H->okB W.B W.b0 H->E.rt (.ref a) H
def sn3 (W:Wd)(d:DS3):TS:=fun E σ H=>∃ pn M b ρ F,StS W pn M b H σ ρ/\Link3 W pn E F/\d F ρ (cnt b H)
theorem sn3.elim {W:Wd}{d:DS3}{E:Ends}{σ:St}{H:Hp}{Z:Prop}(h:sn3 W d E σ H)(f:∀ pn M b ρ F,StS W pn M b H σ ρ->Link3 W pn E F->d F ρ (cnt b H)->Z):Z:=by
 obtain ⟨pn,M,b,ρ,F,s,l,h⟩:=h
 exact f pn M b ρ F s l h
structure CJS (X:Cx)(W:Wd)(st:Stmt)(d:DS3):Prop where
 h:PS X st (sn3 W d)
structure CJSs (X:Cx)(W:Wd)(st:List Stmt)(d:DS3):Prop where
 h:PSs X st (sn3 W d)
theorem Sta.cnt0 {W:Wd}{pn:List (D×V)} {H:Hp}{σ:St}{ρ:Ev}(s:Sta W pn M b H σ ρ):∀ p,W.b0=some p->cnt b H=cnt W.b0 H:=fun p e=>by
 rcases s.new with q|⟨q,_⟩
 · rw [q]
 · rw [q] at e;cases e
section
variable {X:Cx}{W:Wd}{e a b c tg iter l:Expr}{es:List Expr}{pos p:Pos}{d db de:DE3}{dA di:DA3}{dt:DT3}{st:Stmt}{rest sts:List Stmt}{d1 d2:DS3}{t:TS}
def Q0x:DS3:=fun F ρ=>F.nx ρ
def Q4s (d1 d2:DS3):DS3:=fun F ρ=>d1 { F with nx:=d2 F } ρ
theorem EK:CJSs X W [] Q0x:=⟨LI.mono fun E σ H hh=>hh.elim fun pn M b ρ F s l h=>l.nx _ _ _ _ _ s h⟩
theorem Y5 (h:CJS X W st d1):CJSs X W [st] d1:=⟨EV h.h⟩
theorem V5 (h1:CJS X W st d1)(h2:CJSs X W rest d2):CJSs X W (st::rest) (Q4s d1 d2):=⟨(AX h1.h h2.h).mono fun E σ H hh=>hh.elim fun pn M b ρ F s l h=>⟨pn,M,b,ρ,{ F with nx:=d2 F },s,⟨fun M b ρ σ H s' h'=>⟨pn,M,b,ρ,F,s',l,h'⟩,l.rt,l.bk,l.ct,l.ro⟩,h⟩⟩
def Q3o (de:DE3):DS3:=fun F ρ=>de ρ fun x n=>match x with|.own xs=>F.rt (.lst xs) n|.bag=>False|.frg _ _=>False|x=>F.rt x n
theorem CQ (he:CJE X W e de):CJS X W (.Return (some e) pos) (Q3o de):=⟨(JR he.h).mono fun E σ H hh=>hh.elim fun pn M b ρ F s l h=>by
 refine ⟨pn,M,b,ρ,_,s.toSta,h,fun x v H' hx rx k o=>?_⟩
 have s':=s.toSta.step k o
 cases x
 case own xs =>
  obtain ⟨a,vs,rfl,m,n,n0,m0,hh,r⟩:=rx
  exact l.rt _ _ H' _ hx s'.cnt0 ⟨a,vs,rfl,⟨m0,hh⟩,Reps.avoid (fun c m=>.inl (s'.m0 c m)) _ _ r⟩ s'.kp s'.ok0
 case bag=>exact hx.elim
 case frg=>exact hx.elim
 all_goals exact l.rt _ _ H' _ hx s'.cnt0 (VZ s'.toHs (RepX.rep rx rfl)) s'.kp s'.ok0⟩
def Q3q (dt:DT3)(d1 d2:DS3):DS3:=fun F ρ=>dt ρ fun c n=>IfP c (d1 F ρ n) (d2 F ρ n)
theorem EA {s1 s2:List Stmt}(hc:CJT X W c dt)(ha:CJSs X W s1 d1)(hb:CJSs X W s2 d2):CJS X W (.If c s1 s2 pos) (Q3q dt d1 d2):=⟨(WA hc.h ha.h hb.h).mono fun E σ H hh=>hh.elim fun pn M b ρ F s l h=>by
 refine ⟨pn,M,b,ρ,_,s.toSta,h,fun x H' hx k o=>?_⟩
 cases hx with
 | t e hx=>rw [if_pos e];exact ⟨pn,M,b,ρ,F,s.step k o,l,hx⟩
 | f e hx=>rw [if_neg (by rw [e];exact B7)];exact ⟨pn,M,b,ρ,F,s.step k o,l,hx⟩⟩
def J3b (de:DE3)(gd:D->Ev->(Ev->Prop)->Prop):DS3:=fun F ρ=>de ρ fun x n=>plain x=true/\gd x ρ fun ρ'=>F.nx ρ' n
theorem WY {g:TG}{gd:D->Ev->(Ev->Prop)->Prop}(hG:GD W g gd):∀ E σ H,sn3 W (J3b de gd) E σ H->ZT (cn W de) g E σ H:=fun E σ H hh=>hh.elim fun pn M b ρ F s l h=>by
 refine ⟨pn,M,b,ρ,_,s.toSta,h,fun x v H' hx rx k o=>?_⟩
 exact hG pn M b H' σ ρ x v E.nx _ (s.toSta.step k o) rx hx.1 hx.2 fun ρ' σ' hp st' ho=>l.nx _ _ _ _ _ (s.of st' ho) hp
theorem BB {i:Nat} {x:Str} {pos':Pos} (hN:X.N.Nodup) (hi:X.N[i]?=some x) (hx:Loc X.env.scope x) (he:CJE X W e de) (hs:swapsWith e (some (.Name x pos')) pos.line X.env=pure false:=by rfl) (hf:X.fn x=true\/X.env.scope.names.lookup x=some .local:=by first|exact .inl rfl|exact .inr rfl|assumption) :
 CJS X W (.Assign [.Name x pos'] e pos) (J3b de (gdN i)):=⟨(DK hN hi hx he.h hs hf).mono (WY (Z3 i))⟩
theorem XA {g:TG}{gd:D->Ev->(Ev->Prop)->Prop}(hG:GD W g gd)(he:CJE X W e de)(hg:PG X tg g)(hs:swapsWithSole [tg] e pos.line X.env=pure false:=by rfl)(hw:swappedStores [tg] e X.env=pure none:=by rfl)
 (h1:(assignEach [tg] X.env).map (·.2)=[assign tg X.env]:=by rfl):CJS X W (.Assign [tg] e pos) (J3b de gd):=⟨(JU he.h hg hs hw h1).mono (WY hG)⟩
def Q0w (i:Nat)(dA:DA3):DS3:=fun F ρ=>dA ρ fun xs n=>DY xs=true/\F.nx (ρ.set i (some (.own xs))) n
theorem J2v {i:Nat} {x:Str} {pos' lpos:Pos} (hN:X.N.Nodup) (hi:X.N[i]?=some x) (hx:Loc X.env.scope x) (ha:CJA X W es dA) (hs:swapsWith (.List es lpos) (some (.Name x pos')) pos.line X.env=pure false:=by rfl) (hf:X.fn x=true\/X.env.scope.names.lookup x=some .local:=by first|exact .inl rfl|exact .inr rfl|assumption) :
 CJS X W (.Assign [.Name x pos'] (.List es lpos) pos) (Q0w i dA):=⟨(DK hN hi hx (MH ha.h) hs hf).mono fun E σ H hh=>hh.elim fun pn M b ρ F s l h=>by
 refine ⟨pn,M,b,ρ,_,s.toSta,h,fun xs vs H' hx rx k o=>?_⟩
 have rr:=rx.reps _ _ (DY.pl hx.1)
 exact ⟨by rw [rr.length];exact DY.len hx.1,fun q hq=>l.nx _ _ _ _ _ ((s.step k o).newOwn i rr hq) (by rw [LN o hq];exact hx.2)⟩⟩
theorem OL {b:Option Addr}{H:Hp}{q:Addr}{o:HO}(h:b≠some q):cnt b (upd H q o)=cnt b H:=by
 cases b with
 | none=>rfl
 | some p =>
   show HF p (upd H q o)=HF p H
   unfold HF
   rw [V7 (show p≠q from fun z=>h (by rw [z]))]
def J3c (i:Nat)(dA:DA3):DS3:=fun F ρ n=>match ρ[i]? with
 | some (some (.own ys))=>dA ρ (fun xs n=>(match xs with | [y]=>(plain y&&decide (ys.length<1000))=true/\F.nx (ρ.set i (some (.own (ys++[y])))) n|_=>False)) n
 | _=>False
theorem J6e {i:Nat}:∀ E σ H,sn3 W (J3c i dA) E σ H->RM (tBM W.K "list" HQ (HX i) (cnA W dA)) E σ H:=fun E σ H hh=>hh.elim fun pn M b ρ F s l h=>by
 unfold J3c at h
 split at h
 case h_2=>exact h.elim
 case h_1 ys e =>
  obtain ⟨a,vs,ea,nb,hh,r⟩:=CU s.toSta e
  refine ⟨.ref a,ea,.inl ⟨rfl,vs,SqL.of hh⟩,pn,M,b,ρ,_,s.toSta,h,fun xs us H' hx rx k o=>?_⟩
  match xs,hx with
  | [y],hx =>
    obtain ⟨u,rfl,ru⟩:=rx1 rx
    obtain ⟨p1,p2⟩:=(L5 _ _).mp hx.1
    have p2:=T0 p2
    have s':=s.step k o
    obtain ⟨a',vs',ea',nb',hh',r'⟩:=CU s'.toSta e
    rw [ea] at ea';cases ea'
    refine ⟨a,vs',u,rfl,rfl,hh',by rw [r'.length];have:=BP;omega,l.nx _ _ _ _ _ (s'.setOwn i e ea (Reps.append r' (show Reps W.K M H' [y] [u] from ⟨u,[],rfl,ru.rep p1,rfl⟩))) (by rw [OL nb];exact hx.2)⟩
theorem VF {i:Nat}{x:Str}{e:Expr}{npos apos cpos:Pos}(hK:X.K=W.K)(hN:X.N[i]?=some x)(hv:Vis X.env.scope x)(ha:CJA X W [e] dA)
 (h:PE X (.Call (.Attribute (.Name x npos) "append" apos) [e] [] cpos) (tBM X.K "list" HQ (HX i) (cnA W dA))) (hs:swapsWith (.Call (.Attribute (.Name x npos) "append" apos) [e] [] cpos) none pos.line X.env=pure false:=by rfl) :
 CJS X W (.Expr (.Call (.Attribute (.Name x npos) "append" apos) [e] [] cpos) pos) (J3c i dA):=⟨(IW (by rw [hK] at h;exact h) hs).mono J6e⟩
def VN (i:Nat)(de dk:DE3):DS3:=fun F ρ n=>match ρ[i]? with
 | some (some (.own ys))=>de ρ (fun x=>dk ρ fun k n=>(match k with|.int k=>plain x=true/\(ixN ys.length k).elim False fun j=>F.nx (ρ.set i (some (.own (ys.set j x)))) n|_=>False)) n
 | _=>False
theorem J2r {i:Nat}{dk:DE3}:∀ E σ H,sn3 W (VN i de dk) E σ H->ZT (cn W de) (J1y (HX i) (cn W dk) RW) E σ H:=fun E σ H hh=>hh.elim fun pn M b ρ F s l h=>by
 unfold VN at h
 split at h
 case h_2=>exact h.elim
 case h_1 ys e =>
  obtain ⟨a,vs,ea,nb,hh,r⟩:=CU s.toSta e
  refine ⟨pn,M,b,ρ,_,s.toSta,h,fun x v H1 hx rx k1 o1=>⟨.ref a,ea,pn,M,b,ρ,_,s.toSta.step k1 o1,hx,fun y u H2 hy ry k2 o2=>?_⟩⟩
  cases y<;>first|exact hy.elim|skip
  case int k =>
   cases (show _=_ from ry)
   have s':=(s.step k1 o1).step k2 o2
   obtain ⟨a',vs',ea',nb',hh',r'⟩:=CU s'.toSta e
   rw [ea] at ea';cases ea'
   obtain ⟨hp,hy⟩:=hy
   cases q:ixN ys.length k with
   | none=>rw [q] at hy;exact hy.elim
   | some j =>
     rw [q] at hy
     exact ⟨a,vs',k,j,rfl,rfl,hh',by rw [r'.length];exact q,l.nx _ _ _ _ _ (s'.setOwn i e ea (Reps.set ((rx.step s.bagM k2).rep hp) j r')) (by rw [OL nb];exact hy)⟩
theorem J2u {i:Nat}{x:Str}{n:Expr}{dk:DE3}{npos tpos:Pos}(hN:X.N[i]?=some x)(hv:Vis X.env.scope x)(he:CJE X W e de)(hk:CJE X W n dk)(hg:PG X (.Subscript (.Name x npos) n tpos) (J1y (HX i) (cn W dk) RW))
 (hs:swapsWithSole [.Subscript (.Name x npos) n tpos] e pos.line X.env=pure false:=by rfl) (hw:swappedStores [.Subscript (.Name x npos) n tpos] e X.env=pure none:=by rfl)
 (h1:(assignEach [.Subscript (.Name x npos) n tpos] X.env).map (·.2)=[assign (.Subscript (.Name x npos) n tpos) X.env]:=by rfl):CJS X W (.Assign [.Subscript (.Name x npos) n tpos] e pos) (VN i de dk):=⟨(JU he.h hg hs hw h1).mono J2r⟩
inductive forI3 (gd:D->Ev->(Ev->Prop)->Prop)(db:DS3)(F:DEnds3)(items:List D)(ρ:Ev)(n0:Nat):Prop
 | mk (I:Nat->Ev->Om) (h0:I 0 ρ n0) (hs:∀ (i:Nat) x ρ n,items[i]?=some x->I i ρ n->gd x ρ fun ρ1=>db { F with nx:=I (i+1),ct:=I (i+1),bk:=F.nx } ρ1 n) (hd:∀ ρ n,I items.length ρ n->F.nx ρ n):forI3 gd db F items ρ n0
def J7l (gd:D->Ev->(Ev->Prop)->Prop)(di:DA3)(db:DS3):DS3:=fun F ρ=>di ρ fun items n=>forI3 gd db F items ρ n
theorem J6d {g:TG}{gd:D->Ev->(Ev->Prop)->Prop}{db:DS3}(hG:GD W g gd):∀ E σ H,sn3 W (J7l gd di db) E σ H->J8e (cnI W true di) g (sn3 W db) E σ H:=fun E σ H hh=>hh.elim fun pn M b ρ F s l h=>by
 refine ⟨pn,M,b,ρ,_,s.toSta,h,fun items J need H1 hx hp hI hn k1 o1=>?_⟩
 have s1:=s.step k1 o1
 have pins:∀ q∈need++pn,PinR W M b H1 q.1 q.2:=fun q hq=>(T8.mp hq).elim (fun z=>(hn q z).1.pin ((hn q z).2 rfl)) fun z=>s1.pin q z
 obtain ⟨I,i0,istep,idone⟩:=hx
 refine ⟨fun i m σ H=>m=items.length - i/\i<=items.length/\∃ M b ρ,StS W (need++pn) M b H σ ρ/\I i ρ (cnt b H),⟨items.length,by simp,W1 _,M,b,ρ,⟨s1.toSta.pins pins,s1.dj,fun ys a hq=>(T8.mp hq).elim (fun z=>by have:=(hn _ z).2 rfl;cases this) fun z=>s1.lj ys a z⟩,i0⟩,?_⟩
 rintro i m σ2 H2 ⟨rfl,hi,M2,b2,ρ2,s2,q⟩
 have unp:∀ {M b ρ σ H},StS W (need++pn) M b H σ ρ->StS W pn M b H σ ρ:=fun s=>⟨s.toSta.pins fun q hq=>s.pin q (B2 _ hq),s.dj,fun ys a hq=>s.lj ys a (B2 _ hq)⟩
 obtain ⟨hgo,hstop⟩:=hI M2 b2 H2 s2.toHs fun q hq=>(s2.pin q (R4 _ hq)).x
 by_cases hlt:i<items.length
 · have ei:items[i]?=some items[i]:=L4 hlt
   replace q:=istep i _ ρ2 _ ei q
   refine .inr ⟨(hgo i _ ei).1,fun σ' H'=>∃ M b ρ,StS W (need++pn) M b H' σ' ρ/\I (i+1) ρ (cnt b H'),fun σ' H' n=>⟨items.length - (i+1),by omega,rfl,hlt,n⟩,fun x H3 y=>?_⟩
   obtain ⟨S3,rx⟩:=(hgo i _ ei).2 x H3 y
   have o3:okB W.B b2 H3:=fun p e=>W.B.st p H2 H3 (s2.ok p e) fun o e'=>S3 p o e'
   have c3:cnt b2 H3=cnt b2 H2:=DP s2.ok (Kp.same S3)
   rw [<- c3] at q
   have s3:=s2.step (Kp.same S3) o3
   refine hG (need++pn) M2 b2 H3 σ2 ρ2 items[i] x _ _ s3.toSta rx (R5.mp hp _ (U6 hlt)) q fun ρ1 σ1 h1 st4 ho=>?_
   exact ⟨need++pn,M2,b2,ρ1,{ F with nx:=I (i+1),ct:=I (i+1),bk:=F.nx },s3.of st4 ho,⟨fun M b ρ σ H s' h'=>⟨M,b,ρ,s',h'⟩,l.rt,fun M b ρ σ H s' h'=>l.nx _ _ _ _ _ (unp s') h',fun M b ρ σ H s' h'=>⟨M,b,ρ,s',h'⟩,l.ro⟩,h1⟩
 · have e:i=items.length:=by omega
   subst e
   exact .inl ⟨hstop _ (B9 _),l.nx _ _ _ _ _ (unp s2) (idone _ _ q)⟩
theorem LO {g:TG}{gd:D->Ev->(Ev->Prop)->Prop}{db:DS3}{body:List Stmt}(hG:GD W g gd)(hp:PassesOwn (model X.prog X.w) X.A X.env X.xe)(hc:X.calm=true)(hi:CJI X W true tg iter di)(hg:PG X tg g)(hb:CJSs X W body db)
 (hs:∀ x,foldedSetIterable iter X.env x=pure x:=by intro _;rfl):CJS X W (.For tg iter body [] pos) (J7l gd di db):=⟨(J0l hp hc hi.h hg hb.h hs).mono (J6d hG)⟩
def J7k (i:Nat)(d:DS3):DS3:=fun F ρ n=>match ρ[i]? with|some (some (.own xs))=>d F (ρ.set i (some (.lst xs))) n|_=>False
theorem MY (i:Nat)(h:CJSs X W sts d1):CJSs X W sts (J7k i d1):=⟨h.h.mono fun E σ H hh=>hh.elim fun pn M b ρ F s l h=>by
 unfold J7k at h
 split at h
 case h_2=>exact h.elim
 case h_1 xs e =>
  obtain ⟨v,e1,a,us,rfl,m1,m2,m3,m4,hh,r⟩:=s.env i _ e
  have st:Sta W pn (fun c=>M c/\c≠a) b H σ (ρ.set i none):=by
   refine Sta.avoid (M:=M) ⟨s.toHs,s.kp,s.new,fun j d e'=>?_,by simp [s.len],s.pin⟩ (fun c m=>m.1) (fun p z=>⟨s.bagM p z,fun y=>m2 (by rw [<- y];exact z)⟩) (fun c m=>⟨s.m0 c m,fun y=>m4 (by rw [<- y];exact m)⟩) (fun j d' v' c' e' e2 mm=>?_) fun ys a' hq=>⟨by
    obtain ⟨a2,us2,ev,n1,_⟩:=(s.pin _ hq)
    cases ev;exact n1,fun y=>s.lk ys a' hq i xs e (by rw [y];exact e1)⟩
   · by_cases z:i=j
     · subst z;rw [M5] at e';simp at e'
     · rw [L6 z] at e';exact s.env j d e'
   · by_cases z:i=j
     · subst z;rw [M5] at e';simp at e'
     · rw [L6 z] at e'
       obtain ⟨v3,e3,r3⟩:=s.env j _ e'
       rw [e2] at e3;cases e3
       exact ⟨(r3.mine mm).1,fun y=>z (s.dj i j _ _ _ _ a e e' e1 e2 rfl (by rw [<- y];exact mm))⟩
  have st2:=st.set (x:=.lst xs) (v:=.ref a) i ⟨a,us,rfl,⟨fun m=>m.2 rfl,hh⟩,Reps.avoid (fun c m=>.inl m.1) _ _ r⟩
  have eσ:σ.set i (some (.ref a))=σ:=by
   apply List.ext_getElem?
   intro n
   by_cases z:i=n
   · subst z;rw [M5,e1];simp;exact (B6.mp e1).1
   · rw [L6 z]
  rw [eσ,List.set_set] at st2
  refine ⟨pn,_,b,_,F,s.of st2 fun j ys hm e'=>?_,l,h⟩
  by_cases z:i=j
  · subst z;rw [M5] at e';simp at e';rw [<- e'.2] at hm;cases hm
  · rw [L6 z] at e';exact ⟨e',rfl⟩⟩
def RE (K:Fg)(B:BagT)(pre:List D->Prop):Sp:=fun vs H Q _=>∃ (M:Addr->Prop) (b:Option Addr) (ds:List D),RepAs K M b H ds vs/\pre ds/\∀ p H1,H p=none->Same H H1->B.ok p H1->HF p H1=0->Q (.ref p) H1
def Q3r (i:Nat)(pre:List D->Prop)(dA:DA3):DS3:=fun F ρ=>dA ρ fun ds _=>ds.all BF=true/\pre ds/\F.nx ((BH ρ).set i (some .bag)) 0
theorem J6f {spos:Pos}{x f:Str}{k:Nat}{ps:List Str}{pre:List D->Prop}{i:Nat}{pos':Pos}(hb0:W.b0=none)(hN:X.N.Nodup)(hi:X.N[i]?=some x)(hx:Loc X.env.scope x)(G:Callee X.prog X.w X.K X.mg X.base CX0 f k ps (RE W.K W.B pre))(hr:Room k X.A)(hg:Gl X f)(ha:CJA X W (e::es) dA)
 (hdb:(f==("__debug__" : Str))=false:=by decide) (he:starEach (e::es) X.env=(false,eval e X.env)::starEach es X.env:=by rfl) (hpl:(backTo pos (starEach es X.env)).any (·.1)=false:=by rfl)
 (hs:swapsWith (.Call (.Name f p) (e::es) [] pos) (some (.Name x pos')) spos.line X.env=pure false:=by rfl) (hf:X.fn x=true\/X.env.scope.names.lookup x=some .local:=by first|exact .inl rfl|exact .inr rfl|assumption) :
 CJS X W (.Assign [.Name x pos'] (.Call (.Name f p) (e::es) [] pos) spos) (Q3r i pre dA):=⟨(DK hN hi hx (PV G hr hg ha.h hdb he hpl) hs hf).mono fun E σ H hh=>hh.elim fun pn M b ρ F s l h=>by
 refine ⟨pn,M,b,ρ,_,s.toSta,h,fun ds vs H' hx rx k o=>?_⟩
 have s1:=s.step k o
 refine ⟨M,b,ds,by rw [E7];exact rx.args _ _ hx.1,hx.2.1,fun q H1 hq S ok c0=>?_⟩
 have rep:∀ d v,Rep W.K M H' d v->Rep W.K (fun c=>M c\/c=q) H1 d v:=fun d v r=>Rep.keep (fun c o _ e=>S c o e) _ _ (Rep.avoid (fun c hc=>hc.imp id fun z=>by rw [z];exact hq) _ _ r)
 have reps:∀ d v,Reps W.K M H' d v->Reps W.K (fun c=>M c\/c=q) H1 d v:=fun d v r=>Reps.keep (fun c o _ e=>S c o e) _ _ (Reps.avoid (fun c hc=>hc.imp id fun z=>by rw [z];exact hq) _ _ r)
 have h0:W.H0 q=none:=by
  cases z:W.H0 q with
  | none=>rfl
  | some o =>
    have:=s1.kp q o (by rw [hb0];intro y;cases y) z
    rw [hq] at this;cases this
 have st1:Sta W pn (fun c=>M c\/c=q) (some q) H1 σ (BH ρ):=by
  refine ⟨⟨fun p e=>by cases e;exact ok,fun p e=>by cases e;exact .inr rfl,fun c hc=>?_,fun c m=>.inl (s1.m0 c m)⟩,fun c o n e=>S c o (s1.kp c o n e),.inr ⟨hb0,fun p e=>by cases e;exact h0⟩,fun j d e=>?_,by simp [BH,s.len],fun q' hq'=>(s1.pin q' hq').to rep reps fun xs a vs _ _ m n hh=>⟨.inl m,(fun z=>by cases z;rw [hq] at hh;cases hh),S _ _ hh⟩⟩
  · rcases hc with hc|hc
    · obtain ⟨o,e⟩:=s1.dom c hc;exact ⟨o,S c o e⟩
    · rw [hc];exact W.B.dm q H1 ok
  · obtain ⟨e1,nb⟩:=BG e
    obtain ⟨v,e2,r⟩:=s1.env j d e1
    refine ⟨v,e2,?_⟩
    cases d
    case own xs =>
     obtain ⟨a,us,rfl,m1,m2,m3,m4,hh,r'⟩:=r
     have nq:some q≠some a:=fun z=>by
      cases z
      rw [hq] at hh
      cases hh
     exact ⟨a,us,rfl,.inl m1,nq,m3,m4,S _ _ hh,reps _ _ r'⟩
    case bag=>exact absurd rfl nb
    case frg f _=>exact RepX.move r (fun c _ m n=>⟨.inl m,fun z=>by cases z;exact s1.toHs.new hq m⟩) (fun c o _ e=>S c o e) fun c hc=>hc.imp id fun z=>by rw [z];exact hq
    all_goals exact rep _ _ r
 refine l.nx _ _ _ _ _ (s1.of (st1.set (x:=.bag) (v:=.ref q) i ⟨q,rfl,rfl⟩) fun j xs hm e=>?_) (by show F.nx _ (HF q H1);rw [c0];exact hx.2.2)
 by_cases z:i=j
 · subst z
   rw [M5] at e
   simp at e
   rw [<- e.2] at hm;cases hm
 · rw [L6 z] at e
   exact ⟨(BG e).1,by rw [L6 z]⟩⟩
end
theorem J2a {B:BagT} {N:List Str}{ds:List D}{vs:List V}{H:Hp}{Q:VK}{P:D->Om}{d:DS3}(hr:RepAs K M b H ds vs)(ho:okB B b H)(hb:∀ p,b=some p->M p)(hd:∀ c,M c->∃ o,H c=some o)(hq:∀ d v H' n,P d n->(∀ p,b=some p->n=cnt b H')->Rep K M H' d v->Kp b H H'->okB B b H'->Q v H')
 (h:d { nx:=fun _=>P .non,rt:=P } (DB N ds) (cnt b H)):sn3 ⟨K,B,H,M,b⟩ d { nx:=fun _ H'=>Q .non H',rt:=Q } (EO N vs) H :=
 ⟨[],M,b,DB N ds,{ nx:=fun _=>P .non,rt:=P },J7c hr ho hb hd,⟨fun M b ρ σ H s h=>hq .non .non _ _ h s.cnt0 rfl s.kp s.ok0,fun d v H n h c r k o=>hq d v H n h c r k o,fun _ _ _ _ _ _ h=>h.elim,fun _ _ _ _ _ _ h=>h.elim,fun _ _ _ _ _ h=>h.elim⟩,h⟩
theorem Z5.len {B:BagT}{S:LC}{m:Nat}(h:∀ ds P n,S ds P n->ds.length=m):∀ vs H Q E,Z5 K B S vs H Q E->vs.length=m:=fun vs H Q E ⟨M,b,ds,P,hS,hr,_⟩=>by rw [hr.length];exact h _ _ _ hS
theorem Fun.okC {P:Program}{w:World} {mg:Str->Option Value}{base:Heap}{x qual:Str}{st:Stmt}{f:Addr} {N ps:List Str}{k:Nat}{B:BagT}{Sd:LC}(F:Fun K x qual st f fd)(S:FnScope N ps (J5 st))(len:∀ ds PP n,Sd ds PP n->ds.length=ps.length/\D.bag∈ds)
 (hbody:∀ (cdv:Value) (A:Around) (outer:List Env) (s:Shared) (H:Hp) (E:XK) (M:Addr->Prop) (bg:Option Addr) (ds:List D) (PP:D->Om) (n:Nat),Room k (A.deeper (envOfC qual (J5 st) s.heap.objs.size f cdv))->Sd ds PP n ->
  ∃ d,CJSs (DR CX0 P w K mg base N qual (J5 st) f cdv A outer s H E).nox ⟨K,B,H,M,bg⟩ (CP st) d/\d { nx:=fun _=>PP .non,rt:=PP } (DB N ds) n):FnOk P w K mg base CX0 (k+1) f fd ps (Z5 K B Sd) :=
 F.ok S (Z5.len fun ds PP n h=>(len ds PP n h).1) fun cdv A outer s H vs Q E hr h=>by
  obtain ⟨M,bg,ds,PP,hS,hR,ho,hb,hd,hq⟩:=h
  obtain ⟨d,J,q⟩:=hbody cdv A outer s H E M bg ds PP _ hr hS
  have hbg:∃ p,bg=some p:=by
   have hm:=(len ds PP _ hS).2
   obtain ⟨i,hi,ei⟩:=List.getElem_of_mem hm
   obtain ⟨v,_,r⟩:=hR.get (i:=i) (d:=.bag) (by rw [L4 hi,ei])
   obtain ⟨p,e,_⟩:=r
   exact ⟨p,e⟩
  obtain ⟨p,ep⟩:=hbg
  exact ⟨_,J.h,J2a hR ho hb hd (fun d v H' n hP hc r k o=>hq d v H' (by rw [<- hc p ep];exact hP) r k o) q⟩
theorem Fun.okLC {P:Program}{w:World} {mg:Str->Option Value}{base:Heap}{x qual:Str}{st:Stmt}{f:Addr} {N:List Str}{p:Str}{k:Nat}(B:BagT)(F:Fun K x qual st f fd)(S:FnScope N [p] (J5 st))
 (hbody:∀ (cdv:Value) (A:Around) (outer:List Env) (s:Shared) (H:Hp) (E:XK) (ns:List Int),Room k (A.deeper (envOfC qual (J5 st) s.heap.objs.size f cdv))->ns.length<=63 ->
  ∃ d,CJSs (DR CX0 P w K mg base N qual (J5 st) f cdv A outer s H E).nox ⟨K,B,H,fun _=>False,none⟩ (CP st) d/\d { nx:=fun _ _=>D.non=.bl true,rt:=fun d _=>d=.bl true } (DB N [.scr ns]) 0) :
 FnOk P w K mg base CX0 (k+1) f fd [p] (fun vs H Q _=>∃ (a:Addr) (ns:List Int),vs=[.ref a]/\SqL K H a (ns.map V.int)/\ns.length<=63/\∀ H',Q (.bl true) H') :=
 F.ok S (fun vs H Q E h=>by obtain ⟨a,ns,rfl,_⟩:=h;rfl) fun cdv A outer s H vs Q E hr h=>by
  obtain ⟨a,ns,rfl,hS,hlen,k⟩:=h
  have hR:RepAs K (fun _=>False) none H [.scr ns] [.ref a]:=⟨.ref a,[],rfl,⟨a,rfl,hS.imp (fun q=>⟨id,q⟩) id⟩,rfl⟩
  obtain ⟨d,J,q⟩:=hbody cdv A outer s H E ns hr hlen
  exact ⟨_,J.h,J2a (P:=fun d _=>d=.bl true) hR (fun p e=>by cases e) (fun p e=>by cases e) (fun c m=>m.elim) (fun d v H' n hd _ r _ _=>by cases hd;cases (show _=_ from r);exact k H') q⟩
abbrev Q5f:=List D->(List D->Om)->Om
section
variable {X:Cx}{W:Wd}{tg a b:Expr}{pos p:Pos}{dA:DA3}{fz:Bool}
def J3a (dA:DA3):DA3:=fun ρ P=>dA ρ fun xs n=>match xs with
 | [.int i]=>(-(2 ^ 62)<=i/\i<2 ^ 62)/\P (DJ 0 i.toNat) n
 | _=>False
theorem VG (hg:Gl X "range") (hm:X.mg "range" = none) (ha:CJA X W [a] dA) (hs:starEach [a] X.env=[(false,eval a X.env)]:=by rfl):CJI X W fz tg (.Call (.Name "range" p) [a] [] pos) (J3a dA):=⟨(NY hg hm ha.h hs).mono fun σ H R hh=>hh.elim fun pn M b ρ P st h k=>by
 refine ⟨pn,M,b,ρ,_,st,h,fun xs vs H1 hx rx k1 o1=>?_⟩
 match xs,hx with
 | [.int i],hx =>
   obtain ⟨v1,r1,rfl,e1,rfl⟩:=rx
   cases (show _=_ from e1)
   exact ⟨i,rfl,hx.1.1,hx.1.2,k _ _ _ H1 hx.2 (IV _ _) SN (fun q hq=>by cases hq) k1 o1⟩⟩
end
def J5g (k:Nat)(y:Value)(xs:Array Value):Array Value:=(xs.extract 0 (min k xs.size)).push y++xs.extract (min k xs.size)
theorem QI (l:Addr)(items:Array Value)(n:Nat)(k:Nat)(u:Tok)(y:Value)(hc0:¬(!Builtin.List.listFitsIndex (k:Int))=true)(hs1:items.size<=sizeLine) :
 Meets (Builtin.«list.insert» ⟨[.ref l,.int k u,y],[]⟩) (fun _ R s=>s.heap.get? l=some { cls:=.type "list",dict:=none,data:=.seq items n,slots:=#[] }/\R (.ok (.ret Value.none)) { s with heap:=s.heap.update l (Obj.mapSeq (J5g k y)),toks:=s.toks }):=by
 have e:(fun xs:Array Value=>have j:=if (k:Int)<0 then ((k:Int)+(xs.size:Int)).toNat else min (k:Int).toNat xs.size;(xs.extract 0 j).push y++xs.extract j)=J5g k y:=by
  funext xs
  show ((xs.extract 0 (if (k:Int)<0 then ((k:Int)+(xs.size:Int)).toNat else min (k:Int).toNat xs.size)).push y++xs.extract (if (k:Int)<0 then ((k:Int)+(xs.size:Int)).toNat else min (k:Int).toNat xs.size))=_
  rw [if_neg (by omega),B0v]
  rfl
 rw [<- e]
 exact @AutoSeq1.list_insert_list_int_val_1 l items n (k:Int) u y hc0 hs1
theorem YU (k:Nat)(u:Value)(its:List Value)(h:k<=its.length):J5g k u its.toArray=(its.take k++u::its.drop k).toArray:=by
 unfold J5g
 rw [L3,Nat.min_eq_left h]
 apply Array.ext'
 simp
 exact E6 (by rw [B0j];exact B9 _)
section
variable {X:Cx}{W:Wd}{e e1 e2:Expr}{pos:Pos}{dA:DA}{x:Str}{k:Nat}
def PQ:V->List V->Hp->VK->Prop:=fun x vs H Q=>∃ (l:Addr) (xs:List V) (k:Nat) (y:V),x=.ref l/\vs=[.int k,y]/\H l=some (.lst xs)/\k<=xs.length/\xs.length<1000/\Q .non (upd H l (.lst (xs.take k++y::xs.drop k)))
theorem YI:MtM X "list.insert" PQ:=by
 intro pins s σ H x vs v us Q I rx rv h
 obtain ⟨l,xs,k,y,rfl,rfl,hH,hk,hz,q⟩:=h
 cases rx
 obtain ⟨u1,u,rfl,r1,ru⟩:=KI rv
 obtain ⟨t,rfl⟩:=r1
 obtain ⟨z,its,n,r,hl,e⟩:=I.lstM hH
 have hf:=fitsIndex_both (k:=(k:Int)) (by omega) (by omega)
 have hfit:¬(!Builtin.List.listFitsIndex (k:Int))=true:=by rw [show Builtin.List.listFitsIndex (k:Int)=true from hf];decide
 have hs1000:=BP
 have hsz:its.toArray.size<=sizeLine:=by rw [L3];omega
 have hm:=@QI l its.toArray n k t u hfit hsz
 refine call_meets F.slot_list_insert ⟨_,e,rfl⟩ F.entry_list_insert (F.args_list_insert_3 _ _ _) @hm ⟨e,?_⟩
 refine ⟨.non,_,I.lset (its':=its.take k++u::its.drop k) hH e ?_ ((r.take k).append (.cons ru (r.drop k))) ?_,rfl,q⟩
 · exact YU k u its (by omega)
 · rw [U4,U5,D4,B0j]
   omega
def Q0o (i:Nat)(dA:DA):DS:=fun F ρ=>match ρ[i]? with
 | some (some (.own ys))=>dA ρ fun xs=>(match xs with | [.int k,y]=>(plain y=true/\0<=k/\k<=ys.length/\ys.length<1000)/\F.nx (ρ.set i (some (.own (ys.take k.toNat++y::ys.drop k.toNat))))|_=>False)
 | _=>False
theorem J7u {i:Nat}:∀ E σ H,sn W (Q0o i dA) E σ H->RM (tBM W.K "list" PQ (HX i) (dnA W dA)) E σ H:=fun E σ H hh=>hh.elim fun pn M b ρ F s l h=>by
 unfold Q0o at h
 split at h
 case h_2=>exact h.elim
 case h_1 ys e =>
  obtain ⟨a,vs,ea,nb,hh,r⟩:=CU s.toSta e
  refine ⟨.ref a,ea,.inl ⟨rfl,vs,SqL.of hh⟩,pn,M,b,ρ,_,s.toSta,h,fun xs us H' hx rx k o=>?_⟩
  match xs,hx with
  | [.int n,y],hx =>
    obtain ⟨v1,u,rfl,r1,ru⟩:=rx2 rx
    cases (show _=_ from r1)
    obtain ⟨⟨p1,n0,n1,n2⟩,hx⟩:=hx
    have s':=s.step k o
    obtain ⟨a',vs',ea',nb',hh',r'⟩:=CU s'.toSta e
    rw [ea] at ea';cases ea'
    have hlen:=r'.length
    refine ⟨a,vs',n.toNat,u,rfl,by rw [show ((n.toNat:Nat):Int)=n by omega],hh',by omega,by omega,l.nx _ _ _ _ _ (s'.setOwn i e ea (Reps.append (Reps.take n.toNat r') (show Reps W.K M H' (y::ys.drop n.toNat) (u::vs'.drop n.toNat) from ⟨u,_,rfl,ru.rep p1,Reps.drop n.toNat r'⟩))) hx⟩
theorem UX {i:Nat}{y:Str}{npos apos cpos:Pos}(hK:X.K=W.K)(ha:JA X W [e1,e2] dA)
 (h:PE X (.Call (.Attribute (.Name y npos) "insert" apos) [e1,e2] [] cpos) (tBM X.K "list" PQ (HX i) (dnA W dA))) (hs:swapsWith (.Call (.Attribute (.Name y npos) "insert" apos) [e1,e2] [] cpos) none pos.line X.env=pure false:=by rfl) :
 JS X W (.Expr (.Call (.Attribute (.Name y npos) "insert" apos) [e1,e2] [] cpos) pos) (Q0o i dA):=⟨(IW (by rw [hK] at h;exact h) hs).mono J7u⟩
end
def RowsR (K:Fg)(M:Addr->Prop)(H:Hp):List Addr->List (List D)->Prop
 | [],rows=>rows=[]
 | r::rs,rows=>∃ row rest us,rows=row::rest/\H r=some (.lst us)/\Reps K M H row us/\RowsR K M H rs rest
section
variable {K:Fg}{M:Addr->Prop}{H:Hp}
theorem RowsR.length:∀ {rs:List Addr} {rows:List (List D)},RowsR K M H rs rows->rows.length=rs.length
 | [],_,h=>by rw [show _=[] from h];rfl
 | r::rs,rows,h=>by
   obtain ⟨row,rest,us,rfl,h1,h2,h3⟩:=h
   simp [RowsR.length h3]
theorem RowsR.lst:∀ {rs:List Addr} {rows:List (List D)},RowsR K M H rs rows->∀ r∈rs,∃ us,H r=some (.lst us)
 | [],_,_,r,m=>by cases m
 | r::rs,rows,h,r',m=>by
   obtain ⟨row,rest,us,rfl,h1,h2,h3⟩:=h
   rcases B4.mp m with z|z
   · rw [z];exact ⟨us,h1⟩
   · exact RowsR.lst h3 r' z
theorem RowsR.at:∀ {rs:List Addr} {rows:List (List D)} {k:Nat} {r:Addr},RowsR K M H rs rows->rs[k]?=some r->∃ row us,rows[k]?=some row/\H r=some (.lst us)/\Reps K M H row us
 | [],_,_,_,_,e=>by simp at e
 | _::rs,rows,0,r,h,e=>by
   obtain ⟨row,rest,us,rfl,h1,h2,h3⟩:=h
   simp at e;subst e
   exact ⟨row,us,rfl,h1,h2⟩
 | _::rs,rows,k+1,r,h,e=>by
   obtain ⟨row,rest,us,rfl,h1,h2,h3⟩:=h
   obtain ⟨row',us',e1,e2⟩:=RowsR.at (k:=k) h3 (by simpa using e)
   exact ⟨row',us',by simpa using e1,e2⟩
end
abbrev DSG:=List D->(List (List D)->Prop)->(Addr->Prop)->Prop
theorem MZ {B:BagT}{H0:Hp}{M0:Addr->Prop}{b0:Option Addr}:EB ⟨K,B,H0,M0,b0⟩ (fun xs H Q=>∃ y c t b,xs=[y,.ty c]/\(TyOf K H y t\/∃ a vs,y=.ref a/\KTp K a vs/\t=.type "tuple")/\PySem.W.kitOne K t (.type c)=some b/\Q (.bl b) H) (J8x K):=AF (W:=⟨K,B,H0,M0,b0⟩)
abbrev Q5e:=List D->(Frg->D->Om)->Om
structure Pc where
 (a:Addr) (f:Frg) (d:D)
abbrev Pc.g (p:Pc):D:=.frg p.f p.d
def Pc.at (p:Pc):Prop:=∀ M H v,p.f.R M H v->v=.ref p.a
def Q4u (ps:List Pc):List Addr:=ps.flatMap fun p=>p.f.ads
def J6u (ps ps':List Pc):Prop:=ps'.map (fun p=>(p.a,p.f.ads))=ps.map fun p=>(p.a,p.f.ads)
theorem J6u.get {ps ps':List Pc}{i:Nat}{p':Pc}(h:J6u ps ps')(e:ps'[i]?=some p'):∃ p,ps[i]?=some p/\p'.a=p.a/\p'.f.ads=p.f.ads:=by
 have q:=W9 (fun l=>l[i]?) h
 simp only [M9,e,Option.map_some] at q
 obtain ⟨p,e1,e2⟩:=L8.mp q.symm
 simp only [Prod.mk.injEq] at e2
 exact ⟨p,e1,e2.1.symm,e2.2.symm⟩
abbrev DSU:=List Pc->List D->(List Pc->D->Prop)->Prop
section
variable {W:Wd}{pn:List (D×V)}{M:Addr->Prop}{b:Option Addr}{H:Hp}{σ:St}{ρ:Ev}{js:List Nat}{ps:List Pc}
def J7a (js:List Nat)(ps:List Pc)(ρ:Ev):Prop:=js.length=ps.length/\∀ (k:Nat) p,ps[k]?=some p->p.at/\∃ j,js[k]?=some j/\ρ[j]?=some (some p.g)
theorem J7a.ads (s:StS W pn M b H σ ρ)(h:J7a js ps ρ){c:Addr}(m:c∈Q4u ps):∃ (k j:Nat) (p:Pc),ps[k]?=some p/\js[k]?=some j/\ρ[j]?=some (some p.g)/\c∈p.f.ads/\σ[j]?=some (some (.ref p.a))/\RepX W M b H p.g (.ref p.a):=by
 obtain ⟨p,mp,mc⟩:=List.mem_flatMap.mp m
 obtain ⟨k,ek⟩:=B1g mp
 obtain ⟨pa,j,ej,er⟩:=h.2 k p ek
 obtain ⟨v,ev,r⟩:=s.env j _ er
 have hv:=pa _ _ _ r.2.1
 subst hv
 exact ⟨k,j,p,ek,ej,er,mc,ev,r⟩
end
section
theorem QL {n j:Nat}(h:j<n):ixN n (j:Int)=some j:=by
 unfold ixN
 rw [if_pos (by omega)]
 simp;omega
end
def RawD (h:Heap)(d:Addr)(ds:Array DictEntry)(ep:Nat):Prop:=∃ o:Obj,h.get? d=some o/\o.ExactDict/\o.data=.dict ds ep
section
theorem RawD.at {h h':Heap}{d:Addr}{ds:Array DictEntry}{ep:Nat}(x:RawD h d ds ep)(k:∀ o,h.get? d=some o->h'.get? d=some o):RawD h' d ds ep:=let ⟨o,e,q⟩:=x;⟨o,k o e,q⟩
end
abbrev DST:=List D->(List (List D)->Int->Prop)->(Addr->Prop)->Prop
section
variable {d:Addr}{ds:Array DictEntry}{ep:Nat}
theorem RawD.frame {h h':Heap}(x:RawD h d ds ep)(k:∀ o,h.get? d=some o->h'.get? d=some o):RawD h' d ds ep:=by
 obtain ⟨o,e,q⟩:=x
 exact ⟨o,k o e,q⟩
end
def asc (z:Str):Prop:=∀ c∈z.cps.toList,c<128
abbrev Q5d:=List D->(Frg->D->Prop)->(Addr->Prop)->Prop
section
variable {W:Wd}{b c:Expr}{p:Pos}{k:Nat}
structure TpAt (W:Wd)(M:Addr->Prop)(b:Option Addr)(H:Hp)(v:V)(p:Addr)(rs:List Addr)(rows:List (List D)):Prop where
 ev:v=.ref p
 np:¬ M p
 hp:H p=some (.tup (rs.map V.ref))
 ho:∀ c∈rs,M c/\b≠some c/\W.H0 c=none/\¬ W.M0 c
 nd:rs.Nodup
 hr:RowsR W.K M H rs rows
theorem TpAt.get {b:Option Addr}{H:Hp}{v:V}{p:Addr}{rs:List Addr}{rows:List (List D)}{k:Nat}{row:List D}(t:TpAt W M b H v p rs rows)(er:rows[k]?=some row):∃ r us,rs[k]?=some r/\H r=some (.lst us)/\Reps W.K M H row us:=by
 have hk:k<rs.length:=by rw [<- t.hr.length];exact (B6.mp er).1
 obtain ⟨row',us,er',hh,rr⟩:=t.hr.at (L4 hk)
 rw [er] at er';cases er'
 exact ⟨_,us,L4 hk,hh,rr⟩
end
mutual
def wD:D->Nat
 | .non=>4
 | .bl _=>5
 | .int _=>1921
 | .str x=>(reprText x).length
 | .tup xs=>wDs xs+3
 | .lst xs=>wDs xs+3
 | _=>0
def wDs:List D->Nat
 | []=>0
 | d::ds=>wD d+2+wDs ds
end
mutual
def Y8:D->Bool
 | .non=>true
 | .bl _=>true
 | .int i=>decide (i.natAbs.log2<1920)
 | .str x=>PyData.strOk x
 | .tup xs=>IA xs
 | .lst xs=>IA xs
 | _=>false
def IA:List D->Bool
 | []=>true
 | d::ds=>Y8 d&&IA ds
end
mutual
theorem J6p:∀ (d:D) (p:PyData),Y8 d=true->AC d=some p->p.showable=true/\p.shown.length<=wD d
 | .non,p,_,e=>by cases e;exact ⟨rfl,by unfold wD;decide⟩
 | .bl b,p,_,e=>by cases e;exact ⟨by unfold PyData.showable;rfl,by unfold wD;cases b<;>decide⟩
 | .int i,p,h,e=>by
   cases e
   have h:i.natAbs.log2<1920:=by unfold Y8 at h;exact T0 h
   refine ⟨by unfold PyData.showable;exact R6 h,?_⟩
   unfold wD PyData.shown
   rw [PySem.ofString_length]
   exact int_text_length_le (k:=1920) (by decide) h
 | .str x,p,h,e=>by
   unfold AC at e
   split at e
   · cases e
     exact ⟨by unfold PyData.showable;rfl,by unfold wD PyData.shown;exact B9 _⟩
   · cases e
 | .tup xs,p,h,e=>by
   unfold AC at e
   obtain ⟨ps,e2,rfl⟩:=L8.mp e
   obtain ⟨h1,h2⟩:=UH xs ps (by unfold Y8 at h;exact h) e2
   refine ⟨by unfold PyData.showable;exact h1,?_⟩
   unfold wD PyData.shown
   have:=tupleText_len_le (PyData.shownAll ps)
   omega
 | .lst xs,p,h,e=>by
   unfold AC at e
   obtain ⟨ps,e2,rfl⟩:=L8.mp e
   obtain ⟨h1,h2⟩:=UH xs ps (by unfold Y8 at h;exact h) e2
   refine ⟨by unfold PyData.showable;exact h1,?_⟩
   unfold wD PyData.shown
   have:=listText_len_le (PyData.shownAll ps)
   omega
 | .own _,p,h,e=>by unfold Y8 at h;cases h
 | .ty _,p,h,e=>by unfold Y8 at h;cases h
 | .adr _,p,h,e=>by unfold Y8 at h;cases h
 | .bag,p,h,e=>by unfold Y8 at h;cases h
 | .frg _ _,p,h,e=>by unfold Y8 at h;cases h
 | .scr _,p,h,e=>by unfold Y8 at h;cases h
 | .dct _ _ _,p,h,e=>by unfold Y8 at h;cases h
theorem UH:∀ (ds:List D) (ps:List PyData),IA ds=true->DU ds=some ps->PyData.showableAll ps=true/\((PyData.shownAll ps).map (·.length)).sum+2*(PyData.shownAll ps).length<=wDs ds
 | [],ps,_,e=>by cases e;exact ⟨rfl,by unfold wDs PyData.shownAll;exact B9 _⟩
 | d::ds,ps,h,e=>by
   unfold DU at e
   obtain ⟨p,e1,e⟩:=E3.mp e
   obtain ⟨qs,e2,rfl⟩:=L8.mp e
   unfold IA at h
   obtain ⟨h1,h2⟩:=(L5 _ _).mp h
   obtain ⟨a1,a2⟩:=J6p d p h1 e1
   obtain ⟨b1,b2⟩:=UH ds qs h2 e2
   refine ⟨by unfold PyData.showableAll;rw [a1,b1];rfl,?_⟩
   unfold wDs PyData.shownAll
   simp only [U7,List.sum_cons,U5]
   omega
end
def J6q (K:Fg):List V->Hp->VK->Prop:=fun xs H Q=>∃ M d v p,xs=[v]/\Rep K M H d v/\AC d=some p/\p.depth<=60/\p.showable=true/\p.shown.length<=sizeLine/\Q (.str p.shown) H
theorem OM {X:Cx}(K:Fg)(hK:X.K=K)(hg:X.A.guards=some [])(hu:X.A.units+64<cLine):CK X (.builtin "repr") (J6q K):=by
 subst hK
 intro pins s σ H xs us Q I r h
 obtain ⟨M,d,v,p,rfl,hr,e,hd,hs,hl,q⟩:=h
 obtain ⟨u,rfl,r1⟩:=IP r
 obtain ⟨as,ra⟩:=HP I d v u p hr r1 e
 have hn:=PyData.hasDict_of_canLay p (AC.lay d p e)
 have hsm:=PyData.noDict_hsm (as:=as) hn
 cases ra with
 | none=>exact PySem.P.repr_of_none ⟨.str _,H,I.tok _,⟨_,rfl⟩,q⟩
 | bool b =>
   refine PySem.P.repr_of_bool ⟨.str _,H,I.tok _,⟨_,rfl⟩,?_⟩
   exact q
 | int i t =>
   refine PySem.P.repr_of_int (by unfold PyData.showable at hs;exact T0 hs) ⟨.str _,H,I.tok _,⟨_,rfl⟩,?_⟩
   unfold PyData.shown at q;exact q
 | str x t =>
   refine PySem.P.repr_of_str ⟨.str _,H,I.tok _,⟨_,rfl⟩,?_⟩ (by unfold PyData.shown at hl;exact hl)
   unfold PyData.shown at q;exact q
 | list h1 h2 h3 h4=>exact repr_of_reads' (.list h1 h2 h3 h4) hs hsm hg (by omega) (fun _ _ z=>z) (fun h' u tk k=>⟨.str _,H,I.kept k,⟨_,rfl⟩,q⟩) hl
 | tuple h1 h2 h3 h4=>exact repr_of_reads' (.tuple h1 h2 h3 h4) hs hsm hg (by omega) (fun _ _ z=>z) (fun h' u tk k=>⟨.str _,H,I.kept k,⟨_,rfl⟩,q⟩) hl
 | dict h1 h2 h3 h4 h5=>simp [PyData.hasDict] at hn
def rpS (d:D):Str:=((AC d).map PyData.shown).getD Str.empty
inductive RpP (d:D)(P:D->Prop):Prop
 | mk (h:Y6 60 d=true) (h2:Y8 d=true) (h3:wD d<=10000000) (hp:P (.str (rpS d))):RpP d P
def Q2m:List D->(D->Prop)->Prop
 | [d],P=>RpP d P
 | _,_=>False
theorem J0x {W:Wd} {H:Hp}{d:D}{v:V}(h:Y8 d=true)(r:RepX W M b H d v):Rep W.K M H d v:=by
 cases d<;>first|exact r|(unfold Y8 at h;cases h)
theorem XD {W:Wd}:EB W (J6q W.K) Q2m:=by
 intro M b H xs vs P Q hs rx ho k
 match xs,ho with
 | [d],ho =>
   obtain ⟨v,rfl,r⟩:=rx1 rx
   obtain ⟨h,h2,h3,hp⟩:=ho
   obtain ⟨p,e,hd,_⟩:=LL 60 d h
   obtain ⟨s1,s2⟩:=J6p d p h2 e
   refine ⟨M,d,v,p,rfl,J0x h2 r,e,hd,s1,M7 s2 (M7 h3 (by decide)),?_⟩
   have es:rpS d=p.shown:=by unfold rpS;rw [e];rfl
   exact k (.str p.shown) (.str p.shown) H (es▸hp) (show _=_ from rfl) (Kp.refl _ _) hs.ok
theorem XF:bootBuiltins "repr" = some (.builtin "repr"):=by decide +kernel
def Q4t (p:Addr)(xs:List V):Frg where
 ads:=[p]
 R:=fun M H v=>v=.ref p/\H p=some (.lst xs)
 keep:=fun M H H' v k h=>⟨h.1,k _ _ (.inr (by simp)) h.2⟩
 avoid:=fun M M' H v k h=>h
 ref:=fun M H v h=>⟨p,h.1⟩
 nt:=fun M H v h c m=>by
  obtain rfl:=R0.mp m
  exact ⟨_,h.2,fun vs=>by simp⟩
def J3e (p:Addr)(xs:List V):D:=.frg (Q4t p xs) (.adr p)
abbrev Wq (W:Wd)(H0:Hp)(M0:Addr->Prop):Wd:=⟨W.K,W.B,H0,M0,none⟩
section
variable {X:Cx}{W:Wd}{pn:List (D×V)}{M:Addr->Prop}{b:Option Addr}{H:Hp}{σ:St}{ρ:Ev}
theorem StS.toQ {p:Addr}{xs:List V}(s:StS W pn M (some p) H σ ρ){ib:Nat}(e:ρ[ib]?=some (some .bag))(hp:H p=some (.lst xs)) :
 StS (Wq W (noH (some p) W.H0) fun c=>W.M0 c/\c≠p) pn M none H σ ((BH ρ).set ib (some (J3e p xs))):=by
 obtain ⟨v0,ev0,p',ep,rfl⟩:=s.env ib _ e
 cases ep
 have Mp:=s.bagM p rfl
 have own:∀ {a:Addr},M a->(some p:Option Addr)≠some a->W.H0 a=none->¬ W.M0 a->M a/\(none:Option Addr)≠some a/\noH (some p) W.H0 a=none/\¬ (W.M0 a/\a≠p):=fun m n n0 m0=>⟨m,by simp,MQ n0,fun z=>m0 z.1⟩
 have env1:∀ (i:Nat) d,(BH ρ)[i]?=some (some d)->∃ v,σ[i]?=some (some v)/\RepX W M (some p) H d v/\RepX (Wq W (noH (some p) W.H0) fun c=>W.M0 c/\c≠p) M none H d v:=fun i d e=>by
  obtain ⟨e1,nb⟩:=BG e
  obtain ⟨v,e2,r⟩:=s.env i d e1
  refine ⟨v,e2,r,?_⟩
  cases d
  case own xs =>
   obtain ⟨a,vs,rfl,m1,m2,m3,m4,hh,r'⟩:=r
   obtain ⟨q1,q2,q3,q4⟩:=own m1 m2 m3 m4
   exact ⟨a,vs,rfl,q1,q2,q3,q4,hh,r'⟩
  case bag=>exact absurd rfl nb
  case frg f _=>exact ⟨fun c m=>own (r.1 c m).1 (r.1 c m).2.1 (r.1 c m).2.2.1 (r.1 c m).2.2.2,r.2⟩
  all_goals exact r
 have slot:∀ (i:Nat) d,((BH ρ).set ib (some (J3e p xs)))[i]?=some (some d)->(i=ib/\d=J3e p xs)\/(i≠ib/\(BH ρ)[i]?=some (some d)):=fun i d e=>by
  by_cases z:ib=i
  · subst z
    rw [M5] at e
    simp at e
    exact .inl ⟨rfl,e.2.symm⟩
  · rw [L6 z] at e
    exact .inr ⟨fun y=>z y.symm,e⟩
 have nop:∀ (i:Nat) d v,(BH ρ)[i]?=some (some d)->σ[i]?=some (some v)->¬ FN d v p:=fun i d v e1 e2 m=>by
  obtain ⟨v',e3,r,_⟩:=env1 i d e1
  rw [e2] at e3;cases e3
  exact (r.mine m).2.1 rfl
 refine ⟨⟨⟨HB,fun q e=>(by cases e),s.dom,fun c m=>s.m0 c m.1⟩,fun c o _ e=>?_,.inl rfl,fun i d e'=>?_,by simp [BH,s.len],fun q hq=>?_⟩,fun i j d d2 v u c e1 e2 e3 e4 m1 m2=>?_,fun ys a hq i d v e1 e2 m=>?_⟩
 · have e:noH (some p) W.H0 c=some o:=e
   unfold noH at e
   split at e
   · cases e
   · rename_i nb
     refine s.kp c o (fun z=>?_) e
     rcases s.new with q|⟨q,_⟩
     · exact nb (q.trans z)
     · rw [q] at z;cases z
 · rcases slot i d e' with ⟨rfl,rfl⟩|⟨_,e1⟩
   · refine ⟨.ref p,ev0,fun c m=>?_,⟨rfl,hp⟩,rfl⟩
     obtain rfl:=R0.mp (show c∈[p] from m)
     exact ⟨Mp,by simp,by show noH (some c) W.H0 c=none;unfold noH;rw [if_pos rfl],fun z=>z.2 rfl⟩
   · obtain ⟨v,e2,_,r⟩:=env1 i d e1
     exact ⟨v,e2,r⟩
 · have q0:=s.pin q hq
   obtain ⟨d,v⟩:=q
   cases d
   case own xs =>
    obtain ⟨a,vs,rfl,m1,m2,m3,m4,hh,r'⟩:=q0
    obtain ⟨q1,q2,q3,q4⟩:=own m1 m2 m3 m4
    exact ⟨a,vs,rfl,q1,q2,q3,q4,hh,r'⟩
   all_goals exact q0
 · rcases slot i d e1 with ⟨rfl,rfl⟩|⟨z1,e1'⟩<;>rcases slot j d2 e2 with ⟨rfl,rfl⟩|⟨z2,e2'⟩
   · rfl
   · obtain rfl:=R0.mp (show c∈[p] from m1)
     exact absurd m2 (nop j d2 u e2' e4)
   · obtain rfl:=R0.mp (show c∈[p] from m2)
     exact absurd m1 (nop i d v e1' e3)
   · exact s.dj i j d d2 v u c (BG e1').1 (BG e2').1 e3 e4 m1 m2
 · rcases slot i d e1 with ⟨rfl,rfl⟩|⟨z1,e1'⟩
   · obtain rfl:=R0.mp (show a∈[p] from m)
     obtain ⟨a2,vs,ea,m1,m2,_⟩:=s.pin _ hq
     cases ea
     exact m2 rfl
   · exact s.lj ys a hq i d v (BG e1').1 e2 m
theorem StS.ofQ {p:Addr}{xs:List V}{H1:Hp}(s0:StS W pn M (some p) H1 σ ρ)(h1:H1 p=some (.lst xs)){M':Addr->Prop}{σ':St}{ρ':Ev}{b':Option Addr}(s:StS (Wq W (noH (some p) W.H0) fun c=>W.M0 c/\c≠p) pn M' b' H σ' ρ'){ib:Nat}(e:ρ'[ib]?=some (some (J3e p xs))) :
 H p=some (.lst xs)/\StS W pn M' (some p) H σ' ((BH ρ').set ib (some .bag)):=by
 obtain ⟨v0,ev0,rf⟩:=s.env ib _ e
 obtain ⟨rfl,hp⟩:v0=.ref p/\H p=some (.lst xs):=rf.2.1
 have Mp:M' p:=(rf.1 p (R0.mpr rfl)).1
 have own:∀ {a:Addr},a≠p->M' a->noH (some p) W.H0 a=none->¬ (W.M0 a/\a≠p)->M' a/\(some p:Option Addr)≠some a/\W.H0 a=none/\¬ W.M0 a:=fun {a} n m n0 m0=>⟨m,fun z=>n (by cases z;rfl),by
  unfold noH at n0
  rw [if_neg (fun z=>n (by cases z;rfl))] at n0
  exact n0,fun z=>m0 ⟨z,n⟩⟩
 have slot:∀ (i:Nat) d,((BH ρ').set ib (some .bag))[i]?=some (some d)->(i=ib/\d=.bag)\/(i≠ib/\(BH ρ')[i]?=some (some d)):=fun i d e=>by
  by_cases z:ib=i
  · subst z
    rw [M5] at e
    simp at e
    exact .inl ⟨rfl,e.2.symm⟩
  · rw [L6 z] at e
    exact .inr ⟨fun y=>z y.symm,e⟩
 refine ⟨hp,⟨⟨fun q z=>?_,fun q z=>by cases z;exact Mp,s.dom,fun c m=>?_⟩,fun c o n e=>?_,s0.new,fun i d e'=>?_,by simp [BH,s.len],fun q hq=>?_⟩,fun i j d d2 v u c e1 e2 e3 e4 m1 m2=>?_,fun ys a hq i d v e1 e2 m=>?_⟩
 · cases z
   exact W.B.st p H1 H (s0.ok p rfl) fun u z=>by rw [h1] at z;cases z;exact hp
 · by_cases z:c=p
   · rw [z];exact Mp
   · exact s.m0 c ⟨m,z⟩
 · refine s.kp c o (by simp) ?_
   show noH (some p) W.H0 c=some o
   unfold noH
   rw [if_neg]
   · exact e
   · intro z
     cases z
     rcases s0.new with q|⟨_,q⟩
     · exact n q.symm
     · rw [q p rfl] at e;cases e
 · rcases slot i d e' with ⟨rfl,rfl⟩|⟨z,e1⟩
   · exact ⟨.ref p,ev0,p,rfl,rfl⟩
   · obtain ⟨e1,nb⟩:=BG e1
     obtain ⟨v,e2,r⟩:=s.env i d e1
     refine ⟨v,e2,?_⟩
     have np:∀ c,FN d v c->c≠p:=fun c m y=>z (s.dj i ib d _ v _ c e1 e e2 ev0 m (by rw [y];exact R0.mpr rfl))
     cases d
     case own xs =>
      obtain ⟨a,vs,rfl,m1,m2,m3,m4,hh,r'⟩:=r
      obtain ⟨q1,q2,q3,q4⟩:=own (np a rfl) m1 m3 m4
      exact ⟨a,vs,rfl,q1,q2,q3,q4,hh,r'⟩
     case bag=>exact absurd rfl nb
     case frg f _=>exact ⟨fun c m=>own (np c m) (r.1 c m).1 (r.1 c m).2.2.1 (r.1 c m).2.2.2,r.2⟩
     all_goals exact r
 · have q0:=s.pin q hq
   obtain ⟨d,v⟩:=q
   cases d
   case own xs =>
    obtain ⟨a,vs,rfl,m1,m2,m3,m4,hh,r'⟩:=q0
    have np:a≠p:=fun y=>s.lj xs a hq ib _ _ e ev0 (by rw [y];exact R0.mpr rfl)
    obtain ⟨q1,q2,q3,q4⟩:=own np m1 m3 m4
    exact ⟨a,vs,rfl,q1,q2,q3,q4,hh,r'⟩
   all_goals exact q0
 · rcases slot i d e1 with ⟨rfl,rfl⟩|⟨z1,e1'⟩
   · exact m1.elim
   · rcases slot j d2 e2 with ⟨rfl,rfl⟩|⟨z2,e2'⟩
     · exact m2.elim
     · exact s.dj i j d d2 v u c (BG e1').1 (BG e2').1 e3 e4 m1 m2
 · rcases slot i d e1 with ⟨rfl,rfl⟩|⟨z1,e1'⟩
   · exact m.elim
   · exact s.lj ys a hq i d v (BG e1').1 e2 m
def c3J (ib:Nat)(d:DS):DS3:=fun F ρ n=>ρ[ib]?=some (some .bag)/\∀ B:D,d { nx:=fun ρ'=>ρ'[ib]?=some (some B)/\F.nx ((BH ρ').set ib (some .bag)) n,rt:=fun _=>False } ((BH ρ).set ib (some B))
theorem TD {st:Stmt}{d:DS}(ib:Nat)(hB:∀ p H,W.B.ok p H->∃ xs,H p=some (.lst xs))(h:∀ H0 M0,JS X (Wq W H0 M0) st d):CJS X W st (c3J ib d):=⟨fun pins sh σ H E I hh=>hh.elim fun pn M b ρ F s l hd=>by
 obtain ⟨e,hd⟩:=hd
 obtain ⟨v0,ev0,p,rfl,rfl⟩:=s.env ib _ e
 obtain ⟨xs,hp⟩:=hB p H (s.ok p rfl)
 refine (h (noH (some p) W.H0) fun c=>W.M0 c/\c≠p).h pins sh σ H E I ⟨pn,M,none,_,_,s.toQ e hp,⟨fun M' b' ρ' σ' H' s' h'=>?_,fun _ _ _ (z:False)=>z.elim,fun _ _ _ _ _ _ (z:False)=>z.elim,fun _ _ _ _ _ _ (z:False)=>z.elim,fun _ _ _ _ (z:False)=>z.elim⟩,hd (J3e p xs)⟩
 obtain ⟨e',hn⟩:=h'
 obtain ⟨hp',s2⟩:=s.ofQ hp s' e'
 refine l.nx _ _ _ _ _ s2 ?_
 have:cnt (some p) H'=cnt (some p) H:=by
  show HF p H'=HF p H
  unfold HF
  rw [hp,hp']
 rw [this]
 exact hn⟩
end
section
variable {X:Cx}{W:Wd}{e:Expr}{pos:Pos}{dA:DA}
def J7h (i:Nat)(dA:DA):DS:=fun F ρ=>match ρ[i]? with
 | some (some (.own ys))=>dA ρ fun xs=>(match xs with
   | [.int k]=>(0<=k/\k<ys.length/\ys.length<=1000)/\F.nx (ρ.set i (some (.own (ys.eraseIdx k.toNat))))
   | _=>False)
 | _=>False
theorem J1n {i:Nat}{x:Str}{npos apos cpos:Pos}(hK:X.K=W.K)(ha:JA X W [e] dA)
 (h:PE X (.Call (.Attribute (.Name x npos) "pop" apos) [e] [] cpos) (tBM X.K "list" J0f (HX i) (dnA W dA))) (hs:swapsWith (.Call (.Attribute (.Name x npos) "pop" apos) [e] [] cpos) none pos.line X.env=pure false:=by rfl) :
 JS X W (.Expr (.Call (.Attribute (.Name x npos) "pop" apos) [e] [] cpos) pos) (J7h i dA):=⟨(IW (by rw [hK] at h;exact h) hs).mono fun E σ H hh=>hh.elim fun pn M b ρ F s l h=>by
 unfold J7h at h
 split at h
 case h_2=>exact h.elim
 case h_1 ys e =>
  obtain ⟨a,vs,ea,nb,hh,r⟩:=CU s.toSta e
  refine ⟨.ref a,ea,.inl ⟨rfl,vs,SqL.of hh⟩,pn,M,b,ρ,_,s.toSta,h,fun xs us H' hx rx k o=>?_⟩
  match xs,hx with
  | [.int n],hx =>
    obtain ⟨u,rfl,ru⟩:=rx1 rx
    cases (show _=_ from ru)
    obtain ⟨⟨h0,h1,h2⟩,hx⟩:=hx
    have s':=s.step k o
    obtain ⟨a',vs',ea',nb',hh',r'⟩:=CU s'.toSta e
    rw [ea] at ea';cases ea'
    have hl:=r'.length
    have hlt:n.toNat<ys.length:=by omega
    obtain ⟨v,ev,rv⟩:=r'.get (L4 hlt)
    have st2:=s'.setOwn i e ea (r'.erase n.toNat)
    refine ⟨a,vs',n,n.toNat,v,rfl,rfl,hh',by omega,by omega,?_,ev,l.nx _ _ _ _ _ st2 hx⟩
    have hn:n.toNat<vs'.length:=by rw [hl];omega
    have e1:(if n<0 then n+(vs'.length:Int) else n)=n:=if_neg (by omega)
    have hz:n<(vs'.length:Int):=by omega
    unfold seqIndex?
    simp [e1,h0,hz]⟩
def J7g (i:Nat)(de dj dk:DE):DS:=fun F ρ=>match ρ[i]? with
 | some (some (.own ys))=>de ρ fun x=>∃ p q,x=.tup [p,q]/\dj ρ fun y=>∃ j:Int,y=.int j/\(ixN ys.length j).elim False fun j=>dk (ρ.set i (some (.own (ys.set j p)))) fun z=>∃ k:Int,z=.int k/\(ixN ys.length k).elim False fun k=>F.nx (ρ.set i (some (.own ((ys.set j p).set k q))))
 | _=>False
theorem J1m {i:Nat}{x:Str}{de dj dk:DE}{n1 n2:Expr}{np1 np2 tp1 tp2 pt:Pos}{kt:Nat}(hK:X.K=W.K)(he:JE X W e de)
 (hg:PG X (.Tuple [.Subscript (.Name x np1) n1 tp1,.Subscript (.Name x np2) n2 tp2] kt pt) (J5j W.K 2 (WR (J1y (HX i) (dn W dj) RW) (WR (J1y (HX i) (dn W dk) RW) J9n))))
 (hs:swapsWithSole [.Tuple [.Subscript (.Name x np1) n1 tp1,.Subscript (.Name x np2) n2 tp2] kt pt] e pos.line X.env=pure false:=by rfl) (hw:swappedStores [.Tuple [.Subscript (.Name x np1) n1 tp1,.Subscript (.Name x np2) n2 tp2] kt pt] e X.env=pure none:=by rfl)
 (h1:(assignEach [.Tuple [.Subscript (.Name x np1) n1 tp1,.Subscript (.Name x np2) n2 tp2] kt pt] X.env).map (·.2)=[assign (.Tuple [.Subscript (.Name x np1) n1 tp1,.Subscript (.Name x np2) n2 tp2] kt pt) X.env]:=by rfl) :
 JS X W (.Assign [.Tuple [.Subscript (.Name x np1) n1 tp1,.Subscript (.Name x np2) n2 tp2] kt pt] e pos) (J7g i de dj dk):=⟨(JU he.h hg hs hw h1).mono fun E σ H hh=>hh.elim fun pn M b ρ F s l h=>by
 unfold J7g at h
 split at h
 case h_2=>exact h.elim
 case h_1 ys e =>
  obtain ⟨a,vs,ea,nb,hh,r⟩:=CU s.toSta e
  refine ⟨pn,M,b,ρ,_,s.toSta,h,fun x v H1 hx rx k1 o1=>?_⟩
  obtain ⟨p,q,rfl,hj⟩:=hx
  obtain ⟨t,us,rfl,ht,rr⟩:=(rx:Rep W.K M H1 (.tup [p,q]) v)
  obtain ⟨u,r0,rfl,ru,w,r1,rfl,rw',rfl⟩:=rr
  refine ⟨t,[u,w],rfl,?_,rfl,u,[w],rfl,.ref a,ea,pn,M,b,ρ,_,s.toSta.step k1 o1,hj,fun y uy H2 hy ry k2 o2=>?_⟩
  · exact ht.elim (fun z=>SqT.of z.2) fun z=>.inr z
  obtain ⟨j,rfl,hy⟩:=hy
  cases (show _=_ from ry)
  have s2:=(s.step k1 o1).step k2 o2
  obtain ⟨a',vs',ea',nb',hh',r'⟩:=CU s2.toSta e
  rw [ea] at ea';cases ea'
  cases ej:ixN ys.length j with
  | none=>rw [ej] at hy;exact hy.elim
  | some jj =>
    rw [ej] at hy
    have ru2:Rep W.K M H2 p u:=Rep.keep (fun c o n e=>k2 c o (fun z=>n (s.bagM c z)) e) _ _ ru
    have rw2:Rep W.K M H2 q w:=Rep.keep (fun c o n e=>k2 c o (fun z=>n (s.bagM c z)) e) _ _ rw'
    refine ⟨a,vs',j,jj,rfl,rfl,hh',by rw [r'.length];exact ej,w,[],rfl,.ref a,ea,pn,M,b,_,_,(s2.setOwn i e ea (Reps.set ru2 jj r')).toSta,hy,fun z uz H3 hz rz k3 o3=>?_⟩
    obtain ⟨k,rfl,hz⟩:=hz
    cases (show _=_ from rz)
    have Ma:M a:=by
     obtain ⟨v0,e1,a',us,evv,m1,_⟩:=s2.env i _ e
     rw [ea] at e1;cases e1;cases evv
     exact m1
    have s3:=(s2.setOwn i e ea (Reps.set ru2 jj r')).step k3 o3
    have ei:(ρ.set i (some (.own (ys.set jj p))))[i]?=some (some (.own (ys.set jj p))):=by
     rw [M5];simp;exact (B6.mp e).1
    obtain ⟨a3,vs3,ea3,nb3,hh3,r3⟩:=CU s3.toSta ei
    rw [ea] at ea3;cases ea3
    have rw3:Rep W.K M H3 q w:=Rep.keep (fun c o n e=>k3 c o (fun z=>n (s.bagM c z)) (by rw [V7 (show c≠a from fun z=>n (by rw [z];exact Ma))];exact e)) _ _ rw2
    cases ek:ixN ys.length k with
    | none=>rw [ek] at hz;exact hz.elim
    | some kk =>
      rw [ek] at hz
      have s4:=s3.setOwn i ei ea (Reps.set rw3 kk r3)
      rw [List.set_set] at s4
      exact ⟨a,vs3,k,kk,rfl,rfl,hh3,by rw [r3.length,W7];exact ek,rfl,l.nx _ _ _ _ _ s4 hz⟩⟩
end
inductive TyS (K:Fg)(H:Hp):V->String->Prop where
 | non:TyS K H .non "NoneType"
 | bl (x:Bool):TyS K H (.bl x) "bool"
 | int (i:Int):TyS K H (.int i) "int"
 | str (x:Str):TyS K H (.str x) "str"
 | lst {a:Addr} {xs:List V} (h:SqL K H a xs):TyS K H (.ref a) "list"
 | tup {a:Addr} {xs:List V} (h:SqT K H a xs):TyS K H (.ref a) "tuple"
def J6r (K:Fg):List V->Hp->VK->Prop:=fun xs H Q=>∃ (y:V) (a:Addr) (c1 c2 t:String) (b:Bool),xs=[y,.ref a]/\SqT K H a [.ty c1,.ty c2]/\TyS K H y t/\PySem.W.kitAny K (.type t) [.type c1,.type c2]=some b/\Q (.bl b) H
theorem RA {X:Cx}(K:Fg)(hK:X.K=K):CK X (.builtin "isinstance") (J6r K):=by
 subst hK
 intro pins s σ H xs us Q I r h
 obtain ⟨y,a,c1,c2,t,b,rfl,ht,ty,e,q⟩:=h
 obtain ⟨u,w',rfl,r1,r2⟩:=KI r
 cases (show w'=Value.ref a from r2)
 obtain ⟨its,rv,⟨o,h1,h2,n,h3⟩,hz⟩:=I.tuple ht
 obtain ⟨v1,v2,rfl,s1,s2⟩:=KI rv
 cases (show v1=Value.type c1 from s1)
 cases (show v2=Value.type c2 from s2)
 have ho:o=⟨.type "tuple",o.dict,.seq [Value.type c1,Value.type c2].toArray n,o.slots⟩:=by
  cases o;cases h2;cases h3;rfl
 rw [ho] at h1
 have fin:∀ tk,EP X pins σ Q (.bool b) { s with toks:=tk }:=fun tk=>⟨.bl b,H,I.tok _,rfl,q⟩
 cases ty with
 | non=>cases (show u=Value.none from r1);exact B0c PySem.W.kitx_none I.kIn True.intro h1 e (fun z=>nomatch z) fin
 | bl y=>cases (show u=Value.bool y from r1);exact B0c PySem.W.kitx_bool I.kIn True.intro h1 e (fun z=>nomatch z) fin
 | int i=>obtain ⟨t,q⟩:=(show ∃ t,u=Value.int i t from r1);cases q;exact B0c PySem.W.kitx_int I.kIn True.intro h1 e (fun z=>nomatch z) fin
 | str y=>obtain ⟨t,q⟩:=(show ∃ t,u=Value.str y t from r1);cases q;exact B0c PySem.W.kitx_str I.kIn True.intro h1 e (fun z=>nomatch z) fin
 | lst hl =>
   cases (show u=Value.ref _ from r1)
   obtain ⟨_,_,⟨o',n',p1,p2,_⟩,_⟩:=I.list hl
   exact B0c PySem.W.kitx_list I.kIn ⟨o',p1,p2⟩ h1 e (fun z=>nomatch z) fin
 | tup ht' =>
   cases (show u=Value.ref _ from r1)
   obtain ⟨_,_,⟨o',p1,p2,_⟩,_⟩:=I.tuple ht'
   exact B0c PySem.W.kitx_tuple I.kIn ⟨o',p1,p2⟩ h1 e (fun z=>nomatch z) fin
def J6t (K:Fg):List D->(D->Prop)->Prop
 | [x,.tup [.ty c1,.ty c2]],P=>match ZR x with|some t=>∃ b,PySem.W.kitAny K (.type t) [.type c1,.type c2]=some b/\P (.bl b)|none=>False
 | _,_=>False
theorem VL {B:BagT}{H0:Hp}{M0:Addr->Prop}{b0:Option Addr}:EB ⟨K,B,H0,M0,b0⟩ (J6r K) (J6t K):=by
 intro M b H xs vs P Q hs rx ho k
 unfold J6t at ho
 split at ho
 case h_2=>exact ho.elim
 case h_1 x c1 c2 =>
  obtain ⟨v,u,rfl,r1,r2⟩:=rx2 rx
  obtain ⟨a,vs,rfl,ht,rr⟩:=(r2:Rep K M H (.tup [.ty c1,.ty c2]) u)
  obtain ⟨w1,rr1,rfl,e1,w2,rr2,rfl,e2,rfl⟩:=rr
  cases (show w1=V.ty c1 from e1)
  cases (show w2=V.ty c2 from e2)
  have sq:SqT K H a [.ty c1,.ty c2]:=ht.elim (fun z=>SqT.of z.2) fun z=>.inr z
  split at ho
  case h_2=>exact ho.elim
  case h_1 t et =>
   obtain ⟨b',e,hp⟩:=ho
   refine ⟨v,a,c1,c2,t,b',rfl,sq,?_,e,k _ _ H hp (show _=_ from rfl) (Kp.refl _ _) hs.ok⟩
   cases x<;>(try (cases et;done))
   case non=>cases et;cases (show v=V.non from r1);exact .non
   case bl y=>cases et;cases (show v=V.bl y from r1);exact .bl _
   case int y=>cases et;cases (show v=V.int y from r1);exact .int _
   case str y=>cases et;cases (show v=V.str y from r1);exact .str _
   case tup ys =>
    cases et
    obtain ⟨a2,vs2,rfl,h2,_⟩:=(r1:Rep K M H (.tup ys) v)
    exact .tup (xs:=vs2) (h2.elim (fun z=>SqT.of z.2) fun z=>.inr z)
   case lst ys =>
    cases et
    obtain ⟨a2,vs2,rfl,h2,_⟩:=(r1:Rep K M H (.lst ys) v)
    exact .lst (SqL.of h2.2)
   case own ys =>
    cases et
    obtain ⟨a2,vs2,rfl,_,_,_,_,h2,_⟩:=r1
    exact .lst (SqL.of h2)
   case frg f d =>
    cases d<;>(try (cases et;done))
    cases et
    obtain ⟨a2,vs2,rfl,h2,_⟩:=(r1.2.2:Rep K _ H (.lst _) v)
    exact .lst (SqL.of h2.2)
end L2
namespace K
open PySem PySem.Spec PyProof.Rows L2
local macro_rules | `(tactic| walk_at "o") => `(tactic| first | exact Or.inl rfl | exact Or.inr rfl)
local macro_rules | `(tactic| walk_at "v") => `(tactic| first | exact Or.inl rfl | exact Or.inr (Or.inl rfl) | exact Or.inr (Or.inr rfl))
local macro_rules | `(tactic| walk_at "bg") => `(tactic| first | assumption | exact Bag.same (by walk_at "bg") (Same.upd (by assumption)) | exact Bag.same (by walk_at "bg") (by assumption))
local macro_rules | `(tactic| walk_at "hp") => `(tactic| first | assumption | exact AM | (refine Same.get (Same.upd (by assumption)) ?_; walk_at "hp") | (refine Same.get (by assumption) ?_; walk_at "hp") | (refine Keep.tup (by assumption) (by walk_at "bg") ?_; (walk_at "hp")))
local macro_rules | `(tactic| walk_at "sm") => `(tactic| first | exact Same.refl _ | assumption | (refine Same.trans ?_ (Same.upd (by assumption)); walk_at "sm") | (refine Same.trans ?_ (by assumption); walk_at "sm"))
local macro_rules | `(tactic| walk_at "kp") => `(tactic| first | exact Keep.refl _ _ | assumption | (refine Keep.trans ?_ (Same.keep (Same.upd (by assumption))); walk_at "kp") | (refine Keep.trans ?_ (by assumption); walk_at "kp") | (refine Keep.trans ?_ (Same.keep (by assumption)); walk_at "kp"))
local macro_rules | `(tactic| walk_at "bd") => `(tactic| first | assumption | exact Bd.mul (by walk_at "bd") (by walk_at "bd") | exact Bd.add (by walk_at "bd") (by walk_at "bd") | exact Bd.sub (by walk_at "bd") (by walk_at "bd") | exact Bd.neg (by walk_at "bd") | exact Bd.num _ (by decide))
local macro_rules | `(tactic| walk_at "rd1") => `(tactic| first | refine ⟨_,_,rfl,rfl,?_⟩ | refine ⟨_,rfl,?_⟩ | (refine' ⟨_,?xs,_,?vv,rfl,rfl,SqT.of ?ia,?ib,?_⟩; (case ia => walk_at "hp"); (case ib => rfl)) | refine And.intro (CMulB.right (Bd.num _ (by decide))) ?_ | (refine' rd_mul ?m1 ?m2 ?m3 ?_; (case m1 => walk_at "bd"); (case m2 => walk_at "bd"); (case m3 => first | decide | omega)) | refine ⟨rfl,?_⟩)
local macro_rules | `(tactic| walk_at "rd") => `(tactic| repeat (walk_at "rd1"))
local macro_rules | `(tactic| walk_at "al") => `(tactic| (refine ⟨(M7 (M1 rfl) BP),?_⟩; intro p en))
local macro_rules | `(tactic| walk_at "w") => `(tactic| (conv => whnf))
local macro_rules | `(tactic| walk_at "go1") => `(tactic| first | refine And.intro (by exact rfl) ?_ | refine IfP.t (by exact rfl) ?_ | refine IfP.f (by exact rfl) ?_ | refine And.intro (by exact M1 rfl) ?_ | refine And.intro (by decide) ?_ | refine And.intro (by dsimp only; decide) ?_ | refine And.intro (CMulB.right (Bd.num _ (by decide))) ?_ | refine And.intro (Or.inl ⟨_,_,by walk_at "bd",by walk_at "bd",by first | decide | omega⟩) ?_| refine And.intro ⟨by decide,by decide⟩ ?_)
local macro_rules | `(tactic| walk_at "g") => `(tactic| ((conv => whnf); repeat (walk_at "go1"; (conv => whnf))))
local macro_rules | `(tactic| walk_at "nz") => `(tactic| simp only [DB,U7,List.map_nil,U5,List.length_nil,List.replicate,List.cons_append,List.nil_append,List.set_cons_succ,List.set_cons_zero,JH,List.getElem?_cons_succ,List.getElem?_cons_zero,Option.bind_some,Option.bind_none,Option.join_some,Option.join_none,LY,Nat.reduceAdd,Nat.reduceSub,Int.reduceAdd,Nat.zero_add])
local macro_rules | `(tactic| walk_at "gr") => `(tactic| ((try walk_at "nz"); refine J5l ?_; walk_at "g"))
local macro_rules | `(tactic| walk_at "gc") => `(tactic| ((try walk_at "nz"); refine J2s ?_; walk_at "g"))
local macro_rules | `(tactic| walk_at "sp") => `(tactic| (refine IfP.of (fun h => ?_) (fun h => ?_) <;> (try simp only [I0,T1,Bool.bne_true,Bool.not_eq_true',decide_eq_false_iff_not,Bool.not_true,Bool.not_false,Bool.not_eq_false',bne_iff_ne,ne_eq,Bool.not_not] at h)))
local macro_rules | `(tactic| walk_at "gr3") => `(tactic| ((try walk_at "nz"); refine for_rec3 ?_; walk_at "g"))
local macro_rules | `(tactic| walk_at "gc3") => `(tactic| ((try walk_at "nz"); refine ZD ?_; walk_at "g"))
def top (i:Nat):Stmt:=PySem.Challenge.pw_onceshade_k66_papers_of_dots.main.body.getD i (.Pass ⟨0,0,0,0⟩)
structure Bi (mg:Str->Option Value):Prop where
 abs_:mg "abs" = none
 len_:mg "len" = none
 max_:mg "max" = none
 min_:mg "min" = none
 range_:mg "range" = none
 isinstance_:mg "isinstance" = none
 int_:mg "int" = none
 bool_:mg "bool" = none
 tuple_:mg "tuple" = none
 all_:mg "all" = none
 list_:mg "list" = none
 zip_:mg "zip" = none
 sum_:mg "sum" = none
 enumerate_:mg "enumerate" = none
 repr_:mg "repr" = none
 str_:mg "str" = none
 LONGEST_:∃ t,mg "LONGEST" = some (.int 16 t)
 MOST_:∃ t,mg "MOST" = some (.int 24 t)
 GREATEST_COORDINATE_:∃ t,mg "GREATEST_COORDINATE" = some (.int 999999 t)
structure Cs where
 ShadeError:Addr
 NoBody:Addr
 NoFlat:Addr
 NoFace:Addr
 NoBoard:Addr
structure Ex (K:Fg)(mg:Str->Option Value)(base:Heap)(c:Cs):Prop where
 g_ShadeError:mg "ShadeError" = some (.ref c.ShadeError)
 g_NoBody:mg "NoBody" = some (.ref c.NoBody)
 g_NoFlat:mg "NoFlat" = some (.ref c.NoFlat)
 g_NoFace:mg "NoFace" = some (.ref c.NoFace)
 g_NoBoard:mg "NoBoard" = some (.ref c.NoBoard)
 o_NoFace:OwnCls "NoFace" c.NoFace bmV "ValueError.__new__" mg base
 x_NoFace:XCls K c.NoFace
 v_NoFace:PySem.W.subIn K (.ref c.NoFace) (.type "ValueError")=some true
 s_NoFace:PySem.W.subIn K (.ref c.NoFace) (.ref c.ShadeError)=some true
 n_NoFace_NoBody:PySem.W.kin_not K c.NoFace c.NoBody=true
 n_NoFace_NoFlat:PySem.W.kin_not K c.NoFace c.NoFlat=true
 n_NoFace_NoBoard:PySem.W.kin_not K c.NoFace c.NoBoard=true
 sh:XBase K c.ShadeError
def Bag3 (n:Nat)(H:Hp)(p:Addr):Prop:=∃ f m st:Int,H p=some (.lst [.int f,.int m,.int st])/\0<=f/\0<=m/\m<4294967296/\0<=st/\st<=n
theorem Bag3.ne {n:Nat}{H:Hp}{p a:Addr}{xs:List V}(b:Bag3 n H p)(h:H a=some (.tup xs)):a≠p:=by
 obtain ⟨f,m,st,e,_⟩:=b
 exact J1d h e (by intro z;cases z)
abbrev FZ:Stmt:=top 63
abbrev xl1:List Str:=["_law_script","_law_k"]
theorem GQ:FnScope ["_law_script","_law_k","_law_cell"] xl1 (J5 FZ):=⟨rfl,rfl,rfl,by decide +kernel,rfl,by decide +kernel,by decide +kernel⟩
def ZU (K:Fg):Sp:=fun vs H Q _=>∃ (a:Addr) (ns:List Int) (i:Nat),vs=[.ref a,.int i]/\SqL K H a (ns.map V.int)/\i<=1000/\∀ p H',H p=none->Same H H'->Bag3 0 H' p->Q (.ref p) H'
theorem QG {w:World} {f:Addr} (F:Fun K "_law_bag" "_law_bag" FZ f fd) (Z:Bi mg) {c:Cs} (Y:Ex K mg base c):FnOk P w K mg base CX0 1 f fd xl1 (ZU K):=by
 refine F.ok GQ (fun vs H Q E h=>?_) (fun cdv A outer s H vs Q E hr h=>?_)
 · obtain ⟨a,ns,i,rfl,hS,hi,k⟩:=h
   rfl
 · obtain ⟨a,ns,i,rfl,hS,hi,k⟩:=h
   refine ⟨_,(AX (DK (i:=2) GQ.nd rfl (by walk_at "o") (AS BE (AS Q9 Z6 (pv 1)) Z6))
    (AX (WA (LH KM (pv 1) (GY (V4 K (by rfl)) rfl Z.len_ BM (BU (pv 0) EG)) (V1 _)) (EV (DK (i:=2) GQ.nd rfl (by walk_at "o") (GX (DZ K (by rfl)) (pv 0) (pv 1) (fun _ _=>rfl)))) LI)
    (EV (JR (MH (BU (AS Q9 (GY FQ rfl Z.abs_ KG (BU (pv 2) EG)) (JV KF rfl Z.int_ NC (BU (WF Q2j (GY FQ rfl Z.abs_ KG (BU (pv 2) EG)) (AS MI Z6 Z6) (V1 _)) EG))) (BU (AS BE (AS GZ (pv 2) Z6) (AS Q9 Z6 (pv 1))) (BU Z6 EG)))))))),?_⟩
   have bi:Bd 64 (i:Int):=Bd.of (by omega) (by omega)
   have fin:∀ c:Int,∀ x:Int,0<=x->∀ p,H p=none->Q (.ref p) (upd H p (.lst [.int x,.int (c % 2147483647+31*(i:Int)),.int 0])):=fun c x hx p hp=>by
    have h1:=W8 c (show (2147483647:Int)≠0 by decide)
    have h2:=W0 c (show (0:Int)<2147483647 by decide)
    exact k p _ hp (Same.upd hp) ⟨_,_,_,AM,hx,by omega,by omega,by decide,by decide⟩
   have hab:∀ c:Int,0<=(if c<0 then -c else c):=fun c=>by split<;>omega
   have body:∀ c:Int,∀ b:Bool,0<=(if c<0 then -c else c)*(if b=true then 1 else 0):=fun c b=>B0t (hab c) (by split<;>decide)
   walk_at "rd"
   refine ⟨_,_,rfl,.inl hS,?_⟩
   walk_at "rd"
   refine J9i (fun h=>?_) (fun h=>?_)
   · have h:(i:Int)<((ns.map V.int).length:Nat):=J7e h
     have hi:i<ns.length:=by rw [L0] at h;omega
     walk_at "rd"
     refine ⟨_,_,_,_,rfl,rfl,hS,HV (v:=V.int ns[i]) (by rw [M9,L4 hi];rfl),?_⟩
     walk_at "rd"
     refine ⟨⟨by decide,by decide,by decide⟩,?_⟩
     walk_at "rd"
     refine .inr ⟨_,rfl,?_⟩
     walk_at "rd"
     refine ⟨CMulB.right (Bd.of (by split<;>omega) (by split<;>omega)),?_⟩
     walk_at "rd"
     refine ⟨(by show (0:Int)<2147483647;decide),?_⟩
     walk_at "rd"
     refine ⟨(M7 (M1 rfl) BP),?_⟩
     exact fin _ _ (body _ _)
   · walk_at "rd"
     refine ⟨⟨by decide,by decide,by decide⟩,?_⟩
     walk_at "rd"
     refine .inr ⟨_,rfl,?_⟩
     walk_at "rd"
     refine ⟨CMulB.right (Bd.of (by split<;>omega) (by split<;>omega)),?_⟩
     walk_at "rd"
     refine ⟨(by show (0:Int)<2147483647;decide),?_⟩
     walk_at "rd"
     refine ⟨(M7 (M1 rfl) BP),?_⟩
     exact fin _ _ (body _ _)
abbrev CW:Stmt:=top 64
abbrev xl2:List Str:=["_law_bag_here","_law_many","_law_digit","_law_primes","_law_step","_law_base","_law_found","_law_prime"]
abbrev xl3:List Str:=["_law_bag_here","_law_many"]
theorem BJ:FnScope xl2 xl3 (J5 CW):=⟨rfl,rfl,rfl,by decide +kernel,rfl,by decide +kernel,by decide +kernel⟩
def VW:Sp:=fun vs H Q _=>∃ (p:Addr) (many:Int) (n:Nat),vs=[.ref p,.int many]/\Bag3 n H p/\n<=9000/\0<many/\many<18446744073709551616/\∀ (r:Int) H',0<=r->r<many->Bag3 (n+1) H' p->Keep p H H'->Q (.int r) H'
abbrev xc1 (P:Program) (w:World) (K:Fg) (mg:Str → Option Value) (base:Heap) (f:Addr) (cdv:Value) (A:Around) (outer:List Env) (s:Shared) (H:Hp) (E:XK):Cx:=DR CX0 P w K mg base xl2 "_law_take" (J5 CW) f cdv A outer s H E
theorem NP {w:World} {f:Addr} (F:Fun K "_law_take" "_law_take" CW f fd) (Z:Bi mg) {c:Cs} (Y:Ex K mg base c):FnOk P w K mg base CX0 1 f fd xl3 VW:=by
 refine F.ok BJ (fun vs H Q E h=>?_) (fun cdv A outer s H vs Q E hr h=>?_)
 · obtain ⟨p,many,n,rfl,⟨dg,m,st,hp,hf,hm,hm2,h0,h1⟩,hn,mp,mb,k⟩:=h
   rfl
 · obtain ⟨p,many,n,rfl,⟨dg,m,st,hp,hf,hm,hm2,h0,h1⟩,hn,mp,mb,k⟩:=h
   obtain ⟨es1,hes1⟩:∃ es:List Expr,es=List.map (fun c:Int×Nat×Pos=>Expr.Constant (.int c.1) c.2.1 c.2.2) [(2147483647,0,⟨250,19,250,29⟩),(2147483629,0,⟨250,31,250,41⟩),(2147483587,0,⟨250,43,250,53⟩),(2147483579,0,⟨250,55,250,65⟩),(2147483563,0,⟨250,67,250,77⟩),(2147483549,0,⟨250,79,250,89⟩),(2147483543,0,⟨250,91,250,101⟩),(2147483497,0,⟨250,103,250,113⟩),(2147483489,0,⟨250,115,250,125⟩),(2147483477,0,⟨250,127,250,137⟩),(2147483423,0,⟨250,139,250,149⟩),(2147483399,0,⟨250,151,250,161⟩)]:=⟨_,rfl⟩
   have hT1:=DK (X:=(xc1 P w K mg base f cdv A outer s H E).nox) (i:=3) (x:="_law_primes") (pos':=⟨250,4,250,15⟩) (pos:=⟨250,4,250,162⟩) BJ.nd rfl (by walk_at "o") (UM (x1:=0) (pos:=⟨250,18,250,162⟩) [(2147483647,0,⟨250,19,250,29⟩),(2147483629,0,⟨250,31,250,41⟩),(2147483587,0,⟨250,43,250,53⟩),(2147483579,0,⟨250,55,250,65⟩),(2147483563,0,⟨250,67,250,77⟩),(2147483549,0,⟨250,79,250,89⟩),(2147483543,0,⟨250,91,250,101⟩),(2147483497,0,⟨250,103,250,113⟩),(2147483489,0,⟨250,115,250,125⟩),(2147483477,0,⟨250,127,250,137⟩),(2147483423,0,⟨250,139,250,149⟩),(2147483399,0,⟨250,151,250,161⟩)] hes1) rfl (.inl rfl)
   generalize hst1:Stmt.Assign [Expr.Name "_law_primes" ⟨250,4,250,15⟩] (Expr.Tuple es1 0 ⟨250,18,250,162⟩) ⟨250,4,250,162⟩=st1 at hT1
   have hR1:=((AX (JU (AS BE (GX (DZ K (by rfl)) (pv 0) Z6 (fun _ _=>rfl)) Z6) (MG (pv 0) Z6 GP))
    (AX (DK (i:=4) BJ.nd rfl (by walk_at "o") (GX (DZ K (by rfl)) (pv 0) Z6 (fun _ _=>rfl)))
    (AX (DK (i:=5) BJ.nd rfl (by walk_at "o") (AS BE (AS BE (AS Q9 (GX (DZ K (by rfl)) (pv 0) Z6 (fun _ _=>rfl)) (AS BE (AS Q9 Z6 (pv 4)) Z6)) (AS Q9 (AS Q9 Z6 (pv 4)) (pv 4))) Z6))
    (AX (DK (i:=6) BJ.nd rfl (by walk_at "o") (AS GZ (AS MI (pv 5) Z6) (GX (QK K (by rfl)) (pv 3) (AS GZ (pv 4) Z6) (fun _ _=>rfl))))
    (AX (DK (i:=7) BJ.nd rfl (by walk_at "o") (GX (QK K (by rfl)) (pv 3) (AS GZ (AS BE (pv 4) Z6) Z6) (fun _ _=>rfl)))
    (EV (JR (AS GZ (AS DL (AS GZ (AS Q9 (pv 6) (AS BE (AS DL (pv 6) Z6) Z6)) (pv 7)) Z6) (pv 1))))))))):PSs (xc1 P w K mg base f cdv A outer s H E).nox ((CP CW).drop 2) _)
   have hV1:=@J0h _ _ _ (AX hT1 hR1)
   refine ⟨_,(AX (WA (LH IX (GX (DZ K (by rfl)) (pv 0) Z6 (fun _ _=>rfl)) Z6 (V1 _)) (AX (DK (i:=2) BJ.nd rfl (by walk_at "o") (AS GZ (GX (DZ K (by rfl)) (pv 0) Z6 (fun _ _=>rfl)) (pv 1)))
    (AX (JU (AS DL (GX (DZ K (by rfl)) (pv 0) Z6 (fun _ _=>rfl)) (pv 1)) (MG (pv 0) Z6 GP))
    (EV (JR (pv 2))))) LI)
    hV1),?_⟩
   have md:∀ x:Int,0<=x % many/\x % many<many:=fun x=>⟨W8 _ (by omega),W0 _ mp⟩
   have bmany:Bd 64 many:=Bd.of (by omega) (by omega)
   walk_at "rd"
   refine ⟨_,_,_,_,rfl,rfl,SqL.of hp,rfl,?_⟩
   walk_at "rd"
   refine J9i (fun h=>?_) (fun h=>?_)
   · have h:0<dg:=J7e h
     walk_at "rd"
     refine ⟨_,_,_,_,rfl,rfl,SqL.of hp,rfl,?_⟩
     walk_at "rd"
     refine ⟨mp,?_⟩
     walk_at "rd"
     refine ⟨_,_,_,_,rfl,rfl,SqL.of hp,rfl,?_⟩
     walk_at "rd"
     refine ⟨⟨mp,64,bmany,by decide⟩,?_⟩
     walk_at "rd"
     refine ⟨_,_,_,0,rfl,rfl,hp,rfl,?_⟩
     walk_at "rd"
     exact k _ _ (md dg).1 (md dg).2 ⟨_,_,_,AM,Int.ediv_nonneg hf (by omega),hm,hm2,h0,by omega⟩ Keep.upd
   · walk_at "rd"
     refine ⟨by rw [<- hst1,hes1];rfl,?_⟩
     walk_at "al"
     rename_i pr npr
     generalize hH1:upd H pr _=H1
     have S1:Same H H1:=by rw [<- hH1];exact Same.upd npr
     have epr:H1 pr=some (HO.tup [.int 2147483647,.int 2147483629,.int 2147483587,.int 2147483579,.int 2147483563,.int 2147483549,.int 2147483543,.int 2147483497,.int 2147483489,.int 2147483477,.int 2147483423,.int 2147483399]):=by rw [<- hH1];exact AM
     have hp1:=S1 _ _ hp
     have npp:pr≠p:=J1d epr hp1 (by intro z;cases z)
     clear hH1
     walk_at "rd"
     refine ⟨_,_,_,_,rfl,rfl,SqL.of hp1,rfl,?_⟩
     walk_at "rd"
     refine ⟨_,_,_,2,rfl,rfl,hp1,rfl,?_⟩
     generalize hH2:upd H1 p _=H2
     have hp2:H2 p=some (HO.lst [.int dg,.int m,.int (st+1)]):=by rw [<- hH2];exact AM
     have epr2:H2 pr=some (HO.tup [.int 2147483647,.int 2147483629,.int 2147483587,.int 2147483579,.int 2147483563,.int 2147483549,.int 2147483543,.int 2147483497,.int 2147483489,.int 2147483477,.int 2147483423,.int 2147483399]):=by rw [<- hH2,V7 npp];exact epr
     have K2:Keep p H H2:=by rw [<- hH2];exact S1.keep.trans Keep.upd
     clear hH2
     have b1:Bd 32 m:=Bd.of (by omega) (by omega)
     have b2:Bd 15 (st+1):=Bd.of (by omega) (by omega)
     walk_at "rd"
     refine ⟨_,_,_,_,rfl,rfl,SqL.of hp2,rfl,?_⟩
     walk_at "rd"
     refine ⟨_,_,_,_,rfl,rfl,SqL.of hp2,rfl,?_⟩
     walk_at "rd"
     have pw:(m*(2*(st+1)+1)+7919*(st+1)*(st+1)+17).natAbs<2 ^ 64:=by
      have q1:0<=m*(2*(st+1)+1)/\m*(2*(st+1)+1)<=4294967296*20000:=⟨B0t hm (by omega),Int.mul_le_mul (by omega) (by omega) (by omega) (by decide)⟩
      have q2:0<=7919*(st+1)*(st+1)/\7919*(st+1)*(st+1)<=7919*10000*10000:=⟨B0t (by omega) (by omega),Int.mul_le_mul (by omega) (by omega) (by omega) (by decide)⟩
      omega
     refine ⟨⟨by decide,by decide,pw⟩,?_⟩
     walk_at "rd"
     refine ⟨(by show (0:Int)<12;decide),?_⟩
     have ixp:∀ j:Int,∃ q:Int,atI [.int 2147483647,.int 2147483629,.int 2147483587,.int 2147483579,.int 2147483563,.int 2147483549,.int 2147483543,.int 2147483497,.int 2147483489,.int 2147483477,.int 2147483423,.int 2147483399] (j % 12)=some (V.int q)/\0<q/\q<=2147483647:=fun j=>by
      obtain ⟨v,ev,mv⟩:=J3f (xs:=[.int 2147483647,.int 2147483629,.int 2147483587,.int 2147483579,.int 2147483563,.int 2147483549,.int 2147483543,.int 2147483497,.int 2147483489,.int 2147483477,.int 2147483423,.int 2147483399]) (i:=j % 12) (W8 _ (by decide)) (W0 _ (by decide))
      simp only [B4,B8,R3] at mv
      rcases mv with e|e|e|e|e|e|e|e|e|e|e|e<;>exact ⟨_,e▸ev,by decide,by decide⟩
     obtain ⟨q1,x1,q10,q11⟩:=ixp (st+1)
     obtain ⟨q2,x2,q20,q21⟩:=ixp (st+1+5)
     refine ⟨_,_,_,_,rfl,rfl,SqT.of epr2,x1,?_⟩
     walk_at "rd"
     refine ⟨q10,?_⟩
     have fb:=W0 ((m*(2*(st+1)+1)+7919*(st+1)*(st+1)+17) ^ (3:Int).toNat) q10
     have f0:=W8 ((m*(2*(st+1)+1)+7919*(st+1)*(st+1)+17) ^ (3:Int).toNat) (show q1≠0 by omega)
     have bfd:Bd 32 ((m*(2*(st+1)+1)+7919*(st+1)*(st+1)+17) ^ (3:Int).toNat % q1):=Bd.of (by omega) (by omega)
     have bfq:Bd 40 ((m*(2*(st+1)+1)+7919*(st+1)*(st+1)+17) ^ (3:Int).toNat % q1 / 4096+5):=Bd.of (by omega) (by omega)
     walk_at "rd"
     refine ⟨(by show (0:Int)<12;decide),?_⟩
     refine ⟨_,_,_,_,rfl,rfl,SqT.of epr2,x2,?_⟩
     walk_at "rd"
     refine ⟨⟨by decide,64,Bd.num _ (by decide),by decide⟩,?_⟩
     walk_at "rd"
     refine ⟨q20,?_⟩
     walk_at "rd"
     refine ⟨⟨by decide,64,Bd.num _ (by decide),by decide⟩,?_⟩
     walk_at "rd"
     refine ⟨mp,?_⟩
     exact k _ _ (md _).1 (md _).2 ⟨_,_,_,hp2,hf,hm,hm2,by omega,by omega⟩ K2
def BT:BagT:=⟨fun p H=>∃ f m st:Int,H p=some (.lst [.int f,.int m,.int st])/\0<=f/\0<=m/\m<4294967296/\0<=st,fun p H H' b k=>by
 obtain ⟨f,m,q,e,r⟩:=b
 exact ⟨f,m,q,k _ e,r⟩,fun p H b=>by
 obtain ⟨f,m,q,e,r⟩:=b
 exact ⟨_,e⟩⟩
theorem J5a {p:Addr}{H H':Hp}(k:Keep p H H'):Kp (some p) H H':=fun c o n e=>k c o (fun z=>n (by rw [z])) e
theorem Bag3.ok {n:Nat}{H:Hp}{p:Addr}(b:Bag3 n H p):BT.ok p H/\HF p H<=n:=by
 obtain ⟨f,m,st,e,h1,h2,h3,h4,h5⟩:=b
 refine ⟨⟨f,m,st,e,h1,h2,h3,h4⟩,?_⟩
 unfold HF
 rw [e]
 show st.toNat<=n
 omega
theorem Bag3.of {H:Hp}{p:Addr}(b:BT.ok p H):Bag3 (HF p H) H p:=by
 obtain ⟨f,m,st,e,h1,h2,h3,h4⟩:=b
 refine ⟨f,m,st,e,h1,h2,h3,h4,?_⟩
 unfold HF
 rw [e]
 show st<=((st.toNat:Nat):Int)
 omega
def PU:List D->Prop:=fun ds=>∃ (ns:List Int) (i:Nat),ds=[.scr ns,.int i]/\i<=1000
theorem RL:∀ vs H Q E,(RE K BT PU) vs H Q E->(ZU K) vs H Q E:=by
 rintro vs H Q E ⟨M,b,ds,hr,⟨ns,i,rfl,hi⟩,k⟩
 obtain ⟨v,r,rfl,⟨a,rfl,hS⟩,u,r',rfl,h2,h3⟩:=hr
 cases (show _=_ from h2)
 cases (show _=_ from h3)
 exact ⟨a,ns,i,rfl,hS.imp (·.2) id,hi,fun p H' hp S b=>k p H' hp S b.ok.1 (by have:=b.ok.2;omega)⟩
theorem SC {w:World} {f:Addr} (F:Fun K "_law_bag" "_law_bag" FZ f fd) (Z:Bi mg) {c:Cs} (Y:Ex K mg base c):FnOk P w K mg base CX0 1 f fd xl1 (RE K BT PU):=FnOk.imp (QG F Z Y) RL
def HJ:LC:=fun ds P n=>∃ (many:Int),ds=[.bag,.int many]/\n<=9000/\0<many/\many<18446744073709551616/\∀ (r:Int) (n':Nat),0<=r->r<many->n'<=n+1->P (.int r) n'
theorem PD:∀ vs H Q E,(Z5 K BT HJ) vs H Q E->VW vs H Q E:=by
 rintro vs H Q E ⟨M,b,ds,P,⟨many,rfl,hn,h0,h1,hP⟩,⟨v,r,rfl,⟨p,rfl,rfl⟩,u,r',rfl,h2,h3⟩,ho,hb,hd,hq⟩
 cases (show _=_ from h2)
 cases (show _=_ from h3)
 exact ⟨p,many,HF p H,rfl,Bag3.of (ho p rfl),hn,h0,h1,fun r H' r0 r1 b' k=>hq _ _ H' (hP r _ r0 r1 b'.ok.2) rfl (J5a k) fun q e=>by cases e;exact b'.ok.1⟩
theorem QA {w:World} {f:Addr} (F:Fun K "_law_take" "_law_take" CW f fd) (Z:Bi mg) {c:Cs} (Y:Ex K mg base c):FnOk P w K mg base CX0 1 f fd xl3 (Z5 K BT HJ):=FnOk.imp (NP F Z Y) PD
def OW:DSp:=fun ds P _=>∃ a b:Int,ds=[.int a,.int b]/\P (.int (Int.gcd a b))
abbrev CH:Stmt:=top 10
abbrev xl4:List Str:=["one","other"]
theorem ES:FnScope xl4 xl4 (J5 CH):=⟨rfl,rfl,rfl,by decide +kernel,rfl,by decide +kernel,by decide +kernel⟩
def ER:Sp:=fun vs H Q _=>∃ a b:Int,vs=[.int a,.int b]/\Q (.int (Int.gcd a b)) H
theorem IK {w:World} {f:Addr} (F:Fun K "common_divisor" "common_divisor" CH f fd) (Z:Bi mg) {c:Cs} (Y:Ex K mg base c):FnOk P w K mg base CX0 1 f fd xl4 ER:=by
 refine F.ok ES (fun vs H Q E h=>?_) (fun cdv A outer s H vs Q E hr h=>?_)
 · obtain ⟨a,b,rfl,k⟩:=h
   rfl
 · obtain ⟨a,b,rfl,k⟩:=h
   refine ⟨_,(AX (RX T4 (LH OA (pv 1) Z6 (V1 _)) (EV (J0j (i:=0) (j:=1) rfl ES.nd rfl rfl (by decide) rfl rfl (BU (pv 1) (BU (AS J4q (pv 0) (pv 1)) EG)) rfl)))
    (EV (JR (GY FQ rfl Z.abs_ KG (BU (pv 0) EG))))),?_⟩
   have ab:∀ x:Int,(if x<0 then -x else x)=(x.natAbs:Int):=fun x=>by split<;>omega
   refine ZM (fun σ H'=>H'=H/\∃ x y:Int,σ=[some (.int x),some (.int y)]/\Int.gcd x y=Int.gcd a b) (fun σ _=>match σ with | [_,some (.int y)]=>y.natAbs|_=>0) ⟨rfl,_,_,rfl,rfl⟩ ?_ ?_
   · rintro σ H' ⟨rfl,x,y,rfl,hg⟩
     walk_at "rd"
     refine J9i (fun h=>?_) (fun h=>?_)
     · have h:y≠0:=J4w h
       walk_at "rd"
       refine ⟨h,?_⟩
       refine ⟨_,_,rfl,⟨rfl,_,_,rfl,by rw [SQ];exact hg⟩,?_⟩
       show (x.fmod y).natAbs<y.natAbs
       exact Q2y h
     · have h:y=0:=J4x h
       walk_at "rd"
       subst h
       have e:((Int.gcd a b:Nat):Int)=(if x<0 then -x else x):=by rw [<- hg,Int.gcd_zero_right,ab]
       rw [e] at k
       exact k
   · rintro σ H' Q1 Q2 hq ⟨v,e1,e2,k',e4,q⟩
     exact ⟨v,e1,e2,k',e4,hq _ _ q⟩
theorem IQ:∀ vs H Q E,(J8 K BT OW) vs H Q E->ER vs H Q E:=by
 rintro vs H Q E ⟨M,b,ds,P,Ed,⟨x,y,rfl,hP⟩,⟨v,r,rfl,h1,u,r',rfl,h2,h3⟩,ho,hb,hd,hq,hx⟩
 cases (show _=_ from h1)
 cases (show _=_ from h2)
 cases (show _=_ from h3)
 exact ⟨x,y,rfl,hq _ _ H hP rfl (Kp.refl _ _) ho⟩
theorem JB {w:World} {f:Addr} (F:Fun K "common_divisor" "common_divisor" CH f fd) (Z:Bi mg) {c:Cs} (Y:Ex K mg base c):FnOk P w K mg base CX0 1 f fd xl4 (J8 K BT OW):=FnOk.imp (IK F Z Y) IQ
abbrev UG:Stmt:=top 9
theorem J4e:FnScope ["number"] ["number"] (J5 UG):=⟨rfl,rfl,rfl,by decide +kernel,rfl,by decide +kernel,by decide +kernel⟩
def sgn (n:Int):Int:=if 0<n then 1 else if n<0 then -1 else 0
def VR:DSp:=fun ds P _=>∃ n:Int,ds=[.int n]/\P (.int (sgn n))
theorem J4s {w:World} {f:Addr} (F:Fun K "sign" "sign" UG f fd) (Z:Bi mg) {c:Cs} (Y:Ex K mg base c):FnOk P w K mg base CX0 1 f fd ["number"] (J8 K BT VR):=by
 refine F.okD J4e (fun ds PP Ed h=>?_) (fun cdv A outer s H E M bg ds PP Ed hr hS_=>?_)
 · obtain ⟨n,rfl,hP⟩:=h
   rfl
 · obtain ⟨n,rfl,hP⟩:=hS_
   refine ⟨_,(J6 (AQ (Y0 IX EH (jdv 0) J1 (V1 _)) (J7 (V0 J1)) Y7)
    (J6 (AQ (Y0 KM EH (jdv 0) J1 (V1 _)) (J7 (V0 (BL J1))) Y7)
    (J7 (V0 J1)))),?_⟩
   unfold sgn at hP
   walk_at "g"
   walk_at "sp"
   · rename_i h;rw [if_pos h] at hP;exact hP
   · rename_i h
     rw [if_neg h] at hP
     walk_at "g"
     walk_at "sp"
     · rename_i h';rw [if_pos h'] at hP;exact hP
     · rename_i h';rw [if_neg h'] at hP;exact hP
abbrev FA:Stmt:=top 13
theorem MC:FnScope ["a","b","c"] ["a","b","c"] (J5 FA):=⟨rfl,rfl,rfl,by decide +kernel,rfl,by decide +kernel,by decide +kernel⟩
def det (a0 a1 a2 b0 b1 b2 c0 c1 c2:Int):Int:=a0*(b1*c2 - b2*c1) - a1*(b0*c2 - b2*c0)+a2*(b0*c1 - b1*c0)
def J3p:DSp:=fun ds P _=>∃ (a0 a1 a2 b0 b1 b2 c0 c1 c2:Int),ds=[t3 a0 a1 a2,t3 b0 b1 b2,t3 c0 c1 c2]/\(Bd 2000 a0/\Bd 2000 a1/\Bd 2000 a2)/\(Bd 2000 b0/\Bd 2000 b1/\Bd 2000 b2)/\(Bd 2000 c0/\Bd 2000 c1/\Bd 2000 c2)/\P (.int (det a0 a1 a2 b0 b1 b2 c0 c1 c2))
theorem MK {w:World} {f:Addr} (F:Fun K "determinant" "determinant" FA f fd) (Z:Bi mg) {c:Cs} (Y:Ex K mg base c):FnOk P w K mg base CX0 1 f fd ["a","b","c"] (J8 K BT J3p):=by
 refine F.okD MC (fun ds PP Ed h=>?_) (fun cdv A outer s H E M bg ds PP Ed hr hS_=>?_)
 · obtain ⟨a0,a1,a2,b0,b1,b2,c0,c1,c2,rfl,⟨p0,p1,p2⟩,⟨q0,q1,q2⟩,⟨r0,r1,r2⟩,hP⟩:=h
   rfl
 · obtain ⟨a0,a1,a2,b0,b1,b2,c0,c1,c2,rfl,⟨p0,p1,p2⟩,⟨q0,q1,q2⟩,⟨r0,r1,r2⟩,hP⟩:=hS_
   refine ⟨_,(J7 (V0 (Q4 BE Z7 (Q4 AA Z7 (Q4 Q9 Z9 (Q3 (J9 K (by rfl)) Q8 (jdv 0) J1 (fun _ _=>rfl)) (Q4 AA Z7 (Q4 Q9 Z9 (Q3 (J9 K (by rfl)) Q8 (jdv 1) J1 (fun _ _=>rfl)) (Q3 (J9 K (by rfl)) Q8 (jdv 2) J1 (fun _ _=>rfl))) (Q4 Q9 Z9 (Q3 (J9 K (by rfl)) Q8 (jdv 1) J1 (fun _ _=>rfl)) (Q3 (J9 K (by rfl)) Q8 (jdv 2) J1 (fun _ _=>rfl))))) (Q4 Q9 Z9 (Q3 (J9 K (by rfl)) Q8 (jdv 0) J1 (fun _ _=>rfl)) (Q4 AA Z7 (Q4 Q9 Z9 (Q3 (J9 K (by rfl)) Q8 (jdv 1) J1 (fun _ _=>rfl)) (Q3 (J9 K (by rfl)) Q8 (jdv 2) J1 (fun _ _=>rfl))) (Q4 Q9 Z9 (Q3 (J9 K (by rfl)) Q8 (jdv 1) J1 (fun _ _=>rfl)) (Q3 (J9 K (by rfl)) Q8 (jdv 2) J1 (fun _ _=>rfl)))))) (Q4 Q9 Z9 (Q3 (J9 K (by rfl)) Q8 (jdv 0) J1 (fun _ _=>rfl)) (Q4 AA Z7 (Q4 Q9 Z9 (Q3 (J9 K (by rfl)) Q8 (jdv 1) J1 (fun _ _=>rfl)) (Q3 (J9 K (by rfl)) Q8 (jdv 2) J1 (fun _ _=>rfl))) (Q4 Q9 Z9 (Q3 (J9 K (by rfl)) Q8 (jdv 1) J1 (fun _ _=>rfl)) (Q3 (J9 K (by rfl)) Q8 (jdv 2) J1 (fun _ _=>rfl)))))))),?_⟩
   walk_at "g"
   exact hP
abbrev IE:Stmt:=top 31
theorem RT:FnScope ["a"] ["a"] (J5 IE):=⟨rfl,rfl,rfl,by decide +kernel,rfl,by decide +kernel,by decide +kernel⟩
def IM:DSp:=fun ds P _=>∃ (x y z w:Int),ds=[sp4 x y z w]/\P (t3 x y w)
theorem RY {w:World} {f:Addr} (F:Fun K "on_board" "on_board" IE f fd) (Z:Bi mg) {c:Cs} (Y:Ex K mg base c):FnOk P w K mg base CX0 1 f fd ["a"] (J8 K BT IM):=by
 refine F.okD RT (fun ds PP Ed h=>?_) (fun cdv A outer s H E M bg ds PP Ed hr hS_=>?_)
 · obtain ⟨x,y,z,w,rfl,hP⟩:=h
   rfl
 · obtain ⟨x,y,z,w,rfl,hP⟩:=hS_
   refine ⟨_,(J7 (V0 (V3 (J0 (Q3 (J9 K (by rfl)) Q8 (jdv 0) J1 (fun _ _=>rfl)) (J0 (Q3 (J9 K (by rfl)) Q8 (jdv 0) J1 (fun _ _=>rfl)) (J0 (Q3 (J9 K (by rfl)) Q8 (jdv 0) J1 (fun _ _=>rfl)) J3)))))),?_⟩
   walk_at "g"
   exact hP
abbrev DF:Stmt:=top 11
theorem BN:FnScope ["numbers","shared","number"] ["numbers"] (J5 DF):=⟨rfl,rfl,rfl,by decide +kernel,rfl,by decide +kernel,by decide +kernel⟩
def fdD (s:Int):D->D
 | .int x=>.int (x.fdiv s)
 | d=>d
def J7o:DSp:=fun ds P _=>∃ (ns:List Int) (last:Int) (n:Nat),ds=[.tup (ns.map D.int++[.int last])]/\last≠0/\Bd n last/\n<=9000/\ns.length<=10/\P (.tup ((ns.map fun x=>.int (x.fdiv (low ns last)))++[.int (last.fdiv (low ns last))]))
structure C_lowest_terms (P:Program)(w:World)(K:Fg)(mg:Str->Option Value)(base:Heap)(c:Cs):Prop where
 common_divisor_:Callee P w K mg base CX0 "common_divisor" 1 xl4 (J8 K BT OW)
abbrev xc2 (P:Program) (w:World) (K:Fg) (mg:Str → Option Value) (base:Heap) (f:Addr) (cdv:Value) (A:Around) (outer:List Env) (s:Shared) (H:Hp) (E:XK):Cx:=DR CX0 P w K mg base ["numbers","shared","number"] "lowest_terms" (J5 DF) f cdv A outer s H E
theorem KU {w:World} {f:Addr} (F:Fun K "lowest_terms" "lowest_terms" DF f fd) (Z:Bi mg) {c:Cs} (Y:Ex K mg base c) (G:C_lowest_terms P w K mg base c):FnOk P w K mg base CX0 2 f fd ["numbers"] (J8 K BT J7o):=by
 refine F.okD BN (fun ds PP Ed h=>?_) (fun cdv A outer s H E M bg ds PP Ed hr hS_=>?_)
 · obtain ⟨ns,last,n,rfl,h0,hbd,hn,hl,hP⟩:=h
   rfl
 · obtain ⟨ns,last,n,rfl,h0,hbd,hn,hl,hP⟩:=hS_
   refine ⟨_,(J6 (V9 (i:=1) BN.nd rfl (by walk_at "o") J1)
    (J6 (EC (Z3 2) T4 rfl (AB (by rfl) (jdv 0)) (pg_name (i:=2) BN.nd rfl (by walk_at "o")) (J7 (V9 (i:=1) BN.nd rfl (by walk_at "o") (Q6 G.common_divisor_ hr.m rfl (J0 (jdv 1) (J0 (jdv 2) J3))))))
    (J6 (AQ (Y0 KM EH (Q3 (J9 K (by rfl)) Q8 (jdv 0) (BL J1) (fun _ _=>rfl)) J1 (V1 _)) (J7 (V9 (i:=1) BN.nd rfl (by walk_at "o") (BL (jdv 1)))) Y7)
    (J7 (V0 (CV (CC K (by rfl)) HG rfl Z.tuple_ AV (J0 (BA (X:=(xc2 P w K mg base f cdv A outer s H E).nox) (Z3 0) (JJ (X:=(xc2 P w K mg base f cdv A outer s H E).nox) (N':=["number","shared"]) (map:=[none,some 1]) (by rfl) (by rfl) (by decide +kernel) (by rfl) ⟨⟨rfl,rfl,rfl,by walk_at "o"⟩,True.intro⟩ (gkeep_name rfl) fun cl0 C0 fp0 s0 H0=>⟨(pg_name (X:=(V2 (xc2 P w K mg base f cdv A outer s H E).nox ["number","shared"] _ cl0 C0 fp0 s0 H0)) (i:=0) (Z0 ["number","shared"] (by decide +kernel)) rfl (by walk_at "o")),AU,(Q4 (X:=(V2 (xc2 P w K mg base f cdv A outer s H E).nox ["number","shared"] _ cl0 C0 fp0 s0 H0)) J0v Z9 (jdv 0) (jdv 1))⟩) (AB (by rfl) (jdv 0))) J3))))))),?_⟩
   have getL:∀ (i:Nat) x,(ns.map D.int++[.int last])[i]?=some x->∃ m,x=.int m/\(ns++[last])[i]?=some m:=fun i x e=>by
    have e':(ns.map D.int++[.int last])=(ns++[last]).map D.int:=by simp
    rw [e',M9] at e
    cases q:(ns++[last])[i]? with
    | none=>rw [q] at e;cases e
    | some m=>rw [q] at e;exact ⟨m,(Option.some.inj e).symm,rfl⟩
   walk_at "g"
   refine ⟨fun i ρ=>∃ v,ρ=[some (.tup (ns.map D.int++[.int last])),some (.int (LB ((ns++[last]).take i))),v],⟨none,rfl⟩,fun i x ρ e ⟨v,q⟩=>?_,fun ρ ⟨v,q⟩=>?_⟩
   · obtain ⟨m,rfl,em⟩:=getL i x e
     subst q
     walk_at "g"
     refine ⟨_,_,rfl,?_⟩
     walk_at "g"
     refine ⟨some (.int m),?_⟩
     rw [B0u,em,B0r,OH]
     rfl
   · subst q
     have et:(ns++[last]).take (ns.map D.int++[D.int last]).length=ns++[last]:=E6 (by simp)
     rw [et]
     have hg:=HS (ns:=ns) h0
     have hlow:∀ s:Int,s=low ns last->compI (gdN 0) OJ (dOp (oI (fun _ j=>j≠0/\∃ n,Bd n j/\n<=9000) Int.fdiv) (ZB 0) (ZB 1)) [none,some (.int s)] (ns.map D.int++[.int last]) (fun acc=>PP (.tup acc)):=fun s es=>by
      refine DN (fdD s) (fun x Q hx q=>?_) (fun x hx=>?_) ?_
      · obtain ⟨i,ei⟩:=B1g hx
        obtain ⟨m,rfl,_⟩:=getL i x ei
        walk_at "w"
        refine ⟨⟨by rw [es];exact J1h h0,n,?_,hn⟩,q⟩
        rw [es]
        exact Nat.lt_of_le_of_lt (J8z h0) hbd
      · obtain ⟨i,ei⟩:=B1g hx
        obtain ⟨m,rfl,_⟩:=getL i x ei
        rfl
      · rw [B0d,List.map_map,es]
        exact hP
     have hlen:(ns.map D.int++[D.int last]).length<=1000:=by simp;omega
     simp only [TR,ZI,Q0m,J2n,Q0n,Q0p,ZC,gdN,dOp,ZB,dC,dUn,J8w,J2k,J3g,J3h,MX,dCB,J6b,J2p,J9l,oI,oB0,oIx,J0z,JH,U7,List.map_nil,DB,U5,List.length_nil,List.replicate,List.cons_append,List.nil_append,Nat.reduceAdd,Nat.reduceSub,Nat.zero_add,E7,Option.bind_some,Option.bind_none,Option.join_some,Option.join_none,List.getElem?_cons_succ,List.getElem?_cons_zero,List.set_cons_succ,List.set_cons_zero,E1,List.all_nil,BF,L2.plain,Bool.and_true,U8,true_and,J6j,Option.elim_some]
     walk_at "sp"
     · rename_i hlt
       refine ⟨hlen,hlow _ ?_⟩
       unfold low;rw [if_pos hlt]
     · rename_i hlt
       refine ⟨hlen,hlow _ ?_⟩
       unfold low;rw [if_neg hlt]
structure T3 where
 ax:Int
 ay:Int
 az:Int
 aw:Int
 bx:Int
 b_y:Int
 bz:Int
 bw:Int
 cx:Int
 cy:Int
 cz:Int
 cw:Int
structure T3.ok (t:T3)(n:Nat):Prop where
 ax:Bd n t.ax
 ay:Bd n t.ay
 az:Bd n t.az
 aw:Bd n t.aw
 bx:Bd n t.bx
 b_y:Bd n t.b_y
 bz:Bd n t.bz
 bw:Bd n t.bw
 cx:Bd n t.cx
 cy:Bd n t.cy
 cz:Bd n t.cz
 cw:Bd n t.cw
abbrev T3.d (t:T3):D:=.tup [sp4 t.ax t.ay t.az t.aw,sp4 t.bx t.b_y t.bz t.bw,sp4 t.cx t.cy t.cz t.cw]
def T3.tn (t:T3):Int:=det t.ax t.ay t.aw t.bx t.b_y t.bw t.cx t.cy t.cw
def T3.wA (t:T3)(px py:Int):Int:=det t.bx t.b_y t.bw t.cx t.cy t.cw px py 1
def T3.wB (t:T3)(px py:Int):Int:=det t.cx t.cy t.cw t.ax t.ay t.aw px py 1
def T3.wC (t:T3)(px py:Int):Int:=det t.ax t.ay t.aw t.bx t.b_y t.bw px py 1
def T3.top (t:T3)(px py:Int):Int:=t.wA px py*t.az+t.wB px py*t.bz+t.wC px py*t.cz
theorem QP {n:Nat}{a0 a1 a2 b0 b1 b2 c0 c1 c2:Int}(h0:Bd n a0)(h1:Bd n a1)(h2:Bd n a2)(h3:Bd n b0)(h4:Bd n b1)(h5:Bd n b2)(h6:Bd n c0)(h7:Bd n c1)(h8:Bd n c2):Bd (3*n+5) (det a0 a1 a2 b0 b1 b2 c0 c1 c2):=by
 unfold det
 have e1:=Bd.mul h0 (Bd.sub (Bd.mul h4 h8) (Bd.mul h5 h7))
 have e2:=Bd.mul h1 (Bd.sub (Bd.mul h3 h8) (Bd.mul h5 h6))
 have e3:=Bd.mul h2 (Bd.sub (Bd.mul h3 h7) (Bd.mul h4 h6))
 exact (Bd.add (Bd.sub e1 e2) e3).mono (by omega)
theorem bd1 {n:Nat}(h:3<=n):Bd n 1:=(Bd.of (by decide) (by decide):Bd 3 1).mono h
abbrev EZ:Stmt:=top 32
abbrev xl5:List Str:=["a","b","dot"]
theorem MA:FnScope xl5 xl5 (J5 EZ):=⟨rfl,rfl,rfl,by decide +kernel,rfl,by decide +kernel,by decide +kernel⟩
def RF:DSp:=fun ds P _=>∃ (ax ay az aw bx b_y bz bw px py:Int),ds=[sp4 ax ay az aw,sp4 bx b_y bz bw,t2 px py]/\(Bd 2000 ax/\Bd 2000 ay/\Bd 2000 aw)/\(Bd 2000 bx/\Bd 2000 b_y/\Bd 2000 bw)/\(Bd 2000 px/\Bd 2000 py)/\P (.int (det ax ay aw bx b_y bw px py 1))
structure C_side_number (P:Program)(w:World)(K:Fg)(mg:Str->Option Value)(base:Heap)(c:Cs):Prop where
 determinant_:Callee P w K mg base CX0 "determinant" 1 ["a","b","c"] (J8 K BT J3p)
 on_board_:Callee P w K mg base CX0 "on_board" 1 ["a"] (J8 K BT IM)
theorem MJ {w:World} {f:Addr} (F:Fun K "side_number" "side_number" EZ f fd) (Z:Bi mg) {c:Cs} (Y:Ex K mg base c) (G:C_side_number P w K mg base c):FnOk P w K mg base CX0 2 f fd xl5 (J8 K BT RF):=by
 refine F.okD MA (fun ds PP Ed h=>?_) (fun cdv A outer s H E M bg ds PP Ed hr hS_=>?_)
 · obtain ⟨ax,ay,az,aw,bx,b_y,bz,bw,px,py,rfl,h1,h2,⟨h3,h4⟩,hP⟩:=h
   rfl
 · obtain ⟨ax,ay,az,aw,bx,b_y,bz,bw,px,py,rfl,h1,h2,⟨h3,h4⟩,hP⟩:=hS_
   refine ⟨_,(J7 (V0 (Q6 G.determinant_ hr.m rfl (J0 (Q6 G.on_board_ hr.m rfl (J0 (jdv 0) J3)) (J0 (Q6 G.on_board_ hr.m rfl (J0 (jdv 1) J3)) (J0 (V3 (J0 (Q3 (J9 K (by rfl)) Q8 (jdv 2) J1 (fun _ _=>rfl)) (J0 (Q3 (J9 K (by rfl)) Q8 (jdv 2) J1 (fun _ _=>rfl)) (J0 J1 J3)))) J3)))))),?_⟩
   walk_at "g"
   refine ⟨_,_,_,_,rfl,?_⟩
   walk_at "g"
   refine ⟨_,_,_,_,rfl,?_⟩
   walk_at "g"
   exact ⟨_,_,_,_,_,_,_,_,_,rfl,h1,h2,⟨h3,h4,bd1 (by decide)⟩,hP⟩
abbrev UF:Stmt:=top 38
theorem FT:FnScope ["face","a","b","c"] ["face"] (J5 UF):=⟨rfl,rfl,rfl,by decide +kernel,rfl,by decide +kernel,by decide +kernel⟩
def J3i:DSp:=fun ds P _=>∃ (t:T3) (n:Nat),ds=[t.d]/\t.ok n/\n<=2000/\P (.int t.tn)
structure C_turn (P:Program)(w:World)(K:Fg)(mg:Str->Option Value)(base:Heap)(c:Cs):Prop where
 determinant_:Callee P w K mg base CX0 "determinant" 1 ["a","b","c"] (J8 K BT J3p)
 on_board_:Callee P w K mg base CX0 "on_board" 1 ["a"] (J8 K BT IM)
theorem J4r {w:World} {f:Addr} (F:Fun K "turn" "turn" UF f fd) (Z:Bi mg) {c:Cs} (Y:Ex K mg base c) (G:C_turn P w K mg base c):FnOk P w K mg base CX0 2 f fd ["face"] (J8 K BT J3i):=by
 refine F.okD FT (fun ds PP Ed h=>?_) (fun cdv A outer s H E M bg ds PP Ed hr hS_=>?_)
 · obtain ⟨t,n,rfl,ok,hn,hP⟩:=h
   rfl
 · obtain ⟨t,n,rfl,ok,hn,hP⟩:=hS_
   refine ⟨_,(J6 (ED (CB [1,2,3]) (jdv 0) (PG.or (AW (n:=3) K (by rfl) (by rfl) (J4 (pg_name (i:=1) FT.nd rfl (by walk_at "o")) (J4 (pg_name (i:=2) FT.nd rfl (by walk_at "o")) (J4 (pg_name (i:=3) FT.nd rfl (by walk_at "o")) Y3)))) (AY (n:=3) K (by rfl) (by rfl) (J4 (pg_name (i:=1) FT.nd rfl (by walk_at "o")) (J4 (pg_name (i:=2) FT.nd rfl (by walk_at "o")) (J4 (pg_name (i:=3) FT.nd rfl (by walk_at "o")) Y3))))))
    (J7 (V0 (Q6 G.determinant_ hr.m rfl (J0 (Q6 G.on_board_ hr.m rfl (J0 (jdv 1) J3)) (J0 (Q6 G.on_board_ hr.m rfl (J0 (jdv 2) J3)) (J0 (Q6 G.on_board_ hr.m rfl (J0 (jdv 3) J3)) J3))))))),?_⟩
   walk_at "g"
   refine ⟨_,_,_,_,rfl,?_⟩
   walk_at "g"
   refine ⟨_,_,_,_,rfl,?_⟩
   walk_at "g"
   refine ⟨_,_,_,_,rfl,?_⟩
   walk_at "g"
   exact ⟨_,_,_,_,_,_,_,_,_,rfl,⟨ok.ax.mono hn,ok.ay.mono hn,ok.aw.mono hn⟩,⟨ok.bx.mono hn,ok.b_y.mono hn,ok.bw.mono hn⟩,⟨ok.cx.mono hn,ok.cy.mono hn,ok.cw.mono hn⟩,hP⟩
abbrev JL:Stmt:=top 43
abbrev xl6:List Str:=["face","dot"]
theorem CS:FnScope ["face","dot","a","b","c"] xl6 (J5 JL):=⟨rfl,rfl,rfl,by decide +kernel,rfl,by decide +kernel,by decide +kernel⟩
def OT:DSp:=fun ds P _=>∃ (t:T3) (px py:Int) (n:Nat),ds=[t.d,t2 px py]/\t.ok n/\Bd n px/\Bd n py/\n<=2000/\P (t3 (t.wA px py) (t.wB px py) (t.wC px py))
structure C_weights (P:Program)(w:World)(K:Fg)(mg:Str->Option Value)(base:Heap)(c:Cs):Prop where
 side_number_:Callee P w K mg base CX0 "side_number" 2 xl5 (J8 K BT RF)
theorem UO {w:World} {f:Addr} (F:Fun K "weights" "weights" JL f fd) (Z:Bi mg) {c:Cs} (Y:Ex K mg base c) (G:C_weights P w K mg base c):FnOk P w K mg base CX0 3 f fd xl6 (J8 K BT OT):=by
 refine F.okD CS (fun ds PP Ed h=>?_) (fun cdv A outer s H E M bg ds PP Ed hr hS_=>?_)
 · obtain ⟨t,px,py,n,rfl,ok,hx,hy,hn,hP⟩:=h
   rfl
 · obtain ⟨t,px,py,n,rfl,ok,hx,hy,hn,hP⟩:=hS_
   refine ⟨_,(J6 (ED (CB [2,3,4]) (jdv 0) (PG.or (AW (n:=3) K (by rfl) (by rfl) (J4 (pg_name (i:=2) CS.nd rfl (by walk_at "o")) (J4 (pg_name (i:=3) CS.nd rfl (by walk_at "o")) (J4 (pg_name (i:=4) CS.nd rfl (by walk_at "o")) Y3)))) (AY (n:=3) K (by rfl) (by rfl) (J4 (pg_name (i:=2) CS.nd rfl (by walk_at "o")) (J4 (pg_name (i:=3) CS.nd rfl (by walk_at "o")) (J4 (pg_name (i:=4) CS.nd rfl (by walk_at "o")) Y3))))))
    (J7 (V0 (V3 (J0 (Q6 G.side_number_ hr.m rfl (J0 (jdv 3) (J0 (jdv 4) (J0 (jdv 1) J3)))) (J0 (Q6 G.side_number_ hr.m rfl (J0 (jdv 4) (J0 (jdv 2) (J0 (jdv 1) J3)))) (J0 (Q6 G.side_number_ hr.m rfl (J0 (jdv 2) (J0 (jdv 3) (J0 (jdv 1) J3)))) J3))))))),?_⟩
   walk_at "g"
   refine ⟨_,_,_,_,_,_,_,_,_,_,rfl,⟨ok.bx.mono hn,ok.b_y.mono hn,ok.bw.mono hn⟩,⟨ok.cx.mono hn,ok.cy.mono hn,ok.cw.mono hn⟩,⟨hx.mono hn,hy.mono hn⟩,?_⟩
   walk_at "g"
   refine ⟨_,_,_,_,_,_,_,_,_,_,rfl,⟨ok.cx.mono hn,ok.cy.mono hn,ok.cw.mono hn⟩,⟨ok.ax.mono hn,ok.ay.mono hn,ok.aw.mono hn⟩,⟨hx.mono hn,hy.mono hn⟩,?_⟩
   walk_at "g"
   refine ⟨_,_,_,_,_,_,_,_,_,_,rfl,⟨ok.ax.mono hn,ok.ay.mono hn,ok.aw.mono hn⟩,⟨ok.bx.mono hn,ok.b_y.mono hn,ok.bw.mono hn⟩,⟨hx.mono hn,hy.mono hn⟩,?_⟩
   walk_at "g"
   exact hP
abbrev ME:Stmt:=top 33
theorem YB:FnScope ["a","b"] ["a","b"] (J5 ME):=⟨rfl,rfl,rfl,by decide +kernel,rfl,by decide +kernel,by decide +kernel⟩
def TN:DSp:=fun ds P _=>∃ (ax ay az aw bx b_y bz bw:Int),ds=[sp4 ax ay az aw,sp4 bx b_y bz bw]/\(Bd 2000 ay/\Bd 2000 aw)/\(Bd 2000 b_y/\Bd 2000 bw)/\P (.int (ay*bw - aw*b_y))
theorem YG {w:World} {f:Addr} (F:Fun K "growth" "growth" ME f fd) (Z:Bi mg) {c:Cs} (Y:Ex K mg base c):FnOk P w K mg base CX0 1 f fd ["a","b"] (J8 K BT TN):=by
 refine F.okD YB (fun ds PP Ed h=>?_) (fun cdv A outer s H E M bg ds PP Ed hr hS_=>?_)
 · obtain ⟨ax,ay,az,aw,bx,b_y,bz,bw,rfl,⟨h1,h2⟩,⟨h3,h4⟩,hP⟩:=h
   rfl
 · obtain ⟨ax,ay,az,aw,bx,b_y,bz,bw,rfl,⟨h1,h2⟩,⟨h3,h4⟩,hP⟩:=hS_
   refine ⟨_,(J7 (V0 (Q4 AA Z7 (Q4 Q9 Z9 (Q3 (J9 K (by rfl)) Q8 (jdv 0) J1 (fun _ _=>rfl)) (Q3 (J9 K (by rfl)) Q8 (jdv 1) J1 (fun _ _=>rfl))) (Q4 Q9 Z9 (Q3 (J9 K (by rfl)) Q8 (jdv 0) J1 (fun _ _=>rfl)) (Q3 (J9 K (by rfl)) Q8 (jdv 1) J1 (fun _ _=>rfl)))))),?_⟩
   walk_at "g"
   exact hP
abbrev EE:Stmt:=top 34
theorem CL:FnScope ["a","b","dot","number"] xl5 (J5 EE):=⟨rfl,rfl,rfl,by decide +kernel,rfl,by decide +kernel,by decide +kernel⟩
def shd (ax ay aw bx b_y bw px py:Int):Int:=if det ax ay aw bx b_y bw px py 1=0 then (if ay*bw - aw*b_y=0 then aw*bx - ax*bw else ay*bw - aw*b_y) else det ax ay aw bx b_y bw px py 1
def J7m:DSp:=fun ds P _=>∃ (ax ay az aw bx b_y bz bw px py:Int),ds=[sp4 ax ay az aw,sp4 bx b_y bz bw,t2 px py]/\(Bd 2000 ax/\Bd 2000 ay/\Bd 2000 aw)/\(Bd 2000 bx/\Bd 2000 b_y/\Bd 2000 bw)/\(Bd 2000 px/\Bd 2000 py)/\P (.int (sgn (shd ax ay aw bx b_y bw px py)))
structure C_shifted_side (P:Program)(w:World)(K:Fg)(mg:Str->Option Value)(base:Heap)(c:Cs):Prop where
 side_number_:Callee P w K mg base CX0 "side_number" 2 xl5 (J8 K BT RF)
 sign_:Callee P w K mg base CX0 "sign" 1 ["number"] (J8 K BT VR)
 growth_:Callee P w K mg base CX0 "growth" 1 ["a","b"] (J8 K BT TN)
theorem KS {w:World} {f:Addr} (F:Fun K "shifted_side" "shifted_side" EE f fd) (Z:Bi mg) {c:Cs} (Y:Ex K mg base c) (G:C_shifted_side P w K mg base c):FnOk P w K mg base CX0 3 f fd xl5 (J8 K BT J7m):=by
 refine F.okD CL (fun ds PP Ed h=>?_) (fun cdv A outer s H E M bg ds PP Ed hr hS_=>?_)
 · obtain ⟨ax,ay,az,aw,bx,b_y,bz,bw,px,py,rfl,⟨a1,a2,a3⟩,⟨b1,b2,b3⟩,⟨h3,h4⟩,hP⟩:=h
   rfl
 · obtain ⟨ax,ay,az,aw,bx,b_y,bz,bw,px,py,rfl,⟨a1,a2,a3⟩,⟨b1,b2,b3⟩,⟨h3,h4⟩,hP⟩:=hS_
   refine ⟨_,(J6 (V9 (i:=3) CL.nd rfl (by walk_at "o") (Q6 G.side_number_ hr.m rfl (J0 (jdv 0) (J0 (jdv 1) (J0 (jdv 2) J3)))))
    (J6 (AQ (Y0 BZ AT (jdv 3) J1 (V1 _)) (J7 (V9 (i:=3) CL.nd rfl (by walk_at "o") (Q6 G.growth_ hr.m rfl (J0 (jdv 0) (J0 (jdv 1) J3))))) Y7)
    (J6 (AQ (Y0 BZ AT (jdv 3) J1 (V1 _)) (J7 (V9 (i:=3) CL.nd rfl (by walk_at "o") (Q4 AA Z7 (Q4 Q9 Z9 (Q3 (J9 K (by rfl)) Q8 (jdv 0) J1 (fun _ _=>rfl)) (Q3 (J9 K (by rfl)) Q8 (jdv 1) J1 (fun _ _=>rfl))) (Q4 Q9 Z9 (Q3 (J9 K (by rfl)) Q8 (jdv 0) J1 (fun _ _=>rfl)) (Q3 (J9 K (by rfl)) Q8 (jdv 1) J1 (fun _ _=>rfl)))))) Y7)
    (J7 (V0 (Q6 G.sign_ hr.m rfl (J0 (jdv 3) J3))))))),?_⟩
   walk_at "g"
   refine ⟨ax,ay,az,aw,bx,b_y,bz,bw,px,py,rfl,⟨a1,a2,a3⟩,⟨b1,b2,b3⟩,⟨h3,h4⟩,?_⟩
   walk_at "g"
   walk_at "sp"
   · rename_i z
     walk_at "g"
     refine ⟨ax,ay,az,aw,bx,b_y,bz,bw,rfl,⟨a2,a3⟩,⟨b2,b3⟩,?_⟩
     walk_at "g"
     walk_at "sp"
     · rename_i z2
       walk_at "g"
       refine ⟨_,rfl,?_⟩
       have e:shd ax ay aw bx b_y bw px py=aw*bx - ax*bw:=by unfold shd;rw [if_pos z,if_pos z2]
       rw [e] at hP
       exact hP
     · rename_i z2
       walk_at "g"
       refine ⟨_,rfl,?_⟩
       have e:shd ax ay aw bx b_y bw px py=ay*bw - aw*b_y:=by unfold shd;rw [if_pos z,if_neg z2]
       rw [e] at hP
       exact hP
   · rename_i z
     walk_at "g"
     refine IfP.f (by simp [z]) ?_
     walk_at "g"
     refine ⟨_,rfl,?_⟩
     have e:shd ax ay aw bx b_y bw px py=det ax ay aw bx b_y bw px py 1:=by unfold shd;rw [if_neg z]
     rw [e] at hP
     exact hP
abbrev JQ:Stmt:=top 36
theorem BX:FnScope ["face","dot","a","b","c","first"] xl6 (J5 JQ):=⟨rfl,rfl,rfl,by decide +kernel,rfl,by decide +kernel,by decide +kernel⟩
def T3.s1 (t:T3)(px py:Int):Int:=sgn (shd t.ax t.ay t.aw t.bx t.b_y t.bw px py)
def T3.s2 (t:T3)(px py:Int):Int:=sgn (shd t.bx t.b_y t.bw t.cx t.cy t.cw px py)
def T3.s3 (t:T3)(px py:Int):Int:=sgn (shd t.cx t.cy t.cw t.ax t.ay t.aw px py)
def T3.has (t:T3)(px py:Int):Prop:=t.s1 px py≠0/\t.s2 px py=t.s1 px py/\t.s3 px py=t.s1 px py
instance (t:T3) (px py:Int):Decidable (t.has px py):=inferInstanceAs (Decidable (_/\_/\_))
def TM:DSp:=fun ds P _=>∃ (t:T3) (px py:Int) (n:Nat),ds=[t.d,t2 px py]/\t.ok n/\Bd n px/\Bd n py/\n<=2000/\P (.bl (decide (t.has px py)))
structure C_has_dot (P:Program)(w:World)(K:Fg)(mg:Str->Option Value)(base:Heap)(c:Cs):Prop where
 shifted_side_:Callee P w K mg base CX0 "shifted_side" 3 xl5 (J8 K BT J7m)
theorem US {w:World} {f:Addr} (F:Fun K "has_dot" "has_dot" JQ f fd) (Z:Bi mg) {c:Cs} (Y:Ex K mg base c) (G:C_has_dot P w K mg base c):FnOk P w K mg base CX0 4 f fd xl6 (J8 K BT TM):=by
 refine F.okD BX (fun ds PP Ed h=>?_) (fun cdv A outer s H E M bg ds PP Ed hr hS_=>?_)
 · obtain ⟨t,px,py,n,rfl,ok,hx,hy,hn,hP⟩:=h
   rfl
 · obtain ⟨t,px,py,n,rfl,ok,hx,hy,hn,hP⟩:=hS_
   refine ⟨_,(J6 (ED (CB [2,3,4]) (jdv 0) (PG.or (AW (n:=3) K (by rfl) (by rfl) (J4 (pg_name (i:=2) BX.nd rfl (by walk_at "o")) (J4 (pg_name (i:=3) BX.nd rfl (by walk_at "o")) (J4 (pg_name (i:=4) BX.nd rfl (by walk_at "o")) Y3)))) (AY (n:=3) K (by rfl) (by rfl) (J4 (pg_name (i:=2) BX.nd rfl (by walk_at "o")) (J4 (pg_name (i:=3) BX.nd rfl (by walk_at "o")) (J4 (pg_name (i:=4) BX.nd rfl (by walk_at "o")) Y3))))))
    (J6 (V9 (i:=5) BX.nd rfl (by walk_at "o") (Q6 G.shifted_side_ hr.m rfl (J0 (jdv 2) (J0 (jdv 3) (J0 (jdv 1) J3)))))
    (J7 (V0 (BW (AK OA MP (jdv 5) J1 (V1 _)) (BW (AK BZ AT (Q6 G.shifted_side_ hr.m rfl (J0 (jdv 3) (J0 (jdv 4) (J0 (jdv 1) J3)))) (jdv 5) (V1 _)) (DW (AK BZ AT (Q6 G.shifted_side_ hr.m rfl (J0 (jdv 4) (J0 (jdv 2) (J0 (jdv 1) J3)))) (jdv 5) (V1 _))))))))),?_⟩
   walk_at "g"
   refine ⟨_,_,_,_,_,_,_,_,_,_,rfl,⟨ok.ax.mono hn,ok.ay.mono hn,ok.aw.mono hn⟩,⟨ok.bx.mono hn,ok.b_y.mono hn,ok.bw.mono hn⟩,⟨hx.mono hn,hy.mono hn⟩,?_⟩
   walk_at "g"
   have key:∀ b:Bool,(b=true↔t.has px py)->PP (.bl b):=fun b h=>by
    rw [show b=decide (t.has px py) from by rw [E8,h];simp]
    exact hP
   unfold T3.has T3.s1 T3.s2 T3.s3 at key
   walk_at "sp"
   · rename_i h1
     walk_at "g"
     refine ⟨_,_,_,_,_,_,_,_,_,_,rfl,⟨ok.bx.mono hn,ok.b_y.mono hn,ok.bw.mono hn⟩,⟨ok.cx.mono hn,ok.cy.mono hn,ok.cw.mono hn⟩,⟨hx.mono hn,hy.mono hn⟩,?_⟩
     walk_at "g"
     walk_at "sp"
     · rename_i h2
       walk_at "g"
       refine ⟨_,_,_,_,_,_,_,_,_,_,rfl,⟨ok.cx.mono hn,ok.cy.mono hn,ok.cw.mono hn⟩,⟨ok.ax.mono hn,ok.ay.mono hn,ok.aw.mono hn⟩,⟨hx.mono hn,hy.mono hn⟩,?_⟩
       walk_at "g"
       refine key _ ?_
       simp [h1,h2]
     · rename_i h2
       walk_at "g"
       refine key _ ?_
       simp [h2]
   · rename_i h1
     walk_at "g"
     refine key _ ?_
     simp [h1]
abbrev JP:Stmt:=top 15
theorem UE:FnScope xl4 xl4 (J5 JP):=⟨rfl,rfl,rfl,by decide +kernel,rfl,by decide +kernel,by decide +kernel⟩
def J3m:DSp:=fun ds P _=>∃ (a b c e:Int),ds=[t2 a b,t2 c e]/\(Bd 2000 a/\Bd 2000 b)/\(Bd 2000 c/\Bd 2000 e)/\P (.bl (decide (a*e<c*b)))
theorem UR {w:World} {f:Addr} (F:Fun K "is_less" "is_less" JP f fd) (Z:Bi mg) {c:Cs} (Y:Ex K mg base c):FnOk P w K mg base CX0 1 f fd xl4 (J8 K BT J3m):=by
 refine F.okD UE (fun ds PP Ed h=>?_) (fun cdv A outer s H E M bg ds PP Ed hr hS_=>?_)
 · obtain ⟨a,b,c,e,rfl,⟨h1,h2⟩,⟨h3,h4⟩,hP⟩:=h
   rfl
 · obtain ⟨a,b,c,e,rfl,⟨h1,h2⟩,⟨h3,h4⟩,hP⟩:=hS_
   refine ⟨_,(J7 (V0 (AK KM EH (Q4 Q9 Z9 (Q3 (J9 K (by rfl)) Q8 (jdv 0) J1 (fun _ _=>rfl)) (Q3 (J9 K (by rfl)) Q8 (jdv 1) J1 (fun _ _=>rfl))) (Q4 Q9 Z9 (Q3 (J9 K (by rfl)) Q8 (jdv 1) J1 (fun _ _=>rfl)) (Q3 (J9 K (by rfl)) Q8 (jdv 0) J1 (fun _ _=>rfl))) (V1 _)))),?_⟩
   walk_at "g"
   exact hP
theorem FR {n:Int}(h:0<n):sgn n=1:=by unfold sgn;rw [if_pos h]
theorem FS {n:Int}(h:n<0):sgn n = -1:=by unfold sgn;rw [if_neg (by omega),if_pos h]
theorem ZW:sgn 0=0:=by decide
theorem VY {a:Int}(n:Int)(h:0<a):sgn (a*n)=sgn n:=by
 by_cases h1:0<n
 · rw [FR h1,FR (B1h h h1)]
 · by_cases h2:n<0
   · rw [FS h2,FS (D9 h h2)]
   · have:n=0:=by omega
     subst this
     rw [Int.mul_zero]
theorem J4y {a b M:Int}(h1:(a.natAbs:Int)<=M)(h2:(b.natAbs:Int)<=M) : -(M*M)<=a*b/\a*b<=M*M:=by
 have h3:a.natAbs*b.natAbs<=M.toNat*M.toNat:=Nat.mul_le_mul (by omega) (by omega)
 have h4:(a*b).natAbs=a.natAbs*b.natAbs:=Int.natAbs_mul a b
 have h5:((M.toNat*M.toNat:Nat):Int)=M*M:=by rw [Int.natCast_mul];have:(M.toNat:Int)=M:=(by omega);rw [this]
 omega
theorem ZX {A B C T F:Int}(hT:0<=T)(hF:F=10+8*T)(b1 : -(2*T)<=B)(b2:B<=2*T)(c1 : -(2*T)<=C)(c2:C<=2*T) :
 sgn (F*F*A+F*B+C)=sgn (if A=0 then (if B=0 then C else B) else A):=by
 have F0:0<F:=by omega
 have e1:F*(10+6*T)=F*F - F*(2*T):=by rw [hF];grind
 have e2:10*(10+6*T)<=F*(10+6*T):=Int.mul_le_mul_of_nonneg_right (by omega) (by omega)
 have fb1:F * -(2*T)<=F*B:=R8 b1 (by omega)
 have fb2:F*B<=F*(2*T):=R8 b2 (by omega)
 have e3:F * -(2*T) = -(F*(2*T)):=Int.mul_neg _ _
 have FF:0<F*F:=B1h F0 F0
 by_cases hA:A=0
 · rw [if_pos hA,hA,Int.mul_zero]
   by_cases hB:B=0
   · rw [if_pos hB,hB,Int.mul_zero]
     congr 1
     omega
   · rw [if_neg hB]
     by_cases hp:0<B
     · have:F*1<=F*B:=R8 (by omega) (by omega)
       rw [FR hp,FR (by omega)]
     · have:F*B<=F * -1:=R8 (by omega) (by omega)
       have e4:F * -1 = -F:=by omega
       rw [FS (show B<0 by omega),FS (by omega)]
 · rw [if_neg hA]
   by_cases hp:0<A
   · have:F*F*1<=F*F*A:=R8 (by omega) (by omega)
     rw [FR hp,FR (by omega)]
   · have:F*F*A<=F*F * -1:=R8 (by omega) (by omega)
     rw [FS (show A<0 by omega),FS (by omega)]
theorem OD (ax ay aw bx b_y bw px py pw:Int):(bx*aw - ax*bw)*(py*aw - ay*pw) - (b_y*aw - ay*bw)*(px*aw - ax*pw)=aw*det ax ay aw bx b_y bw px py pw:=by unfold det;grind
theorem J1c (ax ay aw bx b_y bw px py F:Int):det ax ay aw bx b_y bw (px*F*F+F) (py*F*F+1) (F*F)=F*F*det ax ay aw bx b_y bw px py 1+F*(ay*bw - aw*b_y)+(aw*bx - ax*bw):=by unfold det;grind
theorem UJ {ax ay az aw bx b_y bz bw px py M:Int}(hw:0<aw)(hM:1<=M)(h:∀ n∈[ax,ay,az,aw,bx,b_y,bz,bw],(n.natAbs:Int)<=M) :
 sgn ((bx*aw - ax*bw)*((py*(10+8*M*M)*(10+8*M*M)+1)*aw - ay*((10+8*M*M)*(10+8*M*M))) - (b_y*aw - ay*bw)*((px*(10+8*M*M)*(10+8*M*M)+(10+8*M*M))*aw - ax*((10+8*M*M)*(10+8*M*M))))=sgn (shd ax ay aw bx b_y bw px py):=by
 rw [OD,VY _ hw,J1c]
 have m1:=J4y (h ay (by simp)) (h bw (by simp))
 have m2:=J4y (h aw (by simp)) (h b_y (by simp))
 have m3:=J4y (h aw (by simp)) (h bx (by simp))
 have m4:=J4y (h ax (by simp)) (h bw (by simp))
 have hT:0<=M*M:=B0t (by omega) (by omega)
 exact ZX (T:=M*M) hT (by rw [Int.mul_assoc]) (by omega) (by omega) (by omega) (by omega)
theorem HN (n:Int):(0<n/\sgn n=1)\/(n=0/\sgn n=0)\/(n<0/\sgn n = -1):=by
 by_cases h:0<n
 · exact .inl ⟨h,FR h⟩
 · by_cases h':n<0
   · exact .inr (.inr ⟨h',FS h'⟩)
   · have:n=0:=by omega
     subst this
     exact .inr (.inl ⟨rfl,ZW⟩)
structure T3.pos (t:T3):Prop where
 a:0<t.aw
 b:0<t.bw
 c:0<t.cw
def T3.nums (t:T3):List Int:=[t.ax,t.ay,t.az,t.aw,t.bx,t.b_y,t.bz,t.bw,t.cx,t.cy,t.cz,t.cw]
def T3.in (t:T3)(M:Int):Prop:=∀ n∈t.nums,(n.natAbs:Int)<=M
def nX (px M:Int):Int:=px*(10+8*M*M)*(10+8*M*M)+(10+8*M*M)
def nY (py M:Int):Int:=py*(10+8*M*M)*(10+8*M*M)+1
def nW (M:Int):Int:=(10+8*M*M)*(10+8*M*M)
theorem GH {ax ay az aw bx b_y bz bw px py M:Int}(hw:0<aw)(hM:1<=M)(h:∀ n∈[ax,ay,az,aw,bx,b_y,bz,bw],(n.natAbs:Int)<=M):sgn (det ax ay aw bx b_y bw (nX px M) (nY py M) (nW M))=sgn (shd ax ay aw bx b_y bw px py):=by
 have e:=UJ (px:=px) (py:=py) hw hM h
 rw [OD,VY _ hw] at e
 exact e
theorem T3.near {t:T3}{px py M:Int}(hp:t.pos)(hM:1<=M)(h:t.in M) :
 sgn (det t.ax t.ay t.aw t.bx t.b_y t.bw (nX px M) (nY py M) (nW M))=t.s1 px py/\sgn (det t.bx t.b_y t.bw t.cx t.cy t.cw (nX px M) (nY py M) (nW M))=t.s2 px py/\sgn (det t.cx t.cy t.cw t.ax t.ay t.aw (nX px M) (nY py M) (nW M))=t.s3 px py:=by
 unfold T3.in T3.nums at h
 refine ⟨GH (az:=t.az) (bz:=t.bz) hp.a hM fun n hn=>h n ?_,GH (az:=t.bz) (bz:=t.cz) hp.b hM fun n hn=>h n ?_,GH (az:=t.cz) (bz:=t.az) hp.c hM fun n hn=>h n ?_⟩
 all_goals
  simp only [B4,B8,R3] at hn ⊢
  rcases hn with e|e|e|e|e|e|e|e<;>simp [e]
theorem T3.sum_det (t:T3)(x y w:Int):t.cw*det t.ax t.ay t.aw t.bx t.b_y t.bw x y w+t.aw*det t.bx t.b_y t.bw t.cx t.cy t.cw x y w+t.bw*det t.cx t.cy t.cw t.ax t.ay t.aw x y w=t.tn*w:=by
 unfold T3.tn det
 grind
theorem T3.has_tn {t:T3}{px py:Int}(hp:t.pos)(h:t.has px py):t.tn≠0:=by
 intro z
 obtain ⟨f,hf⟩:∃ f:Int->Nat,∀ n,f n=n.natAbs:=⟨Int.natAbs,fun _=>rfl⟩
 obtain ⟨M,hM,hin⟩:∃ M:Int,1<=M/\t.in M:=by
  refine ⟨1+f t.ax+f t.ay+f t.az+f t.aw+f t.bx+f t.b_y+f t.bz+f t.bw+f t.cx+f t.cy+f t.cz+f t.cw,by omega,fun n hn=>?_⟩
  unfold T3.nums at hn
  rw [<- hf]
  clear hf z h
  simp only [B4,B8,R3] at hn
  rcases hn with e|e|e|e|e|e|e|e|e|e|e|e<;>rw [e]<;>omega
 obtain ⟨e1,e2,e3⟩:=T3.near (px:=px) (py:=py) hp hM hin
 have s:=t.sum_det (nX px M) (nY py M) (nW M)
 rw [z,Int.zero_mul] at s
 obtain ⟨h1,h2,h3⟩:=h
 rw [<- e1] at h1 h2 h3
 rw [<- e2] at h2
 rw [<- e3] at h3
 have pa:=hp.a
 have pb:=hp.b
 have pc:=hp.c
 generalize det t.ax t.ay t.aw t.bx t.b_y t.bw (nX px M) (nY py M) (nW M)=d1 at *
 generalize det t.bx t.b_y t.bw t.cx t.cy t.cw (nX px M) (nY py M) (nW M)=d2 at *
 generalize det t.cx t.cy t.cw t.ax t.ay t.aw (nX px M) (nY py M) (nW M)=d3 at *
 have c1:=HN d1
 have c2:=HN d2
 have c3:=HN d3
 rcases c1 with ⟨c1,q⟩|⟨c1,q⟩|⟨c1,q⟩
 · have k2:0<d2:=by omega
   have k3:0<d3:=by omega
   have m1:=B1h pc c1
   have m2:=B1h pa k2
   have m3:=B1h pb k3
   omega
 · omega
 · have k2:d2<0:=by omega
   have k3:d3<0:=by omega
   have m1:=D9 pc c1
   have m2:=D9 pa k2
   have m3:=D9 pb k3
   omega
abbrev CF:Stmt:=top 12
theorem IT:FnScope xl4 xl4 (J5 CF):=⟨rfl,rfl,rfl,by decide +kernel,rfl,by decide +kernel,by decide +kernel⟩
def J3k:DSp:=fun ds P _=>∃ (a b c x y z:Int),ds=[t3 a b c,.lst [.int x,.int y,.int z]]/\(Bd 7000 a/\Bd 7000 b/\Bd 7000 c)/\(Bd 2000 x/\Bd 2000 y/\Bd 2000 z)/\P (.int (a*x+b*y+c*z))
abbrev xc3 (P:Program) (w:World) (K:Fg) (mg:Str → Option Value) (base:Heap) (f:Addr) (cdv:Value) (A:Around) (outer:List Env) (s:Shared) (H:Hp) (E:XK):Cx:=DR CX0 P w K mg base xl4 "products_added" (J5 CF) f cdv A outer s H E
abbrev xl7:List Str:=["first","second"]
theorem IY {w:World} {f:Addr} (F:Fun K "products_added" "products_added" CF f fd) (Z:Bi mg) {c:Cs} (Y:Ex K mg base c):FnOk P w K mg base CX0 1 f fd xl4 (J8 K BT J3k):=by
 refine F.okD IT (fun ds PP Ed h=>?_) (fun cdv A outer s H E M bg ds PP Ed hr hS_=>?_)
 · obtain ⟨a,b,c,x,y,z,rfl,⟨h1,h2,h3⟩,⟨k1,k2,k3⟩,hP⟩:=h
   rfl
 · obtain ⟨a,b,c,x,y,z,rfl,⟨h1,h2,h3⟩,⟨k1,k2,k3⟩,hP⟩:=hS_
   refine ⟨_,(J7 (V0 (Q5 (ZF K (by rfl) (by rfl)) Q0t rfl Z.sum_ Q1b (J0 (BA (X:=(xc3 P w K mg base f cdv A outer s H E).nox) (CB [0,1]) (JJ (X:=(xc3 P w K mg base f cdv A outer s H E).nox) (N':=xl7) (map:=[none,none]) (by rfl) (by rfl) (by decide +kernel) (by rfl) True.intro (gkeep_seq (js:=[0,1]) (by decide)) fun cl0 C0 fp0 s0 H0=>⟨(PG.or (AW (n:=2) K (by rfl) (by rfl) (J4 (pg_name (i:=0) (Z0 xl7 (by decide +kernel)) rfl (by walk_at "o")) (J4 (pg_name (i:=1) (Z0 xl7 (by decide +kernel)) rfl (by walk_at "o")) Y3))) (AY (n:=2) K (by rfl) (by rfl) (J4 (pg_name (i:=0) (Z0 xl7 (by decide +kernel)) rfl (by walk_at "o")) (J4 (pg_name (i:=1) (Z0 xl7 (by decide +kernel)) rfl (by walk_at "o")) Y3)))),AU,(Q4 (X:=(V2 (xc3 P w K mg base f cdv A outer s H E).nox xl7 _ cl0 C0 fp0 s0 H0)) Q9 Z9 (jdv 0) (jdv 1))⟩) (WM (by rfl) true false rfl Z.zip_ (J0 (jdv 0) (J0 (jdv 1) J3)) (WC K (by rfl) true false rfl Z.zip_ (JA.h (J0 (jdv 0) (J0 (jdv 1) J3)))))) J3)))),?_⟩
   walk_at "g"
   walk_at "gc"
   have e:[a*x,b*y,c*z].sum=a*x+b*y+c*z:=by simp only [List.sum_cons,List.sum_nil];omega
   rw [<- e] at hP
   exact hP
theorem T3.tn_bd {t:T3}{n:Nat}(ok:t.ok n):Bd (3*n+5) t.tn:=QP ok.ax ok.ay ok.aw ok.bx ok.b_y ok.bw ok.cx ok.cy ok.cw
theorem T3.wA_bd {t:T3}{n:Nat}{px py:Int}(ok:t.ok n)(hx:Bd n px)(hy:Bd n py)(h3:3<=n):Bd (3*n+5) (t.wA px py):=QP ok.bx ok.b_y ok.bw ok.cx ok.cy ok.cw hx hy (bd1 h3)
theorem T3.wB_bd {t:T3}{n:Nat}{px py:Int}(ok:t.ok n)(hx:Bd n px)(hy:Bd n py)(h3:3<=n):Bd (3*n+5) (t.wB px py):=QP ok.cx ok.cy ok.cw ok.ax ok.ay ok.aw hx hy (bd1 h3)
theorem T3.wC_bd {t:T3}{n:Nat}{px py:Int}(ok:t.ok n)(hx:Bd n px)(hy:Bd n py)(h3:3<=n):Bd (3*n+5) (t.wC px py):=QP ok.ax ok.ay ok.aw ok.bx ok.b_y ok.bw hx hy (bd1 h3)
theorem T3.top_bd {t:T3}{n:Nat}{px py:Int}(ok:t.ok n)(hx:Bd n px)(hy:Bd n py)(h3:3<=n):Bd (4*n+8) (t.top px py) :=
 (Bd.add (Bd.add (Bd.mul (T3.wA_bd ok hx hy h3) ok.az) (Bd.mul (T3.wB_bd ok hx hy h3) ok.bz)) (Bd.mul (T3.wC_bd ok hx hy h3) ok.cz)).mono (by omega)
theorem sgn_bd (n:Int):Bd 3 (sgn n):=by
 unfold sgn
 split
 · exact Bd.of (by decide) (by decide)
 · split<;>exact Bd.of (by decide) (by decide)
abbrev HZ (i:Int):Int:=if i<0 then -i else i
theorem J6l {n:Nat}{i:Int}(h:Bd n i):Bd n (HZ i):=by
 unfold HZ
 split
 · exact h.neg
 · exact h
abbrev BS:Stmt:=top 44
theorem CT:FnScope ["face","dot","whole","top"] xl6 (J5 BS):=⟨rfl,rfl,rfl,by decide +kernel,rfl,by decide +kernel,by decide +kernel⟩
def Q3u (c:Cs):DSp:=fun ds P Ed=>∃ (t:T3) (px py:Int) (n:Nat),ds=[t.d,t2 px py]/\t.ok n/\Bd n px/\Bd n py/\3<=n/\n<=1000/\(t.tn=0->Ed c.NoFace)/\(t.tn≠0->P (t2 (t.top px py*sgn t.tn) (HZ t.tn)))
structure C_unreduced_depth (P:Program)(w:World)(K:Fg)(mg:Str->Option Value)(base:Heap)(c:Cs):Prop where
 turn_:Callee P w K mg base CX0 "turn" 2 ["face"] (J8 K BT J3i)
 products_added_:Callee P w K mg base CX0 "products_added" 1 xl4 (J8 K BT J3k)
 weights_:Callee P w K mg base CX0 "weights" 3 xl6 (J8 K BT OT)
 sign_:Callee P w K mg base CX0 "sign" 1 ["number"] (J8 K BT VR)
abbrev xc4 (P:Program) (w:World) (K:Fg) (mg:Str → Option Value) (base:Heap) (f:Addr) (cdv:Value) (A:Around) (outer:List Env) (s:Shared) (H:Hp) (E:XK):Cx:=DR (CX1 P w base) P w K mg base ["face","dot","whole","top"] "unreduced_depth" (J5 BS) f cdv A outer s H E
theorem IJ {w:World} {f:Addr} (F:Fun K "unreduced_depth" "unreduced_depth" BS f fd) (Z:Bi mg) {c:Cs} (Y:Ex K mg base c) (G:C_unreduced_depth P w K mg base c):FnOk P w K mg base (CX1 P w base) 4 f fd xl6 (J8 K BT (Q3u c)):=by
 refine F.okDX CT (fun ds PP Ed h=>?_) (fun cdv A outer s H E M bg ds PP Ed hr hE hS_=>?_)
 · obtain ⟨t,px,py,n,rfl,ok,hx,hy,h3,hn,h0,h1⟩:=h
   rfl
 · obtain ⟨t,px,py,n,rfl,ok,hx,hy,h3,hn,h0,h1⟩:=hS_
   refine ⟨_,(J6 (V9 (i:=2) CT.nd rfl (by walk_at "o") (Q6 G.turn_ hr.m rfl (J0 (jdv 0) J3)))
    (J6 (AQ (Y0 BZ AT (jdv 2) J1 (V1 _)) (J7 (YO hE (YD Y.o_NoFace rfl))) Y7)
    (J6 (V9 (i:=3) CT.nd rfl (by walk_at "o") (Q6 G.products_added_ hr.m rfl (J0 (Q6 G.weights_ hr.m rfl (J0 (jdv 0) (J0 (jdv 1) J3))) (J0 (BA (X:=(xc4 P w K mg base f cdv A outer s H E)) (Z3 0) (JJ (X:=(xc4 P w K mg base f cdv A outer s H E)) (N':=["corner"]) (map:=[none]) (by rfl) (by rfl) (by decide +kernel) (by rfl) True.intro (gkeep_name rfl) fun cl0 C0 fp0 s0 H0=>⟨(pg_name (X:=(V2 (xc4 P w K mg base f cdv A outer s H E) ["corner"] _ cl0 C0 fp0 s0 H0)) (i:=0) (Z0 ["corner"] (by decide +kernel)) rfl (by walk_at "o")),AU,(Q3 (X:=(V2 (xc4 P w K mg base f cdv A outer s H E) ["corner"] _ cl0 C0 fp0 s0 H0)) (J9 K (by rfl)) Q8 (jdv 0) J1 (fun _ _=>rfl))⟩) (AB (by rfl) (jdv 0))) J3))))
    (J7 (V0 (V3 (J0 (Q4 Q9 Z9 (jdv 3) (Q6 G.sign_ hr.m rfl (J0 (jdv 2) J3))) (J0 (Q5 FQ VM rfl Z.abs_ KG (J0 (jdv 2) J3)) J3)))))))),?_⟩
   walk_at "g"
   refine ⟨t,n,rfl,ok,by omega,?_⟩
   walk_at "g"
   walk_at "sp"
   · rename_i z
     exact h0 z
   · rename_i z
     walk_at "g"
     refine ⟨t,px,py,n,rfl,ok,hx,hy,by omega,?_⟩
     walk_at "g"
     walk_at "gc"
     have m:=M7 (show 3*n+5<=3005 by omega) (by decide:3005<=7000)
     refine ⟨_,_,_,_,_,_,rfl,⟨(T3.wA_bd ok hx hy h3).mono m,(T3.wB_bd ok hx hy h3).mono m,(T3.wC_bd ok hx hy h3).mono m⟩,⟨ok.az.mono (by omega),ok.bz.mono (by omega),ok.cz.mono (by omega)⟩,?_⟩
     walk_at "g"
     refine ⟨_,rfl,?_⟩
     walk_at "g"
     refine And.intro (Or.inl ⟨_,_,T3.top_bd ok hx hy h3,sgn_bd _,by omega⟩) ?_
     walk_at "g"
     exact h1 z
def FK (px py:Int)(i:Nat)(t:T3)(st:Option (Nat×Int×Int)):Option (Nat×Int×Int) :=
 if t.has px py then (match st with
  | none=>some (i,t.top px py*sgn t.tn,HZ t.tn)
  | some (j,a,b)=>if t.top px py*sgn t.tn*b<a*HZ t.tn then some (i,t.top px py*sgn t.tn,HZ t.tn) else some (j,a,b)) else st
def seenN (ts:List T3)(px py:Int):Nat->Option (Nat×Int×Int)
 | 0=>none
 | i+1=>match ts[i]? with
   | some t=>FK px py i t (seenN ts px py i)
   | none=>seenN ts px py i
def seenD:Option (Nat×Int×Int)->D
 | none=>.non
 | some (i,_,_)=>.int i
def J1i:Option (Nat×Int×Int)->D
 | none=>.non
 | some (_,a,b)=>t2 a b
def Q3t:Option (Nat×Int×Int)->Prop
 | none=>True
 | some (_,a,b)=>Bd 1100 a/\Bd 1100 b
theorem OI {ts:List T3}{i:Nat}{x:D}(h:(EW (ts.map T3.d))[i]?=some x):∃ t,ts[i]?=some t/\x=.tup [.int i,t.d]:=by
 unfold EW at h
 rw [List.getElem?_mapIdx,M9] at h
 cases e:ts[i]? with
 | none=>rw [e] at h;cases h
 | some t=>rw [e] at h;exact ⟨t,rfl,(Option.some.inj h).symm⟩
theorem SV {t:T3}{px py:Int}(ok:t.ok 260)(hx:Bd 260 px)(hy:Bd 260 py):Bd 1100 (t.top px py*sgn t.tn)/\Bd 1100 (HZ t.tn):=⟨(Bd.mul (T3.top_bd ok hx hy (by decide)) (sgn_bd _)).mono (by decide),(J6l (T3.tn_bd ok)).mono (by decide)⟩
theorem LZ {ts:List T3}{px py:Int}{i:Nat}{t:T3}(e:ts[i]?=some t):seenN ts px py (i+1)=FK px py i t (seenN ts px py i):=by
 show (match ts[i]? with|some t=>FK px py i t (seenN ts px py i)|none=>seenN ts px py i)=_
 rw [e]
abbrev JM:Stmt:=top 45
theorem BC:FnScope ["faces","dot","seen","least","number","face","depth"] ["faces","dot"] (J5 JM):=⟨rfl,rfl,rfl,by decide +kernel,rfl,by decide +kernel,by decide +kernel⟩
def J3j:DSp:=fun ds P _=>∃ (ts:List T3) (px py:Int),ds=[.lst (ts.map T3.d),t2 px py]/\(∀ t∈ts,t.ok 260/\t.pos)/\ts.length<=500/\Bd 260 px/\Bd 260 py/\P (seenD (seenN ts px py ts.length))
structure C_seen_at (P:Program)(w:World)(K:Fg)(mg:Str->Option Value)(base:Heap)(c:Cs):Prop where
 has_dot_:Callee P w K mg base CX0 "has_dot" 4 xl6 (J8 K BT TM)
 unreduced_depth_:Callee P w K mg base (CX1 P w base) "unreduced_depth" 4 xl6 (J8 K BT (Q3u c))
 is_less_:Callee P w K mg base CX0 "is_less" 1 xl4 (J8 K BT J3m)
theorem UP {w:World} {f:Addr} (F:Fun K "seen_at" "seen_at" JM f fd) (Z:Bi mg) {c:Cs} (Y:Ex K mg base c) (G:C_seen_at P w K mg base c):FnOk P w K mg base CX0 5 f fd ["faces","dot"] (J8 K BT J3j):=by
 refine F.okD BC (fun ds PP Ed h=>?_) (fun cdv A outer s H E M bg ds PP Ed hr hS_=>?_)
 · obtain ⟨ts,px,py,rfl,hts,hl,hx,hy,hP⟩:=h
   rfl
 · obtain ⟨ts,px,py,rfl,hts,hl,hx,hy,hP⟩:=hS_
   refine ⟨_,(J6 (V9 (i:=2) BC.nd rfl (by walk_at "o") CJ)
    (J6 (V9 (i:=3) BC.nd rfl (by walk_at "o") CJ)
    (J6 (EC (CB [4,5]) T4 rfl (SM (by rfl) (J0 (jdv 0) J3) (WD K (by rfl) rfl Z.enumerate_ (JA.h (J0 (jdv 0) J3)))) (PG.or (AW (n:=2) K (by rfl) (by rfl) (J4 (pg_name (i:=4) BC.nd rfl (by walk_at "o")) (J4 (pg_name (i:=5) BC.nd rfl (by walk_at "o")) Y3))) (AY (n:=2) K (by rfl) (by rfl) (J4 (pg_name (i:=4) BC.nd rfl (by walk_at "o")) (J4 (pg_name (i:=5) BC.nd rfl (by walk_at "o")) Y3)))) (J7 (AQ (V8 (by rfl) (Q6 G.has_dot_ hr.m rfl (J0 (jdv 5) (J0 (jdv 1) J3))) (fun _=>rfl)) (J6 (V9 (i:=6) BC.nd rfl (by walk_at "o") (J1p VC J8t G.unreduced_depth_ hr.m rfl (J0 (jdv 5) (J0 (jdv 1) J3))))
    (J7 (AQ (FH (Y0 J0u J0y (jdv 2) CJ (V1 _)) (DV (V8 (by rfl) (Q6 G.is_less_ hr.m rfl (J0 (jdv 6) (J0 (jdv 3) J3))) (fun _=>rfl)))) (J6 (V9 (i:=2) BC.nd rfl (by walk_at "o") (jdv 4))
    (J7 (V9 (i:=3) BC.nd rfl (by walk_at "o") (jdv 6)))) Y7))) Y7)))
    (J7 (V0 (jdv 2)))))),?_⟩
   walk_at "g"
   refine ⟨fun i ρ=>∃ v4 v5 v6,ρ=[some (.lst (ts.map T3.d)),some (t2 px py),some (seenD (seenN ts px py i)),some (J1i (seenN ts px py i)),v4,v5,v6]/\Q3t (seenN ts px py i),⟨_,_,_,rfl,trivial⟩,?_,?_⟩
   · rintro i x ρ e ⟨v4,v5,v6,rfl,hst⟩
     obtain ⟨t,et,rfl⟩:=OI e
     obtain ⟨ok,pos⟩:=hts t (M3 et)
     have hd:=SV ok hx hy
     have es:=LZ (px:=px) (py:=py) et
     generalize hst':seenN ts px py i=st at hst es ⊢
     walk_at "g"
     refine ⟨t,px,py,260,rfl,ok,hx,hy,by decide,?_⟩
     by_cases hh:t.has px py
     · refine IfP.t (by simp [hh]) ?_
       walk_at "g"
       refine ⟨t,px,py,260,rfl,ok,hx,hy,by decide,by decide,fun z=>absurd z (T3.has_tn pos hh),fun _=>?_⟩
       match st,hst,es with
       | none,hst,es =>
         have es:seenN ts px py (i+1)=some (i,t.top px py*sgn t.tn,HZ t.tn):=by rw [es];unfold FK;rw [if_pos hh]
         walk_at "g"
         rw [es]
         exact ⟨_,_,_,rfl,hd⟩
       | some (j,a,b),hst,es =>
         obtain ⟨ba,bb⟩:=hst
         obtain ⟨d1,d2⟩:=hd
         walk_at "g"
         refine ⟨_,_,_,_,rfl,⟨d1.mono (by decide),d2.mono (by decide)⟩,⟨ba.mono (by decide),bb.mono (by decide)⟩,?_⟩
         by_cases hlt:t.top px py*sgn t.tn*b<a*HZ t.tn
         · have es:seenN ts px py (i+1)=some (i,t.top px py*sgn t.tn,HZ t.tn):=by rw [es];unfold FK;rw [if_pos hh];simp only [if_pos hlt]
           refine IfP.t (by simp [hlt]) ?_
           walk_at "g"
           rw [es]
           exact ⟨_,_,_,rfl,⟨d1,d2⟩⟩
         · have es:seenN ts px py (i+1)=some (j,a,b):=by rw [es];unfold FK;rw [if_pos hh];simp only [if_neg hlt]
           refine IfP.f (by simp [hlt]) ?_
           walk_at "g"
           rw [es]
           exact ⟨_,_,_,rfl,⟨ba,bb⟩⟩
     · have es:seenN ts px py (i+1)=st:=by rw [es];unfold FK;rw [if_neg hh]
       refine IfP.f (by simp [hh]) ?_
       walk_at "g"
       rw [es]
       exact ⟨_,_,_,rfl,hst⟩
   · rintro ρ ⟨v4,v5,v6,rfl,hst⟩
     walk_at "g"
     have el:(EW (ts.map T3.d)).length=ts.length:=by simp [EW]
     rw [el]
     generalize seenN ts px py ts.length=st at hP ⊢
     rcases st with _|⟨i,a,b⟩<;>exact hP
theorem BV {d:D}(h:Y8 d=true):BF d=true:=by cases d<;>first|rfl|(unfold Y8 at h;cases h)
theorem okRp_pl {d:D}(h:Y8 d=true):plain d=true:=by cases d<;>first|rfl|(unfold Y8 at h;cases h)
theorem JY:∀ {ds:List D},IA ds=true->∀ d∈ds,Y8 d=true
 | d::ds,h,e,m=>by
   unfold IA at h
   obtain ⟨h1,h2⟩:=(L5 _ _).mp h
   rcases B4.mp m with rfl|m
   · exact h1
   · exact JY h2 e m
theorem DX {xs:List D}(h:Y8 (.tup xs)=true):∀ d∈xs,Y8 d=true:=JY (by unfold Y8 at h;exact h)
theorem SD {xs:List D}(h:Y8 (.lst xs)=true):∀ d∈xs,Y8 d=true:=JY (by unfold Y8 at h;exact h)
theorem Q2s {α:Type}{xs:List α}(h:xs.length=2):∃ a b,xs=[a,b]:=match xs,h with | [a,b],_=>⟨a,b,rfl⟩
theorem J9a {α:Type}{xs:List α}(h:xs.length=3):∃ a b c,xs=[a,b,c]:=match xs,h with | [a,b,c],_=>⟨a,b,c,rfl⟩
def whD:D->Bool
 | .int _=>true
 | _=>false
def wtD (n:Nat):D->Bool
 | .tup xs=>decide (xs.length=n)&&xs.all whD
 | _=>false
theorem HM {d:D}(h:whD d=true):∃ i,d=.int i:=by cases d<;>first|exact ⟨_,rfl⟩|cases h
abbrev IF:Stmt:=top 7
abbrev xl8:List Str:=["thing"]
theorem RU:FnScope xl8 xl8 (J5 IF):=⟨rfl,rfl,rfl,by decide +kernel,rfl,by decide +kernel,by decide +kernel⟩
def GJ:DSp:=fun ds P _=>∃ d,ds=[d]/\Y8 d=true/\P (.bl (whD d))
theorem RZ {w:World} {f:Addr} (F:Fun K "is_whole" "is_whole" IF f fd) (Z:Bi mg) {c:Cs} (Y:Ex K mg base c):FnOk P w K mg base CX0 1 f fd xl8 (J8 K BT GJ):=by
 refine F.okD RU (fun ds PP Ed h=>?_) (fun cdv A outer s H E M bg ds PP Ed hr hS_=>?_)
 · obtain ⟨d,rfl,hd,hP⟩:=h
   rfl
 · obtain ⟨d,rfl,hd,hP⟩:=hS_
   refine ⟨_,(J7 (V0 (BW (Q5 (Y4 K (by rfl)) AF rfl Z.isinstance_ V6 (J0 (jdv 0) (J0 (AD rfl Z.int_ NC) J3))) (DW (WN (Q5 (Y4 K (by rfl)) AF rfl Z.isinstance_ V6 (J0 (jdv 0) (J0 (AD rfl Z.bool_ RC) J3)))))))),?_⟩
   cases d<;>(try (simp [Y8] at hd;done))
   all_goals first
    | (walk_at "g";refine ⟨false,by rfl,?_⟩;walk_at "g";exact hP)
    | (walk_at "g";refine ⟨true,by rfl,?_⟩;walk_at "g";refine ⟨true,by rfl,?_⟩;walk_at "g";exact hP)
    | (walk_at "g";refine ⟨true,by rfl,?_⟩;walk_at "g";refine ⟨false,by rfl,?_⟩;walk_at "g";exact hP)
abbrev CG:Stmt:=top 8
abbrev xl9:List Str:=["thing","many"]
theorem IU:FnScope xl9 xl9 (J5 CG):=⟨rfl,rfl,rfl,by decide +kernel,rfl,by decide +kernel,by decide +kernel⟩
def VQ:DSp:=fun ds P _=>∃ (d:D) (n:Nat),ds=[d,.int n]/\Y8 d=true/\n<=100/\P (.bl (wtD n d))
structure C_is_whole_tuple (P:Program)(w:World)(K:Fg)(mg:Str->Option Value)(base:Heap)(c:Cs):Prop where
 is_whole_:Callee P w K mg base CX0 "is_whole" 1 xl8 (J8 K BT GJ)
abbrev xc5 (P:Program) (w:World) (K:Fg) (mg:Str → Option Value) (base:Heap) (f:Addr) (cdv:Value) (A:Around) (outer:List Env) (s:Shared) (H:Hp) (E:XK):Cx:=DR CX0 P w K mg base xl9 "is_whole_tuple" (J5 CG) f cdv A outer s H E
theorem IZ {w:World} {f:Addr} (F:Fun K "is_whole_tuple" "is_whole_tuple" CG f fd) (Z:Bi mg) {c:Cs} (Y:Ex K mg base c) (G:C_is_whole_tuple P w K mg base c):FnOk P w K mg base CX0 2 f fd xl9 (J8 K BT VQ):=by
 refine F.okD IU (fun ds PP Ed h=>?_) (fun cdv A outer s H E M bg ds PP Ed hr hS_=>?_)
 · obtain ⟨d,n,rfl,hd,hn1,hP⟩:=h
   rfl
 · obtain ⟨d,n,rfl,hd,hn1,hP⟩:=hS_
   refine ⟨_,(J7 (V0 (BW (Q5 (Y4 K (by rfl)) AF rfl Z.isinstance_ V6 (J0 (jdv 0) (J0 (AD rfl Z.tuple_ AV) J3))) (BW (AK BZ AT (Q5 (V4 K (by rfl)) BR rfl Z.len_ BM (J0 (jdv 0) J3)) (jdv 1) (V1 _)) (DW (Q5 (CZ K (by rfl) (by rfl)) HH rfl Z.all_ HI (J0 (BA (X:=(xc5 P w K mg base f cdv A outer s H E).nox) (Z3 0) (JJ (X:=(xc5 P w K mg base f cdv A outer s H E).nox) (N':=["part"]) (map:=[none]) (by rfl) (by rfl) (by decide +kernel) (by rfl) True.intro (gkeep_name rfl) fun cl0 C0 fp0 s0 H0=>⟨(pg_name (X:=(V2 (xc5 P w K mg base f cdv A outer s H E).nox ["part"] _ cl0 C0 fp0 s0 H0)) (i:=0) (Z0 ["part"] (by decide +kernel)) rfl (by walk_at "o")),AU,(Q6 (X:=(V2 (xc5 P w K mg base f cdv A outer s H E).nox ["part"] _ cl0 C0 fp0 s0 H0)) G.is_whole_ hr.m rfl (J0 (jdv 0) J3))⟩) (AB (by rfl) (jdv 0))) J3))))))),?_⟩
   by_cases ht:∃ xs,d=.tup xs
   · obtain ⟨xs,rfl⟩:=ht
     have ha:=DX hd
     have key:∀ b:Bool,b=wtD n (.tup xs)->PP (.bl b):=fun b h=>by rw [h];exact hP
     walk_at "g"
     refine ⟨true,by rfl,?_⟩
     walk_at "g"
     walk_at "sp"
     · rename_i hn
       walk_at "g"
       refine And.intro (by omega) ?_
       refine DN (fun x=>.bl (whD x)) (fun x Q hx q=>?_) (fun _ _=>rfl) ?_
       · have t:=ha x hx
         walk_at "g"
         exact ⟨by show (BF x&&true)=true;rw [BV t];rfl,x,rfl,t,q⟩
       · have eb:GO (xs.map fun x=>D.bl (whD x))=some (xs.map whD):=by
          have:=OO (xs.map whD)
          rw [List.map_map] at this
          exact this
         walk_at "g"
         rw [eb]
         walk_at "g"
         refine key _ ?_
         show _=(decide (xs.length=n)&&xs.all whD)
         rw [R6 (by omega)]
         simp [List.all_map]
     · rename_i hn
       walk_at "g"
       refine key _ ?_
       show _=(decide (xs.length=n)&&xs.all whD)
       rw [R9 (by omega)]
       simp
   · have ew:wtD n d=false:=by
      cases d<;>first|rfl|exact absurd ⟨_,rfl⟩ ht
     rw [ew] at hP
     cases d<;>(try (exact absurd ⟨_,rfl⟩ ht))<;>(try (simp [Y8] at hd;done))
     all_goals
      walk_at "g"
      refine ⟨false,by rfl,?_⟩
      walk_at "g"
      exact hP
theorem EqG.mkL3 {a b c x y z:Int}{neg:Bool}{P:D->Prop}(h:P (.bl ((decide (a=x)&&(decide (b=y)&&decide (c=z)))!=neg))):EqG neg (.lst [.int a,.int b,.int c]) (.lst [.int x,.int y,.int z]) P:=by
 refine ⟨_,_,rfl,rfl,M1 rfl,?_⟩
 have:PyData.eqv (.list [.int a,.int b,.int c]) (.list [.int x,.int y,.int z])=(decide (a=x)&&(decide (b=y)&&decide (c=z))):=by
  simp only [PyData.eqv,PyData.eqvAll,Bool.and_true]
  rfl
 show P (.bl (PyData.eqv (.list [.int a,.int b,.int c]) (.list [.int x,.int y,.int z])!=neg))
 rw [this]
 exact h
theorem EqG.mk4 {a b c e x y z w:Int}{neg:Bool}{P:D->Prop}(h:P (.bl ((decide (a=x)&&(decide (b=y)&&(decide (c=z)&&decide (e=w))))!=neg))):EqG neg (sp4 a b c e) (sp4 x y z w) P:=by
 refine ⟨_,_,rfl,rfl,M1 rfl,?_⟩
 have:PyData.eqv (.tuple [.int a,.int b,.int c,.int e]) (.tuple [.int x,.int y,.int z,.int w])=(decide (a=x)&&(decide (b=y)&&(decide (c=z)&&decide (e=w)))):=by
  simp only [PyData.eqv,PyData.eqvAll,Bool.and_true]
  rfl
 show P (.bl (PyData.eqv (.tuple [.int a,.int b,.int c,.int e]) (.tuple [.int x,.int y,.int z,.int w])!=neg))
 rw [this]
 exact h
theorem J4t {i:Int}(h:Y8 (.int i)=true):Bd 1920 i:=by
 have h:decide (i.natAbs.log2<1920)=true:=by unfold Y8 at h;exact h
 have h:=T0 h
 by_cases z:i.natAbs=0
 · show i.natAbs<2 ^ 1920;rw [z];exact Nat.two_pow_pos _
 · exact (B0k z).mp h
theorem Q2r {α:Type}{xs:List α}(h:xs.length=4):∃ a b c d,xs=[a,b,c,d]:=match xs,h with | [a,b,c,d],_=>⟨a,b,c,d,rfl⟩
theorem wt4 {d:D}(h:wtD 4 d=true):∃ x y z w:Int,d=.tup [.int x,.int y,.int z,.int w]:=by
 cases d<;>try (simp [wtD] at h;done)
 rename_i xs
 obtain ⟨h1,h2⟩:=(L5 _ _).mp h
 obtain ⟨a,b,c,e,rfl⟩:=Q2r (T0 h1)
 have hw:=R5.mp h2
 obtain ⟨x,rfl⟩:=HM (hw a (by simp))
 obtain ⟨y,rfl⟩:=HM (hw b (by simp))
 obtain ⟨z,rfl⟩:=HM (hw c (by simp))
 obtain ⟨w,rfl⟩:=HM (hw e (by simp))
 exact ⟨x,y,z,w,rfl⟩
theorem wt2 {d:D}(h:wtD 2 d=true):∃ x y:Int,d=.tup [.int x,.int y]:=by
 cases d<;>try (simp [wtD] at h;done)
 rename_i xs
 obtain ⟨h1,h2⟩:=(L5 _ _).mp h
 obtain ⟨a,b,rfl⟩:=Q2s (T0 h1)
 have hw:=R5.mp h2
 obtain ⟨x,rfl⟩:=HM (hw a (by simp))
 obtain ⟨y,rfl⟩:=HM (hw b (by simp))
 exact ⟨x,y,rfl⟩
def spI (x y z w:Int):Bool:=decide (0<w/\Nat.gcd (Int.gcd x y) (Int.gcd z w)=1)
def spB:D->Bool
 | .tup [.int x,.int y,.int z,.int w]=>spI x y z w
 | _=>false
theorem UA {d:D}(h:wtD 4 d=false):spB d=false:=by
 unfold spB
 split
 · cases h
 · rfl
theorem J1f {x y z w:Int}(h:0<w):(decide (x.fdiv (low [x,y,z] w)=x)&&(decide (y.fdiv (low [x,y,z] w)=y)&&(decide (z.fdiv (low [x,y,z] w)=z)&&decide (w.fdiv (low [x,y,z] w)=w))))=spI x y z w:=by
 have hw:w≠0:=by omega
 rw [E8]
 unfold spI
 simp only [L5,I0]
 constructor
 · rintro ⟨e1,e2,e3,e4⟩
   obtain ⟨a,b,c,d,h1,h2,h3,h4,_,hg,_⟩:=J1g (x:=x) (y:=y) (z:=z) hw
   rw [<- h1,<- h2,<- h3,<- h4,e1,e2,e3,e4] at hg
   exact ⟨h,hg⟩
 · rintro ⟨_,hg⟩
   have ha:=SG x y z w
   have hp:=(WL (ns:=[x,y,z]) hw).2 h
   have e:low [x,y,z] w=1:=by omega
   rw [e]
   exact ⟨Int.fdiv_one ..,Int.fdiv_one ..,Int.fdiv_one ..,Int.fdiv_one ..⟩
abbrev JN:Stmt:=top 30
theorem UD:FnScope xl8 xl8 (J5 JN):=⟨rfl,rfl,rfl,by decide +kernel,rfl,by decide +kernel,by decide +kernel⟩
def TL:DSp:=fun ds P _=>∃ d:D,ds=[d]/\Y8 d=true/\P (.bl (spB d))
structure C_is_spot (P:Program)(w:World)(K:Fg)(mg:Str->Option Value)(base:Heap)(c:Cs):Prop where
 is_whole_tuple_:Callee P w K mg base CX0 "is_whole_tuple" 2 xl9 (J8 K BT VQ)
 lowest_terms_:Callee P w K mg base CX0 "lowest_terms" 2 ["numbers"] (J8 K BT J7o)
theorem UQ {w:World} {f:Addr} (F:Fun K "is_spot" "is_spot" JN f fd) (Z:Bi mg) {c:Cs} (Y:Ex K mg base c) (G:C_is_spot P w K mg base c):FnOk P w K mg base CX0 3 f fd xl8 (J8 K BT TL):=by
 refine F.okD UD (fun ds PP Ed h=>?_) (fun cdv A outer s H E M bg ds PP Ed hr hS_=>?_)
 · obtain ⟨d,rfl,hd,hP⟩:=h
   rfl
 · obtain ⟨d,rfl,hd,hP⟩:=hS_
   refine ⟨_,(J7 (V0 (BW (Q6 G.is_whole_tuple_ hr.m rfl (J0 (jdv 0) (J0 J1 J3))) (BW (AK IX EH (Q3 (J9 K (by rfl)) Q8 (jdv 0) J1 (fun _ _=>rfl)) J1 (V1 _)) (DW (AK (HA K (by rfl) hr.units) FG (Q6 G.lowest_terms_ hr.m rfl (J0 (jdv 0) J3)) (jdv 0) (V1 _))))))),?_⟩
   walk_at "g"
   refine ⟨by show (BF d&&true)=true;rw [BV hd];rfl,d,4,rfl,hd,by decide,?_⟩
   cases hw:wtD 4 d
   · rw [UA hw] at hP
     walk_at "g"
     exact hP
   · obtain ⟨x,y,z,w',rfl⟩:=wt4 hw
     have bw:Bd 1920 w':=J4t (DX hd _ (by simp))
     have hP:PP (.bl (spI x y z w')):=hP
     walk_at "g"
     by_cases h0:0<w'
     case neg =>
      refine IfP.f (by simpa using h0) ?_
      walk_at "g"
      have:spI x y z w'=false:=R9 fun q=>h0 q.1
      rw [this] at hP
      exact hP
     refine IfP.t (by simpa using h0) ?_
     walk_at "g"
     refine ⟨[x,y,z],w',1920,rfl,by omega,bw,by decide,by show 3<=10;decide,?_⟩
     walk_at "g"
     refine EqG.mk4 ?_
     walk_at "g"
     rw [T1,J1f h0]
     exact hP
def l3B:D->Bool
 | .tup xs=>decide (xs.length=3)
 | _=>false
def itD:D->List D
 | .tup xs=>xs
 | _=>[]
def faB (d:D):Bool:=l3B d&&(itD d).all spB
def afB:D->Bool
 | .lst fs=>fs.all faB
 | _=>false
theorem J1k {d:D}(h:l3B d=true):∃ a b c,d=.tup [a,b,c]:=by
 cases d<;>try (simp [l3B] at h;done)
 obtain ⟨a,b,c,rfl⟩:=J9a (T0 (show decide (_=3)=true from h))
 exact ⟨a,b,c,rfl⟩
theorem EM {α:Type}(f:α->Bool)(xs:List α):(xs.map f).all id=xs.all f:=by rw [List.all_map];rfl
theorem EL (f:D->Bool)(xs:List D):GO (xs.map fun x=>D.bl (f x))=some (xs.map f):=by
 have:=OO (xs.map f)
 rw [List.map_map] at this
 exact this
theorem XI {α:Type}(p q:α->Bool):∀ xs:List α,xs.all (fun x=>p x&&q x)=(xs.all p&&xs.all q)
 | []=>rfl
 | x::xs=>by
   simp only [E1,XI p q xs]
   cases p x<;>cases q x<;>cases xs.all p<;>rfl
abbrev ET:Stmt:=top 52
theorem PM:FnScope xl8 xl8 (J5 ET):=⟨rfl,rfl,rfl,by decide +kernel,rfl,by decide +kernel,by decide +kernel⟩
def NF:DSp:=fun ds P _=>∃ d:D,ds=[d]/\Y8 d=true/\(∀ xs,d=.lst xs->xs.length<=300)/\P (.bl (afB d))
structure C_are_faces (P:Program)(w:World)(K:Fg)(mg:Str->Option Value)(base:Heap)(c:Cs):Prop where
 is_spot_:Callee P w K mg base CX0 "is_spot" 3 xl8 (J8 K BT TL)
abbrev xc6 (P:Program) (w:World) (K:Fg) (mg:Str → Option Value) (base:Heap) (f:Addr) (cdv:Value) (A:Around) (outer:List Env) (s:Shared) (H:Hp) (E:XK):Cx:=DR CX0 P w K mg base xl8 "are_faces" (J5 ET) f cdv A outer s H E
abbrev TW:List Str:=["face","corner"]
theorem PY {w:World} {f:Addr} (F:Fun K "are_faces" "are_faces" ET f fd) (Z:Bi mg) {c:Cs} (Y:Ex K mg base c) (G:C_are_faces P w K mg base c):FnOk P w K mg base CX0 4 f fd xl8 (J8 K BT NF):=by
 refine F.okD PM (fun ds PP Ed h=>?_) (fun cdv A outer s H E M bg ds PP Ed hr hS_=>?_)
 · obtain ⟨d,rfl,hd,h300,hP⟩:=h
   rfl
 · obtain ⟨d,rfl,hd,h300,hP⟩:=hS_
   refine ⟨_,(J6 (AQ (FH (AJ (V8 (by rfl) (Q5 (Y4 K (by rfl)) AF rfl Z.isinstance_ V6 (J0 (jdv 0) (J0 (AD rfl Z.list_ LQ) J3))) (fun _=>rfl))) (DV (AJ (V8 (by rfl) (Q5 (CZ K (by rfl) (by rfl)) HH rfl Z.all_ HI (J0 (BA (X:=(xc6 P w K mg base f cdv A outer s H E).nox) (Z3 0) (JJ (X:=(xc6 P w K mg base f cdv A outer s H E).nox) (N':=["face"]) (map:=[none]) (by rfl) (by rfl) (by decide +kernel) (by rfl) True.intro (gkeep_name rfl) fun cl0 C0 fp0 s0 H0=>⟨(pg_name (X:=(V2 (xc6 P w K mg base f cdv A outer s H E).nox ["face"] _ cl0 C0 fp0 s0 H0)) (i:=0) (Z0 ["face"] (by decide +kernel)) rfl (by walk_at "o")),AU,(BW (X:=(V2 (xc6 P w K mg base f cdv A outer s H E).nox ["face"] _ cl0 C0 fp0 s0 H0)) (Q5 (Y4 K (by rfl)) AF rfl Z.isinstance_ V6 (J0 (jdv 0) (J0 (AD rfl Z.tuple_ AV) J3))) (DW (AK BZ AT (Q5 (V4 K (by rfl)) BR rfl Z.len_ BM (J0 (jdv 0) J3)) J1 (V1 _))))⟩) (AB (by rfl) (jdv 0))) J3)) (fun _=>rfl))))) (J7 (V0 AL)) Y7)
    (J7 (V0 (Q5 (CZ K (by rfl) (by rfl)) HH rfl Z.all_ HI (J0 (YR (X:=(xc6 P w K mg base f cdv A outer s H E).nox) (Z3 0) (Z3 1) (Q3s (X:=(xc6 P w K mg base f cdv A outer s H E).nox) (N':=TW) (map:=[none,none]) (mp2:=[some 0,none]) (by rfl) (by rfl) (by decide +kernel) (by rfl) True.intro (gkeep_name rfl) (gkeep_name rfl) rfl rfl fun cl0 C0 fp0 s0 H0=>⟨(pg_name (X:=(V2 (xc6 P w K mg base f cdv A outer s H E).nox TW _ cl0 C0 fp0 s0 H0).nox) (i:=0) (Z0 TW (by decide +kernel)) rfl (by walk_at "o")),(AB (X:=(V2 (xc6 P w K mg base f cdv A outer s H E).nox TW _ cl0 C0 fp0 s0 H0).nox) (by rfl) (jdv 0)),(pg_name (X:=(V2 (xc6 P w K mg base f cdv A outer s H E).nox TW _ cl0 C0 fp0 s0 H0).nox) (i:=1) (Z0 TW (by decide +kernel)) rfl (by walk_at "o")),AU,(Q6 (X:=(V2 (xc6 P w K mg base f cdv A outer s H E).nox TW _ cl0 C0 fp0 s0 H0).nox) G.is_spot_ hr.m rfl (J0 (jdv 1) J3))⟩) (AB (by rfl) (jdv 0))) J3))))),?_⟩
   by_cases ht:∃ xs,d=.lst xs
   case neg =>
    have e0:PP (.bl false):=by
     cases d<;>first|exact hP|exact absurd ⟨_,rfl⟩ ht
    clear hP h300
    cases d<;>(try (exact absurd ⟨_,rfl⟩ ht))<;>(try (simp [Y8] at hd;done))
    all_goals
     walk_at "g"
     refine ⟨false,by rfl,?_⟩
     walk_at "g"
     exact e0
   obtain ⟨fs,rfl⟩:=ht
   have hl:=h300 fs rfl
   clear h300
   have ha:=SD hd
   have hP:PP (.bl (fs.all faB)):=hP
   rw [show fs.all faB=(fs.all l3B&&fs.all fun d=>(itD d).all spB) from XI ..] at hP
   walk_at "g"
   refine ⟨true,by rfl,?_⟩
   walk_at "g"
   refine And.intro (by omega) ?_
   refine DN (fun x=>.bl (l3B x)) (fun x Q hx hQ=>?_) (fun _ _=>rfl) ?_
   · have ox:=ha x hx
     clear hx
     cases x<;>(try (simp [Y8] at ox;done))
     case tup xs =>
      walk_at "g"
      refine ⟨true,by rfl,?_⟩
      walk_at "g"
      rw [show (decide ((xs.length:Int)=3)!=false)=l3B (.tup xs) by rw [T1];exact decide_eq_decide.mpr (by omega)]
      exact hQ
     all_goals
      walk_at "g"
      refine ⟨false,by rfl,?_⟩
      walk_at "g"
      exact hQ
   walk_at "g"
   rw [EL l3B]
   walk_at "g"
   cases hb:fs.all l3B
   · refine IfP.t (by show (!(fs.map l3B).all id)=true;rw [EM,hb];rfl) ?_
     walk_at "g"
     rw [hb] at hP
     exact hP
   refine IfP.f (by show (!(fs.map l3B).all id)=false;rw [EM,hb];rfl) ?_
   rw [hb,U8] at hP
   have h3:=R5.mp hb
   walk_at "g"
   refine And.intro (by omega) ?_
   refine ⟨fun i acc=>acc=((fs.take i).flatMap itD).map fun x=>.bl (spB x),rfl,?_,?_⟩
   · rintro i x acc e rfl
     obtain ⟨a,b,c,rfl⟩:=J1k (h3 x (M3 e))
     have hf:=DX (ha _ (M3 e))
     have oa:=hf a (by simp)
     have ob:=hf b (by simp)
     have oc:=hf c (by simp)
     rw [B0u,e,B0r,List.flatMap_append,B0d]
     clear e
     generalize ((fs.take i).flatMap itD).map (fun x=>D.bl (spB x))=acc0
     walk_at "g"
     refine ⟨fun j acc=>acc=acc0++([a,b,c].take j).map fun x=>.bl (spB x),by rw [List.take_zero,List.map_nil,E7],?_,?_⟩
     · rintro j y acc e rfl
       have oy:Y8 y=true:=hf y (M3 e)
       rw [B0u,e,B0r,B0d,<- List.append_assoc]
       clear e
       generalize acc0++([a,b,c].take j).map (fun x=>D.bl (spB x))=acc1
       walk_at "g"
       refine ⟨by show (BF y&&true)=true;rw [BV oy];rfl,y,rfl,oy,?_⟩
       exact ⟨rfl,rfl⟩
     · rintro acc rfl
       rfl
   · rintro acc rfl
     rw [List.take_length]
     walk_at "g"
     rw [EL spB]
     walk_at "g"
     show PP (.bl (((fs.flatMap itD).map spB).all id))
     rw [EM]
     have:(fs.flatMap itD).all spB=fs.all fun d=>(itD d).all spB:=List.all_flatMap ..
     rw [this]
     exact hP
mutual
def smD:D->Bool
 | .int i=>decide (i.natAbs<2 ^ 250)
 | .tup xs=>RQ xs
 | .lst xs=>RQ xs
 | _=>true
def RQ:List D->Bool
 | []=>true
 | d::ds=>smD d&&RQ ds
end
theorem LV:∀ {ds:List D},RQ ds=true->∀ d∈ds,smD d=true
 | d::ds,h,e,m=>by
   unfold RQ at h
   obtain ⟨h1,h2⟩:=(L5 _ _).mp h
   rcases B4.mp m with rfl|m
   · exact h1
   · exact LV h2 e m
theorem DC {xs:List D}(h:smD (.tup xs)=true):∀ d∈xs,smD d=true:=LV (by unfold smD at h;exact h)
theorem VX {xs:List D}(h:smD (.lst xs)=true):∀ d∈xs,smD d=true:=LV (by unfold smD at h;exact h)
theorem LW {i:Int}(h:smD (.int i)=true):Bd 250 i:=by
 have h:decide (i.natAbs<2 ^ 250)=true:=by unfold smD at h;exact h
 show i.natAbs<2 ^ 250
 exact T0 h
theorem PH {ds:List D}(h:∀ d∈ds,smD d=true):RQ ds=true:=by
 induction ds with
 | nil=>unfold RQ;rfl
 | cons d ds ih=>unfold RQ;rw [h d (by simp),ih fun e m=>h e (by simp [m])];rfl
def IR:D->T3
 | .tup [.tup [.int a,.int b,.int c,.int d],.tup [.int e,.int f,.int g,.int h],.tup [.int i,.int j,.int k,.int l]]=>⟨a,b,c,d,e,f,g,h,i,j,k,l⟩
 | _=>⟨0,0,0,0,0,0,0,0,0,0,0,0⟩
theorem UB {d:D}(h:spB d=true):∃ x y z w:Int,d=sp4 x y z w/\0<w:=by
 unfold spB at h
 split at h
 · rename_i x y z w
   exact ⟨x,y,z,w,rfl,(T0 h).1⟩
 · cases h
theorem J9p {d:D}(h:faB d=true)(hs:smD d=true):(IR d).d=d/\(IR d).ok 260/\(IR d).pos:=by
 obtain ⟨h1,h2⟩:=(L5 _ _).mp h
 obtain ⟨a,b,c,rfl⟩:=J1k h1
 have h2:=R5.mp h2
 have hs:=DC hs
 obtain ⟨ax,ay,az,aw,rfl,pa⟩:=UB (h2 a (by simp [itD]))
 obtain ⟨bx,b_y,bz,bw,rfl,pb⟩:=UB (h2 b (by simp [itD]))
 obtain ⟨cx,cy,cz,cw,rfl,pc⟩:=UB (h2 c (by simp [itD]))
 have sa:=DC (hs (sp4 ax ay az aw) (by simp))
 have sb:=DC (hs (sp4 bx b_y bz bw) (by simp))
 have sc:=DC (hs (sp4 cx cy cz cw) (by simp))
 have q:∀ {i:Int},smD (.int i)=true->Bd 260 i:=fun h=>(LW h).mono (by decide)
 exact ⟨rfl,⟨q (sa (.int ax) (by simp)),q (sa (.int ay) (by simp)),q (sa (.int az) (by simp)),q (sa (.int aw) (by simp)),q (sb (.int bx) (by simp)),q (sb (.int b_y) (by simp)),q (sb (.int bz) (by simp)),q (sb (.int bw) (by simp)),q (sc (.int cx) (by simp)),q (sc (.int cy) (by simp)),q (sc (.int cz) (by simp)),q (sc (.int cw) (by simp))⟩,⟨pa,pb,pc⟩⟩
theorem VA:∀ {fs:List D},fs.all faB=true->(∀ d∈fs,smD d=true)->(fs.map IR).map T3.d=fs/\∀ t∈fs.map IR,t.ok 260/\t.pos
 | [],_,_=>⟨rfl,by simp⟩
 | x::fs,h,hs=>by
   obtain ⟨h1,h2⟩:=(L5 _ _).mp (by simpa using h:(faB x&&fs.all faB)=true)
   obtain ⟨e,r⟩:=J9p h1 (hs x (by simp))
   obtain ⟨e2,r2⟩:=VA h2 fun d m=>hs d (by simp [m])
   refine ⟨by rw [U7,U7,e,e2],fun t m=>?_⟩
   rcases B4.mp (by rw [U7] at m;exact m) with rfl|m
   · exact r
   · exact r2 t m
def SE:D->Bool
 | .non=>true
 | _=>false
def QO:Option (Nat×Int×Int)->D->Bool
 | none,.non=>true
 | some (i,_,_),.int j=>decide ((i:Int)=j)
 | _,_=>false
def J5k:D->Int
 | .tup [.int x,.int _]=>x
 | _=>0
def J4b:D->Int
 | .tup [.int _,.int y]=>y
 | _=>0
def dhB (f t n:D):Bool:=match f with
 | .lst fs=>fs.all faB&&(decide (fs.length<=24)&&(wtD 2 t&&((SE n||whD n)&&QO (seenN (fs.map IR) (J5k t) (J4b t) fs.length) n)))
 | _=>false
theorem SS {st:Option (Nat×Int×Int)} {n:D} {P:D->Prop} (hn:(SE n||whD n)=true) (h:P (.bl (QO st n))):EqG false (seenD st) n P/\EqG false n (seenD st) P:=by
 cases n<;>(try (simp [SE,whD] at hn;done))
 case non =>
  cases st with
  | none=>exact ⟨⟨.none,.none,rfl,rfl,M1 rfl,by simp only [PyData.eqv,T1];exact h⟩,⟨.none,.none,rfl,rfl,M1 rfl,by simp only [PyData.eqv,T1];exact h⟩⟩
  | some p =>
    obtain ⟨i,a,b⟩:=p
    exact ⟨⟨.int i,.none,rfl,rfl,M1 rfl,by simp only [PyData.eqv,T1];exact h⟩,⟨.none,.int i,rfl,rfl,M1 rfl,by simp only [PyData.eqv,T1];exact h⟩⟩
 case int j =>
  cases st with
  | none=>exact ⟨⟨.none,.int j,rfl,rfl,M1 rfl,by simp only [PyData.eqv,T1];exact h⟩,⟨.int j,.none,rfl,rfl,M1 rfl,by simp only [PyData.eqv,T1];exact h⟩⟩
  | some p =>
    obtain ⟨i,a,b⟩:=p
    have h:P (.bl (decide ((i:Int)=j))):=h
    refine ⟨⟨.int i,.int j,rfl,rfl,M1 rfl,?_⟩,⟨.int j,.int i,rfl,rfl,M1 rfl,?_⟩⟩
    · rw [show PyData.eqv (.int i) (.int j)=decide ((i:Int)=j) by simp only [PyData.eqv];rfl,T1]
      exact h
    · rw [show PyData.eqv (.int j) (.int i)=decide ((i:Int)=j) by simp only [PyData.eqv];exact decide_eq_decide.mpr ⟨fun e=>e.symm,fun e=>e.symm⟩,T1]
      exact h
abbrev GR:Stmt:=top 53
abbrev J3t:List Str:=["faces","dot","number"]
theorem PL:FnScope J3t J3t (J5 GR):=⟨rfl,rfl,rfl,by decide +kernel,rfl,by decide +kernel,by decide +kernel⟩
def Q3v:DSp:=fun ds P _=>∃ f t n:D,ds=[f,t,n]/\(Y8 f=true/\Y8 t=true/\Y8 n=true)/\(smD f=true/\smD t=true)/\(∀ xs,f=.lst xs->xs.length<=300)/\P (.bl (dhB f t n))
structure C_dot_holds (P:Program)(w:World)(K:Fg)(mg:Str->Option Value)(base:Heap)(c:Cs):Prop where
 seen_at_:Callee P w K mg base CX0 "seen_at" 5 ["faces","dot"] (J8 K BT J3j)
 are_faces_:Callee P w K mg base CX0 "are_faces" 4 xl8 (J8 K BT NF)
 is_whole_tuple_:Callee P w K mg base CX0 "is_whole_tuple" 2 xl9 (J8 K BT VQ)
 is_whole_:Callee P w K mg base CX0 "is_whole" 1 xl8 (J8 K BT GJ)
theorem PX {w:World} {f:Addr} (F:Fun K "dot_holds" "dot_holds" GR f fd) (Z:Bi mg) {c:Cs} (Y:Ex K mg base c) (G:C_dot_holds P w K mg base c):FnOk P w K mg base CX0 6 f fd J3t (J8 K BT Q3v):=by
 refine F.okD PL (fun ds PP Ed h=>?_) (fun cdv A outer s H E M bg ds PP Ed hr hS_=>?_)
 · obtain ⟨f_,t,n,rfl,⟨of_,ot,on⟩,⟨sf,st⟩,h300,hP⟩:=h
   rfl
 · obtain ⟨f_,t,n,rfl,⟨of_,ot,on⟩,⟨sf,st⟩,h300,hP⟩:=hS_
   refine ⟨_,(J6 (AQ (FH (AJ (V8 (by rfl) (Q6 G.are_faces_ hr.m rfl (J0 (jdv 0) J3)) (fun _=>rfl))) (KC (Y0 IX EH (Q5 (V4 K (by rfl)) BR rfl Z.len_ BM (J0 (jdv 0) J3)) (YQ rfl Z.MOST_) (V1 _)) (DV (AJ (V8 (by rfl) (Q6 G.is_whole_tuple_ hr.m rfl (J0 (jdv 1) (J0 J1 J3))) (fun _=>rfl)))))) (J7 (V0 AL)) Y7)
    (J6 (AQ (GI (Y0 WI WJ (jdv 2) CJ (V1 _)) (EI (AJ (V8 (by rfl) (Q6 G.is_whole_ hr.m rfl (J0 (jdv 2) J3)) (fun _=>rfl))))) (J7 (V0 AL)) Y7)
    (J7 (V0 (AK (HA K (by rfl) hr.units) FG (Q6 G.seen_at_ hr.m rfl (J0 (jdv 0) (J0 (jdv 1) J3))) (jdv 2) (V1 _)))))),?_⟩
   walk_at "g"
   refine ⟨by show (BF f_&&true)=true;rw [BV of_];rfl,f_,rfl,of_,h300,?_⟩
   by_cases ht:∃ xs,f_=.lst xs
   case neg =>
    have e0:PP (.bl false):=by
     have:dhB f_ t n=false:=by cases f_<;>first|rfl|exact absurd ⟨_,rfl⟩ ht
     rw [this] at hP;exact hP
    rw [show afB f_=false by cases f_<;>first|rfl|exact absurd ⟨_,rfl⟩ ht]
    walk_at "g"
    exact e0
   obtain ⟨fs,rfl⟩:=ht
   have hP:PP (.bl (fs.all faB&&(decide (fs.length<=24)&&(wtD 2 t&&((SE n||whD n)&&QO (seenN (fs.map IR) (J5k t) (J4b t) fs.length) n))))):=hP
   rw [show afB (.lst fs)=fs.all faB from rfl]
   cases hfa:fs.all faB
   · rw [hfa] at hP
     walk_at "g"
     exact hP
   rw [hfa,U8] at hP
   walk_at "g"
   by_cases h24:fs.length<=24
   case neg =>
    refine IfP.t (by simp;omega) ?_
    walk_at "g"
    rw [R9 h24] at hP
    exact hP
   refine IfP.f (by simp;omega) ?_
   rw [R6 h24,U8] at hP
   walk_at "g"
   refine ⟨by show (BF t&&true)=true;rw [BV ot];rfl,t,2,rfl,ot,by decide,?_⟩
   cases hw:wtD 2 t
   · rw [hw] at hP
     walk_at "g"
     exact hP
   rw [hw,U8] at hP
   obtain ⟨x,y,rfl⟩:=wt2 hw
   obtain ⟨e1,e2⟩:=VA hfa (VX sf)
   have hx:Bd 260 x:=(LW (DC st (.int x) (by simp))).mono (by decide)
   have hy:Bd 260 y:=(LW (DC st (.int y) (by simp))).mono (by decide)
   have hP:PP (.bl ((SE n||whD n)&&QO (seenN (fs.map IR) x y fs.length) n)):=hP
   walk_at "g"
   cases n<;>(try (simp [Y8] at on;done))
   case' non=>refine IfP.f rfl ?_
   case' int=>refine IfP.t rfl ?_
   case' bl=>refine IfP.t rfl ?_
   case' str=>refine IfP.t rfl ?_
   case' tup=>refine IfP.t rfl ?_
   case' lst=>refine IfP.t rfl ?_
   case' int|bl|str|tup|lst =>
    walk_at "g"
    refine ⟨_,rfl,on,?_⟩
   case bl|str|tup|lst =>
    walk_at "g"
    exact hP
   all_goals
    walk_at "g"
    refine ⟨fs.map IR,x,y,by rw [e1],e2,by rw [L0];omega,hx,hy,?_⟩
    rw [L0]
    walk_at "g"
    refine (SS rfl ?_).1
    exact hP
def isS (s:Str):D->Bool
 | .str x=>x==s
 | _=>false
theorem LM {w:D}{s:Str}{neg:Bool}{n:Nat}{P:D->Prop}(hw:Y8 w=true)(hf:Y6 n w=true)(hs:PyData.strOk s=true)(h:P (.bl (isS s w != neg))):EqG neg w (.str s) P:=by
 obtain ⟨p,e,_,_⟩:=LL n w hf
 refine ⟨p,.str s,e,by unfold AC;rw [if_pos hs],by show min p.depth 0<=60;rw [Nat.min_zero];decide,?_⟩
 have:PyData.eqv p (.str s)=isS s w:=by
  cases w<;>(try (simp [Y8] at hw;done))
  case non=>cases e;rfl
  case bl=>cases e;simp [PyData.eqv,isS]
  case int=>cases e;simp [PyData.eqv,isS]
  case str x =>
   unfold AC at e
   split at e
   · cases e;simp [PyData.eqv,isS]
   · cases e
  case tup xs =>
   unfold AC at e
   obtain ⟨ps,_,rfl⟩:=L8.mp e
   simp [PyData.eqv,isS]
  case lst xs =>
   unfold AC at e
   obtain ⟨ps,_,rfl⟩:=L8.mp e
   simp [PyData.eqv,isS]
 rw [this]
 exact h
structure Ppr (d:D):Prop where
 ok:Y8 d=true
 fine:Y6 20 d=true
 w:wD d<=10000000
 sm:smD d=true
 three:∀ a b c,d=.tup [a,b,c]->isS "fellows" a=false
 four:∀ a b c e,d=.tup [a,b,c,e]->isS "cut" a=false
 l31:∀ a fs b e,d=.tup [a,.lst fs,b,e]->fs.length<=31
def hoB:D->Bool
 | .tup [w,a,b,c]=>isS "dot" w&&dhB a b c
 | _=>false
theorem J2q {x:D}{xs:List D}:L2.VD (x::xs) (some 1) none=xs:=by
 unfold L2.VD
 have e1:HT.sIx (x::xs).length 0 (some (1:Int))=1:=by
  rw [show HT.sIx (x::xs).length 0 (some (1:Int))=min 1 (x::xs).length from HT.sIx_nat (x::xs).length 0 1,U5]
  omega
 have e2:HT.sIx (x::xs).length (x::xs).length none=(x::xs).length:=rfl
 rw [e1,e2]
 show xs.take _=xs
 exact E6 (by rw [U5];omega)
abbrev PN:Stmt:=top 61
theorem MB:FnScope ["paper","word","rest"] ["paper"] (J5 PN):=⟨rfl,rfl,rfl,by decide +kernel,rfl,by decide +kernel,by decide +kernel⟩
def XQ:DSp:=fun ds P _=>∃ d:D,ds=[d]/\Ppr d/\P (.bl (hoB d))
structure C_holds (P:Program)(w:World)(K:Fg)(mg:Str->Option Value)(base:Heap)(c:Cs):Prop where
 dot_holds_:Callee P w K mg base CX0 "dot_holds" 6 J3t (J8 K BT Q3v)
theorem J0w {w:World} {f:Addr} (F:Fun K "holds" "holds" PN f fd) (Z:Bi mg) {c:Cs} (Y:Ex K mg base c) (G:C_holds P w K mg base c):FnOk P w K mg base CX0 7 f fd ["paper"] (J8 K BT XQ):=by
 refine F.okD MB (fun ds PP Ed h=>?_) (fun cdv A outer s H E M bg ds PP Ed hr hS_=>?_)
 · obtain ⟨d,rfl,hp,hP⟩:=h
   rfl
 · obtain ⟨d,rfl,hp,hP⟩:=hS_
   refine ⟨_,(J6 (AQ (FH (AJ (V8 (by rfl) (Q5 (Y4 K (by rfl)) AF rfl Z.isinstance_ V6 (J0 (jdv 0) (J0 (AD rfl Z.tuple_ AV) J3))) (fun _=>rfl))) (DV (Y0 BZ AT (Q5 (V4 K (by rfl)) BR rfl Z.len_ BM (J0 (jdv 0) J3)) J1 (V1 _)))) (J7 (V0 AL)) Y7)
    (J6 (V9 (i:=1) MB.nd rfl (by walk_at "o") (Q3 (J9 K (by rfl)) Q8 (jdv 0) J1 (fun _ _=>rfl)))
    (J6 (V9 (i:=2) MB.nd rfl (by walk_at "o") (OF (ZV K (by rfl)) (jdv 0) (SK J1) SL))
    (J6 (AQ (GI (Y0 (HA K (by rfl) hr.units) FG (jdv 1) CO (V1 _)) (EI (Y0 BZ AT (Q5 (V4 K (by rfl)) BR rfl Z.len_ BM (J0 (jdv 2) J3)) J1 (V1 _)))) (J7 (V0 (Q6 G.dot_holds_ hr.m rfl (J0 (Q3 (J9 K (by rfl)) Q8 (jdv 2) J1 (fun _ _=>rfl)) (J0 (Q3 (J9 K (by rfl)) Q8 (jdv 2) J1 (fun _ _=>rfl)) (J0 (Q3 (J9 K (by rfl)) Q8 (jdv 2) J1 (fun _ _=>rfl)) J3)))))) Y7)
    (J6 (AQ (GI (Y0 (HA K (by rfl) hr.units) FG (jdv 1) CO (V1 _)) (EI (Y0 BZ AT (Q5 (V4 K (by rfl)) BR rfl Z.len_ BM (J0 (jdv 2) J3)) J1 (V1 _)))) (J7 OE) Y7)
    (J6 (AQ (GI (Y0 (HA K (by rfl) hr.units) FG (jdv 1) CO (V1 _)) (EI (Y0 BZ AT (Q5 (V4 K (by rfl)) BR rfl Z.len_ BM (J0 (jdv 2) J3)) J1 (V1 _)))) (J7 OE) Y7)
    (J7 (V0 AL)))))))),?_⟩
   have hd:=hp.ok
   by_cases ht:∃ xs,d=.tup xs
   case neg =>
    have e0:PP (.bl false):=by
     have:hoB d=false:=by cases d<;>first|rfl|exact absurd ⟨_,rfl⟩ ht
     rw [this] at hP;exact hP
    clear hp hP
    cases d<;>(try (exact absurd ⟨_,rfl⟩ ht))<;>(try (simp [Y8] at hd;done))
    all_goals
     walk_at "g"
     refine ⟨false,by rfl,?_⟩
     walk_at "g"
     exact e0
   obtain ⟨xs,rfl⟩:=ht
   have ha:=DX hd
   walk_at "g"
   refine ⟨true,by rfl,?_⟩
   walk_at "g"
   cases xs with
   | nil =>
     refine IfP.t rfl ?_
     walk_at "g"
     exact hP
   | cons w xs =>
     have ow:=ha w (by simp)
     have fw:Y6 19 w=true:=by
      have:=hp.fine
      unfold Y6 BQ at this
      exact (L5 _ _).mp this |>.1
     have hx:∀ d∈xs,Y8 d=true:=fun d h=>ha d (by simp [h])
     have hs:∀ d∈xs,smD d=true:=fun d h=>DC hp.sm d (by simp [h])
     refine IfP.f (by simp;omega) ?_
     walk_at "g"
     rw [show atI (w::xs) 0=some w from HV (j:=0) rfl]
     refine And.intro (okRp_pl ow) ?_
     walk_at "g"
     refine And.intro (fun z=>by
      have:=z.1
      rw [show HT.sIx (w::xs).length 0 (some 1)=min 1 (w::xs).length from HT.sIx_nat (w::xs).length 0 1,U5] at this
      omega) ?_
     rw [J2q]
     walk_at "g"
     have no:¬ (xs.length=3/\isS "dot" w=true)->PP (.bl false):=fun h=>by
      have:hoB (.tup (w::xs))=false:=by
       unfold hoB
       split
       · rename_i e
         cases e
         cases e2:isS "dot" w
         · rfl
         · exact absurd ⟨rfl,e2⟩ h
       · rfl
      rw [this] at hP
      exact hP
     have n2:isS "fellows" w=true->¬ xs.length=2:=fun h z=>by
      obtain ⟨a,b,rfl⟩:=Q2s z
      rw [hp.three w a b rfl] at h
      exact B7 h
     have n3:isS "cut" w=true->¬ xs.length=3:=fun h z=>by
      obtain ⟨a,b,c,rfl⟩:=J9a z
      rw [hp.four w a b c rfl] at h
      exact B7 h
     refine LM ow fw (by decide +kernel) ?_
     rw [T1]
     cases e1:isS "dot" w
     case' true =>
      walk_at "g"
      by_cases l3:xs.length=3
      · obtain ⟨a,b,e,rfl⟩:=J9a l3
        refine IfP.t rfl ?_
        walk_at "g"
        refine ⟨?_,a,b,e,rfl,⟨hx a (by simp),hx b (by simp),hx e (by simp)⟩,⟨hs a (by simp),hs b (by simp)⟩,fun ps z=>M7 (hp.l31 w ps b e (by rw [z])) (by decide),?_⟩
        · show (BF a&&(BF b&&(BF e&&true)))=true
          rw [BV (hx a (by simp)),BV (hx b (by simp)),BV (hx e (by simp))]
          rfl
        · have:hoB (.tup [w,a,b,e])=dhB a b e:=by
           show (isS "dot" w&&dhB a b e)=_
           rw [e1,U8]
          rw [this] at hP
          walk_at "g"
          exact hP
      refine IfP.f (by simp;omega) ?_
      have e0:=no fun h=>l3 h.1
     case' false =>
      have e0:=no fun h=>by rw [e1] at h;exact B7 h.2
     all_goals
      walk_at "g"
      refine LM ow fw (by decide +kernel) ?_
      rw [T1]
      cases e2:isS "fellows" w
     case' true.true|false.true =>
      walk_at "g"
      refine IfP.f (by have:=n2 e2;simp;omega) ?_
     all_goals
      walk_at "g"
      refine LM ow fw (by decide +kernel) ?_
      rw [T1]
      cases e3:isS "cut" w
     case' true.true.true|false.true.true|true.false.true|false.false.true =>
      walk_at "g"
      refine IfP.f (by have:=n3 e3;simp;omega) ?_
     all_goals
      walk_at "g"
      exact e0
abbrev FC:Stmt:=top 65
abbrev PB:List Str:=["_law_one","_law_other"]
theorem DD:FnScope PB PB (J5 FC):=⟨rfl,rfl,rfl,by decide +kernel,rfl,by decide +kernel,by decide +kernel⟩
theorem J1v {a b:Int}(hb:0<b):Int.gcd b (a % b)=Int.gcd a b:=by
 have:=SQ (a:=a) (b:=b)
 rw [D2 a (by omega)] at this
 exact this
theorem J5i (a b:Int):Int.gcd (if a<0 then -a else a) (if b<0 then -b else b)=Int.gcd a b:=by
 by_cases h1:a<0<;>by_cases h2:b<0<;>simp [h1,h2,Int.gcd]
theorem ML {w:World} {f:Addr} (F:Fun K "_law_shared" "_law_shared" FC f fd) (Z:Bi mg) {c:Cs} (Y:Ex K mg base c):FnOk P w K mg base CX0 1 f fd PB (J8 K BT OW):=by
 refine F.okD DD (fun ds PP Ed h=>?_) (fun cdv A outer s H E M bg ds PP Ed hr hS_=>?_)
 · obtain ⟨x,y,rfl,hP⟩:=h
   rfl
 · obtain ⟨x,y,rfl,hP⟩:=hS_
   refine ⟨_,(J6 (V9 (i:=0) DD.nd rfl (by walk_at "o") (Q5 FQ VM rfl Z.abs_ KG (J0 (jdv 0) J3)))
    (J6 (V9 (i:=1) DD.nd rfl (by walk_at "o") (Q5 FQ VM rfl Z.abs_ KG (J0 (jdv 1) J3)))
    (J6 (YN T4 (Y0 IX EH (jdv 1) J1 (V1 _)) (J7 (JS.mk ((J0j (i:=0) (j:=1) rfl DD.nd rfl rfl (by decide) rfl rfl (JA.h (J0 (jdv 1) (J0 (Q4 GZ Z9 (jdv 0) (jdv 1)) J3))) rfl).mono J7t))))
    (J7 (V0 (jdv 0)))))),?_⟩
   rw [<- J5i] at hP
   have hx:0<=(if x<0 then -x else x):=by split<;>omega
   have hy:0<=(if y<0 then -y else y):=by split<;>omega
   walk_at "g"
   generalize (if x<0 then -x else x)=u at hx hP ⊢
   generalize (if y<0 then -y else y)=v at hy hP ⊢
   refine ⟨fun m ρ=>∃ a b:Int,ρ=[some (.int a),some (.int b)]/\0<=a/\0<=b/\b.toNat=m/\Int.gcd a b=Int.gcd u v,v.toNat,⟨u,v,rfl,hx,hy,rfl,rfl⟩,?_⟩
   rintro m ρ ⟨a,b,rfl,ha,hb,hm,hg⟩
   walk_at "g"
   by_cases h:0<b
   · refine IfP.t (by simp [h]) ?_
     walk_at "g"
     refine And.intro h ?_
     walk_at "g"
     have h1:=W8 a (show b≠0 by omega)
     have h2:=W0 a h
     exact ⟨(a % b).toNat,by omega,b,a % b,rfl,hb,h1,rfl,by rw [J1v h];exact hg⟩
   · refine IfP.f (by simp [h]) ?_
     have hb0:b=0:=by omega
     subst hb0
     walk_at "g"
     rw [<- hg,Int.gcd_zero_right] at hP
     rw [Int.natAbs_of_nonneg ha] at hP
     exact hP
abbrev GT:Stmt:=top 66
theorem AG:FnScope ["_law_numbers","_law_x","_law_y","_law_z","_law_w","_law_common"] ["_law_numbers"] (J5 GT):=⟨rfl,rfl,rfl,by decide +kernel,rfl,by decide +kernel,by decide +kernel⟩
theorem J1w {x y z w:Int}(h:0<w):0<(Int.gcd (Int.gcd x y:Int) (Int.gcd z w:Int):Int)/\(Int.gcd (Int.gcd x y:Int) (Int.gcd z w:Int):Int)<=w:=by
 have h1:0<Int.gcd z w:=Nat.pos_of_ne_zero fun e=>by have:=(Int.gcd_eq_zero_iff.mp e).2;omega
 have h2:0<Int.gcd (Int.gcd x y:Int) (Int.gcd z w:Int):=Nat.pos_of_ne_zero fun e=>by have:=(Int.gcd_eq_zero_iff.mp e).2;omega
 have d1:(Int.gcd (Int.gcd x y:Int) (Int.gcd z w:Int):Int) ∣ (Int.gcd z w:Int):=U9 ..
 have d2:(Int.gcd z w:Int) ∣ w:=U9 ..
 exact ⟨by omega,Int.le_of_dvd h (E9 d1 d2)⟩
theorem J1x {x y z w q:Int}(hq:q=(Int.gcd (Int.gcd x y:Int) (Int.gcd z w:Int):Int))(h0:0<q):Nat.gcd (Int.gcd (x / q) (y / q)) (Int.gcd (z / q) (w / q))=1:=by
 have d1:q ∣ (Int.gcd x y:Int):=by rw [hq];exact E4 ..
 have d2:q ∣ (Int.gcd z w:Int):=by rw [hq];exact U9 ..
 have e1:=B0n (E9 d1 (E4 x y))
 have e2:=B0n (E9 d1 (U9 x y))
 have e3:=B0n (E9 d2 (E4 z w))
 have e4:=B0n (E9 d2 (U9 z w))
 generalize x / q=a at *
 generalize y / q=b at *
 generalize z / q=c at *
 generalize w / q=d at *
 have q1:Int.gcd (a*q) (b*q)=Int.gcd a b*q.natAbs:=B0w ..
 have q2:Int.gcd (c*q) (d*q)=Int.gcd c d*q.natAbs:=B0w ..
 have hn:q.natAbs=Nat.gcd (Int.gcd x y) (Int.gcd z w):=by rw [hq,Int.gcd_natCast_natCast,Int.natAbs_natCast]
 rw [<- e1,<- e2,<- e3,<- e4,q1,q2,Nat.gcd_mul_right] at hn
 have hp:0<q.natAbs:=by omega
 have:1*q.natAbs=Nat.gcd (Int.gcd a b) (Int.gcd c d)*q.natAbs:=by rw [Nat.one_mul];exact hn
 exact (Nat.eq_of_mul_eq_mul_right hp this).symm
def NE:DSp:=fun ds P _=>∃ (x y z w:Int) (n:Nat),ds=[sp4 x y z w]/\0<w/\(Bd n x/\Bd n y/\Bd n z/\Bd n w)/\n<=2000/\∀ x' y' z' w':Int,(Bd n x'/\Bd n y'/\Bd n z'/\Bd n w')->0<w'->Nat.gcd (Int.gcd x' y') (Int.gcd z' w')=1->P (sp4 x' y' z' w')
structure C__law_spot (P:Program)(w:World)(K:Fg)(mg:Str->Option Value)(base:Heap)(c:Cs):Prop where
 _law_shared_:Callee P w K mg base CX0 "_law_shared" 1 PB (J8 K BT OW)
theorem QB {w:World} {f:Addr} (F:Fun K "_law_spot" "_law_spot" GT f fd) (Z:Bi mg) {c:Cs} (Y:Ex K mg base c) (G:C__law_spot P w K mg base c):FnOk P w K mg base CX0 2 f fd ["_law_numbers"] (J8 K BT NE):=by
 refine F.okD AG (fun ds PP Ed h=>?_) (fun cdv A outer s H E M bg ds PP Ed hr hS_=>?_)
 · obtain ⟨x,y,z,w',n,rfl,h0,⟨h1,h2,h3,h4⟩,hn,hP⟩:=h
   rfl
 · obtain ⟨x,y,z,w',n,rfl,h0,⟨h1,h2,h3,h4⟩,hn,hP⟩:=hS_
   refine ⟨_,(J6 (ED (CB [1,2,3,4]) (jdv 0) (PG.or (AW (n:=4) K (by rfl) (by rfl) (J4 (pg_name (i:=1) AG.nd rfl (by walk_at "o")) (J4 (pg_name (i:=2) AG.nd rfl (by walk_at "o")) (J4 (pg_name (i:=3) AG.nd rfl (by walk_at "o")) (J4 (pg_name (i:=4) AG.nd rfl (by walk_at "o")) Y3))))) (AY (n:=4) K (by rfl) (by rfl) (J4 (pg_name (i:=1) AG.nd rfl (by walk_at "o")) (J4 (pg_name (i:=2) AG.nd rfl (by walk_at "o")) (J4 (pg_name (i:=3) AG.nd rfl (by walk_at "o")) (J4 (pg_name (i:=4) AG.nd rfl (by walk_at "o")) Y3)))))))
    (J6 (V9 (i:=5) AG.nd rfl (by walk_at "o") (Q6 G._law_shared_ hr.m rfl (J0 (Q6 G._law_shared_ hr.m rfl (J0 (jdv 1) (J0 (jdv 2) J3))) (J0 (Q6 G._law_shared_ hr.m rfl (J0 (jdv 3) (J0 (jdv 4) J3))) J3))))
    (J7 (V0 (V3 (J0 (Q4 DL Z9 (jdv 1) (jdv 5)) (J0 (Q4 DL Z9 (jdv 2) (jdv 5)) (J0 (Q4 DL Z9 (jdv 3) (jdv 5)) (J0 (Q4 DL Z9 (jdv 4) (jdv 5)) J3))))))))),?_⟩
   obtain ⟨g0,g1⟩:=J1w (x:=x) (y:=y) (z:=z) h0
   have dw:(Int.gcd (Int.gcd x y:Int) (Int.gcd z w':Int):Int) ∣ w':=E9 (U9 ..) (U9 ..)
   walk_at "g"
   refine ⟨_,_,rfl,?_⟩
   walk_at "g"
   refine ⟨_,_,rfl,?_⟩
   walk_at "g"
   refine ⟨_,_,rfl,?_⟩
   have hgq:=@J1x x y z w' _ rfl g0
   generalize (Int.gcd (Int.gcd x y:Int) (Int.gcd z w':Int):Int)=q at g0 g1 dw hgq ⊢
   have bq:Bd n q:=by have:=h4.lt;exact Bd.of (by omega) (by omega)
   walk_at "g"
   refine And.intro ⟨g0,n,bq,by omega⟩ ?_
   walk_at "g"
   refine And.intro ⟨g0,n,bq,by omega⟩ ?_
   walk_at "g"
   refine And.intro ⟨g0,n,bq,by omega⟩ ?_
   walk_at "g"
   refine And.intro ⟨g0,n,bq,by omega⟩ ?_
   walk_at "g"
   refine hP _ _ _ _ ⟨h1.ediv g0,h2.ediv g0,h3.ediv g0,h4.ediv g0⟩ ?_ hgq
   obtain ⟨k,rfl⟩:=dw
   rw [Int.mul_ediv_cancel_left _ (by omega)]
   rcases Int.lt_or_le 0 k with z|z
   · exact z
   · have:=Int.mul_nonpos_of_nonneg_of_nonpos (B0q g0) z;omega
abbrev GW:Stmt:=top 69
abbrev TV:List Str:=["_law_a","_law_b","_law_dot"]
theorem CD:FnScope ["_law_a","_law_b","_law_dot","_law_x","_law_y","_law_first"] TV (J5 GW):=⟨rfl,rfl,rfl,by decide +kernel,rfl,by decide +kernel,by decide +kernel⟩
def RI:DSp:=fun ds P _=>∃ (ax ay az aw bx b_y bz bw px py:Int),ds=[sp4 ax ay az aw,sp4 bx b_y bz bw,t2 px py]/\(Bd 600 ax/\Bd 600 ay/\Bd 600 aw)/\(Bd 600 bx/\Bd 600 b_y/\Bd 600 bw)/\(Bd 600 px/\Bd 600 py)/\P (.int (det ax ay aw bx b_y bw px py 1))
theorem J4z (ax ay aw bx b_y bw px py:Int):ax*(b_y - bw*py) - ay*(bx - bw*px)+aw*(bx*py - b_y*px)=det ax ay aw bx b_y bw px py 1:=by unfold det;grind
theorem QE {w:World} {f:Addr} (F:Fun K "_law_lean" "_law_lean" GW f fd) (Z:Bi mg) {c:Cs} (Y:Ex K mg base c):FnOk P w K mg base CX0 1 f fd TV (J8 K BT RI):=by
 refine F.okD CD (fun ds PP Ed h=>?_) (fun cdv A outer s H E M bg ds PP Ed hr hS_=>?_)
 · obtain ⟨ax,ay,az,aw,bx,b_y,bz,bw,px,py,rfl,⟨p0,p1,p2⟩,⟨q0,q1,q2⟩,⟨r0,r1⟩,hP⟩:=h
   rfl
 · obtain ⟨ax,ay,az,aw,bx,b_y,bz,bw,px,py,rfl,⟨p0,p1,p2⟩,⟨q0,q1,q2⟩,⟨r0,r1⟩,hP⟩:=hS_
   refine ⟨_,(J6 (ED (CB [3,4]) (jdv 2) (PG.or (AW (n:=2) K (by rfl) (by rfl) (J4 (pg_name (i:=3) CD.nd rfl (by walk_at "o")) (J4 (pg_name (i:=4) CD.nd rfl (by walk_at "o")) Y3))) (AY (n:=2) K (by rfl) (by rfl) (J4 (pg_name (i:=3) CD.nd rfl (by walk_at "o")) (J4 (pg_name (i:=4) CD.nd rfl (by walk_at "o")) Y3)))))
    (J6 (V9 (i:=5) CD.nd rfl (by walk_at "o") (Q4 AA Z7 (Q4 Q9 Z9 (Q3 (J9 K (by rfl)) Q8 (jdv 0) J1 (fun _ _=>rfl)) (Q4 AA Z7 (Q3 (J9 K (by rfl)) Q8 (jdv 1) J1 (fun _ _=>rfl)) (Q4 Q9 Z9 (Q3 (J9 K (by rfl)) Q8 (jdv 1) J1 (fun _ _=>rfl)) (jdv 4)))) (Q4 Q9 Z9 (Q3 (J9 K (by rfl)) Q8 (jdv 0) J1 (fun _ _=>rfl)) (Q4 AA Z7 (Q3 (J9 K (by rfl)) Q8 (jdv 1) J1 (fun _ _=>rfl)) (Q4 Q9 Z9 (Q3 (J9 K (by rfl)) Q8 (jdv 1) J1 (fun _ _=>rfl)) (jdv 3))))))
    (J7 (V0 (Q4 BE Z7 (jdv 5) (Q4 Q9 Z9 (Q3 (J9 K (by rfl)) Q8 (jdv 0) J1 (fun _ _=>rfl)) (Q4 AA Z7 (Q4 Q9 Z9 (Q3 (J9 K (by rfl)) Q8 (jdv 1) J1 (fun _ _=>rfl)) (jdv 4)) (Q4 Q9 Z9 (Q3 (J9 K (by rfl)) Q8 (jdv 1) J1 (fun _ _=>rfl)) (jdv 3))))))))),?_⟩
   rw [<- J4z] at hP
   walk_at "g"
   exact hP
abbrev EF:Stmt:=top 70
theorem GM:FnScope ["_law_a","_law_b","_law_dot","_law_number"] TV (J5 EF):=⟨rfl,rfl,rfl,by decide +kernel,rfl,by decide +kernel,by decide +kernel⟩
def J3l:DSp:=fun ds P _=>∃ (ax ay az aw bx b_y bz bw px py:Int),ds=[sp4 ax ay az aw,sp4 bx b_y bz bw,t2 px py]/\(Bd 600 ax/\Bd 600 ay/\Bd 600 aw)/\(Bd 600 bx/\Bd 600 b_y/\Bd 600 bw)/\(Bd 600 px/\Bd 600 py)/\P (.int (sgn (shd ax ay aw bx b_y bw px py)))
theorem UC {n:Int}:(if decide (0<n)=true then (1:Int) else 0) - (if decide (n<0)=true then 1 else 0)=sgn n:=by
 unfold sgn
 by_cases h1:0<n<;>by_cases h2:n<0<;>simp [h1,h2]<;>omega
structure C__law_shifted (P:Program)(w:World)(K:Fg)(mg:Str->Option Value)(base:Heap)(c:Cs):Prop where
 _law_lean_:Callee P w K mg base CX0 "_law_lean" 1 TV (J8 K BT RI)
theorem KW {w:World} {f:Addr} (F:Fun K "_law_shifted" "_law_shifted" EF f fd) (Z:Bi mg) {c:Cs} (Y:Ex K mg base c) (G:C__law_shifted P w K mg base c):FnOk P w K mg base CX0 2 f fd TV (J8 K BT J3l):=by
 refine F.okD GM (fun ds PP Ed h=>?_) (fun cdv A outer s H E M bg ds PP Ed hr hS_=>?_)
 · obtain ⟨ax,ay,az,aw,bx,b_y,bz,bw,px,py,rfl,⟨p0,p1,p2⟩,⟨q0,q1,q2⟩,⟨r0,r1⟩,hP⟩:=h
   rfl
 · obtain ⟨ax,ay,az,aw,bx,b_y,bz,bw,px,py,rfl,⟨p0,p1,p2⟩,⟨q0,q1,q2⟩,⟨r0,r1⟩,hP⟩:=hS_
   refine ⟨_,(J6 (EC (Z3 3) T4 rfl (AB (by rfl) (Z8 (J0 (Q6 G._law_lean_ hr.m rfl (J0 (jdv 0) (J0 (jdv 1) (J0 (jdv 2) J3)))) (J0 (Q4 AA Z7 (Q4 Q9 Z9 (Q3 (J9 K (by rfl)) Q8 (jdv 0) J1 (fun _ _=>rfl)) (Q3 (J9 K (by rfl)) Q8 (jdv 1) J1 (fun _ _=>rfl))) (Q4 Q9 Z9 (Q3 (J9 K (by rfl)) Q8 (jdv 0) J1 (fun _ _=>rfl)) (Q3 (J9 K (by rfl)) Q8 (jdv 1) J1 (fun _ _=>rfl)))) (J0 (Q4 AA Z7 (Q4 Q9 Z9 (Q3 (J9 K (by rfl)) Q8 (jdv 0) J1 (fun _ _=>rfl)) (Q3 (J9 K (by rfl)) Q8 (jdv 1) J1 (fun _ _=>rfl))) (Q4 Q9 Z9 (Q3 (J9 K (by rfl)) Q8 (jdv 0) J1 (fun _ _=>rfl)) (Q3 (J9 K (by rfl)) Q8 (jdv 1) J1 (fun _ _=>rfl)))) J3))))) (pg_name (i:=3) GM.nd rfl (by walk_at "o")) (J7 (AQ (Y0 OA MP (jdv 3) J1 (V1 _)) (J7 (V0 (Q4 AA Z7 (CV KF XE rfl Z.int_ NC (J0 (AK IX EH (jdv 3) J1 (V1 _)) J3)) (CV KF XE rfl Z.int_ NC (J0 (AK KM EH (jdv 3) J1 (V1 _)) J3))))) Y7)) FP)
    (J7 (V0 J1))),?_⟩
   unfold shd at hP
   walk_at "g"
   refine ⟨_,_,_,_,_,_,_,_,_,_,rfl,⟨p0,p1,p2⟩,⟨q0,q1,q2⟩,⟨r0,r1⟩,?_⟩
   generalize det ax ay aw bx b_y bw px py 1=dd at hP ⊢
   walk_at "g"
   walk_at "gr"
   by_cases h1:dd=0
   · rw [if_pos h1] at hP
     refine IfP.f (by simp [h1]) ?_
     walk_at "g"
     by_cases h2:ay*bw - aw*b_y=0
     · rw [if_pos h2] at hP
       refine IfP.f (by simp [h2]) ?_
       walk_at "g"
       by_cases h3:aw*bx - ax*bw=0
       · refine IfP.f (by simp [h3]) ?_
         walk_at "g"
         rw [h3] at hP
         exact hP
       · refine IfP.t (by simp [h3]) ?_
         walk_at "g"
         rw [<- UC] at hP
         exact hP
     · rw [if_neg h2] at hP
       refine IfP.t (by simp [h2]) ?_
       walk_at "g"
       rw [<- UC] at hP
       exact hP
   · rw [if_neg h1] at hP
     refine IfP.t (by simp [h1]) ?_
     walk_at "g"
     rw [<- UC] at hP
     exact hP
abbrev IH:Stmt:=top 71
abbrev OZ:List Str:=["_law_face_here","_law_dot"]
theorem BI:FnScope ["_law_face_here","_law_dot","_law_a","_law_b","_law_c","_law_signs"] OZ (J5 IH):=⟨rfl,rfl,rfl,by decide +kernel,rfl,by decide +kernel,by decide +kernel⟩
theorem J5h (t:T3)(px py:Int):(decide (t.s1 px py=1)&&(decide (t.s2 px py=1)&&decide (t.s3 px py=1))||(decide (t.s1 px py = -1)&&(decide (t.s2 px py = -1)&&decide (t.s3 px py = -1))))=decide (t.has px py):=by
 rw [E8]
 simp only [Bool.or_eq_true,L5,I0]
 unfold T3.has
 constructor
 · rintro (⟨h1,h2,h3⟩|⟨h1,h2,h3⟩)
   · rw [h1,h2,h3];decide
   · rw [h1,h2,h3];decide
 · rintro ⟨h1,h2,h3⟩
   have:t.s1 px py=1\/t.s1 px py = -1:=by
    have:=HN (shd t.ax t.ay t.aw t.bx t.b_y t.bw px py)
    unfold T3.s1 at h1 ⊢
    rcases this with ⟨_,e⟩|⟨_,e⟩|⟨_,e⟩
    · exact .inl e
    · exact absurd e h1
    · exact .inr e
   rcases this with e|e
   · exact .inl ⟨e,h2.trans e,h3.trans e⟩
   · exact .inr ⟨e,h2.trans e,h3.trans e⟩
def XN:DSp:=fun ds P _=>∃ (t:T3) (px py:Int),ds=[t.d,t2 px py]/\t.ok 600/\Bd 600 px/\Bd 600 py/\P (.bl (decide (t.has px py)))
structure C__law_has (P:Program)(w:World)(K:Fg)(mg:Str->Option Value)(base:Heap)(c:Cs):Prop where
 _law_shifted_:Callee P w K mg base CX0 "_law_shifted" 2 TV (J8 K BT J3l)
theorem SB {w:World} {f:Addr} (F:Fun K "_law_has" "_law_has" IH f fd) (Z:Bi mg) {c:Cs} (Y:Ex K mg base c) (G:C__law_has P w K mg base c):FnOk P w K mg base CX0 3 f fd OZ (J8 K BT XN):=by
 refine F.okD BI (fun ds PP Ed h=>?_) (fun cdv A outer s H E M bg ds PP Ed hr hS_=>?_)
 · obtain ⟨t,px,py,rfl,ok,hx,hy,hP⟩:=h
   rfl
 · obtain ⟨t,px,py,rfl,ok,hx,hy,hP⟩:=hS_
   refine ⟨_,(J6 (ED (CB [2,3,4]) (jdv 0) (PG.or (AW (n:=3) K (by rfl) (by rfl) (J4 (pg_name (i:=2) BI.nd rfl (by walk_at "o")) (J4 (pg_name (i:=3) BI.nd rfl (by walk_at "o")) (J4 (pg_name (i:=4) BI.nd rfl (by walk_at "o")) Y3)))) (AY (n:=3) K (by rfl) (by rfl) (J4 (pg_name (i:=2) BI.nd rfl (by walk_at "o")) (J4 (pg_name (i:=3) BI.nd rfl (by walk_at "o")) (J4 (pg_name (i:=4) BI.nd rfl (by walk_at "o")) Y3))))))
    (J6 (V9 (i:=5) BI.nd rfl (by walk_at "o") (Z8 (J0 (Q6 G._law_shifted_ hr.m rfl (J0 (jdv 2) (J0 (jdv 3) (J0 (jdv 1) J3)))) (J0 (Q6 G._law_shifted_ hr.m rfl (J0 (jdv 3) (J0 (jdv 4) (J0 (jdv 1) J3)))) (J0 (Q6 G._law_shifted_ hr.m rfl (J0 (jdv 4) (J0 (jdv 2) (J0 (jdv 1) J3)))) J3)))))
    (J7 (V0 (J9g (AK (HA K (by rfl) hr.units) FG (jdv 5) (Z8 (J0 J1 (J0 J1 (J0 J1 J3)))) (V1 _)) (DW (AK (HA K (by rfl) hr.units) FG (jdv 5) (Z8 (J0 (BL J1) (J0 (BL J1) (J0 (BL J1) J3)))) (V1 _)))))))),?_⟩
   rw [<- J5h] at hP
   walk_at "g"
   refine ⟨_,_,_,_,_,_,_,_,_,_,rfl,⟨ok.ax,ok.ay,ok.aw⟩,⟨ok.bx,ok.b_y,ok.bw⟩,⟨hx,hy⟩,?_⟩
   walk_at "g"
   refine ⟨_,_,_,_,_,_,_,_,_,_,rfl,⟨ok.bx,ok.b_y,ok.bw⟩,⟨ok.cx,ok.cy,ok.cw⟩,⟨hx,hy⟩,?_⟩
   walk_at "g"
   refine ⟨_,_,_,_,_,_,_,_,_,_,rfl,⟨ok.cx,ok.cy,ok.cw⟩,⟨ok.ax,ok.ay,ok.aw⟩,⟨hx,hy⟩,?_⟩
   unfold T3.s1 T3.s2 T3.s3 at hP
   generalize sgn (shd t.ax t.ay t.aw t.bx t.b_y t.bw px py)=s1 at hP ⊢
   generalize sgn (shd t.bx t.b_y t.bw t.cx t.cy t.cw px py)=s2 at hP ⊢
   generalize sgn (shd t.cx t.cy t.cw t.ax t.ay t.aw px py)=s3 at hP ⊢
   walk_at "g"
   refine EqG.mkL3 ?_
   cases hb:(decide (s1=1)&&(decide (s2=1)&&decide (s3=1)))
   · rw [hb,Bool.false_or] at hP
     walk_at "g"
     refine EqG.mkL3 ?_
     walk_at "g"
     rw [T1]
     exact hP
   · rw [hb,Bool.true_or] at hP
     walk_at "g"
     exact hP
def l3 (a b c:Int):D:=.lst [.int a,.int b,.int c]
theorem T3.ok.mono {t:T3}{n m:Nat}(ok:t.ok n)(h:n<=m):t.ok m:=⟨ok.ax.mono h,ok.ay.mono h,ok.az.mono h,ok.aw.mono h,ok.bx.mono h,ok.b_y.mono h,ok.bz.mono h,ok.bw.mono h,ok.cx.mono h,ok.cy.mono h,ok.cz.mono h,ok.cw.mono h⟩
abbrev GS:Stmt:=top 72
abbrev TU:List Str:=["_law_face_here"]
theorem AN:FnScope ["_law_face_here","_law_a","_law_b","_law_c","_law_first","_law_second"] TU (J5 GS):=⟨rfl,rfl,rfl,by decide +kernel,rfl,by decide +kernel,by decide +kernel⟩
def XL:DSp:=fun ds P _=>∃ t:T3,ds=[t.d]/\t.ok 260/\P (.int t.tn)
theorem PZ {w:World} {f:Addr} (F:Fun K "_law_turn" "_law_turn" GS f fd) (Z:Bi mg) {c:Cs} (Y:Ex K mg base c):FnOk P w K mg base CX0 1 f fd TU (J8 K BT XL):=by
 refine F.okD AN (fun ds PP Ed h=>?_) (fun cdv A outer s H E M bg ds PP Ed hr hS_=>?_)
 · obtain ⟨t,rfl,ok,hP⟩:=h
   rfl
 · obtain ⟨t,rfl,ok,hP⟩:=hS_
   refine ⟨_,(J6 (ED (CB [1,2,3]) (jdv 0) (PG.or (AW (n:=3) K (by rfl) (by rfl) (J4 (pg_name (i:=1) AN.nd rfl (by walk_at "o")) (J4 (pg_name (i:=2) AN.nd rfl (by walk_at "o")) (J4 (pg_name (i:=3) AN.nd rfl (by walk_at "o")) Y3)))) (AY (n:=3) K (by rfl) (by rfl) (J4 (pg_name (i:=1) AN.nd rfl (by walk_at "o")) (J4 (pg_name (i:=2) AN.nd rfl (by walk_at "o")) (J4 (pg_name (i:=3) AN.nd rfl (by walk_at "o")) Y3))))))
    (J6 (V9 (i:=4) AN.nd rfl (by walk_at "o") (Q4 Q9 Z9 (Q3 (J9 K (by rfl)) Q8 (jdv 1) J1 (fun _ _=>rfl)) (Q4 AA Z7 (Q4 Q9 Z9 (Q3 (J9 K (by rfl)) Q8 (jdv 2) J1 (fun _ _=>rfl)) (Q3 (J9 K (by rfl)) Q8 (jdv 3) J1 (fun _ _=>rfl))) (Q4 Q9 Z9 (Q3 (J9 K (by rfl)) Q8 (jdv 2) J1 (fun _ _=>rfl)) (Q3 (J9 K (by rfl)) Q8 (jdv 3) J1 (fun _ _=>rfl))))))
    (J6 (V9 (i:=5) AN.nd rfl (by walk_at "o") (Q4 Q9 Z9 (Q3 (J9 K (by rfl)) Q8 (jdv 1) J1 (fun _ _=>rfl)) (Q4 AA Z7 (Q4 Q9 Z9 (Q3 (J9 K (by rfl)) Q8 (jdv 2) J1 (fun _ _=>rfl)) (Q3 (J9 K (by rfl)) Q8 (jdv 3) J1 (fun _ _=>rfl))) (Q4 Q9 Z9 (Q3 (J9 K (by rfl)) Q8 (jdv 2) J1 (fun _ _=>rfl)) (Q3 (J9 K (by rfl)) Q8 (jdv 3) J1 (fun _ _=>rfl))))))
    (J7 (V0 (Q4 BE Z7 (Q4 AA Z7 (jdv 4) (jdv 5)) (Q4 Q9 Z9 (Q3 (J9 K (by rfl)) Q8 (jdv 1) J1 (fun _ _=>rfl)) (Q4 AA Z7 (Q4 Q9 Z9 (Q3 (J9 K (by rfl)) Q8 (jdv 2) J1 (fun _ _=>rfl)) (Q3 (J9 K (by rfl)) Q8 (jdv 3) J1 (fun _ _=>rfl))) (Q4 Q9 Z9 (Q3 (J9 K (by rfl)) Q8 (jdv 2) J1 (fun _ _=>rfl)) (Q3 (J9 K (by rfl)) Q8 (jdv 3) J1 (fun _ _=>rfl))))))))))),?_⟩
   obtain ⟨a1,a2,a3,a4,b1,b2,b3,b4,c1,c2,c3,c4⟩:=ok
   unfold T3.tn det at hP
   walk_at "g"
   exact hP
abbrev FW:Stmt:=top 73
theorem BD:FnScope ["_law_face_here","_law_dot","_law_a","_law_b","_law_c"] OZ (J5 FW):=⟨rfl,rfl,rfl,by decide +kernel,rfl,by decide +kernel,by decide +kernel⟩
def TK:DSp:=fun ds P _=>∃ (t:T3) (px py:Int),ds=[t.d,t2 px py]/\t.ok 260/\Bd 260 px/\Bd 260 py/\P (l3 (t.wA px py) (t.wB px py) (t.wC px py))
structure C__law_leans (P:Program)(w:World)(K:Fg)(mg:Str->Option Value)(base:Heap)(c:Cs):Prop where
 _law_lean_:Callee P w K mg base CX0 "_law_lean" 1 TV (J8 K BT RI)
theorem NL {w:World} {f:Addr} (F:Fun K "_law_leans" "_law_leans" FW f fd) (Z:Bi mg) {c:Cs} (Y:Ex K mg base c) (G:C__law_leans P w K mg base c):FnOk P w K mg base CX0 2 f fd OZ (J8 K BT TK):=by
 refine F.okD BD (fun ds PP Ed h=>?_) (fun cdv A outer s H E M bg ds PP Ed hr hS_=>?_)
 · obtain ⟨t,px,py,rfl,ok,hx,hy,hP⟩:=h
   rfl
 · obtain ⟨t,px,py,rfl,ok,hx,hy,hP⟩:=hS_
   refine ⟨_,(J6 (ED (CB [2,3,4]) (jdv 0) (PG.or (AW (n:=3) K (by rfl) (by rfl) (J4 (pg_name (i:=2) BD.nd rfl (by walk_at "o")) (J4 (pg_name (i:=3) BD.nd rfl (by walk_at "o")) (J4 (pg_name (i:=4) BD.nd rfl (by walk_at "o")) Y3)))) (AY (n:=3) K (by rfl) (by rfl) (J4 (pg_name (i:=2) BD.nd rfl (by walk_at "o")) (J4 (pg_name (i:=3) BD.nd rfl (by walk_at "o")) (J4 (pg_name (i:=4) BD.nd rfl (by walk_at "o")) Y3))))))
    (J7 (V0 (Z8 (J0 (Q6 G._law_lean_ hr.m rfl (J0 (jdv 3) (J0 (jdv 4) (J0 (jdv 1) J3)))) (J0 (Q6 G._law_lean_ hr.m rfl (J0 (jdv 4) (J0 (jdv 2) (J0 (jdv 1) J3)))) (J0 (Q6 G._law_lean_ hr.m rfl (J0 (jdv 2) (J0 (jdv 3) (J0 (jdv 1) J3)))) J3))))))),?_⟩
   have ok:=ok.mono (show 260<=600 by decide)
   have hx:=hx.mono (show 260<=600 by decide)
   have hy:=hy.mono (show 260<=600 by decide)
   walk_at "g"
   refine ⟨_,_,_,_,_,_,_,_,_,_,rfl,⟨ok.bx,ok.b_y,ok.bw⟩,⟨ok.cx,ok.cy,ok.cw⟩,⟨hx,hy⟩,?_⟩
   walk_at "g"
   refine ⟨_,_,_,_,_,_,_,_,_,_,rfl,⟨ok.cx,ok.cy,ok.cw⟩,⟨ok.ax,ok.ay,ok.aw⟩,⟨hx,hy⟩,?_⟩
   walk_at "g"
   refine ⟨_,_,_,_,_,_,_,_,_,_,rfl,⟨ok.ax,ok.ay,ok.aw⟩,⟨ok.bx,ok.b_y,ok.bw⟩,⟨hx,hy⟩,?_⟩
   walk_at "g"
   exact hP
abbrev FY:Stmt:=top 75
theorem AR:FnScope ["_law_face_here","_law_dot","_law_top","_law_near","_law_corner_here","_law_below"] OZ (J5 FY):=⟨rfl,rfl,rfl,by decide +kernel,rfl,by decide +kernel,by decide +kernel⟩
def J3n:DSp:=fun ds P _=>∃ (t:T3) (px py:Int),ds=[t.d,t2 px py]/\t.ok 260/\Bd 260 px/\Bd 260 py/\t.tn≠0/\P (t2 (t.top px py*sgn t.tn) (HZ t.tn))
structure C__law_depth (P:Program)(w:World)(K:Fg)(mg:Str->Option Value)(base:Heap)(c:Cs):Prop where
 _law_turn_:Callee P w K mg base CX0 "_law_turn" 1 TU (J8 K BT XL)
 _law_leans_:Callee P w K mg base CX0 "_law_leans" 2 OZ (J8 K BT TK)
theorem NO {w:World} {f:Addr} (F:Fun K "_law_depth" "_law_depth" FY f fd) (Z:Bi mg) {c:Cs} (Y:Ex K mg base c) (G:C__law_depth P w K mg base c):FnOk P w K mg base CX0 3 f fd OZ (J8 K BT J3n):=by
 refine F.okD AR (fun ds PP Ed h=>?_) (fun cdv A outer s H E M bg ds PP Ed hr hS_=>?_)
 · obtain ⟨t,px,py,rfl,ok,hx,hy,h0,hP⟩:=h
   rfl
 · obtain ⟨t,px,py,rfl,ok,hx,hy,h0,hP⟩:=hS_
   refine ⟨_,(J6 (V9 (i:=2) AR.nd rfl (by walk_at "o") J1)
    (J6 (EC (CB [3,4]) T4 rfl (WM (by rfl) false true rfl Z.zip_ (J0 (Q6 G._law_leans_ hr.m rfl (J0 (jdv 0) (J0 (jdv 1) J3))) (J0 (jdv 0) J3)) (WC K (by rfl) false true rfl Z.zip_ (JA.h (J0 (Q6 G._law_leans_ hr.m rfl (J0 (jdv 0) (J0 (jdv 1) J3))) (J0 (jdv 0) J3))))) (PG.or (AW (n:=2) K (by rfl) (by rfl) (J4 (pg_name (i:=3) AR.nd rfl (by walk_at "o")) (J4 (pg_name (i:=4) AR.nd rfl (by walk_at "o")) Y3))) (AY (n:=2) K (by rfl) (by rfl) (J4 (pg_name (i:=3) AR.nd rfl (by walk_at "o")) (J4 (pg_name (i:=4) AR.nd rfl (by walk_at "o")) Y3)))) (J7 (V9 (i:=2) AR.nd rfl (by walk_at "o") (Q4 BE Z7 (jdv 2) (Q4 Q9 Z9 (jdv 3) (Q3 (J9 K (by rfl)) Q8 (jdv 4) J1 (fun _ _=>rfl)))))))
    (J6 (V9 (i:=5) AR.nd rfl (by walk_at "o") (Q6 G._law_turn_ hr.m rfl (J0 (jdv 0) J3)))
    (J7 (V0 (QJ (Y0 IX EH (jdv 5) J1 (V1 _)) (V3 (J0 (jdv 2) (J0 (jdv 5) J3))) (V3 (J0 (Q4 AA Z7 J1 (jdv 2)) (J0 (Q4 AA Z7 J1 (jdv 5)) J3))))))))),?_⟩
   have bA:=T3.wA_bd ok hx hy (by decide)
   have bB:=T3.wB_bd ok hx hy (by decide)
   have bC:=T3.wC_bd ok hx hy (by decide)
   have z1:=ok.az
   have z2:=ok.bz
   have z3:=ok.cz
   walk_at "g"
   refine ⟨t,px,py,rfl,ok,hx,hy,?_⟩
   walk_at "g"
   walk_at "gr"
   refine ⟨t,rfl,ok,?_⟩
   have e:0+t.wA px py*t.az+t.wB px py*t.bz+t.wC px py*t.cz=t.top px py:=by unfold T3.top;omega
   have s0:0<t.tn->sgn t.tn=1:=fun h=>by unfold sgn;simp [h]
   have s1:t.tn<0->sgn t.tn = -1:=fun h=>by unfold sgn;split<;>omega
   walk_at "g"
   walk_at "sp"
   · rename_i h
     have h:t.tn>0:=h
     rw [s0 h,show HZ t.tn=t.tn from if_neg (by omega),Int.mul_one,<- e] at hP
     walk_at "g"
     exact hP
   · rename_i h
     have h:¬ t.tn>0:=h
     rw [s1 (by omega),show HZ t.tn=0 - t.tn from (if_pos (by omega)).trans (by omega),show t.top px py * -1=0 - t.top px py by omega,<- e] at hP
     walk_at "g"
     exact hP
abbrev FD:Stmt:=top 76
theorem MD:FnScope PB PB (J5 FD):=⟨rfl,rfl,rfl,by decide +kernel,rfl,by decide +kernel,by decide +kernel⟩
def XM:DSp:=fun ds P _=>∃ (a b c e:Int),ds=[t2 a b,t2 c e]/\(Bd 2000 a/\Bd 2000 b)/\(Bd 2000 c/\Bd 2000 e)/\P (.bl (decide (a*e<c*b)))
theorem MM {w:World} {f:Addr} (F:Fun K "_law_nearer" "_law_nearer" FD f fd) (Z:Bi mg) {c:Cs} (Y:Ex K mg base c):FnOk P w K mg base CX0 1 f fd PB (J8 K BT XM):=by
 refine F.okD MD (fun ds PP Ed h=>?_) (fun cdv A outer s H E M bg ds PP Ed hr hS_=>?_)
 · obtain ⟨a,b,c,e,rfl,⟨h1,h2⟩,⟨h3,h4⟩,hP⟩:=h
   rfl
 · obtain ⟨a,b,c,e,rfl,⟨h1,h2⟩,⟨h3,h4⟩,hP⟩:=hS_
   refine ⟨_,(J7 (V0 (AK KM EH (Q4 Q9 Z9 (Q3 (J9 K (by rfl)) Q8 (jdv 0) J1 (fun _ _=>rfl)) (Q3 (J9 K (by rfl)) Q8 (jdv 1) J1 (fun _ _=>rfl))) (Q4 Q9 Z9 (Q3 (J9 K (by rfl)) Q8 (jdv 1) J1 (fun _ _=>rfl)) (Q3 (J9 K (by rfl)) Q8 (jdv 0) J1 (fun _ _=>rfl))) (V1 _)))),?_⟩
   walk_at "g"
   exact hP
abbrev GU:Stmt:=top 82
abbrev J3s:List Str:=["_law_faces_here","_law_dot"]
theorem AH:FnScope ["_law_faces_here","_law_dot","_law_best","_law_least","_law_number","_law_face_here","_law_deep"] J3s (J5 GU):=⟨rfl,rfl,rfl,by decide +kernel,rfl,by decide +kernel,by decide +kernel⟩
def RG:DSp:=fun ds P _=>∃ (ts:List T3) (px py:Int),ds=[.lst (ts.map T3.d),t2 px py]/\(∀ t∈ts,t.ok 260/\t.pos)/\ts.length<=500/\Bd 260 px/\Bd 260 py/\P (seenD (seenN ts px py ts.length))
structure C__law_seen (P:Program)(w:World)(K:Fg)(mg:Str->Option Value)(base:Heap)(c:Cs):Prop where
 _law_has_:Callee P w K mg base CX0 "_law_has" 3 OZ (J8 K BT XN)
 _law_depth_:Callee P w K mg base CX0 "_law_depth" 3 OZ (J8 K BT J3n)
 _law_nearer_:Callee P w K mg base CX0 "_law_nearer" 1 PB (J8 K BT XM)
theorem QC {w:World} {f:Addr} (F:Fun K "_law_seen" "_law_seen" GU f fd) (Z:Bi mg) {c:Cs} (Y:Ex K mg base c) (G:C__law_seen P w K mg base c):FnOk P w K mg base CX0 4 f fd J3s (J8 K BT RG):=by
 refine F.okD AH (fun ds PP Ed h=>?_) (fun cdv A outer s H E M bg ds PP Ed hr hS_=>?_)
 · obtain ⟨ts,px,py,rfl,hts,hl,hx,hy,hP⟩:=h
   rfl
 · obtain ⟨ts,px,py,rfl,hts,hl,hx,hy,hP⟩:=hS_
   refine ⟨_,(J6 (V9 (i:=2) AH.nd rfl (by walk_at "o") CJ)
    (J6 (V9 (i:=3) AH.nd rfl (by walk_at "o") CJ)
    (J6 (EC (CB [4,5]) T4 rfl (SM (by rfl) (J0 (jdv 0) J3) (WD K (by rfl) rfl Z.enumerate_ (JA.h (J0 (jdv 0) J3)))) (PG.or (AW (n:=2) K (by rfl) (by rfl) (J4 (pg_name (i:=4) AH.nd rfl (by walk_at "o")) (J4 (pg_name (i:=5) AH.nd rfl (by walk_at "o")) Y3))) (AY (n:=2) K (by rfl) (by rfl) (J4 (pg_name (i:=4) AH.nd rfl (by walk_at "o")) (J4 (pg_name (i:=5) AH.nd rfl (by walk_at "o")) Y3)))) (J7 (AQ (V8 (by rfl) (Q6 G._law_has_ hr.m rfl (J0 (jdv 5) (J0 (jdv 1) J3))) (fun _=>rfl)) (J6 (V9 (i:=6) AH.nd rfl (by walk_at "o") (Q6 G._law_depth_ hr.m rfl (J0 (jdv 5) (J0 (jdv 1) J3))))
    (J7 (AQ (FH (Y0 J0u J0y (jdv 2) CJ (V1 _)) (DV (V8 (by rfl) (Q6 G._law_nearer_ hr.m rfl (J0 (jdv 6) (J0 (jdv 3) J3))) (fun _=>rfl)))) (J6 (V9 (i:=2) AH.nd rfl (by walk_at "o") (jdv 4))
    (J7 (V9 (i:=3) AH.nd rfl (by walk_at "o") (jdv 6)))) Y7))) Y7)))
    (J7 (V0 (jdv 2)))))),?_⟩
   walk_at "g"
   refine ⟨fun i ρ=>∃ v4 v5 v6,ρ=[some (.lst (ts.map T3.d)),some (t2 px py),some (seenD (seenN ts px py i)),some (J1i (seenN ts px py i)),v4,v5,v6]/\Q3t (seenN ts px py i),⟨_,_,_,rfl,trivial⟩,?_,?_⟩
   · rintro i x ρ e ⟨v4,v5,v6,rfl,hst⟩
     obtain ⟨t,et,rfl⟩:=OI e
     obtain ⟨ok,pos⟩:=hts t (M3 et)
     have hd:=SV ok hx hy
     have es:=LZ (px:=px) (py:=py) et
     generalize hst':seenN ts px py i=st at hst es ⊢
     walk_at "g"
     refine ⟨t,px,py,rfl,ok.mono (by decide),hx.mono (by decide),hy.mono (by decide),?_⟩
     by_cases hh:t.has px py
     · refine IfP.t (by simp [hh]) ?_
       walk_at "g"
       refine ⟨t,px,py,rfl,ok,hx,hy,T3.has_tn pos hh,?_⟩
       match st,hst,es with
       | none,hst,es =>
         have es:seenN ts px py (i+1)=some (i,t.top px py*sgn t.tn,HZ t.tn):=by rw [es];unfold FK;rw [if_pos hh]
         walk_at "g"
         rw [es]
         exact ⟨_,_,_,rfl,hd⟩
       | some (j,a,b),hst,es =>
         obtain ⟨ba,bb⟩:=hst
         obtain ⟨d1,d2⟩:=hd
         walk_at "g"
         refine ⟨_,_,_,_,rfl,⟨d1.mono (by decide),d2.mono (by decide)⟩,⟨ba.mono (by decide),bb.mono (by decide)⟩,?_⟩
         by_cases hlt:t.top px py*sgn t.tn*b<a*HZ t.tn
         · have es:seenN ts px py (i+1)=some (i,t.top px py*sgn t.tn,HZ t.tn):=by rw [es];unfold FK;rw [if_pos hh];simp only [if_pos hlt]
           refine IfP.t (by simp [hlt]) ?_
           walk_at "g"
           rw [es]
           exact ⟨_,_,_,rfl,⟨d1,d2⟩⟩
         · have es:seenN ts px py (i+1)=some (j,a,b):=by rw [es];unfold FK;rw [if_pos hh];simp only [if_neg hlt]
           refine IfP.f (by simp [hlt]) ?_
           walk_at "g"
           rw [es]
           exact ⟨_,_,_,rfl,⟨ba,bb⟩⟩
     · have es:seenN ts px py (i+1)=st:=by rw [es];unfold FK;rw [if_neg hh]
       refine IfP.f (by simp [hh]) ?_
       walk_at "g"
       rw [es]
       exact ⟨_,_,_,rfl,hst⟩
   · rintro ρ ⟨v4,v5,v6,rfl,hst⟩
     walk_at "g"
     have el:(EW (ts.map T3.d)).length=ts.length:=by simp [EW]
     rw [el]
     generalize seenN ts px py ts.length=st at hP ⊢
     rcases st with _|⟨i,a,b⟩<;>exact hP
abbrev FV:Stmt:=top 74
abbrev HW:List Str:=["_law_thing"]
theorem NJ:FnScope HW HW (J5 FV):=⟨rfl,rfl,rfl,by decide +kernel,rfl,by decide +kernel,by decide +kernel⟩
theorem NK {w:World} {f:Addr} (F:Fun K "_law_whole" "_law_whole" FV f fd) (Z:Bi mg) {c:Cs} (Y:Ex K mg base c):FnOk P w K mg base CX0 1 f fd HW (J8 K BT GJ):=by
 refine F.okD NJ (fun ds PP Ed h=>?_) (fun cdv A outer s H E M bg ds PP Ed hr hS_=>?_)
 · obtain ⟨d,rfl,hd,hP⟩:=h
   rfl
 · obtain ⟨d,rfl,hd,hP⟩:=hS_
   refine ⟨_,(J7 (V0 (BW (Q5 (Y4 K (by rfl)) AF rfl Z.isinstance_ V6 (J0 (jdv 0) (J0 (AD rfl Z.int_ NC) J3))) (DW (WN (Q5 (Y4 K (by rfl)) AF rfl Z.isinstance_ V6 (J0 (jdv 0) (J0 (AD rfl Z.bool_ RC) J3)))))))),?_⟩
   cases d<;>(try (simp [Y8] at hd;done))
   all_goals first
    | (walk_at "g";refine ⟨false,by rfl,?_⟩;walk_at "g";exact hP)
    | (walk_at "g";refine ⟨true,by rfl,?_⟩;walk_at "g";refine ⟨true,by rfl,?_⟩;walk_at "g";exact hP)
    | (walk_at "g";refine ⟨true,by rfl,?_⟩;walk_at "g";refine ⟨false,by rfl,?_⟩;walk_at "g";exact hP)
abbrev DH:Stmt:=top 77
theorem KQ:FnScope HW HW (J5 DH):=⟨rfl,rfl,rfl,by decide +kernel,rfl,by decide +kernel,by decide +kernel⟩
def OU:DSp:=fun ds P _=>∃ d:D,ds=[d]/\Y8 d=true/\P (.bl (spB d))
structure C__law_is_spot (P:Program)(w:World)(K:Fg)(mg:Str->Option Value)(base:Heap)(c:Cs):Prop where
 _law_shared_:Callee P w K mg base CX0 "_law_shared" 1 PB (J8 K BT OW)
 _law_whole_:Callee P w K mg base CX0 "_law_whole" 1 HW (J8 K BT GJ)
abbrev xc7 (P:Program) (w:World) (K:Fg) (mg:Str → Option Value) (base:Heap) (f:Addr) (cdv:Value) (A:Around) (outer:List Env) (s:Shared) (H:Hp) (E:XK):Cx:=DR CX0 P w K mg base HW "_law_is_spot" (J5 DH) f cdv A outer s H E
theorem KY {w:World} {f:Addr} (F:Fun K "_law_is_spot" "_law_is_spot" DH f fd) (Z:Bi mg) {c:Cs} (Y:Ex K mg base c) (G:C__law_is_spot P w K mg base c):FnOk P w K mg base CX0 2 f fd HW (J8 K BT OU):=by
 refine F.okD KQ (fun ds PP Ed h=>?_) (fun cdv A outer s H E M bg ds PP Ed hr hS_=>?_)
 · obtain ⟨d,rfl,hd,hP⟩:=h
   rfl
 · obtain ⟨d,rfl,hd,hP⟩:=hS_
   refine ⟨_,(J6 (AQ (FH (AJ (V8 (by rfl) (Q5 (Y4 K (by rfl)) AF rfl Z.isinstance_ V6 (J0 (jdv 0) (J0 (AD rfl Z.tuple_ AV) J3))) (fun _=>rfl))) (KC (Y0 OA MP (Q5 (V4 K (by rfl)) BR rfl Z.len_ BM (J0 (jdv 0) J3)) J1 (V1 _)) (DV (AJ (V8 (by rfl) (Q5 (CZ K (by rfl) (by rfl)) HH rfl Z.all_ HI (J0 (BA (X:=(xc7 P w K mg base f cdv A outer s H E).nox) (Z3 0) (JJ (X:=(xc7 P w K mg base f cdv A outer s H E).nox) (N':=["_law_number"]) (map:=[none]) (by rfl) (by rfl) (by decide +kernel) (by rfl) True.intro (gkeep_name rfl) fun cl0 C0 fp0 s0 H0=>⟨(pg_name (X:=(V2 (xc7 P w K mg base f cdv A outer s H E).nox ["_law_number"] _ cl0 C0 fp0 s0 H0)) (i:=0) (Z0 ["_law_number"] (by decide +kernel)) rfl (by walk_at "o")),AU,(Q6 (X:=(V2 (xc7 P w K mg base f cdv A outer s H E).nox ["_law_number"] _ cl0 C0 fp0 s0 H0)) G._law_whole_ hr.m rfl (J0 (jdv 0) J3))⟩) (AB (by rfl) (jdv 0))) J3)) (fun _=>rfl)))))) (J7 (V0 AL)) Y7)
    (J7 (V0 (BW (AK IX EH (Q3 (J9 K (by rfl)) Q8 (jdv 0) J1 (fun _ _=>rfl)) J1 (V1 _)) (DW (AK BZ AT (Q6 G._law_shared_ hr.m rfl (J0 (Q6 G._law_shared_ hr.m rfl (J0 (Q3 (J9 K (by rfl)) Q8 (jdv 0) J1 (fun _ _=>rfl)) (J0 (Q3 (J9 K (by rfl)) Q8 (jdv 0) J1 (fun _ _=>rfl)) J3))) (J0 (Q6 G._law_shared_ hr.m rfl (J0 (Q3 (J9 K (by rfl)) Q8 (jdv 0) J1 (fun _ _=>rfl)) (J0 (Q3 (J9 K (by rfl)) Q8 (jdv 0) J1 (fun _ _=>rfl)) J3))) J3))) J1 (V1 _))))))),?_⟩
   by_cases ht:∃ xs,d=.tup xs
   case neg =>
    have e0:PP (.bl false):=by
     have:spB d=false:=by cases d<;>first|rfl|exact absurd ⟨_,rfl⟩ ht
     rw [this] at hP;exact hP
    clear hP
    cases d<;>(try (exact absurd ⟨_,rfl⟩ ht))<;>(try (simp [Y8] at hd;done))
    all_goals
     walk_at "g"
     refine ⟨false,by rfl,?_⟩
     walk_at "g"
     exact e0
   obtain ⟨xs,rfl⟩:=ht
   have ha:=DX hd
   walk_at "g"
   refine ⟨true,by rfl,?_⟩
   walk_at "g"
   by_cases l4:xs.length=4
   case neg =>
    have e0:PP (.bl false):=by
     have:spB (.tup xs)=false:=UA (by show (decide (xs.length=4)&&xs.all whD)=false;rw [R9 l4];rfl)
     rw [this] at hP;exact hP
    refine IfP.t (by simp;omega) ?_
    walk_at "g"
    exact e0
   refine IfP.f (by simp;omega) ?_
   walk_at "g"
   refine And.intro (by omega) ?_
   refine DN (fun x=>.bl (whD x)) (fun x Q hx hQ=>?_) (fun _ _=>rfl) ?_
   · have ox:=ha x hx
     walk_at "g"
     exact ⟨by show (BF x&&true)=true;rw [BV ox];rfl,x,rfl,ox,hQ⟩
   walk_at "g"
   rw [EL whD]
   walk_at "g"
   cases hw:xs.all whD
   · refine IfP.t (by show (!(xs.map whD).all id)=true;rw [EM,hw];rfl) ?_
     walk_at "g"
     have:spB (.tup xs)=false:=UA (by show (decide (xs.length=4)&&xs.all whD)=false;rw [hw,Bool.and_false])
     rw [this] at hP
     exact hP
   refine IfP.f (by show (!(xs.map whD).all id)=false;rw [EM,hw];rfl) ?_
   obtain ⟨x,y,z,w',e⟩:=wt4 (d:=.tup xs) (by show (decide (xs.length=4)&&xs.all whD)=true;rw [hw,R6 l4];rfl)
   cases e
   have hP:PP (.bl (spI x y z w')):=hP
   clear hw l4 hd ha
   walk_at "g"
   by_cases h0:0<w'
   case neg =>
    refine IfP.f (by simpa using h0) ?_
    walk_at "g"
    have:spI x y z w'=false:=R9 fun q=>h0 q.1
    rw [this] at hP
    exact hP
   refine IfP.t (by simpa using h0) ?_
   walk_at "g"
   refine ⟨_,_,rfl,?_⟩
   walk_at "g"
   refine ⟨_,_,rfl,?_⟩
   walk_at "g"
   refine ⟨_,_,rfl,?_⟩
   walk_at "g"
   have:spI x y z w'=decide ((Int.gcd (Int.gcd x y:Int) (Int.gcd z w':Int):Int)=1):=by
    unfold spI
    rw [Int.gcd_natCast_natCast]
    refine decide_eq_decide.mpr ⟨fun q=>by rw [q.2];rfl,fun q=>⟨h0,by omega⟩⟩
   rw [this] at hP
   rw [T1]
   exact hP
abbrev DI:Stmt:=top 78
theorem KR:FnScope HW HW (J5 DI):=⟨rfl,rfl,rfl,by decide +kernel,rfl,by decide +kernel,by decide +kernel⟩
def OV:DSp:=fun ds P _=>∃ d:D,ds=[d]/\Y8 d=true/\P (.bl (faB d))
structure C__law_is_face (P:Program)(w:World)(K:Fg)(mg:Str->Option Value)(base:Heap)(c:Cs):Prop where
 _law_is_spot_:Callee P w K mg base CX0 "_law_is_spot" 2 HW (J8 K BT OU)
abbrev xc8 (P:Program) (w:World) (K:Fg) (mg:Str → Option Value) (base:Heap) (f:Addr) (cdv:Value) (A:Around) (outer:List Env) (s:Shared) (H:Hp) (E:XK):Cx:=DR CX0 P w K mg base HW "_law_is_face" (J5 DI) f cdv A outer s H E
theorem KZ {w:World} {f:Addr} (F:Fun K "_law_is_face" "_law_is_face" DI f fd) (Z:Bi mg) {c:Cs} (Y:Ex K mg base c) (G:C__law_is_face P w K mg base c):FnOk P w K mg base CX0 3 f fd HW (J8 K BT OV):=by
 refine F.okD KR (fun ds PP Ed h=>?_) (fun cdv A outer s H E M bg ds PP Ed hr hS_=>?_)
 · obtain ⟨d,rfl,hd,hP⟩:=h
   rfl
 · obtain ⟨d,rfl,hd,hP⟩:=hS_
   refine ⟨_,(J7 (V0 (BW (Q5 (Y4 K (by rfl)) AF rfl Z.isinstance_ V6 (J0 (jdv 0) (J0 (AD rfl Z.tuple_ AV) J3))) (BW (AK BZ AT (Q5 (V4 K (by rfl)) BR rfl Z.len_ BM (J0 (jdv 0) J3)) J1 (V1 _)) (DW (Q5 (CZ K (by rfl) (by rfl)) HH rfl Z.all_ HI (J0 (BA (X:=(xc8 P w K mg base f cdv A outer s H E).nox) (Z3 0) (JJ (X:=(xc8 P w K mg base f cdv A outer s H E).nox) (N':=["_law_one"]) (map:=[none]) (by rfl) (by rfl) (by decide +kernel) (by rfl) True.intro (gkeep_name rfl) fun cl0 C0 fp0 s0 H0=>⟨(pg_name (X:=(V2 (xc8 P w K mg base f cdv A outer s H E).nox ["_law_one"] _ cl0 C0 fp0 s0 H0)) (i:=0) (Z0 ["_law_one"] (by decide +kernel)) rfl (by walk_at "o")),AU,(Q6 (X:=(V2 (xc8 P w K mg base f cdv A outer s H E).nox ["_law_one"] _ cl0 C0 fp0 s0 H0)) G._law_is_spot_ hr.m rfl (J0 (jdv 0) J3))⟩) (AB (by rfl) (jdv 0))) J3))))))),?_⟩
   by_cases ht:∃ xs,d=.tup xs
   case neg =>
    have e0:PP (.bl false):=by
     have:faB d=false:=by cases d<;>first|rfl|exact absurd ⟨_,rfl⟩ ht
     rw [this] at hP;exact hP
    clear hP
    cases d<;>(try (exact absurd ⟨_,rfl⟩ ht))<;>(try (simp [Y8] at hd;done))
    all_goals
     walk_at "g"
     refine ⟨false,by rfl,?_⟩
     walk_at "g"
     exact e0
   obtain ⟨xs,rfl⟩:=ht
   have ha:=DX hd
   have hP:PP (.bl (decide (xs.length=3)&&xs.all spB)):=hP
   walk_at "g"
   refine ⟨true,by rfl,?_⟩
   walk_at "g"
   by_cases l3:xs.length=3
   case neg =>
    rw [R9 l3] at hP
    refine IfP.f (by simp;omega) ?_
    exact hP
   rw [R6 l3,U8] at hP
   refine IfP.t (by simp;omega) ?_
   walk_at "g"
   refine And.intro (by omega) ?_
   refine DN (fun x=>.bl (spB x)) (fun x Q hx hQ=>?_) (fun _ _=>rfl) ?_
   · have ox:=ha x hx
     walk_at "g"
     exact ⟨by show (BF x&&true)=true;rw [BV ox];rfl,x,rfl,ox,hQ⟩
   walk_at "g"
   rw [EL spB]
   walk_at "g"
   rw [<- EM] at hP
   exact hP
abbrev CN:Stmt:=top 83
abbrev OY:List Str:=["_law_paper"]
theorem AE:FnScope ["_law_paper","_law_faces_here","_law_dot","_law_number"] OY (J5 CN):=⟨rfl,rfl,rfl,by decide +kernel,rfl,by decide +kernel,by decide +kernel⟩
theorem WT {fs:List D}{t n:D}:dhB (.lst fs) t n=(decide (fs.length<=24)&&(fs.all faB&&(wtD 2 t&&((SE n||whD n)&&QO (seenN (fs.map IR) (J5k t) (J4b t) fs.length) n)))):=by
 show (fs.all faB&&(decide (fs.length<=24)&&_))=_
 rw [<- Bool.and_assoc,Bool.and_comm (fs.all faB),Bool.and_assoc]
def XO:DSp:=fun ds P _=>∃ d:D,ds=[d]/\Ppr d/\P (.bl (hoB d))
structure C__law_is_right (P:Program)(w:World)(K:Fg)(mg:Str->Option Value)(base:Heap)(c:Cs):Prop where
 _law_seen_:Callee P w K mg base CX0 "_law_seen" 4 J3s (J8 K BT RG)
 _law_whole_:Callee P w K mg base CX0 "_law_whole" 1 HW (J8 K BT GJ)
 _law_is_face_:Callee P w K mg base CX0 "_law_is_face" 3 HW (J8 K BT OV)
abbrev xc9 (P:Program) (w:World) (K:Fg) (mg:Str → Option Value) (base:Heap) (f:Addr) (cdv:Value) (A:Around) (outer:List Env) (s:Shared) (H:Hp) (E:XK):Cx:=DR CX0 P w K mg base ["_law_paper","_law_faces_here","_law_dot","_law_number"] "_law_is_right" (J5 CN) f cdv A outer s H E
theorem JX {w:World} {f:Addr} (F:Fun K "_law_is_right" "_law_is_right" CN f fd) (Z:Bi mg) {c:Cs} (Y:Ex K mg base c) (G:C__law_is_right P w K mg base c):FnOk P w K mg base CX0 5 f fd OY (J8 K BT XO):=by
 refine F.okD AE (fun ds PP Ed h=>?_) (fun cdv A outer s H E M bg ds PP Ed hr hS_=>?_)
 · obtain ⟨d,rfl,hp,hP⟩:=h
   rfl
 · obtain ⟨d,rfl,hp,hP⟩:=hS_
   refine ⟨_,(J6 (AQ (FH (AJ (V8 (by rfl) (Q5 (Y4 K (by rfl)) AF rfl Z.isinstance_ V6 (J0 (jdv 0) (J0 (AD rfl Z.tuple_ AV) J3))) (fun _=>rfl))) (KC (Y0 OA MP (Q5 (V4 K (by rfl)) BR rfl Z.len_ BM (J0 (jdv 0) J3)) J1 (V1 _)) (KC (Y0 (J0t K (by rfl) hr.units) FG (Q3 (J9 K (by rfl)) Q8 (jdv 0) J1 (fun _ _=>rfl)) CO (V1 _)) (DV (AJ (V8 (by rfl) (Q5 (Y4 K (by rfl)) AF rfl Z.isinstance_ V6 (J0 (Q3 (J9 K (by rfl)) Q8 (jdv 0) J1 (fun _ _=>rfl)) (J0 (AD rfl Z.list_ LQ) J3))) (fun _=>rfl))))))) (J7 (V0 AL)) Y7)
    (J6 (ED (CB [1,2,3]) (OF (ZV K (by rfl)) (jdv 0) (SK J1) SL) (PG.or (AW (n:=3) K (by rfl) (by rfl) (J4 (pg_name (i:=1) AE.nd rfl (by walk_at "o")) (J4 (pg_name (i:=2) AE.nd rfl (by walk_at "o")) (J4 (pg_name (i:=3) AE.nd rfl (by walk_at "o")) Y3)))) (AY (n:=3) K (by rfl) (by rfl) (J4 (pg_name (i:=1) AE.nd rfl (by walk_at "o")) (J4 (pg_name (i:=2) AE.nd rfl (by walk_at "o")) (J4 (pg_name (i:=3) AE.nd rfl (by walk_at "o")) Y3))))))
    (J6 (AQ (FH (Y0 IX EH (Q5 (V4 K (by rfl)) BR rfl Z.len_ BM (J0 (jdv 1) J3)) J1 (V1 _)) (DV (AJ (V8 (by rfl) (Q5 (CZ K (by rfl) (by rfl)) HH rfl Z.all_ HI (J0 (BA (X:=(xc9 P w K mg base f cdv A outer s H E).nox) (Z3 0) (JJ (X:=(xc9 P w K mg base f cdv A outer s H E).nox) (N':=TU) (map:=[none]) (by rfl) (by rfl) (by decide +kernel) (by rfl) True.intro (gkeep_name rfl) fun cl0 C0 fp0 s0 H0=>⟨(pg_name (X:=(V2 (xc9 P w K mg base f cdv A outer s H E).nox TU _ cl0 C0 fp0 s0 H0)) (i:=0) (Z0 TU (by decide +kernel)) rfl (by walk_at "o")),AU,(Q6 (X:=(V2 (xc9 P w K mg base f cdv A outer s H E).nox TU _ cl0 C0 fp0 s0 H0)) G._law_is_face_ hr.m rfl (J0 (jdv 0) J3))⟩) (AB (by rfl) (jdv 1))) J3)) (fun _=>rfl))))) (J7 (V0 AL)) Y7)
    (J6 (AQ (FH (AJ (V8 (by rfl) (Q5 (Y4 K (by rfl)) AF rfl Z.isinstance_ V6 (J0 (jdv 2) (J0 (AD rfl Z.tuple_ AV) J3))) (fun _=>rfl))) (KC (Y0 OA MP (Q5 (V4 K (by rfl)) BR rfl Z.len_ BM (J0 (jdv 2) J3)) J1 (V1 _)) (DV (AJ (V8 (by rfl) (Q5 (CZ K (by rfl) (by rfl)) HH rfl Z.all_ HI (J0 (BA (X:=(xc9 P w K mg base f cdv A outer s H E).nox) (Z3 0) (JJ (X:=(xc9 P w K mg base f cdv A outer s H E).nox) (N':=["_law_one"]) (map:=[none]) (by rfl) (by rfl) (by decide +kernel) (by rfl) True.intro (gkeep_name rfl) fun cl0 C0 fp0 s0 H0=>⟨(pg_name (X:=(V2 (xc9 P w K mg base f cdv A outer s H E).nox ["_law_one"] _ cl0 C0 fp0 s0 H0)) (i:=0) (Z0 ["_law_one"] (by decide +kernel)) rfl (by walk_at "o")),AU,(Q6 (X:=(V2 (xc9 P w K mg base f cdv A outer s H E).nox ["_law_one"] _ cl0 C0 fp0 s0 H0)) G._law_whole_ hr.m rfl (J0 (jdv 0) J3))⟩) (AB (by rfl) (jdv 2))) J3)) (fun _=>rfl)))))) (J7 (V0 AL)) Y7)
    (J6 (AQ (GI (Y0 WI WJ (jdv 3) CJ (V1 _)) (EI (AJ (V8 (by rfl) (Q6 G._law_whole_ hr.m rfl (J0 (jdv 3) J3)) (fun _=>rfl))))) (J7 (V0 AL)) Y7)
    (J7 (V0 (AK (HA K (by rfl) hr.units) FG (jdv 3) (Q6 G._law_seen_ hr.m rfl (J0 (jdv 1) (J0 (jdv 2) J3))) (V1 _))))))))),?_⟩
   have hd:=hp.ok
   by_cases ht:∃ xs,d=.tup xs
   case neg =>
    have e0:PP (.bl false):=by
     have:hoB d=false:=by cases d<;>first|rfl|exact absurd ⟨_,rfl⟩ ht
     rw [this] at hP;exact hP
    clear hp hP
    cases d<;>(try (exact absurd ⟨_,rfl⟩ ht))<;>(try (simp [Y8] at hd;done))
    all_goals
     walk_at "g"
     refine ⟨false,by rfl,?_⟩
     walk_at "g"
     exact e0
   obtain ⟨xs,rfl⟩:=ht
   have ha:=DX hd
   walk_at "g"
   refine ⟨true,by rfl,?_⟩
   walk_at "g"
   by_cases l4:xs.length=4
   case neg =>
    have e0:PP (.bl false):=by
     have:hoB (.tup xs)=false:=by unfold hoB;split<;>first|rfl|(rename_i e;cases e;exact absurd rfl l4)
     rw [this] at hP;exact hP
    refine IfP.t (by simp;omega) ?_
    walk_at "g"
    exact e0
   refine IfP.f (by simp;omega) ?_
   obtain ⟨w,a,b,e,rfl⟩:=Q2r l4
   have ow:=ha w (by simp)
   have oa:=ha a (by simp)
   have ob:=ha b (by simp)
   have oe:=ha e (by simp)
   have sa:=DC hp.sm a (by simp)
   have sb:=DC hp.sm b (by simp)
   have fw:Y6 19 w=true:=by
    have:=hp.fine
    unfold Y6 BQ at this
    exact (L5 _ _).mp this |>.1
   have l31:=fun fs (z:a=.lst fs)=>hp.l31 w fs b e (by rw [z])
   have hP:PP (.bl (isS "dot" w&&dhB a b e)):=hP
   clear l4 hd ha hp
   walk_at "g"
   refine LM ow fw (by decide +kernel) ?_
   cases ew:isS "dot" w
   · rw [ew] at hP
     walk_at "g"
     exact hP
   rw [ew,U8] at hP
   walk_at "g"
   by_cases hta:∃ fs,a=.lst fs
   case neg =>
    have e0:PP (.bl false):=by
     have:dhB a b e=false:=by cases a<;>first|rfl|exact absurd ⟨_,rfl⟩ hta
     rw [this] at hP;exact hP
    clear hP l31
    cases a<;>(try (exact absurd ⟨_,rfl⟩ hta))<;>(try (simp [Y8] at oa;done))
    all_goals
     refine ⟨false,by rfl,?_⟩
     walk_at "g"
     exact e0
   obtain ⟨fs,rfl⟩:=hta
   refine ⟨true,by rfl,?_⟩
   have l31:=l31 fs rfl
   rw [WT] at hP
   walk_at "g"
   refine And.intro (fun z=>absurd z.1 (by show ¬ (HT.sIx 4 0 (some 1)=0);decide)) ?_
   rw [J2q]
   walk_at "g"
   by_cases h24:fs.length<=24
   case neg =>
    refine IfP.t (by simp;omega) ?_
    walk_at "g"
    rw [R9 h24] at hP
    exact hP
   refine IfP.f (by simp;omega) ?_
   rw [R6 h24,U8] at hP
   walk_at "g"
   refine And.intro (by omega) ?_
   refine DN (fun x=>.bl (faB x)) (fun x Q hx hQ=>?_) (fun _ _=>rfl) ?_
   · have ox:=SD oa x hx
     walk_at "g"
     exact ⟨by show (BF x&&true)=true;rw [BV ox];rfl,x,rfl,ox,hQ⟩
   walk_at "g"
   rw [EL faB]
   walk_at "g"
   cases hal:fs.all faB
   · refine IfP.t (by show (!(fs.map faB).all id)=true;rw [EM,hal];rfl) ?_
     walk_at "g"
     rw [hal] at hP
     exact hP
   refine IfP.f (by show (!(fs.map faB).all id)=false;rw [EM,hal];rfl) ?_
   rw [hal,U8] at hP
   obtain ⟨e1,e2⟩:=VA hal (VX sa)
   walk_at "g"
   by_cases htb:∃ ys,b=.tup ys
   case neg =>
    have e0:PP (.bl false):=by
     have:wtD 2 b=false:=by cases b<;>first|rfl|exact absurd ⟨_,rfl⟩ htb
     rw [this] at hP;exact hP
    clear hP
    cases b<;>(try (exact absurd ⟨_,rfl⟩ htb))<;>(try (simp [Y8] at ob;done))
    all_goals
     refine ⟨false,by rfl,?_⟩
     walk_at "g"
     exact e0
   obtain ⟨ys,rfl⟩:=htb
   refine ⟨true,by rfl,?_⟩
   walk_at "g"
   by_cases l2:ys.length=2
   case neg =>
    have e0:PP (.bl false):=by
     rw [show wtD 2 (.tup ys)=false by show (decide (ys.length=2)&&ys.all whD)=false;rw [R9 l2];rfl] at hP
     exact hP
    refine IfP.t (by simp;omega) ?_
    walk_at "g"
    exact e0
   refine IfP.f (by simp;omega) ?_
   walk_at "g"
   refine And.intro (by omega) ?_
   refine DN (fun x=>.bl (whD x)) (fun x Q hx hQ=>?_) (fun _ _=>rfl) ?_
   · have ox:=DX ob x hx
     walk_at "g"
     exact ⟨by show (BF x&&true)=true;rw [BV ox];rfl,x,rfl,ox,hQ⟩
   walk_at "g"
   rw [EL whD]
   walk_at "g"
   cases hw:ys.all whD
   · refine IfP.t (by show (!(ys.map whD).all id)=true;rw [EM,hw];rfl) ?_
     walk_at "g"
     rw [show wtD 2 (.tup ys)=false by show (decide (ys.length=2)&&ys.all whD)=false;rw [hw,Bool.and_false]] at hP
     exact hP
   refine IfP.f (by show (!(ys.map whD).all id)=false;rw [EM,hw];rfl) ?_
   have w2:wtD 2 (.tup ys)=true:=by show (decide (ys.length=2)&&ys.all whD)=true;rw [hw,R6 l2];rfl
   rw [w2,U8] at hP
   obtain ⟨x,y,ee⟩:=wt2 w2
   cases ee
   have hx:Bd 260 x:=(LW (DC sb (.int x) (by simp))).mono (by decide)
   have hy:Bd 260 y:=(LW (DC sb (.int y) (by simp))).mono (by decide)
   have hP:PP (.bl ((SE e||whD e)&&QO (seenN (fs.map IR) x y fs.length) e)):=hP
   clear w2 hw l2 hal ob
   cases e<;>(try (simp [Y8] at oe;done))
   case' non=>refine IfP.f rfl ?_
   case' int=>refine IfP.t rfl ?_
   case' bl=>refine IfP.t rfl ?_
   case' str=>refine IfP.t rfl ?_
   case' tup=>refine IfP.t rfl ?_
   case' lst=>refine IfP.t rfl ?_
   case' int|bl|str|tup|lst =>
    walk_at "g"
    refine ⟨_,rfl,oe,?_⟩
   case bl|str|tup|lst =>
    walk_at "g"
    exact hP
   all_goals
    walk_at "g"
    refine ⟨fs.map IR,x,y,by rw [e1],e2,by rw [L0];omega,hx,hy,?_⟩
    rw [L0]
    walk_at "g"
    refine (SS rfl ?_).2
    exact hP
theorem NB (_:Fg):∀ p H,BT.ok p H->∃ xs,H p=some (.lst xs):=fun p H ⟨_,_,_,e,_⟩=>⟨_,e⟩
abbrev GV:Stmt:=top 81
abbrev ZK:List Str:=["_law_paper","_law_due"]
theorem FU:FnScope ["_law_paper","_law_due","_law_shown","_law_found"] ZK (J5 GV):=⟨rfl,rfl,rfl,by decide +kernel,rfl,by decide +kernel,by decide +kernel⟩
structure Szd (d:D)(m n:Nat):Prop where
 ok:Y8 d=true
 w:wD d<=m
 fine:Y6 n d=true
mutual
theorem QN:∀ (n:Nat) (d:D),Y6 n d=true->Y6 (n+1) d=true
 | n,.non,h=>by unfold Y6;rfl
 | n,.bl _,h=>by unfold Y6;rfl
 | n,.int _,h=>by unfold Y6;rfl
 | n,.str x,h=>by
   have h:PyData.strOk x=true:=by cases n<;>simpa [Y6] using h
   unfold Y6;exact h
 | 0,.tup xs,h=>by simp [Y6] at h
 | 0,.lst xs,h=>by simp [Y6] at h
 | 0,.own xs,h=>by simp [Y6] at h
 | n+1,.tup xs,h=>by unfold Y6 at h ⊢;exact JD n xs h
 | n+1,.lst xs,h=>by unfold Y6 at h ⊢;exact JD n xs h
 | n+1,.own xs,h=>by unfold Y6 at h ⊢;exact JD n xs h
 | n,.frg _ d,h=>by
   have h:Y6 n d=true:=by cases n<;>simpa [Y6] using h
   unfold Y6;exact QN n d h
 | n,.ty _,h=>by cases n<;>simp [Y6] at h
 | n,.adr _,h=>by cases n<;>simp [Y6] at h
 | n,.bag,h=>by cases n<;>simp [Y6] at h
 | n,.scr _,h=>by cases n<;>simp [Y6] at h
 | n,.dct _ _ _,h=>by cases n<;>simp [Y6] at h
theorem JD:∀ (n:Nat) (ds:List D),BQ n ds=true->BQ (n+1) ds=true
 | n,[],h=>by unfold BQ;rfl
 | n,d::ds,h=>by
   unfold BQ at h ⊢
   obtain ⟨h1,h2⟩:=(L5 _ _).mp h
   rw [QN n d h1,JD n ds h2];rfl
end
theorem EJ:∀ (n m:Nat),n<=m->(∀ d,Y6 n d=true->Y6 m d=true):=by
 intro n m h
 obtain ⟨k,rfl⟩:=Nat.le.dest h
 clear h
 induction k with
 | zero=>exact fun d h=>h
 | succ k ih=>exact fun d h=>QN (n+k) d (ih d h)
theorem Szd.mono {d:D}{m n m' n':Nat}(h:Szd d m n)(h1:m<=m')(h2:n<=n'):Szd d m' n':=⟨h.ok,M7 h.w h1,EJ _ _ h2 _ h.fine⟩
theorem MO {ds:List D}(h:∀ d∈ds,Y8 d=true):IA ds=true:=by
 induction ds with
 | nil=>unfold IA;rfl
 | cons d ds ih=>unfold IA;rw [h d (by simp),ih fun e m=>h e (by simp [m])];rfl
theorem ZN {ds:List D}{m:Nat}(h:∀ d∈ds,wD d<=m):wDs ds<=ds.length*(m+2):=by
 induction ds with
 | nil=>unfold wDs;exact W1 _
 | cons d ds ih =>
   unfold wDs
   have h1:=h d (by simp)
   have h2:=ih fun e m=>h e (by simp [m])
   rw [U5,Nat.succ_mul]
   omega
theorem Szd.lst {ds:List D}{m n k:Nat}(h:∀ d∈ds,Szd d m n)(hk:ds.length<=k):Szd (.lst ds) (k*(m+2)+3) (n+1) :=
 ⟨by unfold Y8;exact MO fun d q=>(h d q).ok,by
  unfold wD
  have:=ZN fun d q=>(h d q).w
  have:=Nat.mul_le_mul_right (m+2) hk
  omega,by unfold Y6;exact HU fun d q=>(h d q).fine⟩
theorem Szd.tup {ds:List D}{m n k:Nat}(h:∀ d∈ds,Szd d m n)(hk:ds.length<=k):Szd (.tup ds) (k*(m+2)+3) (n+1) :=
 ⟨by unfold Y8;exact MO fun d q=>(h d q).ok,by
  unfold wD
  have:=ZN fun d q=>(h d q).w
  have:=Nat.mul_le_mul_right (m+2) hk
  omega,by unfold Y6;exact HU fun d q=>(h d q).fine⟩
theorem Szd.int {i:Int}(h0 : -1000000000<=i)(h1:i<=1000000000):Szd (.int i) 1921 0 :=
 ⟨by
  unfold Y8
  by_cases z:i.natAbs=0
  · rw [z];decide
  · refine R6 ((B0k z).mpr ?_)
    have:(1000000000:Nat)<2 ^ 1920:=by decide +kernel
    omega,by unfold wD;exact B9 _,rfl⟩
def RH:DSp:=fun ds P _=>∃ d:D,ds=[d,.bl (hoB d)]/\Ppr d/\P (.bl true)
structure C__law_lets (P:Program)(w:World)(K:Fg)(mg:Str->Option Value)(base:Heap)(c:Cs):Prop where
 holds_:Callee P w K mg base CX0 "holds" 7 ["paper"] (J8 K BT XQ)
theorem QD {w:World} {f:Addr} (F:Fun K "_law_lets" "_law_lets" GV f fd) (Z:Bi mg) {c:Cs} (Y:Ex K mg base c) (G:C__law_lets P w K mg base c):FnOk P w K mg base CX0 8 f fd ZK (J8 K BT RH):=by
 refine F.okD FU (fun ds PP Ed h=>?_) (fun cdv A outer s H E M bg ds PP Ed hr hS_=>?_)
 · obtain ⟨d,rfl,hp,hP⟩:=h
   rfl
 · obtain ⟨d,rfl,hp,hP⟩:=hS_
   refine ⟨_,(J6 (V9 (i:=2) FU.nd rfl (by walk_at "o") (Q5 (OM K (by rfl) hr.gd hr.units) XD rfl Z.repr_ XF (J0 (jdv 0) J3)))
    (J6 (V9 (i:=3) FU.nd rfl (by walk_at "o") (Q6 G.holds_ hr.m rfl (J0 (jdv 0) J3)))
    (J7 (V0 (BW (Q5 (Y4 K (by rfl)) AF rfl Z.isinstance_ V6 (J0 (jdv 3) (J0 (AD rfl Z.bool_ RC) J3))) (BW (AK BZ AT (jdv 3) (jdv 1) (V1 _)) (DW (AK BZ AT (Q5 (OM K (by rfl) hr.gd hr.units) XD rfl Z.repr_ XF (J0 (jdv 0) J3)) (jdv 2) (V1 _))))))))),?_⟩
   have f60:Y6 60 d=true:=EJ 20 60 (by decide) _ hp.fine
   walk_at "g"
   refine ⟨f60,hp.ok,hp.w,?_⟩
   walk_at "g"
   refine ⟨by show (BF d&&true)=true;rw [BV hp.ok];rfl,d,rfl,hp,?_⟩
   walk_at "g"
   refine ⟨true,by rfl,?_⟩
   walk_at "g"
   refine IfP.t (by simp) ?_
   walk_at "g"
   refine ⟨f60,hp.ok,hp.w,?_⟩
   walk_at "g"
   simpa using hP
abbrev IG:Stmt:=top 79
abbrev OX:List Str:=["_law_bag_here"]
theorem KJ:FnScope ["_law_bag_here","_law_some"] OX (J5 IG):=⟨rfl,rfl,rfl,by decide +kernel,rfl,by decide +kernel,by decide +kernel⟩
structure Leaf (d:D):Prop where
 sm:smD d=true
 st:∀ s,d=.str s->isS "fellows" d=false/\isS "cut" d=false
 sz:Szd d 8000 3
 few:∀ xs,d=.tup xs\/d=.lst xs->xs.length<=4/\∀ x∈xs,(∀ ys,x≠.lst ys)/\∀ s,x≠.str s
def J7n:LC:=fun ds P n=>ds=[.bag]/\n<=8900/\∀ d n',Leaf d->n'<=n+1->P d n'
structure C__law_odd (P:Program)(w:World)(K:Fg)(mg:Str->Option Value)(base:Heap)(c:Cs):Prop where
 _law_take_:Callee P w K mg base CX0 "_law_take" 1 xl3 (Z5 K BT HJ)
theorem SA {w:World} {f:Addr} (F:Fun K "_law_odd" "_law_odd" IG f fd) (Z:Bi mg) {c:Cs} (Y:Ex K mg base c) (G:C__law_odd P w K mg base c):FnOk P w K mg base CX0 2 f fd OX (Z5 K BT J7n):=by
 refine F.okC KJ (fun ds PP n h=>?_) (fun cdv A outer s H E M bg ds PP n hr hS_=>?_)
 · obtain ⟨rfl,hn,hP⟩:=h
   exact ⟨rfl,M4 ..⟩
 · obtain ⟨rfl,hn,hP⟩:=hS_
   refine ⟨_,(V5 (BB (i:=1) KJ.nd rfl (by walk_at "o") (Q7 fun H0=>(Z8 (J0 AL (J0 CJ (J0 CO (J0 (BL J1) (J0 J1 (J0 (Q4 MI Z9 J1 J1) (J0 (V3 (J0 J1 (J0 J1 J3))) (J0 (Z8 (J0 J1 J3)) (J0 AL (J0 J1 (J0 (V3 J3) (J0 (Z8 J3) (J0 CO (J0 (V3 (J0 J1 (J0 J1 (J0 J1 (J0 J1 J3))))) (J0 J1 (J0 (V3 (J0 J1 (J0 J1 J3))) J3)))))))))))))))))))
    (Y5 (CQ (KE (J9 K (by rfl)) Q8 (Q7 fun H0=>(jdv 1)) (Z1 G._law_take_ hr.m rfl (Q0 (cjv 0) (Q0 (Q7 fun H0=>J1) Y1))) (fun _ _=>rfl))))),?_⟩
   walk_at "g"
   refine ⟨16,rfl,by omega,by decide,by decide,fun r n' r0 r1 hn'=>?_⟩
   walk_at "g"
   refine ixm r0 (by exact r1) fun d md=>?_
   simp only [B4,B8,R3] at md
   rcases md with rfl|rfl|rfl|rfl|rfl|rfl|rfl|rfl|rfl|rfl|rfl|rfl|rfl|rfl|rfl|rfl
   all_goals
    refine And.intro rfl (hP _ _ ?_ hn')
    exact ⟨by decide +kernel,fun s e=>(by first|(cases e;done)|(cases e;exact ⟨by decide +kernel,by decide +kernel⟩)),⟨by decide +kernel,by decide +kernel,by decide +kernel⟩,by rintro xs (h|h)<;>cases h<;>exact ⟨by decide,by simp⟩⟩
def EN (d:D):Prop:=Leaf d/\(∀ i,d=.int i->Bd 60 i)/\∀ xs,d=.tup xs\/d=.lst xs->xs=[]
def Th (L:Nat)(Q:D->Prop):Nat->D->Prop
 | 0,d=>Q d
 | k+1,d=>Q d\/∃ xs,(d=.tup xs\/d=.lst xs)/\xs.length<=L/\∀ x∈xs,Th L Q k x
def Spo (k:Nat)(x y:D):Prop:=∀ xs,x=.tup xs->xs≠[]->k≠0->∀ ys,y=.tup ys->ys.length=xs.length+1->ys.head?=xs.head?
def XJ (k:Nat):LC:=fun ds P n=>∃ x,ds=[.bag,x,.int k]/\Th 28 EN k x/\n+3*(k+1)<=8900/\∀ y n',Th 30 Leaf k y->Spo k x y->wD y<=2*wD x+8000->n'<=n+3*(k+1)->P y n'
def Q1i:Nat->LC
 | 0=>fun _ _ _=>False
 | d+1=>XJ d
theorem Th.ok {L:Nat}{Q:D->Prop}(hq:∀ d,Q d->Y8 d=true):∀ {k:Nat} {d:D},Th L Q k d->Y8 d=true
 | 0,_,h=>hq _ h
 | k+1,d,h=>by
   rcases h with h|⟨xs,h,_,hx⟩
   · exact hq _ h
   · have:=MO fun x m=>Th.ok hq (hx x m)
     rcases h with rfl|rfl<;>(unfold Y8;exact this)
theorem Th.mono {L L':Nat}{Q Q':D->Prop}(hL:L<=L')(hq:∀ d,Q d->Q' d):∀ {k:Nat} {d:D},Th L Q k d->Th L' Q' k d
 | 0,_,h=>hq _ h
 | k+1,d,h=>by
   rcases h with h|⟨xs,h,hl,hx⟩
   · exact .inl (hq _ h)
   · exact .inr ⟨xs,h,M7 hl hL,fun x m=>Th.mono hL hq (hx x m)⟩
abbrev DG:Stmt:=top 80
abbrev XT:List Str:=["_law_bag_here","_law_thing","_law_deep"]
theorem CM:FnScope ["_law_bag_here","_law_thing","_law_deep","_law_way","_law_at","_law_members"] XT (J5 DG):=⟨rfl,rfl,rfl,by decide +kernel,rfl,by decide +kernel,by decide +kernel⟩
structure C__law_spoiled (P:Program)(w:World)(K:Fg)(mg:Str->Option Value)(base:Heap)(c:Cs):Prop where
 _law_take_:Callee P w K mg base CX0 "_law_take" 1 xl3 (Z5 K BT HJ)
 _law_odd_:Callee P w K mg base CX0 "_law_odd" 2 OX (Z5 K BT J7n)
 _law_whole_:Callee P w K mg base CX0 "_law_whole" 1 HW (J8 K BT GJ)
theorem J5f {xs:List D}{i:Nat}{x:D}(e:xs[i]?=some x):(xs.take i++x::xs.drop i).length=xs.length+1/\(∀ y∈xs.take i++x::xs.drop i,y∈xs)/\(xs.take i++x::xs.drop i).head?=xs.head?:=by
 have hi:=(B6.mp e).1
 refine ⟨by rw [U4,U5,D4,B0j];omega,fun y hy=>?_,?_⟩
 · rcases T8.mp hy with h|h
   · exact List.mem_of_mem_take h
   · rcases B4.mp h with h|h
     · rw [h];exact M3 e
     · exact List.mem_of_mem_drop h
 · cases xs with
   | nil=>cases e
   | cons a xs =>
     cases i with
     | zero=>cases e;rfl
     | succ i=>rfl
theorem J9b {L:Nat}{o:D}(h:Leaf o):∀ k,Th L Leaf k o
 | 0=>h
 | _+1=>.inl h
theorem GL (d:D)(ds:List D):wDs (d::ds)=wD d+2+wDs ds:=by conv=>lhs;unfold wDs
theorem J6n:wDs []=0:=by unfold wDs;rfl
theorem LF:∀ a b:List D,wDs (a++b)=wDs a+wDs b
 | [],b=>by rw [List.nil_append,J6n];omega
 | x::a,b=>by rw [List.cons_append,GL,GL,LF a b];omega
theorem LD:∀ {xs:List D} {i:Nat} {x y:D},xs[i]?=some x->wDs (xs.set i y)+wD x=wDs xs+wD y
 | [],_,_,_,h=>by cases h
 | a::xs,0,x,y,h=>by cases h;rw [List.set_cons_zero,GL,GL];omega
 | a::xs,i+1,x,y,h=>by
   have:=LD (xs:=xs) (i:=i) (x:=x) (y:=y) h
   rw [List.set_cons_succ,GL,GL];omega
theorem VS {xs:List D}{i:Nat}{x:D}(h:xs[i]?=some x):wD x+2<=wDs xs:=by
 induction xs generalizing i with
 | nil=>cases h
 | cons a xs ih =>
   rw [GL]
   cases i with
   | zero=>cases h;omega
   | succ i=>have:=ih (i:=i) h;omega
theorem VT:∀ (xs:List D) (i:Nat),wDs (xs.eraseIdx i)<=wDs xs
 | [],_=>B9 _
 | a::xs,0=>by rw [List.eraseIdx_cons_zero,GL];omega
 | a::xs,i+1=>by
   have:=VT xs i
   rw [List.eraseIdx_cons_succ,GL,GL];omega
theorem J3w {xs:List D}{i:Nat}{x:D}(h:xs[i]?=some x):wDs (xs.take i++x::xs.drop i)<=2*wDs xs:=by
 have h1:=VS h
 have h2:wDs xs=wDs (xs.take i)+wDs (xs.drop i):=by rw [<- LF,List.take_append_drop]
 rw [LF,GL]
 omega
theorem PK {xs:List D}{i:Nat}{x y:D}(h:y∈xs.set i x):y∈xs\/y=x:=List.mem_or_eq_of_mem_set h
theorem okIt2 {o z:D}(h1:L2.plain o=true)(h2:L2.plain z=true):DY [o,z]=true:=by
 unfold DY
 rw [E1,E1,h1,h2]
 rfl
theorem J6i {i:Int}(h:Bd 100 i):Y8 (.int i)=true:=by
 unfold Y8
 by_cases z:i.natAbs=0
 · rw [z];decide
 · exact R6 ((B0k z).mpr (h.mono (show 100<=1920 by decide)))
theorem SI {i:Int}(h:Bd 100 i):Leaf (.int i):=⟨by have:=h.mono (show 100<=250 by decide);unfold smD;exact R6 this,fun s e=>(by cases e),⟨J6i h,by show 1921<=8000;decide,rfl⟩,by rintro xs (h|h)<;>cases h⟩
theorem GN {w:World} {f:Addr} (F:Fun K "_law_spoiled" "_law_spoiled" DG f fd) (Z:Bi mg) {c:Cs} (Y:Ex K mg base c) (G:C__law_spoiled P w K mg base c) {d:Nat} (Gs:Callee P w K mg base CX0 "_law_spoiled" (d+2) XT (Z5 K BT (Q1i d))):FnOk P w K mg base CX0 (d+3) f fd XT (Z5 K BT (XJ d)):=by
 refine F.okC CM (fun ds PP n h=>?_) (fun cdv A outer s H E M bg ds PP n hr hS_=>?_)
 · obtain ⟨x,rfl,hx,hn,hP⟩:=h
   exact ⟨rfl,M4 ..⟩
 · obtain ⟨x,rfl,hx,hn,hP⟩:=hS_
   refine ⟨_,(V5 (EA (BO fun H0=>(FH (AJ (V8 (by rfl) (Q5 (RA K (by rfl)) VL rfl Z.isinstance_ V6 (J0 (jdv 1) (J0 (V3 (J0 (AD rfl Z.tuple_ AV) (J0 (AD rfl Z.list_ LQ) J3))) J3))) (fun _=>rfl))) (KC (Y0 BZ AT (Q5 (V4 K (by rfl)) BR rfl Z.len_ BM (J0 (jdv 1) J3)) J1 (V1 _)) (DV (Y0 BZ AT (jdv 2) J1 (V1 _)))))) (Y5 (CQ (KE (J9 K (by rfl)) Q8 (XC (Q0 (Z1 G._law_odd_ (hr.mono (by omega)) rfl (Q0 (cjv 0) Y1)) (Q0 (Q7 fun H0=>(QJ (V8 (by rfl) (Q6 G._law_whole_ (hr.mono (by omega)) rfl (J0 (jdv 1) J3)) (fun _=>rfl)) (Q4 BE Z7 (jdv 1) J1) CJ)) Y1))) (Z1 G._law_take_ (hr.mono (by omega)) rfl (Q0 (cjv 0) (Q0 (Q7 fun H0=>J1) Y1))) (fun _ _=>rfl)))) EK)
    (V5 (BB (i:=3) CM.nd rfl (by walk_at "o") (Z1 G._law_take_ (hr.mono (by omega)) rfl (Q0 (cjv 0) (Q0 (Q7 fun H0=>J1) Y1))))
    (V5 (BB (i:=4) CM.nd rfl (by walk_at "o") (Z1 G._law_take_ (hr.mono (by omega)) rfl (Q0 (cjv 0) (Q0 (Q7 fun H0=>(Q5 (V4 K (by rfl)) BR rfl Z.len_ BM (J0 (jdv 1) J3))) Y1))))
    (V5 (TD 0 (NB K) fun H0 M0=>(J1o (i:=5) CM.nd rfl (by walk_at "o") (J0 (jdv 1) J3) (JV (NT K (by rfl)) rfl Z.list_ LQ (JA.h (J0 (jdv 1) J3)))))
    (V5 (EA (BO fun H0=>(Y0 BZ AT (jdv 3) J1 (V1 _))) (Y5 (TD 0 (NB K) fun H0 M0=>(J1n (i:=5) (by rfl) (J0 (jdv 4) J3) (NZ W3 PySem.F.slot_list_pop PySem.F.type_list_pop J1e (pv 5) (JA.h (J0 (jdv 4) J3)))))) (Y5 (EA (BO fun H0=>(Y0 BZ AT (jdv 3) J1 (V1 _))) (Y5 (TD 0 (NB K) fun H0 M0=>(UX (i:=5) (by rfl) (J0 (jdv 4) (J0 (Q3 (J9 K (by rfl)) Q8 (jdv 5) (jdv 4) (fun _ _=>rfl)) J3)) (NZ W3 PySem.F.slot_list_insert PySem.F.type_list_insert YI (pv 5) (JA.h (J0 (jdv 4) (J0 (Q3 (J9 K (by rfl)) Q8 (jdv 5) (jdv 4) (fun _ _=>rfl)) J3))))))) (Y5 (EA (BO fun H0=>(Y0 BZ AT (jdv 3) J1 (V1 _))) (Y5 (VF (i:=5) (by rfl) rfl (by walk_at "v") (Q0 (Z1 G._law_odd_ (hr.mono (by omega)) rfl (Q0 (cjv 0) Y1)) Y1) (NZ W3 B0y B0x JZ (pv 5) (CJA.h (Q0 (Z1 G._law_odd_ (hr.mono (by omega)) rfl (Q0 (cjv 0) Y1)) Y1))))) (Y5 (EA (BO fun H0=>(Y0 BZ AT (jdv 3) J1 (V1 _))) (MY 5 (Y5 (CQ (Q7 fun H0=>(QJ (V8 (by rfl) (Q5 (Y4 K (by rfl)) MZ rfl Z.isinstance_ V6 (J0 (jdv 1) (J0 (AD rfl Z.tuple_ AV) J3))) (fun _=>rfl)) (jdv 5) (CV (CC K (by rfl)) HG rfl Z.tuple_ AV (J0 (jdv 5) J3))))))) (Y5 (EA (BO fun H0=>(Y0 BZ AT (jdv 3) J1 (V1 _))) (Y5 (TD 0 (NB K) fun H0 M0=>(J1m (i:=5) (by rfl) (V3 (J0 (Q3 (J9 K (by rfl)) Q8 (jdv 5) J1 (fun _ _=>rfl)) (J0 (Q3 (J9 K (by rfl)) Q8 (jdv 5) (jdv 4) (fun _ _=>rfl)) J3))) (AW (n:=2) K (by rfl) (by rfl) (J4 (MG (pv 5) (JE.h (jdv 4)) GP) (J4 (MG (pv 5) (JE.h J1) GP) Y3)))))) (Y5 (J2u (i:=5) rfl (by walk_at "v") (Z1 Gs (hr.mono (by omega)) rfl (Q0 (cjv 0) (Q0 (Q7 fun H0=>(Q3 (J9 K (by rfl)) Q8 (jdv 1) (jdv 4) (fun _ _=>rfl))) (Q0 (Q7 fun H0=>(Q4 AA Z7 (jdv 2) J1)) Y1)))) (Q7 fun H0=>(jdv 4)) (MG (pv 5) (CJE.h (Q7 fun H0=>(jdv 4))) GP))))))))))))
    (MY 5 (Y5 (CQ (Q7 fun H0=>(QJ (V8 (by rfl) (Q5 (Y4 K (by rfl)) MZ rfl Z.isinstance_ V6 (J0 (jdv 1) (J0 (AD rfl Z.tuple_ AV) J3))) (fun _=>rfl)) (CV (CC K (by rfl)) HG rfl Z.tuple_ AV (J0 (jdv 5) J3)) (jdv 5))))))))))),?_⟩
   have ox:Y8 x=true:=hx.ok fun d h=>h.1.sz.ok
   by_cases ht:∃ xs,x=.tup xs\/x=.lst xs
   case neg =>
    have lf:EN x:=by
     cases d with
     | zero=>exact hx
     | succ k =>
       rcases hx with h|⟨xs,h,_⟩
       · exact h
       · exact absurd ⟨xs,h⟩ ht
    have fin:∀ y n',Leaf y->n'<=n+3*(d+1)->PP y n':=fun y n' h hn'=>hP y n' (by cases d<;>first|exact h|exact .inl h) (fun xs e=>absurd ⟨xs,.inl e⟩ ht) (M7 h.sz.w (by omega)) hn'
    clear hP hx
    cases x<;>(try (exact absurd ⟨_,.inl rfl⟩ ht))<;>(try (exact absurd ⟨_,.inr rfl⟩ ht))<;>(try (simp [Y8] at ox;done))
    case int i =>
     walk_at "g"
     refine ⟨false,by rfl,?_⟩
     walk_at "g"
     refine And.intro (by omega) fun o n1 lo h1=>?_
     walk_at "g"
     refine ⟨_,rfl,ox,?_⟩
     walk_at "g"
     have l2_:Leaf (.int (i+1)):=SI ((Bd.add (lf.2.1 i rfl) (Bd.of (by decide) (by decide):Bd 60 1)).mono (by decide))
     have po:=okRp_pl lo.sz.ok
     refine And.intro (okIt2 po (okRp_pl l2_.sz.ok)) ?_
     walk_at "g"
     refine ⟨2,rfl,by omega,by decide,by decide,fun r n2 r0 r1 h2=>?_⟩
     walk_at "g"
     refine ixm r0 (by exact r1) fun z mz=>?_
     have lz:Leaf z:=by
      simp only [B4,B8,R3] at mz
      rcases mz with rfl|rfl<;>assumption
     have pz:=okRp_pl lz.sz.ok
     refine And.intro pz ?_
     have hz:=fin z n2 lz (by omega)
     cases z<;>first|exact hz|cases pz
    all_goals
     walk_at "g"
     refine ⟨false,by rfl,?_⟩
     walk_at "g"
     refine And.intro (by omega) fun o n1 lo h1=>?_
     walk_at "g"
     refine ⟨_,rfl,ox,?_⟩
     walk_at "g"
     have l2_:Leaf .non:=⟨rfl,fun s e=>(by cases e),⟨rfl,by decide,rfl⟩,by rintro xs (h|h)<;>cases h⟩
     have po:=okRp_pl lo.sz.ok
     refine And.intro (okIt2 po (okRp_pl l2_.sz.ok)) ?_
     walk_at "g"
     refine ⟨2,rfl,by omega,by decide,by decide,fun r n2 r0 r1 h2=>?_⟩
     walk_at "g"
     refine ixm r0 (by exact r1) fun z mz=>?_
     have lz:Leaf z:=by
      simp only [B4,B8,R3] at mz
      rcases mz with rfl|rfl<;>assumption
     have pz:=okRp_pl lz.sz.ok
     refine And.intro pz ?_
     have hz:=fin z n2 lz (by omega)
     cases z<;>first|exact hz|cases pz
   obtain ⟨xs,ht⟩:=ht
   by_cases h0:xs=[]\/d=0
   · have fin:∀ y n',Leaf y->n'<=n+3*(d+1)->PP y n':=fun y n' h hn'=>hP y n' (by cases d<;>first|exact h|exact .inl h) (fun xs' e ne nd=>by
      rcases h0 with z|z
      · rcases ht with w|w
        · rw [w] at e;cases e;exact absurd z ne
        · rw [w] at e;cases e
      · exact absurd z nd) (M7 h.sz.w (by omega)) hn'
     clear hP hx
     rcases ht with rfl|rfl
     all_goals
      walk_at "g"
      refine ⟨true,by rfl,?_⟩
      walk_at "g"
      by_cases z0:xs.length=0
      case' pos=>refine IfP.t (by simp [z0]) ?_
      case' neg =>
       have hd0:d=0:=h0.resolve_left fun z=>z0 (by rw [z];rfl)
       refine IfP.f (by simpa using z0) ?_
       walk_at "g"
       refine IfP.t (by simp [hd0]) ?_
     all_goals
      walk_at "g"
      refine And.intro (by omega) fun o n1 lo h1=>?_
      walk_at "g"
      refine ⟨_,rfl,ox,?_⟩
      walk_at "g"
      have l2_:Leaf .non:=⟨rfl,fun s e=>(by cases e),⟨rfl,by decide,rfl⟩,by rintro xs (h|h)<;>cases h⟩
      have po:=okRp_pl lo.sz.ok
      refine And.intro (okIt2 po (okRp_pl l2_.sz.ok)) ?_
      walk_at "g"
      refine ⟨2,rfl,by omega,by decide,by decide,fun r n2 r0 r1 h2=>?_⟩
      walk_at "g"
      refine ixm r0 (by exact r1) fun z mz=>?_
      have lz:Leaf z:=by
       simp only [B4,B8,R3] at mz
       rcases mz with rfl|rfl<;>assumption
      have pz:=okRp_pl lz.sz.ok
      refine And.intro pz ?_
      have hz:=fin z n2 lz (by omega)
      cases z<;>first|exact hz|cases pz
   obtain ⟨k,rfl⟩:∃ k,d=k+1:=⟨d - 1,by have:=fun z=>h0 (.inr z);omega⟩
   have ne:xs≠[]:=fun z=>h0 (.inl z)
   obtain ⟨hl,hxs⟩:xs.length<=28/\∀ y∈xs,Th 28 EN k y:=by
    rcases hx with h|⟨ys,h,h1,h2⟩
    · exact absurd (h.2.2 xs ht) ne
    · rcases ht with w|w<;>rcases h with v|v<;>rw [w] at v<;>cases v<;>exact ⟨h1,h2⟩
   have lp:0<xs.length:=List.length_pos_iff.mpr ne
   have up:∀ y,Th 28 EN k y->Th 30 Leaf k y:=fun y h=>h.mono (by decide) fun d h=>h.1
   have ok30:∀ {y},Th 30 Leaf k y->Y8 y=true:=fun h=>h.ok fun d h=>h.sz.ok
   have fin:∀ (ys:List D) n',ys.length<=30->(∀ y∈ys,Th 30 Leaf k y)->(ys.length=xs.length+1->ys.head?=xs.head?)->wDs ys<=2*wDs xs+8002->n'<=n+3*(k+2)->PP (.tup ys) n'/\PP (.lst ys) n':=fun ys n' h1 h2 h3 hw h4=>by
    have wx:wD x=wDs xs+3:=by rcases ht with w|w<;>(rw [w];unfold wD;rfl)
    constructor
    · refine hP _ n' (.inr ⟨ys,.inl rfl,h1,h2⟩) (fun xs' e _ _ ys' e2 el=>?_) (by rw [wx];unfold wD;omega) h4
      cases e2
      rcases ht with w|w
      · rw [w] at e
        cases e
        exact h3 el
      · rw [w] at e
        cases e
    · exact hP _ n' (.inr ⟨ys,.inr rfl,h1,h2⟩) (fun xs' e _ _ ys' e2 el=>by cases e2) (by rw [wx];unfold wD;omega) h4
   clear hP hx
   rcases ht with rfl|rfl
   all_goals
    walk_at "g"
    refine ⟨true,by rfl,?_⟩
    walk_at "g"
    refine IfP.f (by simpa using ne) ?_
    walk_at "g"
    refine ⟨10,rfl,by omega,by decide,by decide,fun way n1 y0 y1 h1=>?_⟩
    walk_at "g"
    refine ⟨(xs.length:Int),rfl,by omega,by omega,by omega,fun a n2 a0 a1 h2=>?_⟩
    obtain ⟨at_,rfl⟩:∃ at_:Nat,a=at_:=⟨a.toNat,by omega⟩
    walk_at "g"
    have hat:at_<xs.length:=by omega
    have ea:atI xs (at_:Int)=some xs[at_]:=HV (L4 hat)
    have hxa:=hxs _ (U6 hat)
    have gat:xs[at_]?=some xs[at_]:=L4 hat
    generalize exa:xs[at_]=xa at *
    have pxa:=okRp_pl (ok30 (up _ hxa))
    intro B
    walk_at "g"
    by_cases w0:way=0
    · refine IfP.t (by simp [w0]) ?_
      walk_at "g"
      intro B
      walk_at "g"
      refine And.intro ⟨by omega,by omega,by omega⟩ ?_
      have f1:=fin (xs.eraseIdx at_) n2 (by rw [List.length_eraseIdx];split<;>omega) (fun y hy=>up y (hxs y (List.mem_of_mem_eraseIdx hy))) (fun e=>by rw [List.length_eraseIdx] at e;split at e<;>omega) (by have:=VT xs at_;omega) (by omega)
      walk_at "g"
      first|refine ⟨true,by rfl,?_⟩|refine ⟨false,by rfl,?_⟩
      walk_at "g"
      first|exact f1.1|exact f1.2
    refine IfP.f (by simpa using w0) ?_
    walk_at "g"
    by_cases w1:way=1
    · have gi:=J5f (xs:=xs) (i:=at_) (x:=xa) (by rw [L4 hat,exa])
      refine IfP.t (by simp [w1]) ?_
      walk_at "g"
      intro B
      walk_at "g"
      rw [ea]
      walk_at "g"
      refine And.intro ⟨pxa,by omega,by omega,by omega⟩ ?_
      have f1:=fin (xs.take at_++xa::xs.drop at_) n2 (by omega) (fun y hy=>up y (hxs y (gi.2.1 y hy))) (fun _=>gi.2.2) (by have:=J3w gat;omega) (by omega)
      walk_at "g"
      first|refine ⟨true,by rfl,?_⟩|refine ⟨false,by rfl,?_⟩
      walk_at "g"
      first|exact f1.1|exact f1.2
    refine IfP.f (by simpa using w1) ?_
    walk_at "g"
    by_cases w2:way=2
    · refine IfP.t (by simp [w2]) ?_
      walk_at "g"
      refine And.intro (by omega) fun o n3 lo h3=>?_
      have po:=okRp_pl lo.sz.ok
      walk_at "g"
      refine And.intro (by rw [po];simp;omega) ?_
      have f1:=fin (xs++[o]) n3 (by rw [U4];show xs.length+1<=30;omega) (fun y hy=>(T8.mp hy).elim (fun m=>up y (hxs y m)) fun m=>by rw [R0.mp m];exact J9b lo k) (fun _=>by cases xs with|nil=>exact absurd rfl ne|cons a xs=>rfl) (by have:=lo.sz.w;rw [LF,GL,J6n];omega) (by omega)
      walk_at "g"
      first|refine ⟨true,by rfl,?_⟩|refine ⟨false,by rfl,?_⟩
      walk_at "g"
      first|exact f1.1|exact f1.2
    refine IfP.f (by simpa using w2) ?_
    walk_at "g"
    by_cases w3:way=3
    · refine IfP.t (by simp [w3]) ?_
      have f1:=fin xs n2 (by omega) (fun y hy=>up y (hxs y hy)) (fun e=>by omega) (by omega) (by omega)
      walk_at "g"
      first|refine ⟨true,by rfl,?_⟩|refine ⟨false,by rfl,?_⟩
      walk_at "g"
      first|exact f1.1|exact f1.2
    refine IfP.f (by simpa using w3) ?_
    walk_at "g"
    by_cases w4:way=4
    · refine IfP.t (by simp [w4]) ?_
      walk_at "g"
      intro B
      walk_at "g"
      have e0:atI xs 0=some xs[0]:=HV (j:=0) (L4 lp)
      have hx0:=hxs _ (U6 lp)
      have g0:xs[0]?=some xs[0]:=L4 lp
      rw [e0]
      generalize xs[0]=x0 at *
      have px0:=okRp_pl (ok30 (up _ hx0))
      walk_at "g"
      rw [ea]
      walk_at "g"
      refine And.intro (okIt2 px0 pxa) ?_
      walk_at "g"
      refine ⟨_,_,rfl,?_⟩
      walk_at "g"
      refine ⟨_,rfl,?_⟩
      rw [QL hat]
      walk_at "g"
      refine ⟨_,rfl,?_⟩
      rw [show ixN xs.length 0=some 0 from QL (j:=0) lp]
      have f1:=fin ((xs.set at_ x0).set 0 xa) n2 (by rw [W7,W7];omega) (fun y hy=>by
       rcases PK hy with h|h
       · rcases PK h with h|h
         · exact up y (hxs y h)
         · rw [h];exact up _ hx0
       · rw [h];exact up _ hxa) (fun e=>by rw [W7,W7] at e;omega) (by have k1:=LD (y:=x0) gat;have k2:=LD (xs:=xs.set at_ x0) (i:=0) (x:=x0) (y:=xa) (by rw [M5];split<;>simp_all);omega) (by omega)
      walk_at "g"
      first|refine ⟨true,by rfl,?_⟩|refine ⟨false,by rfl,?_⟩
      walk_at "g"
      first|exact f1.1|exact f1.2
    refine IfP.f (by simpa using w4) ?_
    walk_at "g"
    rw [ea]
    refine And.intro pxa ?_
    walk_at "g"
    refine ⟨by show (true&&(BF xa&&true))=true;rw [BV (ok30 (up _ hxa))];rfl,xa,by rw [show ((k+1:Nat):Int) - 1=(k:Int) by omega],hxa,by omega,fun y n3 ty _ wy h3=>?_⟩
    have py:=okRp_pl (ok30 ty)
    walk_at "g"
    refine And.intro py ?_
    rw [QL hat]
    have f1:=fin (xs.set at_ y) n3 (by rw [W7];omega) (fun z hz=>(PK hz).elim (fun m=>up z (hxs z m)) fun m=>by rw [m];exact ty) (fun e=>by rw [W7] at e;omega) (by have k1:=LD (y:=y) gat;have k2:=VS gat;omega) (by omega)
    walk_at "g"
    first|refine ⟨true,by rfl,?_⟩|refine ⟨false,by rfl,?_⟩
    walk_at "g"
    first|exact f1.1|exact f1.2
theorem FL {w:World} {f:Addr} (F:Fun K "_law_spoiled" "_law_spoiled" DG f fd) (Z:Bi mg) {c:Cs} (Y:Ex K mg base c) (G:C__law_spoiled P w K mg base c) (hm:mg "_law_spoiled" = some (.ref f)) (hb:Binds K fd XT []):∀ d:Nat,FnOk P w K mg base CX0 (d+3) f fd XT (Z5 K BT (XJ d))
 | 0=>GN F Z Y G (d:=0) ⟨f,fd,⟨fun vs H Q E h=>(by obtain ⟨_,_,_,_,h,_⟩:=h;exact h.elim),fun A outer s H args us vs Q E hr he hbi hv h=>(by obtain ⟨_,_,_,_,h,_⟩:=h;exact h.elim)⟩,hm,F.kp,hb⟩
 | d+1=>GN F Z Y G (d:=d+1) ⟨f,fd,FL F Z Y G hm hb d,hm,F.kp,hb⟩
theorem J1z {t:T3}(ha:0<t.aw/\Nat.gcd (Int.gcd t.ax t.ay) (Int.gcd t.az t.aw)=1)(hb:0<t.bw/\Nat.gcd (Int.gcd t.bx t.b_y) (Int.gcd t.bz t.bw)=1)(hc:0<t.cw/\Nat.gcd (Int.gcd t.cx t.cy) (Int.gcd t.cz t.cw)=1):faB t.d=true:=by
 show (true&&(spI t.ax t.ay t.az t.aw&&(spI t.bx t.b_y t.bz t.bw&&(spI t.cx t.cy t.cz t.cw&&true))))=true
 unfold spI
 rw [R6 ha,R6 hb,R6 hc]
 rfl
theorem J5m {t:T3}(h:faB t.d=true):faB (T3.d ⟨t.bx,t.b_y,t.bz,t.bw,t.cx,t.cy,t.cz,t.cw,t.ax,t.ay,t.az,t.aw⟩)=true:=by
 have h:(true&&(spI t.ax t.ay t.az t.aw&&(spI t.bx t.b_y t.bz t.bw&&(spI t.cx t.cy t.cz t.cw&&true))))=true:=h
 show (true&&(spI t.bx t.b_y t.bz t.bw&&(spI t.cx t.cy t.cz t.cw&&(spI t.ax t.ay t.az t.aw&&true))))=true
 obtain ⟨_,h1⟩:=(L5 _ _).mp h
 obtain ⟨h1,h2⟩:=(L5 _ _).mp h1
 obtain ⟨h2,h3⟩:=(L5 _ _).mp h2
 obtain ⟨h3,_⟩:=(L5 _ _).mp h3
 rw [h1,h2,h3]
 rfl
theorem J8g (t:T3):IR t.d=t:=rfl
theorem RN:∀ ts:List T3,(ts.map T3.d).map IR=ts
 | []=>rfl
 | t::ts=>by rw [U7,U7,RN ts,J8g]
theorem WS:∀ ts:List T3,BQ 3 (ts.map T3.d)=true
 | []=>rfl
 | t::ts=>by rw [U7];unfold BQ;rw [WS ts];rfl
abbrev FE:Stmt:=top 67
theorem BY:FnScope ["_law_bag_here","_law_far","_law_w","_law_wide","_law_x","_law_y"] ["_law_bag_here","_law_far"] (J5 FE):=⟨rfl,rfl,rfl,by decide +kernel,rfl,by decide +kernel,by decide +kernel⟩
def TQ:LC:=fun ds P n=>∃ far:Int,ds=[.bag,.int far]/\(far=0\/far=1\/far=3)/\n+6<=9000/\∀ (x y z w:Int) (n':Nat),(Bd 30 x/\Bd 30 y/\Bd 30 z/\Bd 30 w)->0<w->Nat.gcd (Int.gcd x y) (Int.gcd z w)=1->n'<=n+6->P (sp4 x y z w) n'
structure C__law_corner (P:Program)(w:World)(K:Fg)(mg:Str->Option Value)(base:Heap)(c:Cs):Prop where
 _law_spot_:Callee P w K mg base CX0 "_law_spot" 2 ["_law_numbers"] (J8 K BT NE)
 _law_take_:Callee P w K mg base CX0 "_law_take" 1 xl3 (Z5 K BT HJ)
theorem MN {w:World} {f:Addr} (F:Fun K "_law_corner" "_law_corner" FE f fd) (Z:Bi mg) {c:Cs} (Y:Ex K mg base c) (G:C__law_corner P w K mg base c):FnOk P w K mg base CX0 3 f fd ["_law_bag_here","_law_far"] (Z5 K BT TQ):=by
 refine F.okC BY (fun ds PP n h=>?_) (fun cdv A outer s H E M bg ds PP n hr hS_=>?_)
 · obtain ⟨far,rfl,hf,hn,hP⟩:=h
   exact ⟨rfl,M4 ..⟩
 · obtain ⟨far,rfl,hf,hn,hP⟩:=hS_
   refine ⟨_,(V5 (BB (i:=2) BY.nd rfl (by walk_at "o") (FI BE Z7 (Q7 fun H0=>J1) (Z1 G._law_take_ hr.m rfl (Q0 (cjv 0) (Q0 (Q7 fun H0=>J1) Y1)))))
    (V5 (BB (i:=3) BY.nd rfl (by walk_at "o") (Q7 fun H0=>(Q3 (J9 K (by rfl)) Q8 (Z8 (J0 J1 (J0 J1 (J0 J1 (J0 (Q4 MI Z9 J1 J1) J3))))) (jdv 1) (fun _ _=>rfl))))
    (V5 (BB (i:=4) BY.nd rfl (by walk_at "o") (FI BE Z7 (FI Q9 Z9 (FI AA Z7 (Z1 G._law_take_ hr.m rfl (Q0 (cjv 0) (Q0 (Q7 fun H0=>(jdv 3)) Y1))) (Q7 fun H0=>(Q4 DL Z9 (jdv 3) J1))) (Q7 fun H0=>(jdv 2))) (Z1 G._law_take_ hr.m rfl (Q0 (cjv 0) (Q0 (Q7 fun H0=>(jdv 2)) Y1)))))
    (V5 (BB (i:=5) BY.nd rfl (by walk_at "o") (FI BE Z7 (FI Q9 Z9 (FI AA Z7 (Z1 G._law_take_ hr.m rfl (Q0 (cjv 0) (Q0 (Q7 fun H0=>(jdv 3)) Y1))) (Q7 fun H0=>(Q4 DL Z9 (jdv 3) J1))) (Q7 fun H0=>(jdv 2))) (Z1 G._law_take_ hr.m rfl (Q0 (cjv 0) (Q0 (Q7 fun H0=>(jdv 2)) Y1)))))
    (Y5 (CQ (J2x G._law_spot_ hr.m rfl (Q0 (XB (Q0 (Q7 fun H0=>(jdv 4)) (Q0 (Q7 fun H0=>(jdv 5)) (Q0 (FI AA Z7 (Z1 G._law_take_ hr.m rfl (Q0 (cjv 0) (Q0 (Q7 fun H0=>J1) Y1))) (Q7 fun H0=>J1)) (Q0 (Q7 fun H0=>(jdv 2)) Y1))))) Y1)))))))),?_⟩
   walk_at "g"
   refine ⟨_,rfl,by omega,by decide,by decide,fun r1 n1 w0 w1 m1=>?_⟩
   have w2:r1<4:=w1
   have bw:Bd 4 (1+r1):=Bd.of (by omega) (by omega)
   walk_at "g"
   refine ixm (by omega) (by show _<(4:Int);omega) fun dz mz=>?_
   obtain ⟨z,rfl,z0,z1⟩:∃ z:Int,dz=.int z/\22<=z/\z<=1000000:=by
    simp only [B4,B8,R3] at mz
    rcases mz with e|e|e|e<;>exact ⟨_,e,by decide,by decide⟩
   have bz:Bd 21 z:=Bd.of (by omega) (by omega)
   walk_at "g"
   refine ⟨_,rfl,by omega,by omega,by omega,fun r2 n2 a0 a1 m2=>?_⟩
   have br2:Bd 21 r2:=Bd.of (by omega) (by omega)
   have bz6:0<=z / 6/\z / 6<=z:=by omega
   have b26:Bd 22 (r2 - z / 6):=Bd.of (by omega) (by omega)
   walk_at "g"
   refine And.intro ⟨by decide,4,Bd.of (by decide) (by decide),by decide⟩ ?_
   walk_at "g"
   refine ⟨_,rfl,by omega,by omega,by omega,fun r3 n3 c0 c1 m3=>?_⟩
   walk_at "g"
   refine ⟨_,rfl,by omega,by omega,by omega,fun r4 n4 d0 d1 m4=>?_⟩
   have b46:Bd 22 (r4 - z / 6):=Bd.of (by omega) (by omega)
   walk_at "g"
   refine And.intro ⟨by decide,4,Bd.of (by decide) (by decide),by decide⟩ ?_
   walk_at "g"
   refine ⟨_,rfl,by omega,by omega,by omega,fun r5 n5 e0 e1 m5=>?_⟩
   walk_at "g"
   refine ⟨_,rfl,by omega,by decide,by decide,fun r6 n6 f0 f1 m6=>?_⟩
   have f2:r6<41:=f1
   walk_at "g"
   have k3:Bd 4 r3:=Bd.of (by omega) (by omega)
   have k5:Bd 4 r5:=Bd.of (by omega) (by omega)
   refine ⟨_,_,_,_,30,rfl,by omega,⟨(Bd.add (Bd.mul b26 bw) k3).mono (by decide),(Bd.add (Bd.mul b46 bw) k5).mono (by decide),Bd.of (by omega) (by omega),Bd.of (by omega) (by omega)⟩,by decide,fun x' y' z' w' hb hw hg=>?_⟩
   exact hP x' y' z' w' n6 hb hw hg (by omega)
abbrev EU:Stmt:=top 68
theorem AO:FnScope ["_law_bag_here","_law_far","_law_a","_law_b","_law_c"] OX (J5 EU):=⟨rfl,rfl,rfl,by decide +kernel,rfl,by decide +kernel,by decide +kernel⟩
def J3o:LC:=fun ds P n=>ds=[.bag]/\n+19<=9000/\∀ (t:T3) (n':Nat),t.ok 40->t.pos->faB t.d=true->n'<=n+19->P t.d n'
structure C__law_face (P:Program)(w:World)(K:Fg)(mg:Str->Option Value)(base:Heap)(c:Cs):Prop where
 _law_take_:Callee P w K mg base CX0 "_law_take" 1 xl3 (Z5 K BT HJ)
 _law_corner_:Callee P w K mg base CX0 "_law_corner" 3 ["_law_bag_here","_law_far"] (Z5 K BT TQ)
 _law_spot_:Callee P w K mg base CX0 "_law_spot" 2 ["_law_numbers"] (J8 K BT NE)
abbrev J3u (P:Program) (w:World) (K:Fg) (mg:Str → Option Value) (base:Heap) (f:Addr) (cdv:Value) (A:Around) (outer:List Env) (s:Shared) (H:Hp) (E:XK):Cx:=DR CX0 P w K mg base ["_law_bag_here","_law_far","_law_a","_law_b","_law_c"] "_law_face" (J5 EU) f cdv A outer s H E
abbrev J3r:List Str:=["_law_place","_law_bag_here","_law_far"]
theorem QF {w:World} {f:Addr} (F:Fun K "_law_face" "_law_face" EU f fd) (Z:Bi mg) {c:Cs} (Y:Ex K mg base c) (G:C__law_face P w K mg base c):FnOk P w K mg base CX0 4 f fd OX (Z5 K BT J3o):=by
 refine F.okC AO (fun ds PP n h=>?_) (fun cdv A outer s H E M bg ds PP n hr hS_=>?_)
 · obtain ⟨rfl,hn,hP⟩:=h
   exact ⟨rfl,M4 ..⟩
 · obtain ⟨rfl,hn,hP⟩:=hS_
   refine ⟨_,(V5 (BB (i:=1) AO.nd rfl (by walk_at "o") (KE (J9 K (by rfl)) Q8 (Q7 fun H0=>(Z8 (J0 J1 (J0 J1 (J0 J1 (J0 J1 (J0 J1 (J0 J1 (J0 J1 (J0 J1 J3)))))))))) (Z1 G._law_take_ hr.m rfl (Q0 (cjv 0) (Q0 (Q7 fun H0=>J1) Y1))) (fun _ _=>rfl)))
    (V5 (XA (CB [2,3,4]) (J2y (X:=(J3u P w K mg base f cdv A outer s H E).nox) (Z3 0) (Q3l (X:=(J3u P w K mg base f cdv A outer s H E).nox) (N':=J3r) (map:=[none,some 0,some 1]) (by rfl) (by rfl) (by decide +kernel) (by rfl) ⟨⟨rfl,rfl,rfl,by walk_at "o"⟩,⟨⟨rfl,rfl,rfl,by walk_at "o"⟩,True.intro⟩⟩ (gkeep_name rfl) fun cl0 C0 fp0 s0 H0=>⟨(pg_name (X:=(V2 (J3u P w K mg base f cdv A outer s H E).nox J3r _ cl0 C0 fp0 s0 H0)) (i:=0) (Z0 J3r (by decide +kernel)) rfl (by walk_at "o")),J2w,(Z1 (X:=(V2 (J3u P w K mg base f cdv A outer s H E).nox J3r _ cl0 C0 fp0 s0 H0)) G._law_corner_ hr.m rfl (Q0 (cjv 1) (Q0 (Q7 fun H0=>(jdv 2)) Y1)))⟩) (JG fun H0=>(IL rfl Z.range_ (J0 J1 J3)))) (PG.or (AW (n:=3) K (by rfl) (by rfl) (J4 (pg_name (i:=2) AO.nd rfl (by walk_at "o")) (J4 (pg_name (i:=3) AO.nd rfl (by walk_at "o")) (J4 (pg_name (i:=4) AO.nd rfl (by walk_at "o")) Y3)))) (AY (n:=3) K (by rfl) (by rfl) (J4 (pg_name (i:=2) AO.nd rfl (by walk_at "o")) (J4 (pg_name (i:=3) AO.nd rfl (by walk_at "o")) (J4 (pg_name (i:=4) AO.nd rfl (by walk_at "o")) Y3))))))
    (V5 (EA (BO fun H0=>(Y0 BZ AT (jdv 1) J1 (V1 _))) (Y5 (BB (i:=4) AO.nd rfl (by walk_at "o") (Q7 fun H0=>(Q6 G._law_spot_ hr.m rfl (J0 (V3 (J0 (Q4 Q9 Z9 (Q3 (J9 K (by rfl)) Q8 (jdv 2) J1 (fun _ _=>rfl)) J1) (J0 (Q4 Q9 Z9 (Q3 (J9 K (by rfl)) Q8 (jdv 2) J1 (fun _ _=>rfl)) J1) (J0 (Q4 BE Z7 (Q3 (J9 K (by rfl)) Q8 (jdv 2) J1 (fun _ _=>rfl)) J1) (J0 (Q4 Q9 Z9 (Q3 (J9 K (by rfl)) Q8 (jdv 2) J1 (fun _ _=>rfl)) J1) J3))))) J3))))) EK)
    (Y5 (CQ (Q7 fun H0=>(V3 (J0 (jdv 2) (J0 (jdv 3) (J0 (jdv 4) J3)))))))))),?_⟩
   walk_at "g"
   refine ⟨_,rfl,by omega,by decide,by decide,fun r1 n1 y0 y1 m1=>?_⟩
   walk_at "g"
   refine ixm y0 (by exact y1) fun dz mz=>?_
   obtain ⟨far,rfl,hf⟩:∃ z:Int,dz=.int z/\(z=0\/z=1\/z=3):=by
    simp only [B4,B8,R3] at mz
    rcases mz with e|e|e|e|e|e|e|e<;>exact ⟨_,e,by decide⟩
   walk_at "g"
   walk_at "gc3"
   refine ⟨far,rfl,hf,by omega,fun ax ay az aw n2 oa pa ga m2=>?_⟩
   walk_at "g"
   refine ⟨far,rfl,hf,by omega,fun bx b_y bz bw n3 ob pb gb m3=>?_⟩
   walk_at "g"
   refine ⟨far,rfl,hf,by omega,fun cx cy cz cw n4 oc pc gc m4=>?_⟩
   obtain ⟨a1,a2,a3,a4⟩:=oa
   obtain ⟨b1,b2,b3,b4⟩:=ob
   obtain ⟨c1,c2,c3,c4⟩:=oc
   walk_at "g"
   walk_at "sp"
   · walk_at "g"
     have t2':Bd 3 2:=Bd.of (by decide) (by decide)
     have t1':Bd 3 1:=Bd.of (by decide) (by decide)
     refine ⟨_,_,_,_,40,rfl,by omega,⟨(Bd.mul a1 t2').mono (by decide),(Bd.mul a2 t2').mono (by decide),(Bd.add a3 t1').mono (by decide),(Bd.mul a4 t2').mono (by decide)⟩,by decide,fun x' y' z' w' hb hw hg=>?_⟩
     walk_at "g"
     exact hP ⟨ax,ay,az,aw,bx,b_y,bz,bw,x',y',z',w'⟩ n4 ⟨a1.mono (by decide),a2.mono (by decide),a3.mono (by decide),a4.mono (by decide),b1.mono (by decide),b2.mono (by decide),b3.mono (by decide),b4.mono (by decide),hb.1,hb.2.1,hb.2.2.1,hb.2.2.2⟩ ⟨pa,pb,hw⟩ (J1z ⟨pa,ga⟩ ⟨pb,gb⟩ ⟨hw,hg⟩) (by omega)
   · walk_at "g"
     exact hP ⟨ax,ay,az,aw,bx,b_y,bz,bw,cx,cy,cz,cw⟩ n4 ⟨a1.mono (by decide),a2.mono (by decide),a3.mono (by decide),a4.mono (by decide),b1.mono (by decide),b2.mono (by decide),b3.mono (by decide),b4.mono (by decide),c1.mono (by decide),c2.mono (by decide),c3.mono (by decide),c4.mono (by decide)⟩ ⟨pa,pb,pc⟩ (J1z ⟨pa,ga⟩ ⟨pb,gb⟩ ⟨pc,gc⟩) (by omega)
abbrev FX:Stmt:=top 84
theorem Y9:FnScope ["_law_bag_here","_law_found","_law_place","_law_face_here","_law_way","_law_a","_law_b","_law_c"] OX (J5 FX):=⟨rfl,rfl,rfl,by decide +kernel,rfl,by decide +kernel,by decide +kernel⟩
structure Fc (t:T3):Prop where
 ok:t.ok 40
 pos:t.pos
 fa:faB t.d=true
def XR:LC:=fun ds P n=>ds=[.bag]/\n+600<=9000/\∀ (ts:List T3) n',(∀ t∈ts,Fc t)->ts.length<=25->n'<=n+600->P (.lst (ts.map T3.d)) n'
structure C__law_faces (P:Program)(w:World)(K:Fg)(mg:Str->Option Value)(base:Heap)(c:Cs):Prop where
 _law_take_:Callee P w K mg base CX0 "_law_take" 1 xl3 (Z5 K BT HJ)
 _law_face_:Callee P w K mg base CX0 "_law_face" 4 OX (Z5 K BT J3o)
theorem NM {w:World} {f:Addr} (F:Fun K "_law_faces" "_law_faces" FX f fd) (Z:Bi mg) {c:Cs} (Y:Ex K mg base c) (G:C__law_faces P w K mg base c):FnOk P w K mg base CX0 5 f fd OX (Z5 K BT XR):=by
 refine F.okC Y9 (fun ds PP n h=>?_) (fun cdv A outer s H E M bg ds PP n hr hS_=>?_)
 · obtain ⟨rfl,hn,hP⟩:=h
   exact ⟨rfl,M4 ..⟩
 · obtain ⟨rfl,hn,hP⟩:=hS_
   refine ⟨_,(V5 (J2v (i:=1) Y9.nd rfl (by walk_at "o") Y1)
    (V5 (LO (Z3 2) T4 rfl (VG rfl Z.range_ (Q0 (Z1 G._law_take_ hr.m rfl (Q0 (cjv 0) (Q0 (KE (J9 K (by rfl)) Q8 (Q7 fun H0=>(Z8 (J0 J1 (J0 J1 (J0 J1 (J0 J1 (J0 J1 (J0 J1 (J0 J1 (J0 J1 J3)))))))))) (Z1 G._law_take_ hr.m rfl (Q0 (cjv 0) (Q0 (Q7 fun H0=>J1) Y1))) (fun _ _=>rfl)) Y1))) Y1)) (pg_name (i:=2) Y9.nd rfl (by walk_at "o")) (V5 (BB (i:=3) Y9.nd rfl (by walk_at "o") (Z1 G._law_face_ hr.m rfl (Q0 (cjv 0) Y1)))
    (V5 (BB (i:=4) Y9.nd rfl (by walk_at "o") (Z1 G._law_take_ hr.m rfl (Q0 (cjv 0) (Q0 (Q7 fun H0=>J1) Y1))))
    (V5 (EA (BO fun H0=>(GI (Y0 KM EH (jdv 4) J1 (V1 _)) (EI (Y0 (J0t K (by rfl) hr.units) FG (jdv 1) (Z8 J3) (V1 _))))) (V5 (XA (CB [5,6,7]) (KE (J9 K (by rfl)) Q8 (cjv 1) (Z1 G._law_take_ hr.m rfl (Q0 (cjv 0) (Q0 (Q7 fun H0=>(Q5 (V4 K (by rfl)) BR rfl Z.len_ BM (J0 (jdv 1) J3))) Y1))) (fun _ _=>rfl)) (PG.or (AW (n:=3) K (by rfl) (by rfl) (J4 (pg_name (i:=5) Y9.nd rfl (by walk_at "o")) (J4 (pg_name (i:=6) Y9.nd rfl (by walk_at "o")) (J4 (pg_name (i:=7) Y9.nd rfl (by walk_at "o")) Y3)))) (AY (n:=3) K (by rfl) (by rfl) (J4 (pg_name (i:=5) Y9.nd rfl (by walk_at "o")) (J4 (pg_name (i:=6) Y9.nd rfl (by walk_at "o")) (J4 (pg_name (i:=7) Y9.nd rfl (by walk_at "o")) Y3))))))
    (Y5 (BB (i:=3) Y9.nd rfl (by walk_at "o") (Q7 fun H0=>(Q3 (J9 K (by rfl)) Q8 (Z8 (J0 (V3 (J0 (jdv 5) (J0 (jdv 6) (J0 (jdv 7) J3)))) (J0 (V3 (J0 (jdv 6) (J0 (jdv 7) (J0 (jdv 5) J3)))) J3))) (jdv 4) (fun _ _=>rfl)))))) EK)
    (Y5 (TD 0 (NB K) fun H0 M0=>(MS (i:=1) (by rfl) rfl (by walk_at "v") (J0 (jdv 3) J3) (NZ W3 B0y B0x JZ (pv 1) (JA.h (J0 (jdv 3) J3))))))))))
    (MY 1 (Y5 (CQ (cjv 1)))))),?_⟩
   walk_at "g"
   refine ⟨8,rfl,by omega,by decide,by decide,fun r1 n1 a0 a1 h1=>?_⟩
   walk_at "g"
   refine ixm a0 (by exact a1) fun dm mm=>?_
   obtain ⟨m,rfl,m0,m1⟩:∃ m:Int,dm=.int m/\0<m/\m<=26:=by
    simp only [B4,B8,R3] at mm
    rcases mm with e|e|e|e|e|e|e|e<;>exact ⟨_,e,by decide,by decide⟩
   walk_at "g"
   refine ⟨m,rfl,by omega,by omega,by omega,fun r2 n2 b0 b1 h2=>?_⟩
   walk_at "g"
   refine And.intro ⟨by omega,by omega⟩ ?_
   refine ⟨fun i ρ n'=>∃ (ts:List T3) (v2 v3 v4 v5 v6 v7:Option D),ρ=[some .bag,some (.own (ts.map T3.d)),v2,v3,v4,v5,v6,v7]/\ts.length=i/\(∀ t∈ts,Fc t)/\n'<=n2+21*i,⟨[],_,_,_,_,_,_,rfl,rfl,by simp,by omega⟩,?_,?_⟩
   · rintro i x ρ n' e ⟨ts,v2,v3,v4,v5,v6,v7,rfl,hl,ht,hn'⟩
     obtain ⟨rfl,hi⟩:=II e
     have hi:i<25:=by omega
     clear e
     have fin:∀ (t:T3) (v2 v4 v5 v6 v7:Option D) (n3:Nat),Fc t->n3<=n'+21->∃ (ts':List T3) (w2 w3 w4 w5 w6 w7:Option D),[some D.bag,some (.own (ts.map T3.d++[t.d])),v2,some t.d,v4,v5,v6,v7]=[some .bag,some (.own (ts'.map T3.d)),w2,w3,w4,w5,w6,w7]/\ts'.length=i+1/\(∀ t∈ts',Fc t)/\n3<=n2+21*(i+1):=fun t v2 v4 v5 v6 v7 n3 hf h3=>⟨ts++[t],_,_,_,_,_,_,by rw [B0d];rfl,by rw [U4,hl];rfl,fun t' m=>(T8.mp m).elim (ht t') fun m=>by rw [R0.mp m];exact hf,by omega⟩
     walk_at "g"
     refine And.intro (by omega) fun t n3 ok pos fa h3=>?_
     walk_at "g"
     refine ⟨6,rfl,by omega,by decide,by decide,fun way n4 w0 w1 h4=>?_⟩
     walk_at "g"
     by_cases hw:way<2
     case neg =>
      refine IfP.f (by simpa using hw) ?_
      walk_at "g"
      intro B
      walk_at "g"
      refine And.intro (by show (true&&decide ((ts.map T3.d).length<1000))=true;rw [L0,hl];simp;omega) ?_
      refine And.intro rfl ?_
      exact fin t _ _ _ _ _ n4 ⟨ok,pos,fa⟩ (by omega)
     refine IfP.t (by simpa using hw) ?_
     walk_at "g"
     refine J5n 3 (WS ts) ?_
     walk_at "g"
     by_cases z:ts=[]
     · refine IfP.f (by rw [z];rfl) ?_
       walk_at "g"
       intro B
       walk_at "g"
       refine And.intro (by show (true&&decide ((ts.map T3.d).length<1000))=true;rw [L0,hl];simp;omega) ?_
       refine And.intro rfl ?_
       exact fin t _ _ _ _ _ n4 ⟨ok,pos,fa⟩ (by omega)
     have lp:0<ts.length:=List.length_pos_iff.mpr z
     refine IfP.t (by cases ts with|nil=>exact absurd rfl z|cons a ts=>rfl) ?_
     walk_at "g"
     refine ⟨(ts.length:Int),by rw [L0],by omega,by omega,by omega,fun k n5 k0 k1 h5=>?_⟩
     walk_at "g"
     refine ixm k0 (by rw [L0];exact k1) fun dz mz=>?_
     obtain ⟨u,mu,rfl⟩:=B0p.mp mz
     obtain ⟨uo,up,uf⟩:=ht u mu
     walk_at "g"
     refine ixm w0 (by exact hw) fun dq mq=>?_
     obtain ⟨q,rfl,fq⟩:∃ q:T3,dq=q.d/\Fc q:=by
      simp only [B4,B8,R3] at mq
      rcases mq with rfl|rfl
      · exact ⟨u,rfl,uo,up,uf⟩
      · exact ⟨⟨u.bx,u.b_y,u.bz,u.bw,u.cx,u.cy,u.cz,u.cw,u.ax,u.ay,u.az,u.aw⟩,rfl,⟨uo.bx,uo.b_y,uo.bz,uo.bw,uo.cx,uo.cy,uo.cz,uo.cw,uo.ax,uo.ay,uo.az,uo.aw⟩,⟨up.b,up.c,up.a⟩,J5m uf⟩
     walk_at "g"
     intro B
     walk_at "g"
     refine And.intro (by show (true&&decide ((ts.map T3.d).length<1000))=true;rw [L0,hl];simp;omega) ?_
     refine And.intro rfl ?_
     exact fin q _ _ _ _ _ n5 fq (by omega)
   · rintro ρ n' ⟨ts,v2,v3,v4,v5,v6,v7,rfl,hl,ht,hn'⟩
     have hl:ts.length=r2.toNat:=by rw [hl];exact MF ..
     have hn':n'<=n2+21*r2.toNat:=by rw [show (DJ 0 r2.toNat).length=r2.toNat from MF ..] at hn';exact hn'
     walk_at "g"
     exact hP ts n' ht (by omega) (by omega)
theorem Th.up {L:Nat}{Q:D->Prop}{d:D}(h:Q d):∀ k,Th L Q k d
 | 0=>h
 | _+1=>.inl h
theorem Th.row {L:Nat}{Q:D->Prop}{k:Nat}{xs:List D}(hl:xs.length<=L)(h:∀ x∈xs,Th L Q k x):Th L Q (k+1) (.tup xs)/\Th L Q (k+1) (.lst xs):=⟨.inr ⟨xs,.inl rfl,hl,h⟩,.inr ⟨xs,.inr rfl,hl,h⟩⟩
theorem Th.fine {L:Nat}{Q:D->Prop}{n:Nat}(hq:∀ d,Q d->Y6 n d=true):∀ {k:Nat} {d:D},Th L Q k d->Y6 (n+k) d=true
 | 0,_,h=>hq _ h
 | k+1,d,h=>by
   rcases h with h|⟨xs,h,_,hx⟩
   · exact EJ n _ (by omega) _ (hq _ h)
   · have:=HU (n:=n+k) (ds:=xs) fun x m=>Th.fine hq (hx x m)
     rcases h with rfl|rfl<;>(rw [show n+(k+1)=(n+k)+1 by omega];unfold Y6;exact this)
theorem Th.sm {L:Nat}{Q:D->Prop}(hq:∀ d,Q d->smD d=true):∀ {k:Nat} {d:D},Th L Q k d->smD d=true
 | 0,_,h=>hq _ h
 | k+1,d,h=>by
   rcases h with h|⟨xs,h,_,hx⟩
   · exact hq _ h
   · have:=PH fun x m=>Th.sm hq (hx x m)
     rcases h with rfl|rfl<;>(unfold smD;exact this)
theorem Th.word:∀ {k:Nat} {d:D},Th 30 Leaf k d->isS "fellows" d=false/\isS "cut" d=false
 | 0,d,h=>by
   cases d<;>first|exact ⟨rfl,rfl⟩|exact h.st _ rfl
 | k+1,d,h=>by
   rcases h with h|⟨xs,h,_,hx⟩
   · cases d<;>first|exact ⟨rfl,rfl⟩|exact h.st _ rfl
   · rcases h with rfl|rfl<;>exact ⟨rfl,rfl⟩
theorem szI {i:Int}(h:Bd 250 i):Szd (.int i) 1921 0/\smD (.int i)=true:=by
 refine ⟨⟨?_,B9 _,rfl⟩,by unfold smD;exact R6 h⟩
 unfold Y8
 by_cases z:i.natAbs=0
 · rw [z];decide
 · exact R6 ((B0k z).mpr (h.mono (show 250<=1920 by decide)))
theorem szT {xs:List D}{m n k:Nat}(h:∀ d∈xs,Szd d m n/\smD d=true)(hk:xs.length<=k):(Szd (.tup xs) (k*(m+2)+3) (n+1)/\smD (.tup xs)=true)/\(Szd (.lst xs) (k*(m+2)+3) (n+1)/\smD (.lst xs)=true) :=
 ⟨⟨Szd.tup (fun d q=>(h d q).1) hk,by unfold smD;exact PH fun d q=>(h d q).2⟩,⟨Szd.lst (fun d q=>(h d q).1) hk,by unfold smD;exact PH fun d q=>(h d q).2⟩⟩
theorem sz4 {x y z w:Int}(h1:Bd 250 x)(h2:Bd 250 y)(h3:Bd 250 z)(h4:Bd 250 w):Szd (sp4 x y z w) 7695 1/\smD (sp4 x y z w)=true:=(szT (xs:=[.int x,.int y,.int z,.int w]) (k:=4) (fun d q=>by
 simp only [B4,B8,R3] at q
 rcases q with rfl|rfl|rfl|rfl<;>exact szI (by assumption)) (B9 4)).1
theorem szF {t:T3}(h:t.ok 250):Szd t.d 23094 2/\smD t.d=true:=(szT (xs:=[sp4 t.ax t.ay t.az t.aw,sp4 t.bx t.b_y t.bz t.bw,sp4 t.cx t.cy t.cz t.cw]) (k:=3) (fun d q=>by
 simp only [B4,B8,R3] at q
 rcases q with rfl|rfl|rfl
 · exact sz4 h.ax h.ay h.az h.aw
 · exact sz4 h.bx h.b_y h.bz h.bw
 · exact sz4 h.cx h.cy h.cz h.cw) (B9 3)).1
theorem Q2c {ts:List T3}(h:∀ t∈ts,t.ok 250)(hl:ts.length<=25):Szd (.lst (ts.map T3.d)) 600000 8/\smD (.lst (ts.map T3.d))=true:=by
 have:=(szT (xs:=ts.map T3.d) (k:=25) (fun d q=>by
  obtain ⟨t,m,rfl⟩:=B0p.mp q
  exact szF (h t m)) (by rw [L0];exact hl)).2
 exact ⟨this.1.mono (by decide) (by decide),this.2⟩
theorem sz2 {x y:Int}(h1:Bd 250 x)(h2:Bd 250 y):Szd (t2 x y) 600000 8/\smD (t2 x y)=true:=by
 have:=(szT (xs:=[.int x,.int y]) (k:=2) (fun d q=>by
  simp only [B4,B8,R3] at q
  rcases q with rfl|rfl<;>exact szI (by assumption)) (B9 2)).1
 exact ⟨this.1.mono (by decide) (by decide),this.2⟩
def NG (n:Nat)(d:D):Prop:=d=.non\/∃ i:Int,d=.int i/\Bd n i
theorem szN {d:D}(h:NG 250 d):Szd d 600000 8/\smD d=true:=by
 rcases h with rfl|⟨i,rfl,h⟩
 · exact ⟨⟨rfl,by decide,rfl⟩,rfl⟩
 · exact ⟨(szI h).1.mono (by decide) (by decide),(szI h).2⟩
theorem UU {fs:List D}{dt nm:D}(hf:Szd (.lst fs) 600000 8/\smD (.lst fs)=true)(hd:Szd dt 600000 8/\smD dt=true)(hn:Szd nm 600000 8/\smD nm=true)(hl:fs.length<=31):Ppr (.tup [.str "dot",.lst fs,dt,nm])/\wD (.tup [.str "dot",.lst fs,dt,nm])<=2500000:=by
 have:=(szT (xs:=[.str "dot",.lst fs,dt,nm]) (m:=600000) (n:=8) (k:=4) (fun d q=>by
  simp only [B4,B8,R3] at q
  rcases q with rfl|rfl|rfl|rfl
  · exact ⟨⟨by decide +kernel,by decide +kernel,by decide +kernel⟩,rfl⟩
  · exact hf
  · exact hd
  · exact hn) (B9 4)).1
 refine ⟨⟨this.1.ok,EJ 9 20 (by decide) _ this.1.fine,M7 this.1.w (by decide),this.2,fun a b c z=>(by cases z),fun a b c e z=>(by cases z;decide +kernel),fun a gs b e z=>(by cases z;exact hl)⟩,M7 this.1.w (by decide)⟩
theorem LG {x y:D}(hw:wD x<=2500000)(ty:Th 30 Leaf 4 y)(wy:wD y<=2*wD x+8000):Ppr y:=by
 refine ⟨ty.ok fun d h=>h.sz.ok,EJ 7 20 (by decide) _ (Th.fine (n:=3) (fun d h=>h.sz.fine) ty),by omega,ty.sm fun d h=>h.sm,fun a b c z=>?_,fun a b c e z=>?_,fun a fs b e z=>?_⟩
 · subst z
   rcases ty with l|⟨xs,e,_,hx⟩
   · have:=((l.few _ (.inl rfl)).2 a (by simp)).2
     cases a<;>first|rfl|exact absurd rfl (this _)
   · have hm:a∈xs:=by rcases e with e|e<;>cases e;simp
     exact (hx a hm).word.1
 · subst z
   rcases ty with l|⟨xs,e,_,hx⟩
   · have:=((l.few _ (.inl rfl)).2 a (by simp)).2
     cases a<;>first|rfl|exact absurd rfl (this _)
   · have hm:a∈xs:=by rcases e with e|e<;>cases e;simp
     exact (hx a hm).word.2
 · subst z
   rcases ty with l|⟨xs,e,_,hx⟩
   · exact absurd rfl (((l.few _ (.inl rfl)).2 (.lst fs) (by simp)).1 fs)
   · have hm:D.lst fs∈xs:=by rcases e with e|e<;>cases e;simp
     rcases hx _ hm with l|⟨zs,e,hl,_⟩
     · have:=(l.few _ (.inr rfl)).1;omega
     · rcases e with e|e<;>cases e;omega
theorem KA {i:Int}(h:Bd 60 i):EN (.int i):=⟨SI (h.mono (by decide)),fun j e=>by cases e;exact h,by rintro xs (h|h)<;>cases h⟩
theorem YL:EN .non:=⟨⟨rfl,fun s e=>(by cases e),⟨rfl,by decide,rfl⟩,by rintro xs (h|h)<;>cases h⟩,fun j e=>(by cases e),by rintro xs (h|h)<;>cases h⟩
theorem YM:EN (.str "dot"):=⟨⟨rfl,fun s e=>(by cases e;exact ⟨by decide +kernel,by decide +kernel⟩),⟨by decide +kernel,by decide +kernel,by decide +kernel⟩,by rintro xs (h|h)<;>cases h⟩,fun j e=>(by cases e),by rintro xs (h|h)<;>cases h⟩
theorem th4 {x y z w:Int}(h1:Bd 60 x)(h2:Bd 60 y)(h3:Bd 60 z)(h4:Bd 60 w):Th 28 EN 1 (sp4 x y z w):=(Th.row (xs:=[.int x,.int y,.int z,.int w]) (by show 4<=28;decide) fun d q=>by
 simp only [B4,B8,R3] at q
 rcases q with rfl|rfl|rfl|rfl<;>exact KA (by assumption)).1
theorem thF {t:T3}(h:t.ok 60):Th 28 EN 2 t.d:=(Th.row (xs:=[sp4 t.ax t.ay t.az t.aw,sp4 t.bx t.b_y t.bz t.bw,sp4 t.cx t.cy t.cz t.cw]) (by show 3<=28;decide) fun d q=>by
 simp only [B4,B8,R3] at q
 rcases q with rfl|rfl|rfl
 · exact th4 h.ax h.ay h.az h.aw
 · exact th4 h.bx h.b_y h.bz h.bw
 · exact th4 h.cx h.cy h.cz h.cw).1
theorem thP {ts:List T3}{x y:Int}{n:D}(h:∀ t∈ts,t.ok 60)(hl:ts.length<=25)(hx:Bd 60 x)(hy:Bd 60 y)(hn:NG 60 n):Th 28 EN 4 (.tup [.str "dot",.lst (ts.map T3.d),t2 x y,n]):=by
 refine (Th.row (by show 4<=28;decide) fun d q=>?_).1
 simp only [B4,B8,R3] at q
 rcases q with rfl|rfl|rfl|rfl
 · exact Th.up YM 3
 · refine (Th.row (by rw [L0];omega) fun d q=>?_).2
   obtain ⟨t,m,rfl⟩:=B0p.mp q
   exact thF (h t m)
 · refine (Th.row (xs:=[.int x,.int y]) (by show 2<=28;decide) fun d q=>?_).1
   simp only [B4,B8,R3] at q
   rcases q with rfl|rfl<;>exact Th.up (KA (by assumption)) 2
 · rcases hn with rfl|⟨i,rfl,h⟩
   · exact Th.up YL 3
   · exact Th.up (KA h) 3
def mvT (far:Int)(t:T3):T3:=⟨t.ax+far*t.aw,t.ay - far*t.aw,t.az,t.aw,t.bx+far*t.bw,t.b_y - far*t.bw,t.bz,t.bw,t.cx+far*t.cw,t.cy - far*t.cw,t.cz,t.cw⟩
theorem J8y {far:Int}{t:T3}(hf:Bd 200 far)(h:t.ok 40):(mvT far t).ok 250:=by
 have q:∀ {x w:Int},Bd 40 x->Bd 40 w->Bd 250 (x+far*w)/\Bd 250 (x - far*w):=fun h1 h2=>⟨(Bd.add (h1.mono (show 40<=240 by decide)) (Bd.mul hf h2)).mono (by decide),(Bd.sub (h1.mono (show 40<=240 by decide)) (Bd.mul hf h2)).mono (by decide)⟩
 have m:∀ {x:Int},Bd 40 x->Bd 250 x:=fun h=>h.mono (by decide)
 exact ⟨(q h.ax h.aw).1,(q h.ay h.aw).2,m h.az,m h.aw,(q h.bx h.bw).1,(q h.b_y h.bw).2,m h.bz,m h.bw,(q h.cx h.cw).1,(q h.cy h.cw).2,m h.cz,m h.cw⟩
abbrev CI:Stmt:=top 85
abbrev Q1p:List Str:=["_law_faces_here","_law_dot","_law_numbers","_law_far","_law_moved_ones","_law_face_here","_law_number","_law_paper"]
abbrev J7r:List Str:=["_law_faces_here","_law_dot","_law_numbers"]
theorem AI:FnScope Q1p J7r (J5 CI):=⟨rfl,rfl,rfl,by decide +kernel,rfl,by decide +kernel,by decide +kernel⟩
def J7q:DSp:=fun ds P _=>∃ (ts:List T3) (x y:Int) (ns:List D),ds=[.lst (ts.map T3.d),t2 x y,.lst ns]/\(∀ t∈ts,t.ok 40)/\ts.length<=25/\(Bd 40 x/\Bd 40 y)/\(∀ n∈ns,NG 40 n)/\P (.bl true)
structure C__law_far_right (P:Program)(w:World)(K:Fg)(mg:Str->Option Value)(base:Heap)(c:Cs):Prop where
 _law_lets_:Callee P w K mg base CX0 "_law_lets" 8 ZK (J8 K BT RH)
 _law_is_right_:Callee P w K mg base CX0 "_law_is_right" 5 OY (J8 K BT XO)
abbrev XU (P:Program) (w:World) (K:Fg) (mg:Str → Option Value) (base:Heap) (f:Addr) (cdv:Value) (A:Around) (outer:List Env) (s:Shared) (H:Hp) (E:XK):Cx:=DR CX0 P w K mg base Q1p "_law_far_right" (J5 CI) f cdv A outer s H E
abbrev FJ:List Str:=["_law_x","_law_y","_law_z","_law_w","_law_far"]
theorem JC {w:World} {f:Addr} (F:Fun K "_law_far_right" "_law_far_right" CI f fd) (Z:Bi mg) {c:Cs} (Y:Ex K mg base c) (G:C__law_far_right P w K mg base c):FnOk P w K mg base CX0 9 f fd J7r (J8 K BT J7q):=by
 refine F.okD AI (fun ds PP Ed h=>?_) (fun cdv A outer s H E M bg ds PP Ed hr hS_=>?_)
 · obtain ⟨ts,x,y,ns,rfl,ht,hl,⟨hx,hy⟩,hn,hP⟩:=h
   rfl
 · obtain ⟨ts,x,y,ns,rfl,ht,hl,⟨hx,hy⟩,hn,hP⟩:=hS_
   refine ⟨_,(J6 (V9 (i:=3) AI.nd rfl (by walk_at "o") (Q4 MI Z9 J1 J1))
    (J6 (SJ (i:=4) AI.nd rfl (by walk_at "o") J3)
    (J6 (EC (Z3 5) T4 rfl (AB (by rfl) (jdv 0)) (pg_name (i:=5) AI.nd rfl (by walk_at "o")) (J7 (MS (i:=4) (by rfl) rfl (by walk_at "v") (J0 (CV (CC K (by rfl)) HG rfl Z.tuple_ AV (J0 (BA (X:=(XU P w K mg base f cdv A outer s H E).nox) (CB [0,1,2,3]) (JJ (X:=(XU P w K mg base f cdv A outer s H E).nox) (N':=FJ) (map:=[none,none,none,none,some 3]) (by rfl) (by rfl) (by decide +kernel) (by rfl) ⟨⟨rfl,rfl,rfl,by walk_at "o"⟩,True.intro⟩ (gkeep_seq (js:=[0,1,2,3]) (by decide)) fun cl0 C0 fp0 s0 H0=>⟨(PG.or (AW (n:=4) K (by rfl) (by rfl) (J4 (pg_name (i:=0) (Z0 FJ (by decide +kernel)) rfl (by walk_at "o")) (J4 (pg_name (i:=1) (Z0 FJ (by decide +kernel)) rfl (by walk_at "o")) (J4 (pg_name (i:=2) (Z0 FJ (by decide +kernel)) rfl (by walk_at "o")) (J4 (pg_name (i:=3) (Z0 FJ (by decide +kernel)) rfl (by walk_at "o")) Y3))))) (AY (n:=4) K (by rfl) (by rfl) (J4 (pg_name (i:=0) (Z0 FJ (by decide +kernel)) rfl (by walk_at "o")) (J4 (pg_name (i:=1) (Z0 FJ (by decide +kernel)) rfl (by walk_at "o")) (J4 (pg_name (i:=2) (Z0 FJ (by decide +kernel)) rfl (by walk_at "o")) (J4 (pg_name (i:=3) (Z0 FJ (by decide +kernel)) rfl (by walk_at "o")) Y3)))))),AU,(V3 (X:=(V2 (XU P w K mg base f cdv A outer s H E).nox FJ _ cl0 C0 fp0 s0 H0)) (J0 (Q4 BE Z7 (jdv 0) (Q4 Q9 Z9 (jdv 4) (jdv 3))) (J0 (Q4 AA Z7 (jdv 1) (Q4 Q9 Z9 (jdv 4) (jdv 3))) (J0 (jdv 2) (J0 (jdv 3) J3)))))⟩) (AB (by rfl) (jdv 5))) J3)) J3) (NZ W3 B0y B0x JZ (pv 4) (JA.h (J0 (CV (CC K (by rfl)) HG rfl Z.tuple_ AV (J0 (BA (X:=(XU P w K mg base f cdv A outer s H E).nox) (CB [0,1,2,3]) (JJ (X:=(XU P w K mg base f cdv A outer s H E).nox) (N':=FJ) (map:=[none,none,none,none,some 3]) (by rfl) (by rfl) (by decide +kernel) (by rfl) ⟨⟨rfl,rfl,rfl,by walk_at "o"⟩,True.intro⟩ (gkeep_seq (js:=[0,1,2,3]) (by decide)) fun cl0 C0 fp0 s0 H0=>⟨(PG.or (AW (n:=4) K (by rfl) (by rfl) (J4 (pg_name (i:=0) (Z0 FJ (by decide +kernel)) rfl (by walk_at "o")) (J4 (pg_name (i:=1) (Z0 FJ (by decide +kernel)) rfl (by walk_at "o")) (J4 (pg_name (i:=2) (Z0 FJ (by decide +kernel)) rfl (by walk_at "o")) (J4 (pg_name (i:=3) (Z0 FJ (by decide +kernel)) rfl (by walk_at "o")) Y3))))) (AY (n:=4) K (by rfl) (by rfl) (J4 (pg_name (i:=0) (Z0 FJ (by decide +kernel)) rfl (by walk_at "o")) (J4 (pg_name (i:=1) (Z0 FJ (by decide +kernel)) rfl (by walk_at "o")) (J4 (pg_name (i:=2) (Z0 FJ (by decide +kernel)) rfl (by walk_at "o")) (J4 (pg_name (i:=3) (Z0 FJ (by decide +kernel)) rfl (by walk_at "o")) Y3)))))),AU,(V3 (X:=(V2 (XU P w K mg base f cdv A outer s H E).nox FJ _ cl0 C0 fp0 s0 H0)) (J0 (Q4 BE Z7 (jdv 0) (Q4 Q9 Z9 (jdv 4) (jdv 3))) (J0 (Q4 AA Z7 (jdv 1) (Q4 Q9 Z9 (jdv 4) (jdv 3))) (J0 (jdv 2) (J0 (jdv 3) J3)))))⟩) (AB (by rfl) (jdv 5))) J3)) J3))))))
    (J1l 4 (J6 (EC (Z3 6) T4 rfl (AB (by rfl) (jdv 2)) (pg_name (i:=6) AI.nd rfl (by walk_at "o")) (J6 (V9 (i:=7) AI.nd rfl (by walk_at "o") (V3 (J0 CO (J0 (jdv 4) (J0 (V3 (J0 (Q4 BE Z7 (Q3 (J9 K (by rfl)) Q8 (jdv 1) J1 (fun _ _=>rfl)) (jdv 3)) (J0 (Q4 AA Z7 (Q3 (J9 K (by rfl)) Q8 (jdv 1) J1 (fun _ _=>rfl)) (jdv 3)) J3))) (J0 (jdv 6) J3))))))
    (J7 (AQ (AJ (V8 (by rfl) (Q6 G._law_lets_ hr.m rfl (J0 (jdv 7) (J0 (Q6 G._law_is_right_ hr.m rfl (J0 (jdv 7) J3)) J3))) (fun _=>rfl))) (J7 (V0 AL)) Y7))))
    (J7 (V0 AL))))))),?_⟩
   obtain ⟨far,efar⟩:∃ far:Int,far=(fun i j:Int=>i ^ j.toNat) 10 60:=⟨_,rfl⟩
   have hf:Bd 200 far:=by rw [efar];unfold Bd;decide +kernel
   walk_at "g"
   rw [show (fun i j:Int=>i ^ j.toNat) 10 60=far from efar.symm]
   refine ⟨fun i ρ=>∃ v5 v6 v7,ρ=[some (.lst (ts.map T3.d)),some (t2 x y),some (.lst ns),some (.int far),some (.own (((ts.take i).map (mvT far)).map T3.d)),v5,v6,v7],⟨_,_,_,rfl⟩,?_,?_⟩
   · rintro i z ρ e ⟨v5,v6,v7,rfl⟩
     rw [M9] at e
     obtain ⟨t,et,rfl⟩:=L8.mp e
     have hi:=(B6.mp et).1
     obtain ⟨a1,a2,a3,a4,b1,b2,b3,b4,c1,c2,c3,c4⟩:=ht t (M3 et)
     clear e
     walk_at "g"
     walk_at "gc"
     refine And.intro (by show (true&&decide ((((ts.take i).map (mvT far)).map T3.d).length<1000))=true;simp only [L0,D4,U8,I0];omega) ?_
     rw [B0u,et,B0r,B0d,B0d]
     exact ⟨_,_,_,rfl⟩
   · rintro ρ ⟨v5,v6,v7,rfl⟩
     rw [L0,List.take_length]
     have hm:∀ t∈ts.map (mvT far),t.ok 250:=fun t m=>by
      obtain ⟨u,mu,rfl⟩:=B0p.mp m
      exact J8y hf (ht u mu)
     have lm:(ts.map (mvT far)).length<=25:=by rw [L0];exact hl
     generalize ts.map (mvT far)=us at hm lm ⊢
     walk_at "g"
     refine ⟨fun i ρ=>∃ v5 v6 v7,ρ=[some (.lst (ts.map T3.d)),some (t2 x y),some (.lst ns),some (.int far),some (.lst (us.map T3.d)),v5,v6,v7],⟨_,_,_,rfl⟩,?_,?_⟩
     · rintro i nm ρ e ⟨v5,v6,v7,rfl⟩
       have nd:=hn nm (M3 e)
       have hx2:Bd 250 (x+far):=(Bd.add (hx.mono (show 40<=200 by decide)) hf).mono (by decide)
       have hy2:Bd 250 (y - far):=(Bd.sub (hy.mono (show 40<=200 by decide)) hf).mono (by decide)
       have nd2:NG 250 nm:=nd.imp id fun ⟨i,e,h⟩=>⟨i,e,h.mono (by decide)⟩
       have ppr:=(UU (fs:=us.map T3.d) (Q2c hm lm) (sz2 hx2 hy2) (szN nd2) (by rw [L0];omega)).1
       clear e
       rcases nd with rfl|⟨i,rfl,_⟩
       all_goals
        walk_at "g"
        refine ⟨_,rfl,ppr,?_⟩
        walk_at "g"
        refine ⟨_,rfl,ppr,?_⟩
        walk_at "g"
        exact ⟨_,_,_,rfl⟩
     · rintro ρ ⟨v5,v6,v7,rfl⟩
       walk_at "g"
       exact hP
def YF:D:=.tup [sp4 0 0 0 1,sp4 9 0 0 1,sp4 0 9 0 1]
def J4p:D:=.tup [sp4 0 0 (-1) 1,sp4 9 0 (-1) 1,sp4 0 9 (-1) 1]
def J3y:D:=.tup [sp4 0 0 0 2,sp4 9 0 0 1,sp4 0 9 0 1]
def FxP (d:D):Prop:=∃ fs ds nm,d=.tup [.str "dot",.lst fs,.tup ds,nm]/\(nm=.non\/(∃ i,nm=.int i)\/∃ b,nm=.bl b)/\Ppr d
theorem fxF:∀ d∈[D.lst [YF],.lst [YF,J4p],.lst [J4p,YF],.lst [J3y],.lst [YF,J3y]],∃ fs,d=.lst fs/\fs.length<=31/\Szd d 600000 8/\smD d=true:=by
 intro d h
 simp only [B4,B8,R3] at h
 rcases h with rfl|rfl|rfl|rfl|rfl<;>exact ⟨_,rfl,by decide,⟨by decide +kernel,by decide +kernel,by decide +kernel⟩,by decide +kernel⟩
theorem fxD:∀ d∈[D.tup [.int 0,.int 0],.tup [.int 1,.int 0],.tup [.bl true,.int 0],.tup [.int 0,.bl false],.tup [.int 1,.bl true],.tup [.int 99,.int (-1)]],∃ ds,d=.tup ds/\Szd d 600000 8/\smD d=true:=by
 intro d h
 simp only [B4,B8,R3] at h
 rcases h with rfl|rfl|rfl|rfl|rfl|rfl<;>exact ⟨_,rfl,⟨by decide +kernel,by decide +kernel,by decide +kernel⟩,by decide +kernel⟩
theorem fxN:∀ d∈[D.int 0,.int 1,.int (-1),.int (-2),.bl true,.bl false,.non],(d=.non\/(∃ i,d=.int i)\/∃ b,d=.bl b)/\Szd d 600000 8/\smD d=true:=by
 intro d h
 simp only [B4,B8,R3] at h
 rcases h with rfl|rfl|rfl|rfl|rfl|rfl|rfl<;>exact ⟨by first|exact .inl rfl|exact .inr (.inl ⟨_,rfl⟩)|exact .inr (.inr ⟨_,rfl⟩),⟨by decide +kernel,by decide +kernel,by decide +kernel⟩,by decide +kernel⟩
abbrev BK:Stmt:=top 86
abbrev Q1o:List Str:=["_law_one","_law_other","_law_twice","_law_papers","_law_faces_here","_law_dot"]
theorem Z2:FnScope Q1o [] (J5 BK):=⟨rfl,rfl,rfl,by decide +kernel,rfl,by decide +kernel,by decide +kernel⟩
def J7p:DSp:=fun ds P _=>ds=[]/\P (.bl true)
structure C__law_fixed_right (P:Program)(w:World)(K:Fg)(mg:Str->Option Value)(base:Heap)(c:Cs):Prop where
 _law_lets_:Callee P w K mg base CX0 "_law_lets" 8 ZK (J8 K BT RH)
 _law_is_right_:Callee P w K mg base CX0 "_law_is_right" 5 OY (J8 K BT XO)
abbrev KO (P:Program) (w:World) (K:Fg) (mg:Str → Option Value) (base:Heap) (f:Addr) (cdv:Value) (A:Around) (outer:List Env) (s:Shared) (H:Hp) (E:XK):Cx:=DR CX0 P w K mg base Q1o "_law_fixed_right" (J5 BK) f cdv A outer s H E
abbrev RK:List Str:=["_law_number","_law_faces_here","_law_dot"]
theorem HY {w:World} {f:Addr} (F:Fun K "_law_fixed_right" "_law_fixed_right" BK f fd) (Z:Bi mg) {c:Cs} (Y:Ex K mg base c) (G:C__law_fixed_right P w K mg base c):FnOk P w K mg base CX0 9 f fd [] (J8 K BT J7p):=by
 refine F.okD Z2 (fun ds PP Ed h=>?_) (fun cdv A outer s H E M bg ds PP Ed hr hS_=>?_)
 · obtain ⟨rfl,hP⟩:=h
   rfl
 · obtain ⟨rfl,hP⟩:=hS_
   refine ⟨_,(J6 (V9 (i:=0) Z2.nd rfl (by walk_at "o") (V3 (J0 (V3 (J0 J1 (J0 J1 (J0 J1 (J0 J1 J3))))) (J0 (V3 (J0 J1 (J0 J1 (J0 J1 (J0 J1 J3))))) (J0 (V3 (J0 J1 (J0 J1 (J0 J1 (J0 J1 J3))))) J3)))))
    (J6 (V9 (i:=1) Z2.nd rfl (by walk_at "o") (V3 (J0 (V3 (J0 J1 (J0 J1 (J0 (BL J1) (J0 J1 J3))))) (J0 (V3 (J0 J1 (J0 J1 (J0 (BL J1) (J0 J1 J3))))) (J0 (V3 (J0 J1 (J0 J1 (J0 (BL J1) (J0 J1 J3))))) J3)))))
    (J6 (V9 (i:=2) Z2.nd rfl (by walk_at "o") (V3 (J0 (V3 (J0 J1 (J0 J1 (J0 J1 (J0 J1 J3))))) (J0 (V3 (J0 J1 (J0 J1 (J0 J1 (J0 J1 J3))))) (J0 (V3 (J0 J1 (J0 J1 (J0 J1 (J0 J1 J3))))) J3)))))
    (J6 (SJ (i:=3) Z2.nd rfl (by walk_at "o") J3)
    (J6 (EC (Z3 4) T4 rfl (AB (by rfl) (Z8 (J0 (Z8 (J0 (jdv 0) J3)) (J0 (Z8 (J0 (jdv 0) (J0 (jdv 1) J3))) (J0 (Z8 (J0 (jdv 1) (J0 (jdv 0) J3))) (J0 (Z8 (J0 (jdv 2) J3)) (J0 (Z8 (J0 (jdv 0) (J0 (jdv 2) J3))) J3))))))) (pg_name (i:=4) Z2.nd rfl (by walk_at "o")) (J7 (EC (Z3 5) T4 rfl (AB (by rfl) (Z8 (J0 (V3 (J0 J1 (J0 J1 J3))) (J0 (V3 (J0 J1 (J0 J1 J3))) (J0 (V3 (J0 AL (J0 J1 J3))) (J0 (V3 (J0 J1 (J0 AL J3))) (J0 (V3 (J0 J1 (J0 AL J3))) (J0 (V3 (J0 J1 (J0 (BL J1) J3))) J3)))))))) (pg_name (i:=5) Z2.nd rfl (by walk_at "o")) (J7 (UY (i:=3) (by rfl) (J0 (BA (X:=(KO P w K mg base f cdv A outer s H E).nox) (Z3 0) (JJ (X:=(KO P w K mg base f cdv A outer s H E).nox) (N':=RK) (map:=[none,some 4,some 5]) (by rfl) (by rfl) (by decide +kernel) (by rfl) ⟨⟨rfl,rfl,rfl,by walk_at "o"⟩,⟨⟨rfl,rfl,rfl,by walk_at "o"⟩,True.intro⟩⟩ (gkeep_name rfl) fun cl0 C0 fp0 s0 H0=>⟨(pg_name (X:=(V2 (KO P w K mg base f cdv A outer s H E).nox RK _ cl0 C0 fp0 s0 H0)) (i:=0) (Z0 RK (by decide +kernel)) rfl (by walk_at "o")),AU,(V3 (X:=(V2 (KO P w K mg base f cdv A outer s H E).nox RK _ cl0 C0 fp0 s0 H0)) (J0 CO (J0 (jdv 1) (J0 (jdv 2) (J0 (jdv 0) J3)))))⟩) (AB (by rfl) (Z8 (J0 J1 (J0 J1 (J0 (BL J1) (J0 (BL J1) (J0 AL (J0 AL (J0 CJ J3))))))))) FP) J3) (NZ W3 PySem.F.slot_list_extend PySem.F.type_list_extend YJ (pv 3) (JA.h (J0 (BA (X:=(KO P w K mg base f cdv A outer s H E).nox) (Z3 0) (JJ (X:=(KO P w K mg base f cdv A outer s H E).nox) (N':=RK) (map:=[none,some 4,some 5]) (by rfl) (by rfl) (by decide +kernel) (by rfl) ⟨⟨rfl,rfl,rfl,by walk_at "o"⟩,⟨⟨rfl,rfl,rfl,by walk_at "o"⟩,True.intro⟩⟩ (gkeep_name rfl) fun cl0 C0 fp0 s0 H0=>⟨(pg_name (X:=(V2 (KO P w K mg base f cdv A outer s H E).nox RK _ cl0 C0 fp0 s0 H0)) (i:=0) (Z0 RK (by decide +kernel)) rfl (by walk_at "o")),AU,(V3 (X:=(V2 (KO P w K mg base f cdv A outer s H E).nox RK _ cl0 C0 fp0 s0 H0)) (J0 CO (J0 (jdv 1) (J0 (jdv 2) (J0 (jdv 0) J3)))))⟩) (AB (by rfl) (Z8 (J0 J1 (J0 J1 (J0 (BL J1) (J0 (BL J1) (J0 AL (J0 AL (J0 CJ J3))))))))) FP) J3))))) FP)) FP)
    (J7 (V0 (Q5 (CZ K (by rfl) (by rfl)) HH rfl Z.all_ HI (J0 (BA (X:=(KO P w K mg base f cdv A outer s H E).nox) (Z3 0) (JJ (X:=(KO P w K mg base f cdv A outer s H E).nox) (N':=OY) (map:=[none]) (by rfl) (by rfl) (by decide +kernel) (by rfl) True.intro (gkeep_name rfl) fun cl0 C0 fp0 s0 H0=>⟨(pg_name (X:=(V2 (KO P w K mg base f cdv A outer s H E).nox OY _ cl0 C0 fp0 s0 H0)) (i:=0) (Z0 OY (by decide +kernel)) rfl (by walk_at "o")),AU,(Q6 (X:=(V2 (KO P w K mg base f cdv A outer s H E).nox OY _ cl0 C0 fp0 s0 H0)) G._law_lets_ hr.m rfl (J0 (jdv 0) (J0 (Q6 G._law_is_right_ hr.m rfl (J0 (jdv 0) J3)) J3)))⟩) (AB (by rfl) (jdv 3))) J3))))))))),?_⟩
   walk_at "g"
   refine ⟨fun i ρ=>∃ ps v4 v5,ρ=[some YF,some J4p,some J3y,some (.own ps),v4,v5]/\(∀ d∈ps,FxP d)/\ps.length=42*i,⟨[],_,_,rfl,by simp,rfl⟩,?_,?_⟩
   · rintro i x ρ e ⟨ps,v4,v5,rfl,hps,hl⟩
     have hi:i<5:=(B6.mp e).1
     obtain ⟨fs,rfl,hf,sf⟩:=fxF x (M3 e)
     clear e
     walk_at "g"
     refine ⟨fun j ρ=>∃ ps v5,ρ=[some YF,some J4p,some J3y,some (.own ps),some (.lst fs),v5]/\(∀ d∈ps,FxP d)/\ps.length=42*i+7*j,⟨ps,_,rfl,hps,hl⟩,?_,?_⟩
     · rintro j y ρ e ⟨ps,v5,rfl,hps,hl⟩
       have hj:j<6:=(B6.mp e).1
       obtain ⟨dd,rfl,sd⟩:=fxD y (M3 e)
       clear e
       walk_at "g"
       refine DN (fun nm=>.tup [.str "dot",.lst fs,.tup dd,nm]) (fun nm Q hx hQ=>?_) (fun _ _=>rfl) ?_
       · obtain ⟨hn,_⟩:=fxN nm hx
         clear hx
         rcases hn with rfl|⟨i,rfl⟩|⟨b,rfl⟩<;>(walk_at "g";exact hQ)
       walk_at "g"
       refine And.intro (by show ps.length+7<=1000;omega) ?_
       refine ⟨_,_,rfl,fun d hd=>?_,by rw [U4,hl];show 42*i+7*j+7=_;omega⟩
       rcases T8.mp hd with h|h
       · exact hps d h
       · obtain ⟨nm,hm,rfl⟩:=B0p.mp h
         obtain ⟨hn,sn⟩:=fxN nm hm
         exact ⟨fs,dd,nm,rfl,hn,(UU sf sd sn hf).1⟩
     · rintro ρ ⟨ps,v5,rfl,hps,hl⟩
       exact ⟨ps,_,_,rfl,hps,by rw [hl];show 42*i+7*6=_;omega⟩
   · rintro ρ ⟨ps,v4,v5,rfl,hps,hl⟩
     have hl:ps.length=210:=hl
     walk_at "g"
     refine And.intro (by omega) ?_
     refine DN (fun _=>.bl true) (fun x Q hx hQ=>?_) (fun _ _=>rfl) ?_
     · obtain ⟨fs,dd,nm,rfl,hn,ppr⟩:=hps x hx
       clear hx
       rcases hn with rfl|⟨i,rfl⟩|⟨b,rfl⟩
       all_goals
        walk_at "g"
        refine ⟨_,rfl,ppr,?_⟩
        walk_at "g"
        refine ⟨_,rfl,ppr,?_⟩
        walk_at "g"
        exact hQ
     walk_at "g"
     rw [EL (fun _=>true)]
     walk_at "g"
     show PP (.bl ((ps.map fun _=>true).all id))
     rw [EM,R5.mpr fun _ _=>rfl]
     exact hP
theorem RS {ts:List T3}{px py:Int}:∀ {i j:Nat} {a b:Int},seenN ts px py i=some (j,a,b)->j<i
 | 0,j,a,b,h=>by cases h
 | i+1,j,a,b,h=>by
   have ih:=fun j a b=>@RS ts px py i j a b
   have h:(match ts[i]? with|some t=>FK px py i t (seenN ts px py i)|none=>seenN ts px py i)=some (j,a,b):=h
   split at h
   · unfold FK at h
     split at h
     · split at h
       · cases h;omega
       · rename_i e
         split at h
         · cases h;omega
         · cases h;have:=ih _ _ _ e;omega
     · have:=ih _ _ _ h;omega
   · have:=ih _ _ _ h;omega
theorem ZY {ts:List T3}{px py:Int}(hl:ts.length<=25):NG 40 (seenD (seenN ts px py ts.length))/\QO (seenN ts px py ts.length) (seenD (seenN ts px py ts.length))=true:=by
 cases e:seenN ts px py ts.length with
 | none=>exact ⟨.inl rfl,rfl⟩
 | some p =>
   obtain ⟨j,a,b⟩:=p
   have:=RS e
   exact ⟨.inr ⟨(j:Int),rfl,Bd.of (by omega) (by omega)⟩,R6 rfl⟩
theorem UI {ts:List T3}{x y:Int}{sd:D}(hf:∀ t∈ts,Fc t)(hl:ts.length<25)(hn:NG 40 sd)(he:QO (seenN ts x y ts.length) sd=true):hoB (.tup [.str "dot",.lst (ts.map T3.d),t2 x y,sd])=true:=by
 show (isS "dot" (.str "dot")&&dhB (.lst (ts.map T3.d)) (t2 x y) sd)=true
 rw [WT,RN,L0]
 have h1:(ts.map T3.d).all faB=true:=R5.mpr fun d m=>by
  obtain ⟨t,mt,rfl⟩:=B0p.mp m
  exact (hf t mt).fa
 have h2:(SE sd||whD sd)=true:=by rcases hn with rfl|⟨i,rfl,_⟩<;>rfl
 rw [h1,h2,R6 (show ts.length<=24 by omega),show QO (seenN ts (J5k (t2 x y)) (J4b (t2 x y)) ts.length) sd=true from he,show isS "dot" (.str "dot")=true by decide +kernel,show wtD 2 (t2 x y)=true from rfl]
 rfl
abbrev ZZ:Stmt:=top 87
theorem EY:FnScope ["_law_script","_law_k","_law_bag_here","_law_faces_here","_law_place","_law_dot","_law_seen_here","_law_other","_law_paper","_law_odd_here"] ["_law_script"] (J5 ZZ):=⟨rfl,rfl,rfl,by decide +kernel,rfl,by decide +kernel,by decide +kernel⟩
def PF (K:Fg):Sp:=fun vs H Q _=>∃ (a:Addr) (ns:List Int),vs=[.ref a]/\SqL K H a (ns.map V.int)/\ns.length<=63/\∀ H',Q (.bl true) H'
structure C_law (P:Program)(w:World)(K:Fg)(mg:Str->Option Value)(base:Heap)(c:Cs):Prop where
 _law_fixed_right_:Callee P w K mg base CX0 "_law_fixed_right" 9 [] (J8 K BT J7p)
 _law_bag_:Callee P w K mg base CX0 "_law_bag" 1 xl1 (RE K BT PU)
 _law_faces_:Callee P w K mg base CX0 "_law_faces" 5 OX (Z5 K BT XR)
 _law_seen_:Callee P w K mg base CX0 "_law_seen" 4 J3s (J8 K BT RG)
 _law_take_:Callee P w K mg base CX0 "_law_take" 1 xl3 (Z5 K BT HJ)
 _law_spoiled_:Callee P w K mg base CX0 "_law_spoiled" 7 XT (Z5 K BT (XJ 4))
 _law_far_right_:Callee P w K mg base CX0 "_law_far_right" 9 J7r (J8 K BT J7q)
 _law_lets_:Callee P w K mg base CX0 "_law_lets" 8 ZK (J8 K BT RH)
 _law_is_right_:Callee P w K mg base CX0 "_law_is_right" 5 OY (J8 K BT XO)
theorem J8v {w:World} {f:Addr} (F:Fun K "law" "law" ZZ f fd) (Z:Bi mg) {c:Cs} (Y:Ex K mg base c) (G:C_law P w K mg base c):FnOk P w K mg base CX0 10 f fd ["_law_script"] (PF K):=by
 refine F.okLC BT EY (fun cdv A outer s H E ns hr hlen=>?_)
 · refine ⟨_,(V5 (LO (Z3 1) T4 rfl (JG fun H0=>(IL rfl Z.range_ (J0 (Q5 (ZH (by rfl)) J7j rfl Z.max_ Q1d (J0 J1 (J0 (Q5 (ZG (by rfl)) J7j rfl Z.min_ Q1c (J0 J1 (J0 (Q5 (V4 K (by rfl)) BR rfl Z.len_ BM (J0 (jdv 0) J3)) J3))) J3))) J3))) (pg_name (i:=1) EY.nd rfl (by walk_at "o")) (V5 (J6f (i:=2) rfl EY.nd rfl (by walk_at "o") G._law_bag_ hr.m rfl (J2z fun H0=>(J0 (jdv 0) (J0 (jdv 1) J3))))
    (V5 (BB (i:=3) EY.nd rfl (by walk_at "o") (Z1 G._law_faces_ hr.m rfl (Q0 (cjv 2) Y1)))
    (Y5 (LO (Z3 4) T4 rfl (JG fun H0=>(IL rfl Z.range_ (J0 J1 J3))) (pg_name (i:=4) EY.nd rfl (by walk_at "o")) (V5 (BB (i:=5) EY.nd rfl (by walk_at "o") (XB (Q0 (FI AA Z7 (Z1 G._law_take_ hr.m rfl (Q0 (cjv 2) (Q0 (Q7 fun H0=>J1) Y1))) (Q7 fun H0=>J1)) (Q0 (FI AA Z7 (Z1 G._law_take_ hr.m rfl (Q0 (cjv 2) (Q0 (Q7 fun H0=>J1) Y1))) (Q7 fun H0=>J1)) Y1))))
    (V5 (BB (i:=6) EY.nd rfl (by walk_at "o") (Q7 fun H0=>(Q6 G._law_seen_ hr.m rfl (J0 (jdv 3) (J0 (jdv 5) J3)))))
    (V5 (BB (i:=7) EY.nd rfl (by walk_at "o") (KE (J9 K (by rfl)) Q8 (XC (Q0 (Q7 fun H0=>CJ) (Q0 (Z1 G._law_take_ hr.m rfl (Q0 (cjv 2) (Q0 (Q7 fun H0=>(Q4 BE Z7 (Q5 (V4 K (by rfl)) BR rfl Z.len_ BM (J0 (jdv 3) J3)) J1)) Y1))) Y1))) (Z1 G._law_take_ hr.m rfl (Q0 (cjv 2) (Q0 (Q7 fun H0=>J1) Y1))) (fun _ _=>rfl)))
    (V5 (LO (Z3 8) T4 rfl (JG fun H0=>(AB (by rfl) (Z8 (J0 (V3 (J0 CO (J0 (jdv 3) (J0 (jdv 5) (J0 (jdv 6) J3))))) (J0 (V3 (J0 CO (J0 (jdv 3) (J0 (jdv 5) (J0 (jdv 7) J3))))) J3))))) (pg_name (i:=8) EY.nd rfl (by walk_at "o")) (V5 (EA (BO fun H0=>(AJ (V8 (by rfl) (Q6 G._law_lets_ hr.m rfl (J0 (jdv 8) (J0 (Q6 G._law_is_right_ hr.m rfl (J0 (jdv 8) J3)) J3))) (fun _=>rfl)))) (Y5 (CQ (Q7 fun H0=>AL))) EK)
    (V5 (BB (i:=9) EY.nd rfl (by walk_at "o") (Z1 G._law_spoiled_ hr.m rfl (Q0 (cjv 2) (Q0 (Q7 fun H0=>(jdv 8)) (Q0 (Q7 fun H0=>J1) Y1)))))
    (Y5 (EA (BO fun H0=>(AJ (V8 (by rfl) (Q6 G._law_lets_ hr.m rfl (J0 (jdv 9) (J0 (Q6 G._law_is_right_ hr.m rfl (J0 (jdv 9) J3)) J3))) (fun _=>rfl)))) (Y5 (CQ (Q7 fun H0=>AL))) EK)))) FP)
    (V5 (EA (BO fun H0=>(GI (Y0 KM EH (Q5 (V4 K (by rfl)) BR rfl Z.len_ BM (J0 (jdv 3) J3)) J1 (V1 _)) (EI (AJ (V8 (by rfl) (Q6 G._law_is_right_ hr.m rfl (J0 (V3 (J0 CO (J0 (jdv 3) (J0 (jdv 5) (J0 (jdv 6) J3))))) J3)) (fun _=>rfl)))))) (Y5 (CQ (Q7 fun H0=>AL))) EK)
    (Y5 (EA (BO fun H0=>(AJ (V8 (by rfl) (Q6 G._law_far_right_ hr.m rfl (J0 (jdv 3) (J0 (jdv 5) (J0 (Z8 (J0 (jdv 6) (J0 (jdv 7) J3))) J3)))) (fun _=>rfl)))) (Y5 (CQ (Q7 fun H0=>AL))) EK))))))))))))
    (Y5 (CQ (Q7 fun H0=>(J1q G._law_fixed_right_ hr.m rfl))))),?_⟩
   walk_at "g"
   have n3:∀ m:Int,((fun i j=>if j>i then j else i) 1 ((fun i j=>if j<i then j else i) 3 m):Int)<=3:=by intro m;dsimp only;split<;>split<;>omega
   have n0:∀ m:Int,1<=((fun i j=>if j>i then j else i) 1 ((fun i j=>if j<i then j else i) 3 m):Int):=by intro m;dsimp only;split<;>split<;>omega
   replace n3:=n3 ns.length
   replace n0:=n0 ns.length
   refine And.intro ⟨by omega,by omega⟩ ?_
   refine ⟨fun i ρ _=>∃ v1 v2 v3 v4 v5 v6 v7 v8 v9,ρ=[some (.scr ns),v1,v2,v3,v4,v5,v6,v7,v8,v9],⟨_,_,_,_,_,_,_,_,_,rfl⟩,?_,?_⟩
   · rintro i x ρ n' e ⟨v1,v2,v3,v4,v5,v6,v7,v8,v9,rfl⟩
     obtain ⟨rfl,hi⟩:=II e
     have hi6:i<10:=by omega
     clear e n3 n0
     walk_at "g"
     refine And.intro ⟨ns,i,(by rw [Int.zero_add]<;>rfl),by omega⟩ ?_
     walk_at "g"
     intro ts n1 hts hl h1
     have ok260:∀ t∈ts,t.ok 260/\t.pos:=fun t m=>⟨(hts t m).ok.mono (by decide),(hts t m).pos⟩
     have ok250:∀ t∈ts,t.ok 250:=fun t m=>(hts t m).ok.mono (by decide)
     have ok60:∀ t∈ts,t.ok 60:=fun t m=>(hts t m).ok.mono (by decide)
     have ok40:∀ t∈ts,t.ok 40:=fun t m=>(hts t m).ok
     walk_at "g"
     refine ⟨fun j ρ n'=>∃ v1 v4 v5 v6 v7 v8 v9,ρ=[some (.scr ns),v1,some .bag,some (.lst (ts.map T3.d)),v4,v5,v6,v7,v8,v9]/\n'<=n1+40*j,⟨_,_,_,_,_,_,_,rfl,by omega⟩,?_,?_⟩
     · rintro j x ρ n2 e ⟨v1,v4,v5,v6,v7,v8,v9,rfl,h2⟩
       obtain ⟨rfl,hj⟩:=II e
       have hj:j<4:=hj
       clear e
       walk_at "g"
       refine ⟨20,rfl,by omega,by decide,by decide,fun a n3 a0 a1 h3=>?_⟩
       walk_at "g"
       refine ⟨20,rfl,by omega,by decide,by decide,fun b n4 b0 b1 h4=>?_⟩
       have a1:a<20:=a1
       have b1:b<20:=b1
       have bx:Bd 40 (a - 2):=Bd.of (by omega) (by omega)
       have by':Bd 40 (b - 2):=Bd.of (by omega) (by omega)
       walk_at "g"
       refine ⟨ts,_,_,rfl,ok260,by omega,bx.mono (by decide),by'.mono (by decide),?_⟩
       obtain ⟨sn,se⟩:=ZY (px:=a - 2) (py:=b - 2) hl
       generalize a - 2=px at *
       generalize b - 2=py at *
       generalize seenD (seenN ts px py ts.length)=sd at *
       have fin:∀ nm,NG 40 nm->Ppr (.tup [.str "dot",.lst (ts.map T3.d),t2 px py,nm])/\wD (.tup [.str "dot",.lst (ts.map T3.d),t2 px py,nm])<=2500000/\Th 28 EN 4 (.tup [.str "dot",.lst (ts.map T3.d),t2 px py,nm]):=fun nm hn=>by
        have h60:NG 60 nm:=hn.imp id fun ⟨i,e,h⟩=>⟨i,e,h.mono (by decide)⟩
        have h250:NG 250 nm:=hn.imp id fun ⟨i,e,h⟩=>⟨i,e,h.mono (by decide)⟩
        have:=UU (Q2c ok250 hl) (sz2 (bx.mono (by decide)) (by'.mono (by decide))) (szN h250) (by rw [L0];omega)
        exact ⟨this.1,this.2,thP ok60 hl (bx.mono (by decide)) (by'.mono (by decide)) h60⟩
       have sp:=fin sd sn
       have rt:=fun h=>UI (x:=px) (y:=py) hts h sn se
       clear se
       have sn':=sn
       rcases sn' with e|⟨si,e,_⟩
       · subst e
         walk_at "g"
         refine ⟨(ts.length:Int)+1,by rw [L0],by omega,by omega,by omega,fun r n5 r0 r1 h5=>?_⟩
         walk_at "g"
         refine ⟨2,rfl,by omega,by decide,by decide,fun q n6 q0 q1 h6=>?_⟩
         walk_at "g"
         refine ixm q0 (by exact q1) fun od mo=>?_
         have on:NG 40 od:=by
          simp only [B4,B8,R3] at mo
          rcases mo with rfl|rfl
          · exact .inl rfl
          · exact .inr ⟨_,rfl,Bd.of (by omega) (by omega)⟩
         have op:=fin od on
         clear fin mo
         have on':=on
         rcases on' with e|⟨oi,e,_⟩
         · subst e
           walk_at "g"
           refine ⟨fun k ρ n'=>∃ v1 v4 v8 v9,ρ=[some (.scr ns),v1,some .bag,some (.lst (ts.map T3.d)),v4,some (t2 px py),some (.non),some (.non),v8,v9]/\n'<=n6+15*k,⟨_,_,_,_,rfl,by omega⟩,?_,?_⟩
           · rintro k x ρ n7 e ⟨v1,v4,v8,v9,rfl,h7⟩
             have hk:k<2:=(B6.mp e).1
             obtain ⟨xs,ex,px_,wx,tx⟩:∃ xs,x=.tup xs/\Ppr x/\wD x<=2500000/\Th 28 EN 4 x:=by
              have m:=M3 e
              simp only [B4,B8,R3] at m
              rcases m with rfl|rfl
              · exact ⟨_,rfl,sp⟩
              · exact ⟨_,rfl,op⟩
             subst ex
             clear e
             walk_at "g"
             refine ⟨_,rfl,px_,?_⟩
             walk_at "g"
             refine ⟨_,rfl,px_,?_⟩
             walk_at "g"
             refine ⟨_,rfl,tx,by omega,fun y n8 ty _ wy h8=>?_⟩
             have py_:=LG wx ty wy
             have ok:=py_.ok
             clear ty wy
             cases y<;>(try (simp [Y8] at ok;done))
             all_goals
              walk_at "g"
              refine ⟨_,rfl,py_,?_⟩
              walk_at "g"
              refine ⟨_,rfl,py_,?_⟩
              walk_at "g"
              exact ⟨_,_,_,_,rfl,by omega⟩
           · rintro ρ n7 ⟨v1,v4,v8,v9,rfl,h7⟩
             have h7:n7<=n6+15*2:=h7
             walk_at "g"
             by_cases h25:ts.length<25
             case' pos =>
              have rt:=rt h25
              refine IfP.t (by rw [L0];simp;omega) ?_
              walk_at "g"
              refine ⟨_,rfl,sp.1,?_⟩
              rw [rt]
             case' neg=>refine IfP.f (by rw [L0];simp;omega) ?_
             all_goals
              walk_at "g"
              refine ⟨ts,px,py,[.non,.non],rfl,ok40,hl,⟨bx,by'⟩,fun n m=>?_,?_⟩
              · simp only [B4,B8,R3] at m
                rcases m with rfl|rfl
                · exact sn
                · exact on
              walk_at "g"
              exact ⟨_,_,_,_,_,_,_,rfl,by omega⟩
         · subst e
           walk_at "g"
           refine ⟨fun k ρ n'=>∃ v1 v4 v8 v9,ρ=[some (.scr ns),v1,some .bag,some (.lst (ts.map T3.d)),v4,some (t2 px py),some (.non),some (.int oi),v8,v9]/\n'<=n6+15*k,⟨_,_,_,_,rfl,by omega⟩,?_,?_⟩
           · rintro k x ρ n7 e ⟨v1,v4,v8,v9,rfl,h7⟩
             have hk:k<2:=(B6.mp e).1
             obtain ⟨xs,ex,px_,wx,tx⟩:∃ xs,x=.tup xs/\Ppr x/\wD x<=2500000/\Th 28 EN 4 x:=by
              have m:=M3 e
              simp only [B4,B8,R3] at m
              rcases m with rfl|rfl
              · exact ⟨_,rfl,sp⟩
              · exact ⟨_,rfl,op⟩
             subst ex
             clear e
             walk_at "g"
             refine ⟨_,rfl,px_,?_⟩
             walk_at "g"
             refine ⟨_,rfl,px_,?_⟩
             walk_at "g"
             refine ⟨_,rfl,tx,by omega,fun y n8 ty _ wy h8=>?_⟩
             have py_:=LG wx ty wy
             have ok:=py_.ok
             clear ty wy
             cases y<;>(try (simp [Y8] at ok;done))
             all_goals
              walk_at "g"
              refine ⟨_,rfl,py_,?_⟩
              walk_at "g"
              refine ⟨_,rfl,py_,?_⟩
              walk_at "g"
              exact ⟨_,_,_,_,rfl,by omega⟩
           · rintro ρ n7 ⟨v1,v4,v8,v9,rfl,h7⟩
             have h7:n7<=n6+15*2:=h7
             walk_at "g"
             by_cases h25:ts.length<25
             case' pos =>
              have rt:=rt h25
              refine IfP.t (by rw [L0];simp;omega) ?_
              walk_at "g"
              refine ⟨_,rfl,sp.1,?_⟩
              rw [rt]
             case' neg=>refine IfP.f (by rw [L0];simp;omega) ?_
             all_goals
              walk_at "g"
              refine ⟨ts,px,py,[.non,.int oi],rfl,ok40,hl,⟨bx,by'⟩,fun n m=>?_,?_⟩
              · simp only [B4,B8,R3] at m
                rcases m with rfl|rfl
                · exact sn
                · exact on
              walk_at "g"
              exact ⟨_,_,_,_,_,_,_,rfl,by omega⟩
       · subst e
         walk_at "g"
         refine ⟨(ts.length:Int)+1,by rw [L0],by omega,by omega,by omega,fun r n5 r0 r1 h5=>?_⟩
         walk_at "g"
         refine ⟨2,rfl,by omega,by decide,by decide,fun q n6 q0 q1 h6=>?_⟩
         walk_at "g"
         refine ixm q0 (by exact q1) fun od mo=>?_
         have on:NG 40 od:=by
          simp only [B4,B8,R3] at mo
          rcases mo with rfl|rfl
          · exact .inl rfl
          · exact .inr ⟨_,rfl,Bd.of (by omega) (by omega)⟩
         have op:=fin od on
         clear fin mo
         have on':=on
         rcases on' with e|⟨oi,e,_⟩
         · subst e
           walk_at "g"
           refine ⟨fun k ρ n'=>∃ v1 v4 v8 v9,ρ=[some (.scr ns),v1,some .bag,some (.lst (ts.map T3.d)),v4,some (t2 px py),some (.int si),some (.non),v8,v9]/\n'<=n6+15*k,⟨_,_,_,_,rfl,by omega⟩,?_,?_⟩
           · rintro k x ρ n7 e ⟨v1,v4,v8,v9,rfl,h7⟩
             have hk:k<2:=(B6.mp e).1
             obtain ⟨xs,ex,px_,wx,tx⟩:∃ xs,x=.tup xs/\Ppr x/\wD x<=2500000/\Th 28 EN 4 x:=by
              have m:=M3 e
              simp only [B4,B8,R3] at m
              rcases m with rfl|rfl
              · exact ⟨_,rfl,sp⟩
              · exact ⟨_,rfl,op⟩
             subst ex
             clear e
             walk_at "g"
             refine ⟨_,rfl,px_,?_⟩
             walk_at "g"
             refine ⟨_,rfl,px_,?_⟩
             walk_at "g"
             refine ⟨_,rfl,tx,by omega,fun y n8 ty _ wy h8=>?_⟩
             have py_:=LG wx ty wy
             have ok:=py_.ok
             clear ty wy
             cases y<;>(try (simp [Y8] at ok;done))
             all_goals
              walk_at "g"
              refine ⟨_,rfl,py_,?_⟩
              walk_at "g"
              refine ⟨_,rfl,py_,?_⟩
              walk_at "g"
              exact ⟨_,_,_,_,rfl,by omega⟩
           · rintro ρ n7 ⟨v1,v4,v8,v9,rfl,h7⟩
             have h7:n7<=n6+15*2:=h7
             walk_at "g"
             by_cases h25:ts.length<25
             case' pos =>
              have rt:=rt h25
              refine IfP.t (by rw [L0];simp;omega) ?_
              walk_at "g"
              refine ⟨_,rfl,sp.1,?_⟩
              rw [rt]
             case' neg=>refine IfP.f (by rw [L0];simp;omega) ?_
             all_goals
              walk_at "g"
              refine ⟨ts,px,py,[.int si,.non],rfl,ok40,hl,⟨bx,by'⟩,fun n m=>?_,?_⟩
              · simp only [B4,B8,R3] at m
                rcases m with rfl|rfl
                · exact sn
                · exact on
              walk_at "g"
              exact ⟨_,_,_,_,_,_,_,rfl,by omega⟩
         · subst e
           walk_at "g"
           refine ⟨fun k ρ n'=>∃ v1 v4 v8 v9,ρ=[some (.scr ns),v1,some .bag,some (.lst (ts.map T3.d)),v4,some (t2 px py),some (.int si),some (.int oi),v8,v9]/\n'<=n6+15*k,⟨_,_,_,_,rfl,by omega⟩,?_,?_⟩
           · rintro k x ρ n7 e ⟨v1,v4,v8,v9,rfl,h7⟩
             have hk:k<2:=(B6.mp e).1
             obtain ⟨xs,ex,px_,wx,tx⟩:∃ xs,x=.tup xs/\Ppr x/\wD x<=2500000/\Th 28 EN 4 x:=by
              have m:=M3 e
              simp only [B4,B8,R3] at m
              rcases m with rfl|rfl
              · exact ⟨_,rfl,sp⟩
              · exact ⟨_,rfl,op⟩
             subst ex
             clear e
             walk_at "g"
             refine ⟨_,rfl,px_,?_⟩
             walk_at "g"
             refine ⟨_,rfl,px_,?_⟩
             walk_at "g"
             refine ⟨_,rfl,tx,by omega,fun y n8 ty _ wy h8=>?_⟩
             have py_:=LG wx ty wy
             have ok:=py_.ok
             clear ty wy
             cases y<;>(try (simp [Y8] at ok;done))
             all_goals
              walk_at "g"
              refine ⟨_,rfl,py_,?_⟩
              walk_at "g"
              refine ⟨_,rfl,py_,?_⟩
              walk_at "g"
              exact ⟨_,_,_,_,rfl,by omega⟩
           · rintro ρ n7 ⟨v1,v4,v8,v9,rfl,h7⟩
             have h7:n7<=n6+15*2:=h7
             walk_at "g"
             by_cases h25:ts.length<25
             case' pos =>
              have rt:=rt h25
              refine IfP.t (by rw [L0];simp;omega) ?_
              walk_at "g"
              refine ⟨_,rfl,sp.1,?_⟩
              rw [rt]
             case' neg=>refine IfP.f (by rw [L0];simp;omega) ?_
             all_goals
              walk_at "g"
              refine ⟨ts,px,py,[.int si,.int oi],rfl,ok40,hl,⟨bx,by'⟩,fun n m=>?_,?_⟩
              · simp only [B4,B8,R3] at m
                rcases m with rfl|rfl
                · exact sn
                · exact on
              walk_at "g"
              exact ⟨_,_,_,_,_,_,_,rfl,by omega⟩
     · rintro ρ n2 ⟨v1,v4,v5,v6,v7,v8,v9,rfl,h2⟩
       exact ⟨_,_,_,_,_,_,_,_,_,rfl⟩
   · rintro ρ n' ⟨v1,v2,v3,v4,v5,v6,v7,v8,v9,rfl⟩
     clear n0 n3
     walk_at "g"
end K
namespace K
open PySem L2
structure FnIn (K:Fg)(x:Str)(st:Stmt):Prop where
 ex:∃ (f:Addr) (fd:FuncData),PySem.W.nsIn K mainGlobals x=some (some (.ref f))/\Fun K x x st f fd
theorem fn_in {x:Str}{st:Stmt}{f:Addr}{oc:Value}{od an:Option Addr}{osl:Array (Option Value)}{kV doc pm cdv ct:Value}(a:PySem.W.nsIn K mainGlobals x=some (some (.ref f)))(l:K.lookup f=some ⟨oc,od,.func (PySem.W.fnOf x x (JF st) (CP st) (J5 st) .none kV doc pm an cdv ct),osl⟩)(c:PySem.W.codeIn K cdv x=true)(k:PySem.W.keepIn K (.ref f)=true):FnIn K x st:=⟨⟨_,_,a,J9o l c k⟩⟩
local macro_rules | `(tactic| walk_at "b0") => `(tactic| exact fun _ _ _ _ _ _ us hl => match us,hl with | [],_ => rfl)
local macro_rules | `(tactic| walk_at "b1") => `(tactic| exact fun _ _ _ _ _ _ us hl => match us,hl with | [_],_ => rfl)
local macro_rules | `(tactic| walk_at "b2") => `(tactic| exact fun _ _ _ _ _ _ us hl => match us,hl with | [_,_],_ => rfl)
local macro_rules | `(tactic| walk_at "b3") => `(tactic| exact fun _ _ _ _ _ _ us hl => match us,hl with | [_,_,_],_ => rfl)
theorem Q1f {l:PySem.W.OpenLaw}{w:World} {h:Heap} {fa:Addr}(X:K.In h)(G:h.Ns mainGlobals mg)(hfa:mg "law" = some (.ref fa))
 (h0:FnIn K "determinant" FA)
 (h1:FnIn K "on_board" IE)
 (h2:FnIn K "side_number" EZ)
 (h3:FnIn K "sign" UG)
 (h4:FnIn K "growth" ME)
 (h5:FnIn K "shifted_side" EE)
 (h6:FnIn K "has_dot" JQ)
 (h7:FnIn K "turn" UF)
 (h8:FnIn K "products_added" CF)
 (h9:FnIn K "weights" JL)
 (h10:FnIn K "unreduced_depth" BS)
 (h11:FnIn K "is_less" JP)
 (h12:FnIn K "seen_at" JM)
 (h13:FnIn K "is_whole" IF)
 (h14:FnIn K "is_whole_tuple" CG)
 (h15:FnIn K "common_divisor" CH)
 (h16:FnIn K "lowest_terms" DF)
 (h17:FnIn K "is_spot" JN)
 (h18:FnIn K "are_faces" ET)
 (h19:FnIn K "dot_holds" GR)
 (h20:FnIn K "holds" PN)
 (h21:FnIn K "_law_lets" GV)
 (h22:FnIn K "_law_lean" GW)
 (h23:FnIn K "_law_shifted" EF)
 (h24:FnIn K "_law_has" IH)
 (h25:FnIn K "_law_turn" GS)
 (h26:FnIn K "_law_leans" FW)
 (h27:FnIn K "_law_depth" FY)
 (h28:FnIn K "_law_nearer" FD)
 (h29:FnIn K "_law_seen" GU)
 (h30:FnIn K "_law_whole" FV)
 (h31:FnIn K "_law_shared" FC)
 (h32:FnIn K "_law_is_spot" DH)
 (h33:FnIn K "_law_is_face" DI)
 (h34:FnIn K "_law_is_right" CN)
 (h35:FnIn K "_law_fixed_right" BK)
 (h36:FnIn K "_law_bag" FZ)
 (h37:FnIn K "_law_take" CW)
 (h38:FnIn K "_law_spot" GT)
 (h39:FnIn K "_law_corner" FE)
 (h40:FnIn K "_law_face" EU)
 (h41:FnIn K "_law_faces" FX)
 (h42:FnIn K "_law_odd" IG)
 (h43:FnIn K "_law_spoiled" DG)
 (h44:FnIn K "_law_far_right" CI)
 (h45:FnIn K "law" ZZ)
 (z_abs:PySem.W.nsIn K mainGlobals "abs" = some none)
 (z_len:PySem.W.nsIn K mainGlobals "len" = some none)
 (z_max:PySem.W.nsIn K mainGlobals "max" = some none)
 (z_min:PySem.W.nsIn K mainGlobals "min" = some none)
 (z_range:PySem.W.nsIn K mainGlobals "range" = some none)
 (z_isinstance:PySem.W.nsIn K mainGlobals "isinstance" = some none)
 (z_int:PySem.W.nsIn K mainGlobals "int" = some none)
 (z_bool:PySem.W.nsIn K mainGlobals "bool" = some none)
 (z_tuple:PySem.W.nsIn K mainGlobals "tuple" = some none)
 (z_all:PySem.W.nsIn K mainGlobals "all" = some none)
 (z_list:PySem.W.nsIn K mainGlobals "list" = some none)
 (z_zip:PySem.W.nsIn K mainGlobals "zip" = some none)
 (z_sum:PySem.W.nsIn K mainGlobals "sum" = some none)
 (z_enumerate:PySem.W.nsIn K mainGlobals "enumerate" = some none)
 (z_repr:PySem.W.nsIn K mainGlobals "repr" = some none)
 (z_str:PySem.W.nsIn K mainGlobals "str" = some none)
 {t_LONGEST:Tok} (z_LONGEST:PySem.W.nsIn K mainGlobals "LONGEST" = some (some (.int 16 t_LONGEST)))
 {t_MOST:Tok} (z_MOST:PySem.W.nsIn K mainGlobals "MOST" = some (some (.int 24 t_MOST)))
 {t_GREATEST_COORDINATE:Tok} (z_GREATEST_COORDINATE:PySem.W.nsIn K mainGlobals "GREATEST_COORDINATE" = some (some (.int 999999 t_GREATEST_COORDINATE)))
 {c_ShadeError:Addr} (e_ShadeError:PySem.W.nsIn K mainGlobals "ShadeError" = some (some (.ref c_ShadeError)))
 {c_NoBody:Addr} (e_NoBody:PySem.W.nsIn K mainGlobals "NoBody" = some (some (.ref c_NoBody)))
 {c_NoFlat:Addr} (e_NoFlat:PySem.W.nsIn K mainGlobals "NoFlat" = some (some (.ref c_NoFlat)))
 {c_NoFace:Addr} (e_NoFace:PySem.W.nsIn K mainGlobals "NoFace" = some (some (.ref c_NoFace)))
 {c_NoBoard:Addr} (e_NoBoard:PySem.W.nsIn K mainGlobals "NoBoard" = some (some (.ref c_NoBoard)))
 (q_NoFace:PySem.W.excIn K c_NoFace bmV "ValueError.__new__" = true) (x1_NoFace:PySem.W.findIn K (.ref c_NoFace) "__getattribute__" = some (some (.builtin "BaseException.__getattribute__"))) (x5_NoFace:PySem.W.findIn K (.ref c_NoFace) "__getattr__" = some none) (x6_NoFace:PySem.W.subIn K (.ref c_NoFace) (.type "BaseException")=some true) (x2_NoFace:PySem.W.findObj K c_NoFace none "__class__" = some (.bind (.builtin "getset_descriptor.__get__") (.builtin "object.__class__"))) (x3_NoFace:PySem.W.mroIn K c_NoFace (.type "object")=some true) (x4_NoFace:(PySem.W.clsIn K c_NoFace).isSome=true) (v_NoFace:PySem.W.subIn K (.ref c_NoFace) (.type "ValueError")=some true) (s_NoFace:PySem.W.subIn K (.ref c_NoFace) (.ref c_ShadeError)=some true)
 (n_NoFace_NoBody:PySem.W.kin_not K c_NoFace c_NoBody=true)
 (n_NoFace_NoFlat:PySem.W.kin_not K c_NoFace c_NoFlat=true)
 (n_NoFace_NoBoard:PySem.W.kin_not K c_NoFace c_NoBoard=true)
 (xb1:(PySem.W.clsIn K c_ShadeError).isSome=true) (xb2:PySem.W.typeIn K (.ref c_ShadeError)=some (.type "type")) (xb3:PySem.W.subIn K (.ref c_ShadeError) (.type "BaseException")=some true)
 : ∃ fd:FuncData,(∀ (s:Shared) (v:Value),BindsTo s fd ⟨[v],[]⟩ [("_law_script",v)])/\∀ base:Heap,K.In base->base.Ns mainGlobals mg->FnOk l.prog w K mg base CX0 10 fa fd ["_law_script"] (PF K):=by
 obtain ⟨f0,d0,a0,F0⟩:=h0.ex
 obtain ⟨f1,d1,a1,F1⟩:=h1.ex
 obtain ⟨f2,d2,a2,F2⟩:=h2.ex
 obtain ⟨f3,d3,a3,F3⟩:=h3.ex
 obtain ⟨f4,d4,a4,F4⟩:=h4.ex
 obtain ⟨f5,d5,a5,F5⟩:=h5.ex
 obtain ⟨f6,d6,a6,F6⟩:=h6.ex
 obtain ⟨f7,d7,a7,F7⟩:=h7.ex
 obtain ⟨f8,d8,a8,F8⟩:=h8.ex
 obtain ⟨f9,d9,a9,F9⟩:=h9.ex
 obtain ⟨f10,d10,a10,F10⟩:=h10.ex
 obtain ⟨f11,d11,a11,F11⟩:=h11.ex
 obtain ⟨f12,d12,a12,F12⟩:=h12.ex
 obtain ⟨f13,d13,a13,F13⟩:=h13.ex
 obtain ⟨f14,d14,a14,F14⟩:=h14.ex
 obtain ⟨f15,d15,a15,F15⟩:=h15.ex
 obtain ⟨f16,d16,a16,F16⟩:=h16.ex
 obtain ⟨f17,d17,a17,F17⟩:=h17.ex
 obtain ⟨f18,d18,a18,F18⟩:=h18.ex
 obtain ⟨f19,d19,a19,F19⟩:=h19.ex
 obtain ⟨f20,d20,a20,F20⟩:=h20.ex
 obtain ⟨f21,d21,a21,F21⟩:=h21.ex
 obtain ⟨f22,d22,a22,F22⟩:=h22.ex
 obtain ⟨f23,d23,a23,F23⟩:=h23.ex
 obtain ⟨f24,d24,a24,F24⟩:=h24.ex
 obtain ⟨f25,d25,a25,F25⟩:=h25.ex
 obtain ⟨f26,d26,a26,F26⟩:=h26.ex
 obtain ⟨f27,d27,a27,F27⟩:=h27.ex
 obtain ⟨f28,d28,a28,F28⟩:=h28.ex
 obtain ⟨f29,d29,a29,F29⟩:=h29.ex
 obtain ⟨f30,d30,a30,F30⟩:=h30.ex
 obtain ⟨f31,d31,a31,F31⟩:=h31.ex
 obtain ⟨f32,d32,a32,F32⟩:=h32.ex
 obtain ⟨f33,d33,a33,F33⟩:=h33.ex
 obtain ⟨f34,d34,a34,F34⟩:=h34.ex
 obtain ⟨f35,d35,a35,F35⟩:=h35.ex
 obtain ⟨f36,d36,a36,F36⟩:=h36.ex
 obtain ⟨f37,d37,a37,F37⟩:=h37.ex
 obtain ⟨f38,d38,a38,F38⟩:=h38.ex
 obtain ⟨f39,d39,a39,F39⟩:=h39.ex
 obtain ⟨f40,d40,a40,F40⟩:=h40.ex
 obtain ⟨f41,d41,a41,F41⟩:=h41.ex
 obtain ⟨f42,d42,a42,F42⟩:=h42.ex
 obtain ⟨f43,d43,a43,F43⟩:=h43.ex
 obtain ⟨f44,d44,a44,F44⟩:=h44.ex
 obtain ⟨f45,d45,a45,F45⟩:=h45.ex
 have e:=hfa.symm.trans (B3 X G a45)
 cases e
 have Z:Bi mg:=⟨M8 X G z_abs,M8 X G z_len,M8 X G z_max,M8 X G z_min,M8 X G z_range,M8 X G z_isinstance,M8 X G z_int,M8 X G z_bool,M8 X G z_tuple,M8 X G z_all,M8 X G z_list,M8 X G z_zip,M8 X G z_sum,M8 X G z_enumerate,M8 X G z_repr,M8 X G z_str,⟨_,B3 X G z_LONGEST⟩,⟨_,B3 X G z_MOST⟩,⟨_,B3 X G z_GREATEST_COORDINATE⟩⟩
 have bl:=F45.binds (ps:=["_law_script"]) fun _ _ _ _ _ _ us hl=>match us,hl with | [_],_=>rfl
 obtain ⟨oc,od,kV,doc,pm,an,cdv,ct,osl,el,lk,hcd⟩:=F45.ex
 refine ⟨d45,fun s v=>by rw [el];exact .of_eq rfl,fun base kb gb=>?_⟩
 have Y:Ex K mg base ⟨c_ShadeError,c_NoBody,c_NoFlat,c_NoFace,c_NoBoard⟩:=⟨B3 X G e_ShadeError,B3 X G e_NoBody,B3 X G e_NoFlat,B3 X G e_NoFace,B3 X G e_NoBoard,Q2i kb gb e_NoFace q_NoFace,⟨x1_NoFace,x5_NoFace,x2_NoFace,x3_NoFace,x4_NoFace,x6_NoFace⟩,v_NoFace,s_NoFace,n_NoFace_NoBody,n_NoFace_NoFlat,n_NoFace_NoBoard,⟨xb1,xb2,xb3⟩⟩
 have G0:=Callee.mk' F0 (MK (P:=l.prog) (w:=w) (base:=base) F0 Z Y) (B3 X G a0) (F0.binds (by walk_at "b3"))
 have G1:=Callee.mk' F1 (RY (P:=l.prog) (w:=w) (base:=base) F1 Z Y) (B3 X G a1) (F1.binds (by walk_at "b1"))
 have G2:=Callee.mk' F2 (MJ (P:=l.prog) (w:=w) (base:=base) F2 Z Y ⟨G0,G1⟩) (B3 X G a2) (F2.binds (by walk_at "b3"))
 have G3:=Callee.mk' F3 (J4s (P:=l.prog) (w:=w) (base:=base) F3 Z Y) (B3 X G a3) (F3.binds (by walk_at "b1"))
 have G4:=Callee.mk' F4 (YG (P:=l.prog) (w:=w) (base:=base) F4 Z Y) (B3 X G a4) (F4.binds (by walk_at "b2"))
 have G5:=Callee.mk' F5 (KS (P:=l.prog) (w:=w) (base:=base) F5 Z Y ⟨G2,G3,G4⟩) (B3 X G a5) (F5.binds (by walk_at "b3"))
 have G6:=Callee.mk' F6 (US (P:=l.prog) (w:=w) (base:=base) F6 Z Y ⟨G5⟩) (B3 X G a6) (F6.binds (by walk_at "b2"))
 have G7:=Callee.mk' F7 (J4r (P:=l.prog) (w:=w) (base:=base) F7 Z Y ⟨G0,G1⟩) (B3 X G a7) (F7.binds (by walk_at "b1"))
 have G8:=Callee.mk' F8 (IY (P:=l.prog) (w:=w) (base:=base) F8 Z Y) (B3 X G a8) (F8.binds (by walk_at "b2"))
 have G9:=Callee.mk' F9 (UO (P:=l.prog) (w:=w) (base:=base) F9 Z Y ⟨G2⟩) (B3 X G a9) (F9.binds (by walk_at "b2"))
 have G10:=Callee.mk' F10 (IJ (P:=l.prog) (w:=w) (base:=base) F10 Z Y ⟨G7,G8,G9,G3⟩) (B3 X G a10) (F10.binds (by walk_at "b2"))
 have G11:=Callee.mk' F11 (UR (P:=l.prog) (w:=w) (base:=base) F11 Z Y) (B3 X G a11) (F11.binds (by walk_at "b2"))
 have G12:=Callee.mk' F12 (UP (P:=l.prog) (w:=w) (base:=base) F12 Z Y ⟨G6,G10,G11⟩) (B3 X G a12) (F12.binds (by walk_at "b2"))
 have G13:=Callee.mk' F13 (RZ (P:=l.prog) (w:=w) (base:=base) F13 Z Y) (B3 X G a13) (F13.binds (by walk_at "b1"))
 have G14:=Callee.mk' F14 (IZ (P:=l.prog) (w:=w) (base:=base) F14 Z Y ⟨G13⟩) (B3 X G a14) (F14.binds (by walk_at "b2"))
 have G15:=Callee.mk' F15 (JB (P:=l.prog) (w:=w) (base:=base) F15 Z Y) (B3 X G a15) (F15.binds (by walk_at "b2"))
 have G16:=Callee.mk' F16 (KU (P:=l.prog) (w:=w) (base:=base) F16 Z Y ⟨G15⟩) (B3 X G a16) (F16.binds (by walk_at "b1"))
 have G17:=Callee.mk' F17 (UQ (P:=l.prog) (w:=w) (base:=base) F17 Z Y ⟨G14,G16⟩) (B3 X G a17) (F17.binds (by walk_at "b1"))
 have G18:=Callee.mk' F18 (PY (P:=l.prog) (w:=w) (base:=base) F18 Z Y ⟨G17⟩) (B3 X G a18) (F18.binds (by walk_at "b1"))
 have G19:=Callee.mk' F19 (PX (P:=l.prog) (w:=w) (base:=base) F19 Z Y ⟨G12,G18,G14,G13⟩) (B3 X G a19) (F19.binds (by walk_at "b3"))
 have G20:=Callee.mk' F20 (J0w (P:=l.prog) (w:=w) (base:=base) F20 Z Y ⟨G19⟩) (B3 X G a20) (F20.binds (by walk_at "b1"))
 have G21:=Callee.mk' F21 (QD (P:=l.prog) (w:=w) (base:=base) F21 Z Y ⟨G20⟩) (B3 X G a21) (F21.binds (by walk_at "b2"))
 have G22:=Callee.mk' F22 (QE (P:=l.prog) (w:=w) (base:=base) F22 Z Y) (B3 X G a22) (F22.binds (by walk_at "b3"))
 have G23:=Callee.mk' F23 (KW (P:=l.prog) (w:=w) (base:=base) F23 Z Y ⟨G22⟩) (B3 X G a23) (F23.binds (by walk_at "b3"))
 have G24:=Callee.mk' F24 (SB (P:=l.prog) (w:=w) (base:=base) F24 Z Y ⟨G23⟩) (B3 X G a24) (F24.binds (by walk_at "b2"))
 have G25:=Callee.mk' F25 (PZ (P:=l.prog) (w:=w) (base:=base) F25 Z Y) (B3 X G a25) (F25.binds (by walk_at "b1"))
 have G26:=Callee.mk' F26 (NL (P:=l.prog) (w:=w) (base:=base) F26 Z Y ⟨G22⟩) (B3 X G a26) (F26.binds (by walk_at "b2"))
 have G27:=Callee.mk' F27 (NO (P:=l.prog) (w:=w) (base:=base) F27 Z Y ⟨G25,G26⟩) (B3 X G a27) (F27.binds (by walk_at "b2"))
 have G28:=Callee.mk' F28 (MM (P:=l.prog) (w:=w) (base:=base) F28 Z Y) (B3 X G a28) (F28.binds (by walk_at "b2"))
 have G29:=Callee.mk' F29 (QC (P:=l.prog) (w:=w) (base:=base) F29 Z Y ⟨G24,G27,G28⟩) (B3 X G a29) (F29.binds (by walk_at "b2"))
 have G30:=Callee.mk' F30 (NK (P:=l.prog) (w:=w) (base:=base) F30 Z Y) (B3 X G a30) (F30.binds (by walk_at "b1"))
 have G31:=Callee.mk' F31 (ML (P:=l.prog) (w:=w) (base:=base) F31 Z Y) (B3 X G a31) (F31.binds (by walk_at "b2"))
 have G32:=Callee.mk' F32 (KY (P:=l.prog) (w:=w) (base:=base) F32 Z Y ⟨G31,G30⟩) (B3 X G a32) (F32.binds (by walk_at "b1"))
 have G33:=Callee.mk' F33 (KZ (P:=l.prog) (w:=w) (base:=base) F33 Z Y ⟨G32⟩) (B3 X G a33) (F33.binds (by walk_at "b1"))
 have G34:=Callee.mk' F34 (JX (P:=l.prog) (w:=w) (base:=base) F34 Z Y ⟨G29,G30,G33⟩) (B3 X G a34) (F34.binds (by walk_at "b1"))
 have G35:=Callee.mk' F35 (HY (P:=l.prog) (w:=w) (base:=base) F35 Z Y ⟨G21,G34⟩) (B3 X G a35) (F35.binds (by walk_at "b0"))
 have G36:=Callee.mk' F36 (SC (P:=l.prog) (w:=w) (base:=base) F36 Z Y) (B3 X G a36) (F36.binds (by walk_at "b2"))
 have G37:=Callee.mk' F37 (QA (P:=l.prog) (w:=w) (base:=base) F37 Z Y) (B3 X G a37) (F37.binds (by walk_at "b2"))
 have G38:=Callee.mk' F38 (QB (P:=l.prog) (w:=w) (base:=base) F38 Z Y ⟨G31⟩) (B3 X G a38) (F38.binds (by walk_at "b1"))
 have G39:=Callee.mk' F39 (MN (P:=l.prog) (w:=w) (base:=base) F39 Z Y ⟨G38,G37⟩) (B3 X G a39) (F39.binds (by walk_at "b2"))
 have G40:=Callee.mk' F40 (QF (P:=l.prog) (w:=w) (base:=base) F40 Z Y ⟨G37,G39,G38⟩) (B3 X G a40) (F40.binds (by walk_at "b1"))
 have G41:=Callee.mk' F41 (NM (P:=l.prog) (w:=w) (base:=base) F41 Z Y ⟨G37,G40⟩) (B3 X G a41) (F41.binds (by walk_at "b1"))
 have G42:=Callee.mk' F42 (SA (P:=l.prog) (w:=w) (base:=base) F42 Z Y ⟨G37⟩) (B3 X G a42) (F42.binds (by walk_at "b1"))
 have G43:=Callee.mk' F43 (FL (P:=l.prog) (w:=w) (base:=base) F43 Z Y ⟨G37,G42,G30⟩ (B3 X G a43) (F43.binds (by walk_at "b3")) 4) (B3 X G a43) (F43.binds (by walk_at "b3"))
 have G44:=Callee.mk' F44 (JC (P:=l.prog) (w:=w) (base:=base) F44 Z Y ⟨G21,G34⟩) (B3 X G a44) (F44.binds (by walk_at "b3"))
 exact J8v (P:=l.prog) (w:=w) (base:=base) F45 Z Y ⟨G35,G36,G41,G29,G37,G43,G44,G21,G34⟩
theorem Q3z {l:PySem.W.OpenLaw}{q:Program}{loose:List Str}{XP:(Str->Option Value)->Heap->Prop}{YP:World->Heap->Prop}{d:DefRec}{K:Params->Fg}(hn:l.most=some 63)(hdf:d.params.defaults=[])
 (hY:∀ (w:World) (h:Heap),YP w h->(K w.params).In h)
 (F:∀ (w:World) (mg:Str->Option Value) (fa:Addr) (h:Heap),(K w.params).In h->h.Ns mainGlobals mg->mg d.name=some (.ref fa) ->
  ∃ fd:FuncData,(∀ (s:Shared) (u:Value),BindsTo s fd ⟨[u],[]⟩ [("_law_script",u)])/\∀ base:Heap,(K w.params).In base->base.Ns mainGlobals mg->FnOk l.prog w (K w.params) mg base CX0 10 fa fd ["_law_script"] (PF (K w.params))) :
 PySem.W.WalkO q loose XP YP l.row.toRowW d [] (fun f vs=>PySem.call f vs) :=
 L2.J3v (n:=63) (k:=10) (x:="_law_script") (CX:=fun _=>CX0) (sp:=fun w=>PF (K w.params)) hn (by decide) hdf ⟨rfl,by decide,by decide,rfl⟩ hY F (fun _ _ a ns hl _ hS=>⟨a,ns,rfl,hS,hl,fun _=>rfl⟩) fun _ _ _ _ _ z=>z
end K
open PySem PySem.W PyProof.Rows
theorem PySem.W.Fast.tw449753306222811005:True:=trivial
theorem PySem.W.Fast.tw10908740471401386779:True:=trivial
theorem PySem.W.Fast.tw17453557741824092857:True:=trivial
theorem PySem.W.Fast.tw6147459852089532793:True:=trivial
theorem PySem.W.Fast.tw11295118927860619383:True:=trivial
theorem PySem.W.Fast.tw11054563772883531382:True:=trivial
theorem PySem.W.Fast.tw15104256100792646324:True:=trivial
theorem PySem.W.Fast.tw11252132059863018068:True:=trivial
theorem PySem.W.Fast.tw6924666370780256657:True:=trivial
theorem PySem.W.Fast.tw8020603231613660944:True:=trivial
theorem PySem.W.Fast.tw13553890580501382380:True:=trivial
theorem PySem.W.Fast.tw13383487989242056682:True:=trivial
theorem PySem.W.Fast.tw17554379076800648682:True:=trivial
theorem PySem.W.Fast.tw12814894069629922185:True:=trivial
theorem PySem.W.Fast.tw11505299606266958633:True:=trivial
theorem PySem.W.Fast.tw15659300835919435241:True:=trivial
theorem PySem.W.Fast.tw4514324182714291432:True:=trivial
theorem PySem.W.Fast.tw299837144848572584:True:=trivial
theorem PySem.W.Fast.tw13448192800434041574:True:=trivial
theorem PySem.W.Fast.tw9068946445392719046:True:=trivial
theorem PySem.W.Fast.tw14399910559796984292:True:=trivial
theorem PySem.W.Fast.tw17807964063132779908:True:=trivial
theorem PySem.W.Fast.tw10605391474782565539:True:=trivial
theorem PySem.W.Fast.tw16549028241583046466:True:=trivial
theorem PySem.W.Fast.tw5361455862244293858:True:=trivial
theorem PySem.W.Fast.tw7729141892575005761:True:=trivial
theorem PySem.W.Fast.tw1608128067169064672:True:=trivial
theorem PySem.W.Fast.tw13777661994209262585:True:=trivial
local macro_rules | `(tactic| walk_at "fn") => `(tactic| (refine' _root_.K.fn_in ?a ?l ?c ?k; (case a => k_is); (case l => k_is); (case c => k_is); (case k => k_is)))
set_option maxRecDepth 100000 in
set_option maxHeartbeats 0 in
theorem PySem.Challenge.cw_onceshade_k66_papers_of_dots_holds : PySem.Challenge.rw_onceshade_k66_papers_of_dots.Holds := by
 w_on;o_law;k_head;(case hw=>w_witness2)
 k_fill
 refine K.Q3z (l:=PySem.Challenge.rw_onceshade_k66_papers_of_dots) rfl rfl (fun w h Y=>PySem.W.kIn_of Y) ?F
 case F =>
  intro w mg fa h KX G hmg
  refine' K.Q1f KX G hmg ?h0 ?h1 ?h2 ?h3 ?h4 ?h5 ?h6 ?h7 ?h8 ?h9 ?h10 ?h11 ?h12 ?h13 ?h14 ?h15 ?h16 ?h17 ?h18 ?h19 ?h20 ?h21 ?h22 ?h23 ?h24 ?h25 ?h26 ?h27 ?h28 ?h29 ?h30 ?h31 ?h32 ?h33 ?h34 ?h35 ?h36 ?h37 ?h38 ?h39 ?h40 ?h41 ?h42 ?h43 ?h44 ?h45 ?z_abs ?z_len ?z_max ?z_min ?z_range ?z_isinstance ?z_int ?z_bool ?z_tuple ?z_all ?z_list ?z_zip ?z_sum ?z_enumerate ?z_repr ?z_str ?z_LONGEST ?z_MOST ?z_GREATEST_COORDINATE ?e_ShadeError ?e_NoBody ?e_NoFlat ?e_NoFace ?e_NoBoard ?q_NoFace ?x1_NoFace ?x5_NoFace ?x6_NoFace ?x2_NoFace ?x3_NoFace ?x4_NoFace ?v_NoFace ?s_NoFace ?n_NoFace_NoBody ?n_NoFace_NoFlat ?n_NoFace_NoBoard ?xb1 ?xb2 ?xb3
  (case h0=>walk_at "fn")
  (case h1=>walk_at "fn")
  (case h2=>walk_at "fn")
  (case h3=>walk_at "fn")
  (case h4=>walk_at "fn")
  (case h5=>walk_at "fn")
  (case h6=>walk_at "fn")
  (case h7=>walk_at "fn")
  (case h8=>walk_at "fn")
  (case h9=>walk_at "fn")
  (case h10=>walk_at "fn")
  (case h11=>walk_at "fn")
  (case h12=>walk_at "fn")
  (case h13=>walk_at "fn")
  (case h14=>walk_at "fn")
  (case h15=>walk_at "fn")
  (case h16=>walk_at "fn")
  (case h17=>walk_at "fn")
  (case h18=>walk_at "fn")
  (case h19=>walk_at "fn")
  (case h20=>walk_at "fn")
  (case h21=>walk_at "fn")
  (case h22=>walk_at "fn")
  (case h23=>walk_at "fn")
  (case h24=>walk_at "fn")
  (case h25=>walk_at "fn")
  (case h26=>walk_at "fn")
  (case h27=>walk_at "fn")
  (case h28=>walk_at "fn")
  (case h29=>walk_at "fn")
  (case h30=>walk_at "fn")
  (case h31=>walk_at "fn")
  (case h32=>walk_at "fn")
  (case h33=>walk_at "fn")
  (case h34=>walk_at "fn")
  (case h35=>walk_at "fn")
  (case h36=>walk_at "fn")
  (case h37=>walk_at "fn")
  (case h38=>walk_at "fn")
  (case h39=>walk_at "fn")
  (case h40=>walk_at "fn")
  (case h41=>walk_at "fn")
  (case h42=>walk_at "fn")
  (case h43=>walk_at "fn")
  (case h44=>walk_at "fn")
  (case h45=>walk_at "fn")
  (case z_abs=>k_is)
  (case z_len=>k_is)
  (case z_max=>k_is)
  (case z_min=>k_is)
  (case z_range=>k_is)
  (case z_isinstance=>k_is)
  (case z_int=>k_is)
  (case z_bool=>k_is)
  (case z_tuple=>k_is)
  (case z_all=>k_is)
  (case z_list=>k_is)
  (case z_zip=>k_is)
  (case z_sum=>k_is)
  (case z_enumerate=>k_is)
  (case z_repr=>k_is)
  (case z_str=>k_is)
  (case z_LONGEST=>k_is)
  (case z_MOST=>k_is)
  (case z_GREATEST_COORDINATE=>k_is)
  (case e_ShadeError=>k_is)
  (case e_NoBody=>k_is)
  (case e_NoFlat=>k_is)
  (case e_NoFace=>k_is)
  (case e_NoBoard=>k_is)
  (case q_NoFace=>k_exc)
  (case x1_NoFace=>kernel_rfl)
  (case x5_NoFace=>kernel_rfl)
  (case x6_NoFace=>kernel_rfl)
  (case x2_NoFace=>kernel_rfl)
  (case x3_NoFace=>kernel_rfl)
  (case x4_NoFace=>kernel_rfl)
  (case v_NoFace=>kernel_rfl)
  (case s_NoFace=>kernel_rfl)
  (case n_NoFace_NoBody=>kernel_rfl)
  (case n_NoFace_NoFlat=>kernel_rfl)
  (case n_NoFace_NoBoard=>kernel_rfl)
  (case xb1=>kernel_rfl)
  (case xb2=>kernel_rfl)
  (case xb3=>kernel_rfl)
