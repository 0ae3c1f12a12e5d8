import PyProof.Rows.All
import Wide.All
import OpenK.AllK
import Wide.FinOn
import Lean
import PyProof.EqAt
import PyProof.EqKinds
import PyProof.TupleCall
import PySem.Challenge.RW_onceshade_k69_papers_of_any_thing
set_option Elab.async false
set_option linter.all false
set_option maxRecDepth 100000
def B0:=@PySem.wpAny_bind
def B1:=@PySem.Heap.get?_push_of_some
def B2:=@PySem.Heap.lt_size
def B3:=@List.mem_append_right
def B4:=@PySem.W.mg_of
def B5:=@PySem.wpAny_pure
def B6:=@Nat.le_refl
def B7:=@List.mem_cons
def B8:=@List.mem_cons_self
def B9:=@Bool.false_ne_true
def L0:=@List.getElem?_eq_getElem
def L1:=@Bool.and_eq_true
def L3:=@Nat.lt_of_lt_of_le
def L4:=@List.getElem?_set_ne
def L5:=@Nat.lt_irrefl
def L6:=@List.mem_cons_of_mem
def L7:=@List.length_map
def L8:=@PySem.Heap.get?_push_size
def L9:=@List.size_toArray
def M1:=@List.getElem?_eq_some_iff
def M3:=@Nat.le_of_ble_eq_true
def M5:=@List.map_cons
def M6:=@Option.map_eq_some_iff
def M7:=@Nat.le_trans
def M8:=@List.not_mem_nil
def M9:=@List.getElem?_map
def R0:=@PySem.W.mg_none_of
def R1:=@Bool.bne_false
def R5:=@decide_eq_false
def R6:=@List.mem_of_getElem?
def R7:=@List.mem_append_left
def R8:=@List.getElem?_set
def R9:=@Nat.ne_of_lt
def T1:=@List.length_append
def T4:=@decide_eq_true
def T5:=@List.mem_singleton
def T6:=@List.lookup_cons
def T7:=@of_decide_eq_true
def T8:=@List.all_eq_true
def T9:=@Bool.false_eq_true
def U0:=@List.mem_append
def U3:=@PySem.Heap.get?_update_other
def U4:=@Bool.true_and
def U5:=@PyProof.Rows.wpS_bind
def U6:=@PySem.wpAny_field
def U7:=@PySem.wpAny_mono
def U8:=@Array.getElem?_eq_some_iff
def U9:=@List.append_nil
def W0:=@Nat.lt_succ_self
def W1:=@Nat.zero_le
def W3:=@or_false
def W4:=@PySem.W.kia_one
def W5:=@List.length_cons
def W6:=@Int.mul_neg_of_pos_of_neg
def W7:=@PySem.mem_of_lookup
def W8:=@Int.mul_le_mul_of_nonneg_left
def W9:=@PySem.wpAny_newObj_type
def E2:=@List.getElem_mem
def E3:=@Nat.lt_of_succ_lt
def E4:=@PyProof.Rows.wpS_pure
def E5:=@List.nodup_cons
def E6:=@PySem.wpAny_holding
def E7:=@PySem.Heap.size_push
def E8:=@List.mem_map
def E9:=@decide_eq_true_eq
def D4:=@List.take_add_one
def D5:=@Int.toNat_natCast
def D6:=@PySem.wpAny_standAt
def D7:=@List.map_append
def D8:=@PyProof.Rows.callWith_type1
def D9:=@PySem.wpAny_truthy_bool
def B0a:=@PySem.PassesOwn.never
def B0b:=@congrArg
def B0c:=@Ne.symm
def B0d:=@if_false
def B0e:=@PySem.Obj.data_mapFields
def B0f:=@List.map_map
def B0g:=@PySem.pushCells_keeps
def B0h:=@List.flatMap_append
def B0i:=@decide_eq_decide
def B0j:=@Option.toList_some
def B0k:=@Nat.lt_of_le_of_lt
def B0l:=@List.take_of_length_le
def B0m:=@Int.emod_lt_of_pos
def B0n:=@Bool.eq_iff_iff
def B0o:=@List.all_cons
def B0p:=@PySem.wpAny_passesOwn
def B0q:=@Int.mul_pos
def B0r:=@Nat.ne_of_gt
def B0s:=@List.length_take
def B0t:=@Int.mul_zero
def B0u:=@PySem.Heap.get?_update_self
def B0v:=@List.getElem?_append_left
def B0w:=@List.drop_eq_getElem_cons
def B0x:=@Int.toNat_of_nonneg
def B0y:=@PySem.wpAny_setField
def B0z:=@PySem.wpAny_seqItems
def B1a:=@PySem.F.slot_tuple_iterator_next
def B1b:=@Int.emod_nonneg
def B1c:=@PySem.wpAny_call_entry
def B1d:=@beq_iff_eq
def B1e:=@Option.bind_eq_some_iff
def B1f:=@Int.le_refl
def B1g:=@PySem.wpAny_comprehension_free
def B1h:=@List.map_nil
def B1i:=@Int.zero_add
def B1j:=@Int.mul_nonneg
def B1k:=@Int.le_of_lt
def B1l:=@PySem.wpAny_setField_rec
def B1m:=@PyProof.Rows.slot_tuple_getitem
def B1n:=@Bool.and_true
def B1o:=@PySem.wpAny_pyIter_list
def B1p:=@Nat.log2_lt
def B1q:=@List.forIn_cons
def B1r:=@PySem.Obj.isFreed_of_fields
def B1s:=@Int.fdiv_mul_cancel
def B1t:=@PySem.wpAny_rule
def B1u:=@decide_false
def B1v:=@Nat.le_of_lt
def B1w:=@PySem.sizeLine_eq
def B1x:=@List.mem_range
def B1y:=@List.getElem?_append_right
def B1z:=@Int.fmod_eq_emod_of_nonneg
def B2a:=@PyProof.Rows.wpS_forRange
def B2b:=@PySem.wpAny_execs_nil
def B2c:=@decide_true
def B2d:=@Nat.lt_succ_of_lt
def B2e:=@List.pairwise_map
def B2f:=@List.append_assoc
def B2g:=@Int.lt_trichotomy
def B2h:=@PySem.Heap.get?_update_ne
def B2i:=@PySem.F.args_tuple_add_2
def B2j:=@Option.isSome_iff_exists
def B2k:=@PySem.F.entry_tuple_add
def B2l:=@List.take_length
def B2m:=@List.mem_flatMap
def B2n:=@List.cons_append
def B2o:=@Int.gcd_dvd_left
def B2p:=@PySem.W.cellsFrom_some
def B2q:=@PySem.F.slot_tuple_add
def B2r:=@List.all_map
def B2s:=@Nat.pow_le_pow_right
def B2t:=@List.getElem?_of_mem
def B2u:=@List.forIn_nil
def B2v:=@Bool.false_and
def B2w:=@Bool.and_false
def B2x:=@List.filterMap_cons
def B2y:=@Array.length_toList
def B2z:=@Int.mul_nonpos_of_nonpos_of_nonneg
abbrev Fg:=PySem.W.Frag
variable {P:PySem.Program}{K:Fg}{mg:PySem.Str->Option PySem.Value}{base:PySem.Heap}{fd:PySem.FuncData}{b:Option PySem.Addr}{M:PySem.Addr->Prop}
namespace L2
open PySem PySem.Spec PyProof.Rows
abbrev Key:=Sum Int Str
def Q1w:Key->Value->Bool
 | .inl k,v=>Value.isInt k v
 | .inr x,v=>Value.isStrOf x v
def V1c (w:World):Key->Int
 | .inl k=>hashInt k
 | .inr x=>hashStr w x
theorem AM:∀ {k:Key} {v:Value},Q1w k v=true->(∃ i t,k=Sum.inl i/\v=Value.int i t)\/(∃ x t,k=Sum.inr x/\v=Value.str x t)
 | .inl i,v,h=>by
   obtain ⟨t,e⟩:=Value.isInt_shape (k:=i) (v:=v) h
   exact .inl ⟨i,t,rfl,e⟩
 | .inr x,v,h=>by
   obtain ⟨t,e⟩:=Value.isStrOf_shape (x:=x) (v:=v) h
   exact .inr ⟨x,t,rfl,e⟩
theorem Q4o (a b:Int):decide ((Sum.inl a:Key)=Sum.inl b)=(a==b):=by
 by_cases e:a=b
 · subst e;simp
 · have h:¬ (Sum.inl a:Key)=Sum.inl b:=fun q=>e (Sum.inl.inj q)
   rw [R5 h]
   exact (beq_eq_false_iff_ne.mpr e).symm
theorem Q4l (a b:Str):decide ((Sum.inr a:Key)=Sum.inr b)=decide (a=b):=by
 by_cases e:a=b
 · subst e;simp
 · have h:¬ (Sum.inr a:Key)=Sum.inr b:=fun q=>e (Sum.inr.inj q)
   rw [R5 h,R5 e]
theorem Q4n (a:Int)(b:Str):decide ((Sum.inl a:Key)=Sum.inr b)=false:=R5 (fun q=>nomatch q)
theorem Q4m (a:Str)(b:Int):decide ((Sum.inr a:Key)=Sum.inl b)=false:=R5 (fun q=>nomatch q)
def RW (prog:Program)(w:World):PySem.KeyKind prog w Key where
 is:=Q1w
 hash:=V1c w
 inj:=fun v a b ha hb=>by
  rcases AM ha with ⟨i,t,rfl,rfl⟩|⟨x,t,rfl,rfl⟩
  · rcases AM hb with ⟨j,u,rfl,e⟩|⟨y,u,rfl,e⟩
    · injection e with e1 _;rw [e1]
    · exact nomatch e
  · rcases AM hb with ⟨j,u,rfl,e⟩|⟨y,u,rfl,e⟩
    · exact nomatch e
    · injection e with e1 _;rw [e1]
 byValue:=fun k v h=>by
  rcases AM h with ⟨i,t,rfl,rfl⟩|⟨x,t,rfl,rfl⟩<;>rfl
 pyHash:=fun hv h=>by
  rcases AM hv with ⟨i,t,rfl,rfl⟩|⟨x,t,rfl,rfl⟩
  · exact wpAny_pyHash_int h
  · exact wpAny_pyHash_str h
 eqBool:=fun hu hv h=>by
  rcases AM hu with ⟨i,t,rfl,rfl⟩|⟨x,t,rfl,rfl⟩
  · rcases AM hv with ⟨j,u,rfl,rfl⟩|⟨y,u,rfl,rfl⟩
    · rw [Q4o] at h;exact wpAny_eqBool_int h
    · rw [Q4n] at h;exact SeqAt.EqAt.int_str i t y u _ _ _ _ h
  · rcases AM hv with ⟨j,u,rfl,rfl⟩|⟨y,u,rfl,rfl⟩
    · rw [Q4m] at h;exact SeqAt.EqAt.str_int x t j u _ _ _ _ h
    · rw [Q4l] at h;exact wpAny_eqBool_str h
 «strs»:=fun k x t v h=>by
  rcases AM h with ⟨i,u,rfl,e⟩|⟨y,u,rfl,e⟩
  · exact nomatch e
  · injection e with e1 _
    subst e1
    cases v<;>rfl
inductive V where
 | non|bl (b:Bool)|int (i:Int)|str (x:Str)|byt (b:Array UInt8)|flt (b:UInt64)|ref (a:Addr)|ty (n:String)
 deriving DecidableEq
def RelV:V->Value->Prop
 | .non,u=>u=Value.none
 | .bl b,u=>u=Value.bool b
 | .int i,u=>∃ t,u=Value.int i t
 | .str x,u=>∃ t,u=Value.str x t
 | .byt b,u=>∃ t,u=Value.bytes b t
 | .flt b,u=>∃ t,u=Value.float b t
 | .ref a,u=>u=Value.ref a
 | .ty n,u=>u=Value.type n
abbrev Vals:List V->List Value->Prop:=Paired RelV
theorem Vals.length {xs:List V}{us:List Value}(r:Vals xs us):xs.length=us.length:=Paired.length r
theorem Vals.get:∀ {xs:List V} {us:List Value} {i:Nat} {x:V},Vals xs us->xs[i]?=some x->∃ u,us[i]?=some u/\RelV x u
 | _,_,_,_,.nil,e=>by simp at e
 | _,_,0,_,.cons r _,e=>by simp at e;subst e;exact ⟨_,rfl,r⟩
 | _,_,i+1,x,.cons _ t,e=>by
   obtain ⟨u,h1,h2⟩:=Vals.get (i:=i) (x:=x) t (by simpa using e)
   exact ⟨u,by simpa using h1,h2⟩
theorem Vals.set {x:V}{u:Value}(r:RelV x u):∀ {xs:List V} {us:List Value} (i:Nat),Vals xs us->Vals (xs.set i x) (us.set i u)
 | _,_,_,.nil=>.nil
 | _,_,0,.cons _ t=>.cons r t
 | _,_,i+1,.cons q t=>.cons q (Vals.set r i t)
theorem Vals.append:∀ {xs ys:List V} {us ws:List Value},Vals xs us->Vals ys ws->Vals (xs++ys) (us++ws)
 | _,_,_,_,.nil,s=>s
 | _,_,_,_,.cons r t,s=>.cons r (Vals.append t s)
theorem Vals.take:∀ {xs:List V} {us:List Value} (n:Nat),Vals xs us->Vals (xs.take n) (us.take n)
 | _,_,0,_=>.nil
 | _,_,_+1,.nil=>.nil
 | _,_,n+1,.cons r t=>.cons r (Vals.take n t)
theorem Vals.drop:∀ {xs:List V} {us:List Value} (n:Nat),Vals xs us->Vals (xs.drop n) (us.drop n)
 | _,_,0,r=>r
 | _,_,_+1,.nil=>.nil
 | _,_,n+1,.cons _ t=>Vals.drop n t
def Q7b:Option V->Option Value->Prop
 | some v,some u=>RelV v u
 | none,none=>True
 | _,_=>False
def KV {κ:Type}:List (κ×V)->List (κ×Value)->Prop:=Paired fun (p:κ×V) (q:κ×Value)=>p.1=q.1/\RelV p.2 q.2
def kV:Key->V
 | .inl i=>.int i
 | .inr x=>.str x
inductive HO where
 | lst (xs:List V)
 | tup (xs:List V)
 | dK (kvs:List (Key×V))|dT (kvs:List (List Key×V))
 | set (S:Int->Bool) (n:Nat)
 | ins (C dx:Addr) (fs:List (Str×V))
 | own (x:Addr)
 | xd (fs:List (Str×V))
 | met (f x:Addr)
 | rng (lo hi:Int)
 | frz (o:Obj) (u:HO)
 | tbl (ps:Array Value)
 | cod (q:Str)
 | ext (φ:Heap->Prop)
abbrev Hp:=Addr->Option HO
def upd (H:Hp)(a:Addr)(o:HO):Hp:=fun b=>if b=a then some o else H b
theorem Y5 {H:Hp}{a:Addr}{o:HO}:upd H a o a=some o:=by unfold upd;rw [if_pos rfl]
theorem Q9 {H:Hp}{a b:Addr}{o:HO}(h:b≠a):upd H a o b=H b:=by unfold upd;rw [if_neg h]
theorem J4x {H:Hp}{a b:Addr}{o u:HO}(h:H a=some o)(h':H b=some u)(d:o≠u):a≠b:=by
 intro e;subst e;rw [h] at h';exact d (Option.some.inj h')
theorem V2 {H:Hp}{a b:Addr}{o:HO}(h:H a=some o)(h':H b=none):a≠b:=by
 intro e;subst e;rw [h] at h';cases h'
section
variable (P:Program) (w:World)
def ObjOk (H:Hp)(h:Heap)(a:Addr):HO->Prop
 | .lst xs=>xs.length<=sizeLine/\∃ (its:List Value) (n:Nat),Vals xs its/\h.get? a=some { cls:=.type "list",data:=.seq its.toArray n }
 | .tup xs=>xs.length<=sizeLine/\∃ its:List Value,Vals xs its/\IsTup h a its.toArray
 | .dK kvs=>kvs.length<=sizeLine/\(a==sysModules)=false/\∃ vs,KV kvs vs/\h.DictOf (RW P w) a vs
 | .dT kvs=>kvs.length<=sizeLine/\(a==sysModules)=false/\∃ xs:List (List Key×Addr×Value),
  Paired (fun (p:List Key×V) (q:List Key×Addr×Value)=>p.1=q.1/\H q.2.1=some (.tup (p.1.map kV))/\RelV p.2 q.2.2) kvs xs /\
  ∃ o es ep,h.get? a=some o/\o.ExactDict/\o.data=.dict es ep/\es.toList=xs.map (entryOfKey (tupleKind (RW P w)))/\(xs.map (·.1)).Nodup
 | .set S n=>h.SetOf (intKind P w) a S n
 | .ins C dx fs=>H dx=some (.own a)/\fs.length<=1000/\dx≠a/\h.get? a=some (PySem.W.instObj C dx) /\
  ∃ mA,h.Ns1 dx mA/\(∀ f,Q7b (fs.lookup f) (mA f))/\PySem.Within mA (fs.map (·.1))
 | .own _=>∃ o,h.get? a=some o
 | .xd fs=>∃ mA,h.Ns1 a mA/\∀ f,Q7b (fs.lookup f) (mA f)
 | .rng lo hi=>∃ t u v,h.get? a=some { cls:=.type "range",data:=.fields #[.int lo t,.int hi u,.int 1 v] }
 | .frz o u=>h.get? a=some o/\ObjOk H h a u
 | .tbl ps=>h.get? a=some { cls:=.none,data:=.fields ps }
 | .met f x=>h.get? a=some (PySem.W.methodObj (.ref f) (.ref x))
 | .cod q=>∃ ps:Array Value,h.get? a=some { cls:=.none,data:=.fields ps }/\TriplesOk ps.toList/\∀ pos cv,codeAmong pos ps.toList=some cv->∃ (c':Addr) (oc:Obj) (vs:Array Value) (t:Tok),cv=.ref c'/\H c'=some (.frz oc (.own 0))/\oc.data=.fields vs/\vs[1]?=some (.str q t)
 | .ext φ=>φ h/\(∃ o,h.get? a=some o)/\∀ h1 h2:Heap,φ h1->(∀ o,h1.get? a=some o->h2.get? a=some o)->φ h2
def HOk (H:Hp)(h:Heap):Prop:=∀ a o,H a=some o->ObjOk P w H h a o
end
section
variable {P:Program}{w:World}{H H':Hp}{h h':Heap}{a:Addr}{o:HO}
theorem ObjOk.lt (x:ObjOk P w H h a o):a<h.objs.size:=by
 cases o with
 | lst xs=>obtain ⟨_,_,_,_,e⟩:=x;exact B2 e
 | tup xs=>obtain ⟨_,_,_,p⟩:=x;exact p.lt
 | dK kvs=>obtain ⟨_,_,_,_,o,_,_,e,_⟩:=x;exact B2 e
 | dT kvs=>obtain ⟨_,_,_,_,o,_,_,e,_⟩:=x;exact B2 e
 | set S n=>obtain ⟨o,_,_,_,e,_⟩:=x;exact B2 e
 | ins C dx fs=>obtain ⟨_,_,_,e,_⟩:=x;exact B2 e
 | own y=>obtain ⟨_,e⟩:=x;exact B2 e
 | xd fs=>obtain ⟨_,⟨_,_,_,e,_⟩,_⟩:=x;exact B2 e
 | rng lo hi=>obtain ⟨_,_,_,e⟩:=x;exact B2 e
 | frz ob u=>obtain ⟨e,_⟩:=x;exact B2 e
 | tbl ps=>exact B2 (show h.get? a=some _ from x)
 | met f y=>exact B2 (show h.get? a=some _ from x)
 | cod q=>obtain ⟨_,e,_⟩:=x;exact B2 e
 | ext φ=>obtain ⟨_,⟨_,e⟩,_⟩:=x;exact B2 e
theorem Paired.mapP {α β:Type}{F G:α->β->Prop}:∀ {l₁:List α} {l₂:List β},Paired F l₁ l₂->(∀ a b,F a b->G a b)->Paired G l₁ l₂
 | _,_,.nil,_=>.nil
 | _,_,.cons r t,f=>.cons (f _ _ r) (Paired.mapP t f)
theorem ObjOk.stay (x:ObjOk P w H h a o)(k:∀ b u,(b=a\/H b=some (.own a))->h.get? b=some u->h'.get? b=some u)
 (ho:∀ b,H b=some (.own a)->H' b=some (.own a)) (ht:∀ b xs,H b=some (.tup xs)->H' b=some (.tup xs)) (hz:∀ b ob u,H b=some (.frz ob u)->H' b=some (.frz ob u):=by first|exact fun _ _ _ q=>q|(intro c ob uz q;rw [L2.Q9 (L2.V2 q (by assumption))];exact q)):ObjOk P w H' h' a o:=by
 induction o with
 | lst xs=>obtain ⟨z,its,n,r,e⟩:=x;exact ⟨z,its,n,r,k _ _ (.inl rfl) e⟩
 | tup xs=>obtain ⟨z,its,r,ob,e,c⟩:=x;exact ⟨z,its,r,ob,k _ _ (.inl rfl) e,c⟩
 | dK kvs=>obtain ⟨z,y,vs,r,ob,es,ep,e,c⟩:=x;exact ⟨z,y,vs,r,ob,es,ep,k _ _ (.inl rfl) e,c⟩
 | dT kvs =>
   obtain ⟨z,y,xs,r,ob,es,ep,e,c⟩:=x
   exact ⟨z,y,xs,Paired.mapP r fun p q z=>⟨z.1,ht _ _ z.2.1,z.2.2⟩,ob,es,ep,k _ _ (.inl rfl) e,c⟩
 | set S n=>obtain ⟨ob,es,ep,t,e,c⟩:=x;exact ⟨ob,es,ep,t,k _ _ (.inl rfl) e,c⟩
 | ins C dx fs =>
   obtain ⟨d,z,ne,e,mA,⟨od,es,ep,e2,c⟩,r⟩:=x
   exact ⟨ho _ d,z,ne,k _ _ (.inl rfl) e,mA,⟨od,es,ep,k _ _ (.inr d) e2,c⟩,r⟩
 | own y=>obtain ⟨ob,e⟩:=x;exact ⟨ob,k _ _ (.inl rfl) e⟩
 | xd fs=>obtain ⟨mA,⟨od,es,ep,e,c⟩,r⟩:=x;exact ⟨mA,⟨od,es,ep,k _ _ (.inl rfl) e,c⟩,r⟩
 | rng lo hi=>obtain ⟨t,u,v,e⟩:=x;exact ⟨t,u,v,k _ _ (.inl rfl) e⟩
 | frz ob u ih=>obtain ⟨e,q⟩:=x;exact ⟨k _ _ (.inl rfl) e,ih q⟩
 | tbl ps =>
   have e:h.get? a=some { cls:=.none,data:=.fields ps }:=x
   show h'.get? a=some { cls:=.none,data:=.fields ps }
   exact k a _ (.inl rfl) e
 | met f y =>
   have e:h.get? a=some (PySem.W.methodObj (.ref f) (.ref y)):=x
   show h'.get? a=some (PySem.W.methodObj (.ref f) (.ref y))
   exact k a _ (.inl rfl) e
 | cod q=>obtain ⟨ps,e,t,r⟩:=x;exact ⟨ps,k _ _ (.inl rfl) e,t,fun pos cv hc=>let ⟨c',oc,vs,tt,z1,z2,z3⟩:=r pos cv hc;⟨c',oc,vs,tt,z1,hz _ _ _ z2,z3⟩⟩
 | ext φ=>obtain ⟨p,⟨o,e⟩,st⟩:=x;exact ⟨st _ _ p fun o q=>k _ _ (.inl rfl) q,⟨o,k _ _ (.inl rfl) e⟩,st⟩
theorem HOk.lt (x:HOk P w H h)(e:H a=some o):a<h.objs.size:=(x a o e).lt
theorem HOk.fresh (x:HOk P w H h)(e:h.objs.size<=a):H a=none:=by
 cases q:H a with
 | none=>rfl
 | some u=>exact absurd (L3 (x.lt q) e) (L5 _)
theorem HOk.kept (x:HOk P w H h)(k:∀ b u,h.get? b=some u->h'.get? b=some u):HOk P w H h':=fun a o e =>
 (x a o e).stay (fun b u _ q=>k b u q) (fun _ q=>q) fun _ _ q=>q
theorem HOk.laid (x:HOk P w H h)(k:∀ b u,h.get? b=some u->h'.get? b=some u)(hp:h.objs.size<=a)(new:ObjOk P w (upd H a o) h' a o):HOk P w (upd H a o) h':=fun b u e=>by
 have hn:=x.fresh hp
 by_cases hb:b=a
 · subst hb;rw [Y5] at e;cases e;exact new
 · rw [Q9 hb] at e
   exact (x b u e).stay (fun c v _ q=>k c v q) (fun c q=>by rw [Q9 (V2 q hn)];exact q) fun c xs q=>by rw [Q9 (V2 q hn)];exact q
end
def Rd (H:Hp)(a:Addr)(u:HO):Prop:=H a=some u\/∃ o,H a=some (.frz o u)
theorem Rd.ok {w:World}{H:Hp}{h:Heap}{a:Addr}{u:HO}(r:Rd H a u)(x:HOk P w H h):ObjOk P w H h a u:=by
 rcases r with r|⟨o,r⟩
 · exact x a u r
 · obtain ⟨_,q⟩:=x a _ r
   exact q
def Mut:Option HO->Prop
 | some (.lst _)=>True
 | some (.dK _)=>True
 | some (.dT _)=>True
 | some (.set _ _)=>True
 | some (.ins _ _ _)=>True
 | some (.ext _)=>True
 | _=>False
section
variable {P:Program}{w:World}{H:Hp}{h h':Heap}{x e:Addr}{o':HO}
theorem HOk.write (ok:HOk P w H h)(mu:Mut (H x))(he:e=x\/H e=some (.own x))(k:∀ b u,b≠e->h.get? b=some u->h'.get? b=some u)(heo:∃ u,h'.get? e=some u)
 (new:ObjOk P w (upd H x o') h' x o'):HOk P w (upd H x o') h':=fun b u q=>by
 have nown:∀ c y,H c=some (.own y)->c≠x:=fun c y r z=>by subst z;rw [r] at mu;exact mu
 have ntup:∀ c xs,H c=some (.tup xs)->c≠x:=fun c xs r z=>by subst z;rw [r] at mu;exact mu
 have nfrz:∀ c ob uz,H c=some (.frz ob uz)->c≠x:=fun c ob uz r z=>by subst z;rw [r] at mu;exact mu
 by_cases hb:b=x
 · subst hb;rw [Y5] at q;cases q;exact new
 · rw [Q9 hb] at q
   by_cases hbe:b=e
   · have q':H b=some (.own x):=by
      rcases he with z|z
      · exact absurd (hbe.trans z) hb
      · rw [hbe];exact z
     rw [q] at q';cases q'
     obtain ⟨v,hv⟩:=heo
     exact ⟨v,by rw [hbe];exact hv⟩
   · refine (ok b u q).stay (fun c v hc r=>k c v ?_ r) (fun c r=>by rw [Q9 (nown c b r)];exact r) (fun c xs r=>by rw [Q9 (ntup c xs r)];exact r) fun c ob uz r=>by rw [Q9 (nfrz c ob uz r)];exact r
     rcases hc with rfl|hc
     · exact hbe
     · rintro rfl
       rcases he with z|z
       · exact nown c b hc z
       · rw [hc] at z;cases z;exact hb rfl
end
structure Un (fs ex:List Addr)(H H':Hp)(h h':Heap):Prop where
 keep:∀ b o,h.get? b=some o->H b=none->b∉fs->b∉ex->h'.get? b=some o
 slot:∀ b o,h.get? b=some o->H b=none->b∈fs->b∉ex->∃ sl,h'.get? b=some { o with slots:=sl }
 free:∀ b o,h.get? b=some o->H b=none->b∉ex->H' b=none
 there:∀ b o,h.get? b=some o->b∉ex->∃ o',h'.get? b=some o'
 tups:∀ b xs,H b=some (.tup xs)->H' b=some (.tup xs)
 frzs:∀ b o u,H b=some (.frz o u)->H' b=some (.frz o u)
 tbls:∀ b ps,H b=some (.tbl ps)->∃ more,H' b=some (.tbl (ps++more))
section
variable {fs ex:List Addr}{H H1:Hp}{h h1 h':Heap}{a x e:Addr}{o:HO}
theorem Un.any (u:Un fs ex H H1 h h1){b:Addr}{ob:Obj}(q:h.get? b=some ob)(n:H b=none)(hx:b∉ex):∃ sl,h1.get? b=some { ob with slots:=sl }:=by
 by_cases hb:b∈fs
 · exact u.slot b ob q n hb hx
 · exact ⟨ob.slots,u.keep b ob q n hb hx⟩
theorem Un.kept (k:∀ b u,h.get? b=some u->h'.get? b=some u):Un fs ex H H h h' :=
 ⟨fun b ob q _ _ _=>k b ob q,fun b ob q _ _ _=>⟨ob.slots,k b ob q⟩,fun _ _ _ n _=>n,fun b ob q _=>⟨ob,k b ob q⟩,fun _ _ q=>q,fun _ _ _ q=>q,fun _ ps q=>⟨#[],by rw [q];simp⟩⟩
theorem Un.refl:Un fs ex H H h h:=Un.kept fun _ _ q=>q
theorem Un.laid (k:∀ b u,h.get? b=some u->h'.get? b=some u)(hp:h.objs.size<=a)(hn:H a=none):Un fs ex H (upd H a o) h h' where
 keep:=fun b u q _ _ _=>k b u q
 slot:=fun b u q _ _ _=>⟨u.slots,k b u q⟩
 free:=fun b u q n _=>by rw [Q9 (R9 (L3 (B2 q) hp))];exact n
 there:=fun b u q _=>⟨u,k b u q⟩
 tups:=fun b xs q=>by rw [Q9 (V2 q hn)];exact q
 frzs:=fun b u xs q=>by rw [Q9 (V2 q hn)];exact q
 tbls:=fun b ps q=>⟨#[],by rw [Q9 (V2 q hn),q];simp⟩
theorem Un.write (mu:Mut (H x))(he:e=x\/H e=some (.own x))(k:∀ b u,b≠e->h.get? b=some u->h'.get? b=some u)(heo:∃ u,h'.get? e=some u):Un fs ex H (upd H x o) h h':=by
 have hx:∀ b,H b=none->b≠x:=fun b n z=>by subst z;rw [n] at mu;exact mu
 have hb:∀ b,H b=none->b≠e:=fun b n z=>by
  subst z
  rcases he with r|r
  · exact hx b n r
  · rw [n] at r;cases r
 have hm:∀ b u,H b=some u->¬ Mut (some u)->b≠x:=fun b u q nm z=>by subst z;rw [q] at mu;exact nm mu
 refine ⟨fun b u q n _ _=>k b u (hb b n) q,fun b u q n _ _=>⟨u.slots,k b u (hb b n) q⟩,fun b u q n _=>by rw [Q9 (hx b n)];exact n,fun b u q _=>?_,
  fun b xs q=>by rw [Q9 (hm b _ q fun z=>z)];exact q,fun b u xs q=>by rw [Q9 (hm b _ q fun z=>z)];exact q,fun b ps q=>⟨#[],by rw [Q9 (hm b _ q fun z=>z),q];simp⟩⟩
 by_cases hbe:b=e
 · subst hbe;exact heo
 · exact ⟨u,k b u hbe q⟩
end
def trk (h:Heap)(H:Hp):List Addr:=(List.range h.objs.size).filter fun a=>(H a).isSome
def SA (h:Heap)(H:Hp):Heap:=PySem.W.hideAll h (trk h H)
theorem J2a (h:Heap)(H:Hp):(SA h H).objs.size=h.objs.size:=PySem.W.hideAll_size _ _
theorem J5o {h:Heap}{H:Hp}{b:Addr}{o:Obj}(e:h.get? b=some o)(n:H b=none):(SA h H).get? b=some o :=
 PySem.W.hideAll_get _ e fun hm=>by
  have q:(H b).isSome=true:=(List.mem_filter.mp hm).2
  rw [n] at q;simp at q
theorem J9j {h:Heap}{H:Hp}{b:Addr}{o:Obj}(e:(SA h H).get? b=some o):h.get? b=some o/\H b=none:=by
 have e':h.get? b=some o:=PySem.W.of_hideAll (trk h H) e
 refine ⟨e',?_⟩
 cases q:H b with
 | none=>rfl
 | some x =>
   have hm:b∈trk h H:=List.mem_filter.mpr ⟨B1x.mpr (B2 e'),by simp [q]⟩
   have z:(SA h H).get? b=none:=PySem.W.hideAll_none (trk h H) hm
   rw [z] at e;cases e
def Q1j (g h:Heap)(L:Addr):List (Addr×Obj):=(List.range h.objs.size).filterMap fun a=>if a=L\/(g.get? a).isSome=true then none else (h.get? a).map fun o=>(a,o)
def rest (g h:Heap)(L d:Addr):List (Addr×Obj):=(Q1j g h L).filter fun p=>decide (p.1≠d)
structure Mod (K:Fg)(mg:Str->Option Value)(base:Heap):Prop where
 kin:K.In base
 glob:base.Ns mainGlobals mg
 blt:∃ mb,base.Ns builtinsNs mb/\∀ x:Str,x≠"__name__"->mb x=bootBuiltins x
 nolimit:base.NoLimit
structure Cx where
 prog:Program
 w:World
 K:Fg
 mg:Str->Option Value
 base:Heap
 A:Around
 N:List Str
 s₀:Shared
 H₀:Hp
 env:Env
 outer:List Env
 stack:List Env
 ex:List Addr
 fn:Str->Bool
 calm:Bool
 pn:List (Addr×Obj)
 xe:Value->Shared->Prop
def frs (l:List Env):List Addr:=l.filterMap (·.frame)
abbrev Cx.fs (X:Cx):List Addr:=frs X.outer
def Vis (sc:Scope)(x:Str):Prop:=sc.names.lookup x=some .local\/sc.names.lookup x=some .cell\/sc.names.lookup x=some .free
def Loc (sc:Scope)(x:Str):Prop:=sc.names.lookup x=some .local\/sc.names.lookup x=some .cell
def V1n (env:Env)(h:Heap)(m:Str->Option Value)(x:Str)(u:Value):Prop :=
 (env.kindOf x=some .local/\m x=some u)\/((env.kindOf x=some .cell\/env.kindOf x=some .free)/\∃ c,env.cells.lookup x=some c/\h.IsCell c (some u))
structure Cx.Ok (X:Cx):Prop where
 mod:Mod X.K X.mg X.base
 kind:X.env.scope.kind=.function
 glob:X.env.globals=mainGlobals
 blt:X.env.builtins=builtinsNs
 above:X.s₀.heap.objs.size<=X.env.locals
 inj:∀ x y c,X.env.cells.lookup x=some c->X.env.cells.lookup y=some c->x=y
 has:∀ x,(X.env.kindOf x=some .cell\/X.env.kindOf x=some .free)->∃ c,X.env.cells.lookup x=some c
 cab:∀ x c,X.fn x=true->X.env.cells.lookup x=some c->X.s₀.heap.objs.size<=c
 hd:X.calm=true->X.A.handled=none
 frames:X.A.frames=some X.stack
 stk:X.stack=X.outer\/(X.stack=X.env::X.outer/\X.env.frame=some X.env.locals)
 exf:∀ b∈X.ex,b≠X.env.locals/\∀ x c,X.env.cells.lookup x=some c->c≠b
 bs:∀ b o,X.base.get? b=some o->X.s₀.heap.get? b=some o/\X.H₀ b=none
 bsz:X.base.objs.size<=X.s₀.heap.objs.size
 noex:∀ b o,X.base.get? b=some o->b∉X.ex
 exfs:∀ b∈X.ex,b∉X.fs
 funs:X.s₀.heap.FunFrames X.base X.outer
 frf:∀ b∈X.fs,X.H₀ b=none
structure Inv (X:Cx)(pins:List (Addr×Obj))(σ:List (Option V))(H:Hp)(s:Shared):Prop where
 ok:X.Ok
 os:s.os=X.s₀.os
 bare:AllBare s.gens
 base:Un X.fs X.ex X.H₀ H X.s₀.heap s.heap
 loc:∃ m,s.heap.Ns X.env.locals m/\∀ (i:Nat) (x:Str) (v:V),X.N[i]?=some x->σ[i]?=some (some v)->Vis X.env.scope x->∃ u,RelV v u/\V1n X.env s.heap m x u
 cell:∀ x c,X.env.cells.lookup x=some c->∃ v,s.heap.IsCell c v
 free:H X.env.locals=none
 freeC:∀ x c,X.env.cells.lookup x=some c->H c=none
 pin:∀ p∈X.pn++pins,s.heap.get? p.1=some p.2/\H p.1=none/\p.1≠X.env.locals/\p.1∉X.fs/\∀ v,p.2.data≠.cell v
 hok:HOk X.prog X.w H s.heap
 len:σ.length=X.N.length
section
variable {X:Cx}{pins:List (Addr×Obj)}{σ:List (Option V)}{H H':Hp}{s:Shared}{h':Heap}
theorem Cx.Ok.nofr (ok:X.Ok){b:Addr}{o:Obj}(e:X.base.get? b=some o):b∉X.fs:=fun hb=>by
 have:=(ok.funs.mem hb).1
 rw [e] at this;cases this
theorem Inv.bs (I:Inv X pins σ H s):∀ b o,X.base.get? b=some o->s.heap.get? b=some o/\H b=none:=fun b o e =>
 ⟨I.base.keep b o (I.ok.bs b o e).1 (I.ok.bs b o e).2 (I.ok.nofr e) (I.ok.noex b o e),I.base.free b o (I.ok.bs b o e).1 (I.ok.bs b o e).2 (I.ok.noex b o e)⟩
theorem Inv.bk (I:Inv X pins σ H s):∀ b o,X.base.get? b=some o->s.heap.get? b=some o:=fun b o e=>(I.bs b o e).1
theorem Inv.mod (I:Inv X pins σ H s):Mod X.K X.mg X.base:=I.ok.mod
theorem Inv.kIn (I:Inv X pins σ H s):X.K.In s.heap:=I.ok.mod.kin.keeps I.bk
theorem Inv.lt (I:Inv X pins σ H s):X.env.locals<s.heap.objs.size:=let ⟨_,hn,_⟩:=I.loc;hn.lt
theorem Inv.sz (I:Inv X pins σ H s):X.s₀.heap.objs.size<=s.heap.objs.size:=M7 I.ok.above (B1v I.lt)
theorem Inv.nofs (I:Inv X pins σ H s){a:Addr}(h:s.heap.objs.size<=a):a∉X.fs:=fun hb=>by
 obtain ⟨_,o,ho,_⟩:=I.ok.funs.mem hb
 exact absurd (L3 (B2 ho) (M7 I.sz h)) (L5 _)
theorem Inv.cne (I:Inv X pins σ H s):∀ x c,X.env.cells.lookup x=some c->c≠X.env.locals:=fun x c e z=>by
 obtain ⟨v,o,ho,hd⟩:=I.cell x c e
 obtain ⟨m,⟨o',es,ep,ho',hd',_⟩,_⟩:=I.loc
 rw [z,ho'] at ho;cases ho;rw [hd'] at hd;cases hd
theorem Inv.funs (I:Inv X pins σ H s):s.heap.FunFrames X.base X.outer:=by
 have all:∀ (l:List Env),(∀ b∈frs l,b∈X.fs)->X.s₀.heap.FunFrames X.base l->s.heap.FunFrames X.base l:=by
  intro l
  induction l with
  | nil=>intro _ _;trivial
  | cons env r ih =>
    intro hs hl
    obtain ⟨hk,⟨L,o,hf,hn,ho,hd⟩,hr⟩:=hl
    have hL:L∈X.fs:=hs L (by unfold frs;rw [B2x,hf];exact B8)
    obtain ⟨sl,e⟩:=I.base.slot L o ho (I.ok.frf L hL) hL fun z=>I.ok.exfs L z hL
    exact ⟨hk,⟨L,_,hf,hn,e,hd⟩,ih (fun b hb=>hs b (by unfold frs;rw [B2x,hf];exact L6 _ hb)) hr⟩
 exact all X.outer (fun _ hb=>hb) I.ok.funs
theorem Inv.stack (I:Inv X pins σ H s):s.heap.FunFrames X.base X.stack:=by
 rcases I.ok.stk with e|⟨e,hf⟩
 · rw [e];exact I.funs
 · rw [e]
   obtain ⟨m,hn,_⟩:=I.loc
   refine .cons (by rw [I.ok.kind];decide) hf hn ?_ I.funs
   exact Heap.get?_none_of_le (M7 I.ok.bsz I.ok.above)
theorem Inv.stkSub (I:Inv X pins σ H s):∀ b∈frs X.stack,b∈X.env.locals::X.fs:=fun b hb=>by
 rcases I.ok.stk with e|⟨e,hf⟩
 · rw [e] at hb;exact L6 _ hb
 · rw [e] at hb
   unfold frs at hb
   rw [B2x,hf] at hb
   exact hb
theorem Inv.stkFree (I:Inv X pins σ H s):∀ b∈frs X.stack,H b=none:=fun b hb=>by
 rcases B7.mp (I.stkSub b hb) with e|hb
 · rw [e];exact I.free
 · obtain ⟨_,o,ho,_⟩:=I.ok.funs.mem hb
   exact I.base.free b o ho (I.ok.frf b hb) fun z=>I.ok.exfs b z hb
theorem Inv.step {g':Array GenState}{t':Nat}{d':Drawn}{ch:List Addr}(I:Inv X pins σ H s)
 (hch:∀ b∈ch,(b∈X.ex\/X.s₀.heap.objs.size<=b)/\b≠X.env.locals/\(∀ x c,X.env.cells.lookup x=some c->c≠b)/\∀ p∈X.pn++pins,p.1≠b)
 (keep:∀ b o,b≠X.env.locals->b∉X.fs->b∉ch->s.heap.get? b=some o->H b=none->h'.get? b=some o)
 (slot:∀ b o,b≠X.env.locals->b∈X.fs->b∉ch->s.heap.get? b=some o->H b=none->∃ sl,h'.get? b=some { o with slots:=sl }) (free:∀ b o,b∉ch->s.heap.get? b=some o->H b=none->H' b=none)
 (there:∀ b o,b∉ch->s.heap.get? b=some o->∃ o',h'.get? b=some o')
 (tups:∀ b xs,H b=some (.tup xs)->H' b=some (.tup xs)) (frzs:∀ b o u,H b=some (.frz o u)->H' b=some (.frz o u)) (tbls:∀ b ps,H b=some (.tbl ps)->∃ more,H' b=some (.tbl (ps++more)))
 (ns:∀ m,s.heap.Ns X.env.locals m->h'.Ns X.env.locals m) (hok:HOk X.prog X.w H' h') (hg:AllBare g') :
 Inv X pins σ H' { s with heap:=h',gens:=g',drawn:=d',toks:=t' }:=by
 have neL:∀ b o,X.s₀.heap.get? b=some o->b≠X.env.locals:=fun b o e=>R9 (L3 (B2 e) I.ok.above)
 have neC:∀ b o,X.s₀.heap.get? b=some o->b∉X.ex->b∉ch:=fun b o e hx hb=>by
  rcases (hch b hb).1 with z|z
  · exact hx z
  · exact absurd (L3 (B2 e) z) (L5 _)
 have cellK:∀ x c,X.env.cells.lookup x=some c->∀ v,s.heap.IsCell c v->h'.IsCell c v:=fun x c e v ⟨o,ho,hd⟩=>by
  have nch:c∉ch:=fun z=>(hch c z).2.2.1 x c e rfl
  by_cases hc:c∈X.fs
  · obtain ⟨sl,q⟩:=slot c o (I.cne x c e) hc nch ho (I.freeC x c e)
    exact ⟨_,q,hd⟩
  · exact ⟨o,keep c o (I.cne x c e) hc nch ho (I.freeC x c e),hd⟩
 refine ⟨I.ok,I.os,hg,⟨fun b o e n hb hx=>?_,fun b o e n hb hx=>?_,fun b o e n hx=>?_,fun b o e hx=>?_,fun b xs e=>tups b xs (I.base.tups b xs e),fun b o xs e=>frzs b o xs (I.base.frzs b o xs e),fun b ps e=>?_⟩,?_,fun x c e=>?_,?_,fun x c e=>?_,fun p hp=>?_,hok,I.len⟩
 · exact keep b o (neL b o e) hb (neC b o e hx) (I.base.keep b o e n hb hx) (I.base.free b o e n hx)
 · obtain ⟨sl,e1⟩:=I.base.slot b o e n hb hx
   obtain ⟨sl',e2⟩:=slot b _ (neL b o e) hb (neC b o e hx) e1 (I.base.free b o e n hx)
   exact ⟨sl',e2⟩
 · obtain ⟨o',e1⟩:=I.base.there b o e hx
   exact free b o' (neC b o e hx) e1 (I.base.free b o e n hx)
 · obtain ⟨o',e1⟩:=I.base.there b o e hx
   exact there b o' (neC b o e hx) e1
 · obtain ⟨m1,e1⟩:=I.base.tbls b ps e
   obtain ⟨m2,e2⟩:=tbls b _ e1
   exact ⟨m1++m2,by rw [e2,Array.append_assoc]⟩
 · obtain ⟨m,hn,hl⟩:=I.loc
   refine ⟨m,ns m hn,fun i x v e1 e2 e3=>?_⟩
   obtain ⟨u,r,l⟩:=hl i x v e1 e2 e3
   refine ⟨u,r,?_⟩
   rcases l with l|⟨k,c,e,z⟩
   · exact .inl l
   · exact .inr ⟨k,c,e,cellK x c e _ z⟩
 · obtain ⟨v,z⟩:=I.cell x c e
   exact ⟨v,cellK x c e v z⟩
 · obtain ⟨m,⟨o,_,_,ho,_⟩,_⟩:=I.loc
   exact free _ o (fun z=>(hch _ z).2.1 rfl) ho I.free
 · obtain ⟨v,o,ho,hd⟩:=I.cell x c e
   exact free c o (fun z=>(hch c z).2.2.1 x c e rfl) ho (I.freeC x c e)
 · obtain ⟨e,n,ne,nf,d⟩:=I.pin p hp
   have nch:p.1∉ch:=fun z=>(hch p.1 z).2.2.2 p hp rfl
   exact ⟨keep p.1 p.2 ne nf nch e n,free p.1 p.2 nch e n,ne,nf,d⟩
theorem Inv.un {t':Nat}(I:Inv X pins σ H s)(u:Un X.fs [] H H' s.heap h')(hok:HOk X.prog X.w H' h'):Inv X pins σ H' { s with heap:=h',toks:=t' }:=by
 obtain ⟨m,⟨o,es,ep,ho,r⟩,_⟩:=id I.loc
 obtain ⟨sl,hL⟩:=u.any ho I.free (by simp)
 exact I.step (g':=s.gens) (d':=s.drawn) (ch:=[]) (fun _ z=>nomatch z) (fun b o _ hb _ e n=>u.keep b o e n hb (by simp)) (fun b o _ hb _ e n=>u.slot b o e n hb (by simp)) (fun b o _ e n=>u.free b o e n (by simp)) (fun b o _ e=>u.there b o e (by simp)) u.tups u.frzs u.tbls (fun m' hm=>by
  obtain ⟨o',es',ep',ho',r'⟩:=hm
  rw [ho] at ho';cases ho'
  exact ⟨_,es',ep',hL,r'⟩) hok I.bare
theorem Inv.call {g':Array GenState}{t':Nat}{d':Drawn}{ch:List Addr}(I:Inv X pins σ H s)(u:Un (frs X.stack) ch H H' s.heap h')(hok:HOk X.prog X.w H' h')(hg:AllBare g')
 (hch:∀ b∈ch,(b∈X.ex\/X.s₀.heap.objs.size<=b)/\b≠X.env.locals/\(∀ x c,X.env.cells.lookup x=some c->c≠b)/\∀ p∈X.pn++pins,p.1≠b) :
 Inv X pins σ H' { s with heap:=h',gens:=g',drawn:=d',toks:=t' }:=by
 obtain ⟨m,⟨o,es,ep,ho,r⟩,_⟩:=id I.loc
 obtain ⟨sl,hL⟩:=u.any ho I.free fun z=>(hch _ z).2.1 rfl
 exact I.step (ch:=ch) hch (fun b o hL hb hc e n=>u.keep b o e n (fun z=>(B7.mp (I.stkSub b z)).elim hL hb) hc) (fun b o _ _ hc e n=>u.any e n hc) (fun b o hc e n=>u.free b o e n hc) (fun b o hc e=>u.there b o e hc) u.tups u.frzs u.tbls (fun m' hm=>by
  obtain ⟨o',es',ep',ho',r'⟩:=hm
  rw [ho] at ho';cases ho'
  exact ⟨_,es',ep',hL,r'⟩) hok hg
theorem Inv.turned {t':Nat}{it:Addr}(I:Inv X pins σ H s)(k:∀ b o,b≠it->s.heap.get? b=some o->h'.get? b=some o)(hn:H it=none)(hL:it≠X.env.locals)
 (h1:it∈X.ex\/X.s₀.heap.objs.size<=it) (h2:∀ x c,X.env.cells.lookup x=some c->c≠it) (h3:∀ p∈X.pn++pins,p.1≠it):Inv X pins σ H { s with heap:=h',toks:=t' }:=by
 have nit:∀ b u,H b=some u->b≠it:=fun b u e z=>by rw [z,hn] at e;cases e
 refine I.step (g':=s.gens) (d':=s.drawn) (ch:=[it]) (fun b hb=>?_) (fun b o _ _ hc e _=>k b o (fun z=>hc (by simp [z])) e) (fun b o _ _ hc e _=>⟨o.slots,k b o (fun z=>hc (by simp [z])) e⟩) (fun _ _ _ _ n=>n)
  (fun b o hc e=>⟨o,k b o (fun z=>hc (by simp [z])) e⟩) (fun _ _ e=>e) (fun _ _ _ e=>e) (fun b ps e=>⟨#[],by rw [e];simp⟩) (fun m hm=>?_) (fun b u e=>?_) I.bare
 · have e:b=it:=by simpa using hb
   subst e
   exact ⟨h1,hL,h2,h3⟩
 · obtain ⟨o,es,ep,ho,r⟩:=hm
   exact ⟨o,es,ep,k _ o (B0c hL) ho,r⟩
 · refine (I.hok b u e).stay (fun c v hc q=>k c v ?_ q) (fun _ q=>q) fun _ _ q=>q
   rcases hc with z|z
   · rw [z];exact nit b u e
   · exact nit c _ z
theorem Inv.tok (I:Inv X pins σ H s)(t:Nat):Inv X pins σ H { s with toks:=t }:=I.un (h':=s.heap) (t':=t) Un.refl I.hok
theorem Inv.kept {t':Nat}(I:Inv X pins σ H s)(k:∀ b u,s.heap.get? b=some u->h'.get? b=some u):Inv X pins σ H { s with heap:=h',toks:=t' }:=I.un (Un.kept k) (I.hok.kept k)
theorem Inv.laid {a:Addr}{o:HO}{t':Nat}(I:Inv X pins σ H s)(k:∀ b u,s.heap.get? b=some u->h'.get? b=some u)(hp:s.heap.objs.size<=a)(new:ObjOk X.prog X.w (upd H a o) h' a o) :
 Inv X pins σ (upd H a o) { s with heap:=h',toks:=t' }:=I.un (Un.laid k hp (I.hok.fresh hp)) (I.hok.laid k hp new)
theorem Inv.write {x e:Addr}{o:HO}{t':Nat}(I:Inv X pins σ H s)(mu:Mut (H x))(he:e=x\/H e=some (.own x))(k:∀ b u,b≠e->s.heap.get? b=some u->h'.get? b=some u)(heo:∃ u,h'.get? e=some u)
 (new:ObjOk X.prog X.w (upd H x o) h' x o):Inv X pins σ (upd H x o) { s with heap:=h',toks:=t' }:=I.un (Un.write mu he k heo) (I.hok.write mu he k heo new)
theorem Inv.weak {σ':List (Option V)}(I:Inv X pins σ H s)(hl:σ'.length=σ.length)(w:∀ (i:Nat) v,σ'[i]?=some (some v)->σ[i]?=some (some v)):Inv X pins σ' H s :=
 ⟨I.ok,I.os,I.bare,I.base,let ⟨m,hn,hl'⟩:=I.loc;⟨m,hn,fun i x v e1 e2 e3=>hl' i x v e1 (w i v e2) e3⟩,I.cell,I.free,I.freeC,I.pin,I.hok,hl.trans I.len⟩
theorem Inv.pins_of {pins':List (Addr×Obj)}(I:Inv X pins σ H s)(h:∀ p∈pins',s.heap.get? p.1=some p.2/\H p.1=none/\p.1≠X.env.locals/\p.1∉X.fs/\∀ v,p.2.data≠.cell v):Inv X pins' σ H s :=
 ⟨I.ok,I.os,I.bare,I.base,I.loc,I.cell,I.free,I.freeC,fun p hp=>(U0.mp hp).elim (fun z=>I.pin p (R7 _ z)) (h p),I.hok,I.len⟩
theorem UJ {N:List Str}(hN:N.Nodup){i j:Nat}{x:Str}(a:N[i]?=some x)(b:N[j]?=some x):i=j:=by
 obtain ⟨h1,e1⟩:=M1.mp a
 obtain ⟨h2,e2⟩:=M1.mp b
 exact (List.getElem_inj hN).mp (e1.trans e2.symm)
theorem KU {M:Model}{A:Around}{E:Value->Shared->Prop}{i:Nat}{x:Str}{v:V}{u:Value}{Q:Unit->Shared->Prop}(I:Inv X pins σ H s)(hN:X.N.Nodup)(hi:X.N[i]?=some x)(hx:Loc X.env.scope x)(r:RelV v u)
 (h:∀ s',Inv X pins (σ.set i (some v)) H s'->(∃ a,Heap.SameBut a s.heap s'.heap/\(a=X.env.locals\/X.env.cells.lookup x=some a))->Q () s') (hf:X.fn x=true\/X.env.scope.names.lookup x=some .local:=by first|exact .inl rfl|exact .inr rfl|assumption):wpAny M A (storeName X.env x u) Q E s:=by
 obtain ⟨m,hn,hl⟩:=id I.loc
 have hcls:(X.env.scope.kind==.class||(X.env.scope.kind==.module&&X.env.locals != X.env.globals))=false:=by rw [I.ok.kind];rfl
 have hiσ:i<σ.length:=by rw [I.len];exact (M1.mp hi).1
 have cne:=I.cne
 have tracked:∀ {a:Addr} {h':Heap},(∃ o,s.heap.get? a=some o/\H a=none)->Heap.SameBut a s.heap h'->HOk X.prog X.w H h':=fun {a h'} ha hs b ob e=>by
  obtain ⟨_,_,hfree⟩:=ha
  refine (I.hok b ob e).stay (fun c w' hc q=>(hs.2 c ?_).trans q) (fun _ q=>q) fun _ _ q=>q
  rintro rfl
  rcases hc with rfl|hc
  · rw [hfree] at e;cases e
  · rw [hfree] at hc;cases hc
 rcases hx with hk|hk
 · refine wpAny_storeName_local hk hn (fun h' hn' hs=>?_) hcls
   obtain ⟨oL,_,_,hoL,_⟩:=id hn
   refine h _ ⟨I.ok,I.os,I.bare,⟨fun b o e n hb hx=>?_,fun b o e n hb hx=>?_,I.base.free,fun b o e hx=>?_,I.base.tups,I.base.frzs,I.base.tbls⟩,⟨_,hn',fun j y v' e1 e2 e3=>?_⟩,fun y c e=>?_,I.free,I.freeC,fun p hp=>?_,tracked ⟨oL,hoL,I.free⟩ hs,by simpa using I.len⟩ ⟨_,hs,.inl rfl⟩
   · exact (hs.2 b (R9 (L3 (B2 e) I.ok.above))).trans (I.base.keep b o e n hb hx)
   · obtain ⟨sl,e1⟩:=I.base.slot b o e n hb hx
     exact ⟨sl,(hs.2 b (R9 (L3 (B2 e) I.ok.above))).trans e1⟩
   · obtain ⟨o',e1⟩:=I.base.there b o e hx
     exact ⟨o',(hs.2 b (R9 (L3 (B2 e) I.ok.above))).trans e1⟩
   · by_cases hj:j=i
     · subst hj
       rw [hi] at e1;cases e1
       rw [List.getElem?_set_self hiσ] at e2
       cases e2
       exact ⟨u,r,.inl ⟨hk,by simp⟩⟩
     · rw [L4 (B0c hj)] at e2
       obtain ⟨u',r',q⟩:=hl j y v' e1 e2 e3
       refine ⟨u',r',?_⟩
       rcases q with ⟨k,e⟩|⟨k,c,e,z⟩
       · refine .inl ⟨k,?_⟩
         have:y≠x:=fun e=>hj (UJ hN e1 (e▸hi))
         simp [this,e]
       · exact .inr ⟨k,c,e,z.sameBut hs (cne y c e)⟩
   · obtain ⟨w',z⟩:=I.cell y c e
     exact ⟨w',z.sameBut hs (cne y c e)⟩
   · obtain ⟨e,n,ne,nf,d⟩:=I.pin p hp
     exact ⟨(hs.2 p.1 ne).trans e,n,ne,nf,d⟩
 · have hfn:X.fn x=true:=by
    rcases hf with z|z
    · exact z
    · rw [z] at hk;cases hk
   obtain ⟨c,hc⟩:=I.ok.has x (.inl hk)
   obtain ⟨w',z⟩:=I.cell x c hc
   refine wpAny_storeName_cell I.ok.kind hk hc z (fun h' hc' hs=>?_)
   obtain ⟨oc,hoc,hocd⟩:=id z
   refine h { s with heap:=h' } ⟨I.ok,I.os,I.bare,⟨fun b o e n hb hx=>?_,fun b o e n hb hx=>?_,I.base.free,fun b o e hx=>?_,I.base.tups,I.base.frzs,I.base.tbls⟩,⟨m,hn.sameBut hs (B0c (cne x c hc)),fun j y v' e1 e2 e3=>?_⟩,fun y c' e=>?_,I.free,I.freeC,fun p hp=>?_,tracked ⟨oc,hoc,I.freeC x c hc⟩ hs,by simpa using I.len⟩ ⟨c,hs,.inr hc⟩
   · exact (hs.2 b (R9 (L3 (B2 e) (I.ok.cab x c hfn hc)))).trans (I.base.keep b o e n hb hx)
   · obtain ⟨sl,e1⟩:=I.base.slot b o e n hb hx
     exact ⟨sl,(hs.2 b (R9 (L3 (B2 e) (I.ok.cab x c hfn hc)))).trans e1⟩
   · obtain ⟨o',e1⟩:=I.base.there b o e hx
     exact ⟨o',(hs.2 b (R9 (L3 (B2 e) (I.ok.cab x c hfn hc)))).trans e1⟩
   · by_cases hj:j=i
     · subst hj
       rw [hi] at e1;cases e1
       rw [List.getElem?_set_self hiσ] at e2
       cases e2
       exact ⟨u,r,.inr ⟨.inl hk,c,hc,hc'⟩⟩
     · rw [L4 (B0c hj)] at e2
       obtain ⟨u',r',q⟩:=hl j y v' e1 e2 e3
       refine ⟨u',r',?_⟩
       rcases q with q|⟨k,c',e,z'⟩
       · exact .inl q
       · refine .inr ⟨k,c',e,z'.sameBut hs ?_⟩
         rintro rfl
         exact hj (UJ hN e1 (I.ok.inj _ _ _ e hc▸hi))
   · by_cases hcc:c'=c
     · subst hcc;exact ⟨_,hc'⟩
     · obtain ⟨w2,z2⟩:=I.cell y c' e
       exact ⟨w2,z2.sameBut hs hcc⟩
   · obtain ⟨e,n,ne,nf,d⟩:=I.pin p hp
     refine ⟨(hs.2 p.1 ?_).trans e,n,ne,nf,d⟩
     intro q
     rw [q,hoc] at e
     have q':oc=p.2:=Option.some.inj e
     exact d w' (by rw [<- q'];exact hocd)
theorem HM {M:Model}{A:Around}{E:Value->Shared->Prop}{i:Nat}{x:Str}{v:V}{u:Value}{Q:Unit->Shared->Prop}(I:Inv X pins σ H s)(hN:X.N.Nodup)(hi:X.N[i]?=some x)(hx:Loc X.env.scope x)(r:RelV v u)
 (h:∀ s',Inv X pins (σ.set i (some v)) H s'->Q () s') (hf:X.fn x=true\/X.env.scope.names.lookup x=some .local:=by first|exact .inl rfl|exact .inr rfl|assumption):wpAny M A (storeName X.env x u) Q E s :=
 KU I hN hi hx r (fun s' I' _=>h s' I') hf
theorem Inv.call' {s':Shared}{ch:List Addr}(I:Inv X pins σ H s)(ho:s'.os=s.os)(u:Un (frs X.stack) ch H H' s.heap s'.heap)(hok:HOk X.prog X.w H' s'.heap)(hg:AllBare s'.gens)
 (hch:∀ b∈ch,(b∈X.ex\/X.s₀.heap.objs.size<=b)/\b≠X.env.locals/\(∀ x c,X.env.cells.lookup x=some c->c≠b)/\∀ p∈X.pn++pins,p.1≠b):Inv X pins σ H' s':=by
 obtain ⟨h',g',d',t',o'⟩:=s'
 have e:o'=s.os:=ho
 subst e
 exact I.call (g':=g') (t':=t') (d':=d') u hok hg hch
end
abbrev XK:=Value->Option Addr->Hp->Prop
abbrev St:=List (Option V)
abbrev VK:=V->Hp->Prop
abbrev TE:=St->Hp->VK->Prop
abbrev TT:=St->Hp->(Bool->Hp->Prop)->Prop
abbrev TA:=St->Hp->(List V->Hp->Prop)->Prop
structure Ends where
 nx:St->Hp->Prop
 rt:VK
 bk:St->Hp->Prop:=fun _ _=>False
 ct:St->Hp->Prop:=fun _ _=>False
abbrev TS:=Ends->St->Hp->Prop
def EP (X:Cx)(pins:List (Addr×Obj))(σ:St)(Q:VK)(u:Value)(s':Shared):Prop:=∃ v H',Inv X pins σ H' s'/\RelV v u/\Q v H'
def TP (X:Cx)(pins:List (Addr×Obj))(σ:St)(Q:Bool->Hp->Prop)(b:Bool)(s':Shared):Prop:=∃ H',Inv X pins σ H' s'/\Q b H'
def AP (X:Cx)(pins:List (Addr×Obj))(σ:St)(Q:List V->Hp->Prop)(us:List Value)(s':Shared):Prop:=∃ vs H',Inv X pins σ H' s'/\Vals vs us/\Q vs H'
def SP (X:Cx)(pins:List (Addr×Obj))(D:Ends)(f:Flow)(s':Shared):Prop :=
 match f with
 | .next=>∃ σ' H',Inv X pins σ' H' s'/\D.nx σ' H'
 | .brk=>∃ σ' H',Inv X pins σ' H' s'/\D.bk σ' H'
 | .cont=>∃ σ' H',Inv X pins σ' H' s'/\D.ct σ' H'
 | .ret u=>∃ v σ' H',Inv X pins σ' H' s'/\RelV v u/\D.rt v H'
def PE (X:Cx)(e:Expr)(t:TE):Prop :=
 ∀ (pins:List (Addr×Obj)) (s:Shared) (σ:St) (H:Hp) (Q:VK),Inv X pins σ H s->t σ H Q->wpAny (model X.prog X.w) X.A (eval e X.env) (EP X pins σ Q) X.xe s
def PT (X:Cx)(e:Expr)(t:TT):Prop :=
 ∀ (pins:List (Addr×Obj)) (s:Shared) (σ:St) (H:Hp) (Q:Bool->Hp->Prop),Inv X pins σ H s->t σ H Q->wpAny (model X.prog X.w) X.A (isTrue e X.env (eval e X.env)) (TP X pins σ Q) X.xe s
def PW (X:Cx)(e:Expr)(t:TT):Prop :=
 ∀ (whole:Sem Value) (pins:List (Addr×Obj)) (s:Shared) (σ:St) (H:Hp) (Q:Bool->Hp->Prop),Inv X pins σ H s->t σ H Q->wpAny (model X.prog X.w) X.A (isTrue e X.env whole) (TP X pins σ Q) X.xe s
theorem PW.pt {X:Cx}{e:Expr}{t:TT}(h:PW X e t):PT X e t:=h _
def PA (X:Cx)(es:List Expr)(t:TA):Prop :=
 ∀ (pos:Pos) (pins:List (Addr×Obj)) (s:Shared) (σ:St) (H:Hp) (Q:List V->Hp->Prop),Inv X pins σ H s->t σ H Q->wpAny (model X.prog X.w) X.A (spliced (backTo pos (starEach es X.env))) (AP X pins σ Q) X.xe s
def PS (X:Cx)(st:Stmt)(t:TS):Prop :=
 ∀ (pins:List (Addr×Obj)) (s:Shared) (σ:St) (H:Hp) (D:Ends),Inv X pins σ H s->t D σ H->wpAny (model X.prog X.w) X.A (exec st X.env) (SP X pins D) X.xe s
def PSs (X:Cx)(st:List Stmt)(t:TS):Prop :=
 ∀ (pins:List (Addr×Obj)) (s:Shared) (σ:St) (H:Hp) (D:Ends),Inv X pins σ H s->t D σ H->wpAny (model X.prog X.w) X.A (execs st X.env) (SP X pins D) X.xe s
theorem thn {α:Type}{t:Sem α}{Q Q':α->Shared->Prop}{M:Model}{A:Around}{E:Value->Shared->Prop}{s:Shared}(h:wpAny M A t Q E s)(hQ:∀ a s,Q a s->Q' a s):wpAny M A t Q' E s:=U7 h hQ fun _ _ x=>x
section
variable {X:Cx}
def J0x (i:Nat):TE:=fun σ H Q=>∃ v,σ[i]?=some (some v)/\Q v H
def tC (v:V):TE:=fun _ H Q=>Q v H
theorem RM {i:Nat}{x:Str}{pos:Pos}(hN:X.N[i]?=some x)(hv:Vis X.env.scope x)(hd:(x==("__debug__" : Str))=false:=by decide) (hcd:(x==("__classdict__" : Str))=false:=by decide):PE X (.Name x pos) (J0x i):=by
 intro pins s σ H Q I h
 obtain ⟨v,e,h⟩:=h
 obtain ⟨m,hn,hl⟩:=I.loc
 obtain ⟨u,r,l⟩:=hl i x v hN e hv
 have fin:EP X pins σ Q u s:=⟨v,H,I,r,h⟩
 rcases l with ⟨hk,hm⟩|⟨hk,c,hc,hcell⟩
 · exact wpAny_Name (wpAny_loadName_local I.ok.kind hk hn hm fin) hd
 · rcases hk with hk|hk
   · exact wpAny_Name (wpAny_loadName_cell I.ok.kind hk hc hcell fin) hd
   · exact wpAny_Name (wpAny_loadName_free I.ok.kind hk hc hcell fin hcd) hd
theorem AA {i j pos}:PE X (.Constant (.int i) j pos) (tC (.int i)):=fun _ _ _ H _ I h=>wpAny_Constant_int ⟨.int i,H,I.tok _,⟨_,rfl⟩,h⟩
theorem Q1s {b j pos}:PE X (.Constant (.bool b) j pos) (tC (.bl b)):=fun _ _ _ H _ I h=>Constant_bool ⟨.bl b,H,I,rfl,h⟩
theorem Q3x {j pos}:PE X (.Constant .none j pos) (tC .non):=fun _ _ _ H _ I h=>Constant_none ⟨.non,H,I,rfl,h⟩
theorem J4h {x j pos}:PE X (.Constant (.str x) j pos) (tC (.str x)):=fun _ _ _ H _ I h=>Calls.Constant_str ⟨.str x,H,I.tok _,⟨_,rfl⟩,h⟩
def Gl (X:Cx)(x:Str):Prop:=X.env.kindOf x=some .globalImplicit
theorem MP {E:Value->Shared->Prop}{pins:List (Addr×Obj)}{s:Shared}{σ:St}{H:Hp}{x:Str}{u:Value}{pos:Pos}{Q:Value->Shared->Prop}(I:Inv X pins σ H s)(hg:Gl X x)(hm:X.mg x=some u)(h:Q u s)
 (hd:(x==("__debug__" : Str))=false:=by decide):wpAny (model X.prog X.w) X.A (eval (.Name x pos) X.env) Q E s :=
 Calls.Name_function_global I.ok.kind hg (Calls.loadGlobal_global (by rw [I.ok.glob];exact I.mod.glob.keeps I.bk) hm h) hd
theorem JL {E:Value->Shared->Prop}{pins:List (Addr×Obj)}{s:Shared}{σ:St}{H:Hp}{x:Str}{u:Value}{pos:Pos}{Q:Value->Shared->Prop}(I:Inv X pins σ H s)(hg:Gl X x)(hm:X.mg x=none)(hv:bootBuiltins x=some u)(h:Q u s)
 (hn:x≠"__name__":=by decide) (hd:(x==("__debug__" : Str))=false:=by decide):wpAny (model X.prog X.w) X.A (eval (.Name x pos) X.env) Q E s:=by
 obtain ⟨mb,h1,h2⟩:=I.mod.blt
 exact Calls.Name_function_global I.ok.kind hg (Calls.loadGlobal_builtin (by rw [I.ok.glob];exact I.mod.glob.keeps I.bk) hm (by rw [I.ok.blt];exact h1.keeps I.bk) ((h2 x hn).trans hv) h) hd
theorem J8x {x:Str}{v:V}{u:Value}{pos:Pos}(hg:Gl X x)(hm:X.mg x=some u)(r:RelV v u)(hd:(x==("__debug__" : Str))=false:=by decide):PE X (.Name x pos) (tC v) :=
 fun _ _ _ H _ I h=>MP I hg hm ⟨v,H,I,r,h⟩ hd
theorem J9a {x:Str}{v:V}{u:Value}{pos:Pos}(hg:Gl X x)(hm:X.mg x=none)(hv:bootBuiltins x=some u)(r:RelV v u)(hn:x≠"__name__":=by decide) (hd:(x==("__debug__" : Str))=false:=by decide):PE X (.Name x pos) (tC v) :=
 fun _ _ _ H _ I h=>JL I hg hm hv ⟨v,H,I,r,h⟩ hn hd
variable {a b:Expr}{ta tb:TE}{pos:Pos}
def tB (t:TE):TT:=fun σ H Q=>t σ H fun x H1=>∃ c,x=.bl c/\Q c H1
variable {tA tB':TT}{rest:List Expr}
def Q7v (t u:TT):TT:=fun σ H Q=>t σ H fun c H1=>if c=true then u σ H1 Q else Q false H1
def tOr (t u:TT):TT:=fun σ H Q=>t σ H fun c H1=>if c=true then Q true H1 else u σ H1 Q
def V0q (t:TT):TT:=fun σ H Q=>t σ H fun c H1=>Q (!c) H1
theorem J8n (ha:PT X a tA):PW X (.BoolOp .And [a] pos) tA:=by
 intro wh pins s σ H Q I h
 refine isTrue_and (thn (ha pins s σ H Q I h) fun c s1 e=>?_)
 cases c with
 | true=>exact isTrue_and_nil e
 | false=>exact e
theorem Q3n (ha:PT X a tA):PW X (.BoolOp .Or [a] pos) tA:=by
 intro wh pins s σ H Q I h
 refine isTrue_or (thn (ha pins s σ H Q I h) fun c s1 e=>?_)
 cases c with
 | false=>exact isTrue_or_nil e
 | true=>exact e
theorem Q3o (ha:PT X a tA)(hb:PW X (.BoolOp .And (b::rest) pos) tB'):PW X (.BoolOp .And (a::b::rest) pos) (Q7v tA tB'):=by
 intro wh pins s σ H Q I h
 refine isTrue_and (thn (ha pins s σ H _ I h) fun c s1 ⟨H1,I1,q1⟩=>?_)
 cases c with
 | true=>exact hb wh pins s1 σ H1 Q I1 q1
 | false=>exact ⟨H1,I1,q1⟩
theorem Q8c (ha:PT X a tA)(hb:PW X (.BoolOp .Or (b::rest) pos) tB'):PW X (.BoolOp .Or (a::b::rest) pos) (tOr tA tB'):=by
 intro wh pins s σ H Q I h
 refine isTrue_or (thn (ha pins s σ H _ I h) fun c s1 ⟨H1,I1,q1⟩=>?_)
 cases c with
 | true=>exact ⟨H1,I1,q1⟩
 | false=>exact hb wh pins s1 σ H1 Q I1 q1
theorem Q3p (ha:PT X a tA):PT X (.UnaryOp .Not a pos) (V0q tA):=by
 intro pins s σ H Q I h
 exact isTrue_not (ha pins s σ H (fun c H1=>Q (!c) H1) I h)
def Q7u (ta tb:TE):TE:=fun σ H Q=>ta σ H fun x H1=>∃ c,x=.bl c/\if c=true then tb σ H1 Q else Q (.bl false) H1
def V0p (ta tb:TE):TE:=fun σ H Q=>ta σ H fun x H1=>∃ c,x=.bl c/\if c=true then Q (.bl true) H1 else tb σ H1 Q
def Q7p (ta:TE):TE:=fun σ H Q=>ta σ H fun x H1=>∃ c,x=.bl c/\Q (.bl (!c)) H1
theorem Q3v {op}{t:TE}(h:PE X a t):PE X (.BoolOp op [a] pos) t:=fun pins s σ H Q I hw=>BoolOp_one (h pins s σ H Q I hw)
theorem Q3y (ha:PE X a ta)(hb:PE X (.BoolOp .And (b::rest) pos) tb):PE X (.BoolOp .And (a::b::rest) pos) (Q7u ta tb):=by
 intro pins s σ H Q I h
 refine BoolOp_and (thn (ha pins s σ H _ I h) fun v s1 ⟨x,H1,I1,r1,q1⟩=>?_)
 obtain ⟨c,rfl,q1⟩:=q1
 cases r1
 refine D9 ?_
 cases c with
 | true=>exact hb pins s1 σ H1 Q I1 q1
 | false=>exact ⟨.bl false,H1,I1,rfl,q1⟩
theorem Q8f (ha:PE X a ta)(hb:PE X (.BoolOp .Or (b::rest) pos) tb):PE X (.BoolOp .Or (a::b::rest) pos) (V0p ta tb):=by
 intro pins s σ H Q I h
 refine BoolOp_or (thn (ha pins s σ H _ I h) fun v s1 ⟨x,H1,I1,r1,q1⟩=>?_)
 obtain ⟨c,rfl,q1⟩:=q1
 cases r1
 refine D9 ?_
 cases c with
 | false=>exact hb pins s1 σ H1 Q I1 q1
 | true=>exact ⟨.bl true,H1,I1,rfl,q1⟩
theorem Q3w (ha:PE X a ta):PE X (.UnaryOp .Not a pos) (Q7p ta):=by
 intro pins s σ H Q I h
 refine UnaryOp_ (thn (ha pins s σ H _ I h) fun v s1 ⟨x,H1,I1,r1,q1⟩=>?_)
 obtain ⟨c,rfl,q1⟩:=q1
 cases r1
 exact not_of (D9 ⟨.bl (!c),H1,I1,rfl,q1⟩)
def tIf (t:TT)(ta tb:TE):TE:=fun σ H Q=>t σ H fun c H1=>if c=true then ta σ H1 Q else tb σ H1 Q
theorem J4j {c:Expr}(hc:PT X c tA)(ha:PE X a ta)(hb:PE X b tb):PE X (.IfExp c a b pos) (tIf tA ta tb):=by
 intro pins s σ H Q I h
 refine wpAny_IfExp (thn (hc pins s σ H _ I h) fun d s1 ⟨H1,I1,q1⟩=>?_)
 cases d with
 | true=>exact ha pins s1 σ H1 Q I1 q1
 | false=>exact hb pins s1 σ H1 Q I1 q1
end
def SqL (K:Fg)(H:Hp)(a:Addr)(xs:List V):Prop :=
 Rd H a (.lst xs) \/
  ∃ (o:Obj) (its:Array Value) (n:Nat),K.lookup a=some o/\o.cls=.type "list"/\o.dict=none/\o.data=.seq its n/\its.size<=sizeLine/\Vals xs its.toList
def SqT (K:Fg)(H:Hp)(a:Addr)(xs:List V):Prop :=
 Rd H a (.tup xs) \/
  ∃ (o:Obj) (its:Array Value) (n:Nat),K.lookup a=some o/\o.cls=.type "tuple"/\o.data=.seq its n/\its.size<=sizeLine/\Vals xs its.toList
def V1j:Value->Option V
 | .none=>some .non
 | .bool b=>some (.bl b)
 | .int i _=>some (.int i)
 | .str x _=>some (.str x)
 | .bytes b _=>some (.byt b)
 | .float b _=>some (.flt b)
 | .ref a=>some (.ref a)
 | .type n=>some (.ty n)
 | _=>none
theorem RelV.abs {x:V}{u:Value}(r:RelV x u):V1j u=some x:=by
 cases x with
 | non=>cases r;rfl
 | bl _=>cases r;rfl
 | int _=>obtain ⟨t,rfl⟩:=r;rfl
 | str _=>obtain ⟨t,rfl⟩:=r;rfl
 | byt _=>obtain ⟨t,rfl⟩:=r;rfl
 | flt _=>obtain ⟨t,rfl⟩:=r;rfl
 | ref _=>cases r;rfl
 | ty _=>cases r;rfl
theorem RelV.inj {x y:V}{u:Value}(r:RelV x u)(q:RelV y u):x=y:=Option.some.inj (r.abs.symm.trans q.abs)
theorem Vals.inj:∀ {xs ys:List V} {us:List Value},Vals xs us->Vals ys us->xs=ys
 | _,_,_,.nil,.nil=>rfl
 | _,_,_,.cons r t,.cons r' t'=>by rw [r.inj r',Vals.inj t t']
section
variable {X:Cx}{pins:List (Addr×Obj)}{σ:St}{H:Hp}{s:Shared}{a:Addr}{xs ys:List V}
theorem SqL.of (h:H a=some (.lst xs)):SqL K H a xs:=.inl (.inl h)
theorem SqT.of (h:H a=some (.tup xs)):SqT K H a xs:=.inl (.inl h)
theorem Inv.list (I:Inv X pins σ H s)(h:SqL X.K H a xs):∃ its:List Value,Vals xs its/\PlainL s.heap a its.toArray/\xs.length<=sizeLine:=by
 rcases h with h|⟨o,its,n,hk,hc,hd,hs,hz,r⟩
 · obtain ⟨z,its,n,r,e⟩:=h.ok I.hok
   exact ⟨its,r,⟨_,n,e,rfl,rfl,rfl⟩,z⟩
 · refine ⟨its.toList,r,⟨o,n,I.kIn a o hk,hc,hd,by simpa using hs⟩,?_⟩
   have e:=r.length
   simp only [B2y] at e
   omega
theorem Inv.tuple (I:Inv X pins σ H s)(h:SqT X.K H a xs):∃ its:List Value,Vals xs its/\IsTup s.heap a its.toArray/\xs.length<=sizeLine:=by
 rcases h with h|⟨o,its,n,hk,hc,hs,hz,r⟩
 · obtain ⟨z,its,r,p⟩:=h.ok I.hok
   exact ⟨its,r,p,z⟩
 · refine ⟨its.toList,r,⟨o,I.kIn a o hk,hc,n,by simpa using hs⟩,?_⟩
   have e:=r.length
   simp only [B2y] at e
   omega
theorem Inv.list_inj (I:Inv X pins σ H s)(h:SqL X.K H a xs)(h':SqL X.K H a ys):xs=ys:=by
 obtain ⟨its,r,⟨o,n,e,_,_,d⟩,_⟩:=I.list h
 obtain ⟨its',r',⟨o',n',e',_,_,d'⟩,_⟩:=I.list h'
 rw [e] at e';cases e'
 rw [d] at d'
 injection d' with d1 _
 have:its=its':=by simpa using B0b Array.toList d1
 subst this
 exact r.inj r'
theorem Inv.tuple_inj (I:Inv X pins σ H s)(h:SqT X.K H a xs)(h':SqT X.K H a ys):xs=ys:=by
 obtain ⟨its,r,⟨o,e,_,n,d⟩,_⟩:=I.tuple h
 obtain ⟨its',r',⟨o',e',_,n',d'⟩,_⟩:=I.tuple h'
 rw [e] at e';cases e'
 rw [d] at d'
 injection d' with d1 _
 have:its=its':=by simpa using B0b Array.toList d1
 subst this
 exact r.inj r'
end
abbrev Cx.wish (X:Cx)(E:Value->Shared->Prop):Cx:={ X with xe:=E }
abbrev Cx.nox (X:Cx):Cx:=X.wish fun _ _=>False
theorem Cx.Ok.wish {X:Cx}(ok:X.Ok)(E:Value->Shared->Prop):(X.wish E).Ok :=
 ⟨ok.mod,ok.kind,ok.glob,ok.blt,ok.above,ok.inj,ok.has,ok.cab,ok.hd,ok.frames,ok.stk,ok.exf,ok.bs,ok.bsz,ok.noex,ok.exfs,ok.funs,ok.frf⟩
theorem Cx.Ok.unwish {X:Cx}{E:Value->Shared->Prop}(ok:(X.wish E).Ok):X.Ok :=
 ⟨ok.mod,ok.kind,ok.glob,ok.blt,ok.above,ok.inj,ok.has,ok.cab,ok.hd,ok.frames,ok.stk,ok.exf,ok.bs,ok.bsz,ok.noex,ok.exfs,ok.funs,ok.frf⟩
section
variable {X:Cx}{pins:List (Addr×Obj)}{σ:St}{H:Hp}{s:Shared}{E:Value->Shared->Prop}
theorem Inv.wish (I:Inv X pins σ H s)(E:Value->Shared->Prop):Inv (X.wish E) pins σ H s:=⟨I.ok.wish E,I.os,I.bare,I.base,I.loc,I.cell,I.free,I.freeC,I.pin,I.hok,I.len⟩
theorem Inv.unwish (I:Inv (X.wish E) pins σ H s):Inv X pins σ H s:=⟨I.ok.unwish,I.os,I.bare,I.base,I.loc,I.cell,I.free,I.freeC,I.pin,I.hok,I.len⟩
theorem SP.unwish {D:Ends}{f:Flow}{s':Shared}(h:SP (X.wish E) pins D f s'):SP X pins D f s':=by
 cases f with
 | next=>obtain ⟨σ',H',I,q⟩:=h;exact ⟨σ',H',I.unwish,q⟩
 | brk=>obtain ⟨σ',H',I,q⟩:=h;exact ⟨σ',H',I.unwish,q⟩
 | cont=>obtain ⟨σ',H',I,q⟩:=h;exact ⟨σ',H',I.unwish,q⟩
 | ret u=>obtain ⟨v,σ',H',I,r,q⟩:=h;exact ⟨v,σ',H',I.unwish,r,q⟩
theorem PSs.nox {st:List Stmt}{t:TS}(h:PSs X.nox st t):PSs X st t:=fun pins s σ H D I hw =>
 U7 (h pins s σ H D (I.wish _) hw) (fun _ _ q=>q.unwish) fun _ _ z=>False.elim z
end
section
variable {X:Cx}{st:Stmt}{rest:List Stmt}{t u:TS}{e:Expr}{te:TE}{pos:Pos}
def Q7q:TS:=fun D σ H=>D.nx σ H
def V0m (t u:TS):TS:=fun D σ H=>t { D with nx:=u D } σ H
theorem MO:PSs X [] Q7q:=fun _ _ σ H _ I h=>B2b ⟨σ,H,I,h⟩
theorem AJ (h1:PS X st t)(h2:PSs X rest u):PSs X (st::rest) (V0m t u):=by
 intro pins s σ H D I h
 refine wpAny_execs_cons (thn (h1 pins s σ H { D with nx:=u D } I h) fun f s1 q=>?_)
 cases f with
 | next =>
   obtain ⟨σ',H',I',q⟩:=q
   exact h2 pins s1 σ' H' D I' q
 | ret v=>exact q
 | brk=>exact q
 | cont=>exact q
theorem EK (h1:PS X st t):PSs X [st] t:=by
 intro pins s σ H D I h
 refine wpAny_execs_cons (thn (h1 pins s σ H D I h) fun f s1 q=>?_)
 cases f with
 | next=>exact B2b q
 | ret v=>exact q
 | brk=>exact q
 | cont=>exact q
theorem Inv.quiet {pins:List (Addr×Obj)}{σ:St}{H:Hp}{s:Shared}(I:Inv X pins σ H s):interactive X.env=false:=by simp [interactive,I.ok.kind]
def Q1n (te:TE):TS:=fun D σ H=>te σ H fun _ H1=>D.nx σ H1
theorem YV (he:PE X e te)(hs:swapsWith e none pos.line X.env=pure false:=by rfl):PS X (.Expr e pos) (Q1n te):=by
 intro pins s σ H D I h
 exact wpAny_Expr_any (thn (he pins s σ H _ I h) fun v s1 ⟨x,H1,I1,r1,q1⟩=>⟨σ,H1,I1,q1⟩) I.quiet hs
def V0n (te:TE):TS:=fun D σ H=>te σ H D.rt
theorem GS (he:PE X e te):PS X (.Return (some e) pos) (V0n te):=by
 intro pins s σ H D I h
 exact wpAny_Return_some (thn (he pins s σ H _ I h) fun v s1 ⟨x,H1,I1,r1,q1⟩=>⟨x,σ,H1,I1,r1,q1⟩)
def V0t (c:TT)(t u:TS):TS:=fun D σ H=>c σ H fun b H1=>if b=true then t D σ H1 else u D σ H1
theorem YU {c:Expr}{a b:List Stmt}{tc:TT}(hc:PT X c tc)(ha:PSs X a t)(hb:PSs X b u):PS X (.If c a b pos) (V0t tc t u):=by
 intro pins s σ H D I h
 refine wpAny_If (thn (hc pins s σ H _ I h) fun d s1 ⟨H1,I1,q1⟩=>?_)
 cases d with
 | true=>exact ha pins s1 σ H1 D I1 q1
 | false=>exact hb pins s1 σ H1 D I1 q1
end
abbrev TG:=V->St->Hp->(St->Hp->Prop)->Prop
abbrev TGs:=List V->St->Hp->(St->Hp->Prop)->Prop
def PG (X:Cx)(target:Expr)(t:TG):Prop :=
 ∀ (pins:List (Addr×Obj)) (s:Shared) (σ:St) (H:Hp) (v:V) (u:Value) (Q:St->Hp->Prop),Inv X pins σ H s->RelV v u->t v σ H Q ->
  wpAny (model X.prog X.w) X.A (assign target X.env u) (fun _ s'=>∃ σ' H',Inv X pins σ' H' s'/\Q σ' H') X.xe s
def PGs (X:Cx)(ts:List Expr)(t:TGs):Prop :=
 ∀ (pins:List (Addr×Obj)) (s:Shared) (σ:St) (H:Hp) (vs:List V) (us:List Value) (Q:St->Hp->Prop),Inv X pins σ H s->Vals vs us->t vs σ H Q ->
  wpAny (model X.prog X.w) X.A (assignInOrder ((assignEach ts X.env).map (·.2)) us) (fun _ s'=>∃ σ' H',Inv X pins σ' H' s'/\Q σ' H') X.xe s
abbrev Q6x:=V->V->V->Hp->(Hp->Prop)->Prop
def Q7c (X:Cx)(t:Q6x):Prop :=
 ∀ (pins:List (Addr×Obj)) (s:Shared) (σ:St) (H:Hp) (o i v:V) (ov iv u:Value) (Q:Hp->Prop),Inv X pins σ H s->RelV o ov->RelV i iv->RelV v u->t o i v H Q ->
  wpAny (model X.prog X.w) X.A (setItem ov iv u) (fun _ s'=>∃ H',Inv X pins σ H' s'/\Q H') X.xe s
abbrev TIp:=V->V->Hp->VK->Prop
def PIp (X:Cx)(op:Operator)(t:TIp):Prop :=
 ∀ (pins:List (Addr×Obj)) (s:Shared) (σ:St) (H:Hp) (x y:V) (v u:Value) (Q:VK),Inv X pins σ H s->RelV x v->RelV y u->t x y H Q ->
  wpAny (model X.prog X.w) X.A (inplaceOp op v u) (EP X pins σ Q) X.xe s
section
variable {X:Cx}{pos:Pos}
def UX (i:Nat):TG:=fun v σ H Q=>Q (σ.set i (some v)) H
theorem pg_name {i:Nat} {x:Str} (hN:X.N.Nodup) (hi:X.N[i]?=some x) (hx:Loc X.env.scope x) (hf:X.fn x=true\/X.env.scope.names.lookup x=some .local:=by first|exact .inl rfl|exact .inr rfl|assumption):PG X (.Name x pos) (UX i):=by
 intro pins s σ H v u Q I r h
 exact wpAny_assign_Name (HM I hN hi hx r (fun s' I'=>⟨_,H,I',h⟩) hf)
def Q8y:TGs:=fun vs σ H Q=>vs=[]/\Q σ H
def Q2c (t:TG)(u:TGs):TGs:=fun vs σ H Q=>∃ v r,vs=v::r/\t v σ H fun σ' H'=>u r σ' H' Q
theorem V9:PGs X [] Q8y:=by
 intro pins s σ H vs us Q I r h
 obtain ⟨e,h⟩:=h
 subst e
 cases r
 exact assignInOrder_nil ⟨σ,H,I,h⟩
theorem J7 {e:Expr}{es:List Expr}{t:TG}{u:TGs}(h1:PG X e t)(h2:PGs X es u)
 (hs:(assignEach (e::es) X.env).map (·.2)=assign e X.env::(assignEach es X.env).map (·.2):=by rfl):PGs X (e::es) (Q2c t u):=by
 intro pins s σ H vs us Q I r h
 obtain ⟨v,vr,e1,h⟩:=h
 subst e1
 cases r with
 | cons r rr =>
   rw [hs]
   refine assignInOrder_cons (thn (h1 pins s σ H _ _ _ I r h) fun _ s1 ⟨σ1,H1,I1,q1⟩=>?_)
   exact h2 pins s1 σ1 H1 _ _ Q I1 rr q1
def Q4x (K:Fg)(n:Nat)(t:TGs):TG:=fun v σ H Q=>∃ a xs,v=.ref a/\SqT K H a xs/\xs.length=n/\t xs σ H Q
theorem Q3u {es:List Expr}{k:Nat}{t:TGs}{n:Nat}(hc:X.calm=true)(h:PGs X es t)
 (hn:(assignEach es X.env).length=n:=by rfl) (hst:(assignEach es X.env).findIdx? (·.1)=none:=by rfl):PG X (.Tuple es k pos) (Q4x X.K n t):=by
 intro pins s σ H v u Q I r hw
 obtain ⟨a,xs,e1,hq,hl,hw⟩:=hw
 subst e1
 cases r
 obtain ⟨its,rv,ht,hz⟩:=I.tuple hq
 refine assign_Tuple_tuple (I.ok.hd hc) ht (by simp [hn,<- hl,rv.length]) hst fun h' hx=>?_
 have I1:Inv X pins σ H { s with heap:=h' }:=I.kept (t':=s.toks) fun b o e=>hx b o (R9 (B2 e)) e
 exact h pins _ σ H xs _ Q I1 (by simpa using rv) hw
def Q8w (to ti:TE)(t:Q6x):TG:=fun v σ H Q=>to σ H fun o H1=>ti σ H1 fun i H2=>t o i v H2 fun H3=>Q σ H3
theorem WT {o i:Expr}{to ti:TE}{t:Q6x}(ho:PE X o to)(hi:PE X i ti)(hs:Q7c X t)
 (ha:∀ v,assign (.Subscript o i pos) X.env v=(do
  let ov <- holding [v] (eval o X.env)
  let iv <- holding [v,ov] (eval i X.env)
  standAt pos
  holding [v,ov,iv] (setItem ov iv v)
  release [v,ov,iv] []):=by intro _;rfl):PG X (.Subscript o i pos) (Q8w to ti t):=by
 intro pins s σ H v u Q I r h
 rw [ha]
 refine B0 (E6 (thn (ho pins s σ H _ I h) fun ov s1 ⟨x,H1,I1,r1,q1⟩=>?_))
 refine B0 (E6 (thn (hi pins s1 σ H1 _ I1 q1) fun iv s2 ⟨y,H2,I2,r2,q2⟩=>?_))
 refine B0 (D6 (B0 (E6 (thn (hs pins s2 σ H2 x y v ov iv u _ I2 r1 r2 r q2) fun _ s3 ⟨H3,I3,q3⟩=>?_))))
 exact wpAny_release ⟨σ,H3,I3,q3⟩
def J8e (te:TE)(g:TG):TS:=fun D σ H=>te σ H fun x H1=>g x σ H1 D.nx
theorem RJ {tg e:Expr}{te:TE}{g:TG}(he:PE X e te)(hg:PG X tg g)(hs:swapsWithSole [tg] e pos.line X.env=pure false:=by rfl)(hw:swappedStores [tg] e X.env=pure none:=by rfl)
 (h1:(assignEach [tg] X.env).map (·.2)=[assign tg X.env]:=by rfl):PS X (.Assign [tg] e pos) (J8e te g):=by
 intro pins s σ H D I h
 refine wpAny_Assign_stores (thn (he pins s σ H _ I h) fun v s1 ⟨x,H1,I1,r1,q1⟩=>?_) hs hw
 rw [h1]
 exact thn (hg pins s1 σ H1 x v _ I1 r1 q1) fun _ s2 q=>q
theorem DM {i:Nat} {x:Str} {e:Expr} {te:TE} {pos':Pos} (hN:X.N.Nodup) (hi:X.N[i]?=some x) (hx:Loc X.env.scope x) (he:PE X e te) (hs:swapsWith e (some (.Name x pos')) pos.line X.env=pure false:=by rfl) (hf:X.fn x=true\/X.env.scope.names.lookup x=some .local:=by first|exact .inl rfl|exact .inr rfl|assumption) :
 PS X (.Assign [.Name x pos'] e pos) (J8e te (UX i)):=by
 intro pins s σ H D I h
 refine wpAny_Assign_Name (thn (he pins s σ H _ I h) fun v s1 ⟨y,H1,I1,r1,q1⟩=>?_) hs
 exact HM I1 hN hi hx r1 (fun s2 I2=>⟨_,H1,I2,q1⟩) hf
def V0o (i j:Nat)(ta:TA):TS:=fun D σ H=>ta σ H fun vs H1=>∃ v w,vs=[v,w]/\D.nx ((σ.set i (some v)).set j (some w)) H1
theorem Q3q {i j:Nat}{x y:Str}{a b:Expr}{ta:TA}{px py pt:Pos}{kt k2 pt2}(hc:X.calm=true)(hN:X.N.Nodup)(hi:X.N[i]?=some x)(hj:X.N[j]?=some y)(hij:i≠j)
 (hx:X.env.scope.names.lookup x=some .local) (hy:X.env.scope.names.lookup y=some .local) (ha:PA X [a,b] ta)
 (hw:swappedStores [.Tuple [.Name x px,.Name y py] kt pt] (.Tuple [a,b] k2 pt2) X.env=pure (some [x,y]))
 (hs:swapsWithSole [.Tuple [.Name x px,.Name y py] kt pt] (.Tuple [a,b] k2 pt2) pos.line X.env=pure false:=by rfl) :
 PS X (.Assign [.Tuple [.Name x px,.Name y py] kt pt] (.Tuple [a,b] k2 pt2) pos) (V0o i j ta):=by
 intro pins s σ H D I h
 rw [exec_Assign_arm]
 refine B0 (D6 ?_)
 rw [hs]
 refine B0 (B5 ?_)
 rw [if_neg (by decide)]
 refine B0 (Tuple_ (thn (ha _ pins s σ H _ I h) fun us s1 ⟨vs,H1,I1,r1,q1⟩=>?_))
 obtain ⟨v,w,e1,q1⟩:=q1
 subst e1
 obtain ⟨u1,u2,rfl,rv,rw'⟩:∃ u1 u2,us=[u1,u2]/\RelV v u1/\RelV w u2:=by
  cases r1 with
  | cons p q =>
    cases q with
    | cons p' q' =>
      cases q'
      exact ⟨_,_,rfl,p,p'⟩
 refine W9 ?_ (by show 2<=sizeLine;decide)
 have I2:Inv X pins σ H1 { s1 with heap:=s1.heap.push { cls:=.type "tuple",data:=.seq [u1,u2].toArray } }:=I1.kept (t':=s1.toks) fun b o e=>B1 _ e
 rw [hw]
 refine B0 (B5 ?_)
 show wpAny (model X.prog X.w) X.A (do rule "assign.swapped-stores";let items <- unpackItems (.ref s1.heap.objs.size) 2 none;assignInOrder [fun v=>bindName X.env y v,fun v=>bindName X.env x v] items.reverse;pure Flow.next) _ _ _
 refine B0 (B1t (B0 (unpackItems_tuple (items:=#[u1,u2]) (I.ok.hd hc) (IsTup.new s1.heap _) fun h' hx'=>?_)))
 have I3:=I2.kept (h':=h') (t':=s1.toks) fun b o e=>hx' b o (R9 (B2 e)) e
 show wpAny _ _ (assignInOrder [fun v=>bindName X.env y v,fun v=>bindName X.env x v] [u2,u1] >>= fun _=>pure Flow.next) _ _ _
 refine B0 (assignInOrder_cons (wpAny_bindName (HM I3 hN hj (.inl hy) rw' (fun s2 I4=>?_) (.inr hy))))
 refine assignInOrder_cons (wpAny_bindName (HM I4 hN hi (.inl hx) rv (fun s3 I5=>assignInOrder_nil (B5 ?_)) (.inr hx)))
 rw [List.set_comm _ _ (B0c hij)] at I5
 exact ⟨_,H1,I5,q1⟩
def V0u (i:Nat)(te:TE)(ti:TIp):TS:=fun D σ H=>∃ x,σ[i]?=some (some x)/\te σ H fun y H1=>ti x y H1 fun z H2=>D.nx (σ.set i (some z)) H2
theorem Q3r {i:Nat} {x:Str} {e:Expr} {te:TE} {op:Operator} {ti:TIp} {pos':Pos} (hN:X.N.Nodup) (hi:X.N[i]?=some x) (hx:Loc X.env.scope x) (he:PE X e te) (ho:PIp X op ti) (hf:X.fn x=true\/X.env.scope.names.lookup x=some .local:=by first|exact .inl rfl|exact .inr rfl|assumption) :
 PS X (.AugAssign (.Name x pos') op e pos) (V0u i te ti):=by
 intro pins s σ H D I h
 obtain ⟨v,e1,h⟩:=h
 obtain ⟨m,hn,hl⟩:=I.loc
 have vis:Vis X.env.scope x:=by rcases hx with k|k;exact .inl k;exact .inr (.inl k)
 obtain ⟨u,r,l⟩:=hl i x v hi e1 vis
 refine wpAny_AugAssign_Name ?_
 have go:wpAny (model X.prog X.w) X.A (eval e X.env) (fun w s₂=>wpAny (model X.prog X.w) X.A (inplaceOp op u w) (fun r s₃=>wpAny (model X.prog X.w) X.A (storeName X.env x r) (fun _=>SP X pins D .next) X.xe s₃) X.xe s₂) X.xe s:=by
  refine thn (he pins s σ H _ I h) fun w s1 ⟨y,H1,I1,r1,q1⟩=>?_
  refine thn (ho pins s1 σ H1 v y u w _ I1 r r1 q1) fun z s2 ⟨zv,H2,I2,r2,q2⟩=>?_
  exact HM I2 hN hi hx r2 (fun s3 I3=>⟨_,H2,I3,q2⟩) hf
 rcases l with ⟨hk,hm⟩|⟨hk,c,hc,hcell⟩
 · exact wpAny_loadName_local I.ok.kind hk hn hm go
 · rcases hk with hk|hk
   · exact wpAny_loadName_cell I.ok.kind hk hc hcell go
   · rcases hx with k|k
     · have:X.env.scope.names.lookup x=some .free:=hk
       rw [k] at this;cases this
     · have:X.env.scope.names.lookup x=some .free:=hk
       rw [k] at this;cases this
def ipI (f:Int->Int->Int):TIp:=fun x y H Q=>∃ i j,x=.int i/\y=.int j/\Q (.int (f i j)) H
theorem Q4u:PIp X .Add (ipI fun i j=>i+j):=by
 intro pins s σ H x y v u Q I r1 r2 h
 obtain ⟨i,j,e1,e2,q⟩:=h
 subst e1;subst e2
 obtain ⟨t,rfl⟩:=r1
 obtain ⟨t',rfl⟩:=r2
 exact iadd_int ⟨.int _,H,I.tok _,⟨_,rfl⟩,q⟩
end
section
variable {X:Cx}{pos:Pos}
def J3h (c:TT)(tb:TS):TS:=fun D σ H=>∃ W:Nat->St->Hp->Prop,(∃ m,W m σ H)/\∀ m σ H,W m σ H ->
 c σ H fun b H1=>if b=true then ∃ N:St->Hp->Prop,(∀ σ' H',N σ' H'->∃ m',m'<m/\W m' σ' H')/\tb { D with nx:=N,ct:=N,bk:=D.nx } σ H1 else D.nx σ H1
theorem J4a {c:Expr}{body:List Stmt}{tc:TT}{tb:TS}(hp:PassesOwn (model X.prog X.w) X.A X.env X.xe)(hc:PT X c tc)(hb:PSs X body tb):PS X (.While c body [] pos) (J3h tc tb):=by
 intro pins s σ H D I h
 obtain ⟨W,⟨m0,w0⟩,turn⟩:=h
 refine wpAny_While (codeAny_whileLoop (fun n s'=>∃ σ' H',Inv X pins σ' H' s'/\W n σ' H') ?_ m0 ⟨σ,H,I,w0⟩)
 rintro n s1 ⟨σ1,H1,I1,w1⟩
 refine B0p hp (thn (hc pins s1 σ1 H1 _ I1 (turn n σ1 H1 w1)) fun b s2 ⟨H2,I2,q2⟩=>?_)
 cases b with
 | true =>
   obtain ⟨N,hN,q2⟩:=q2
   rw [if_pos rfl]
   refine B0p hp (thn (hb pins s2 σ1 H2 _ I2 q2) fun f s3 q3=>?_)
   cases f with
   | next =>
     obtain ⟨σ3,H3,I3,n3⟩:=q3
     obtain ⟨m',hm,w3⟩:=hN σ3 H3 n3
     exact ⟨m',hm,σ3,H3,I3,w3⟩
   | cont =>
     obtain ⟨σ3,H3,I3,n3⟩:=q3
     obtain ⟨m',hm,w3⟩:=hN σ3 H3 n3
     exact ⟨m',hm,σ3,H3,I3,w3⟩
   | brk=>exact q3
   | ret v=>exact q3
 | false =>
   rw [if_neg B9]
   exact B2b ⟨σ1,H2,I2,q2⟩
end
structure It where
 go:Nat->Hp->Prop
 yld:Nat->Hp->V->Hp->Prop
 stop:Nat->Hp->Prop
def HC (X:Cx)(pins:List (Addr×Obj))(H:Hp)(b:Addr):Prop :=
 H b=none/\b≠X.env.locals/\b∉X.fs/\(b∈X.ex\/X.s₀.heap.objs.size<=b)/\(∀ x c,X.env.cells.lookup x=some c->c≠b)/\∀ p∈X.pn++pins,p.1≠b
theorem Inv.fpOk {X:Cx}{pins:List (Addr×Obj)}{σ:St}{H H':Hp}{s:Shared}{b:Addr}(I:Inv X pins σ H s)(hb:s.heap.objs.size<=b)(hn:H' b=none):HC X pins H' b:=by
 refine ⟨hn,B0r (L3 I.lt hb),I.nofs hb,.inr (M7 I.sz hb),fun x c e z=>?_,fun p hp z=>?_⟩
 · obtain ⟨v,q⟩:=I.cell x c e
   exact absurd (L3 q.lt (by rw [z];exact hb)) (L5 _)
 · exact absurd (L3 (B2 (I.pin p hp).1) (by rw [z];exact hb)) (L5 _)
structure Turn (P:Program)(w:World)(K:Fg)(tg:Expr)(J:It)(fp:List Addr)(it:Addr)(tn:Nat->Heap->Prop):Prop where
 mem:it∈fp
 obj:∀ i h,tn i h->∀ b∈fp,∃ o,h.get? b=some o/\∀ v,o.data≠.cell v
 keep:∀ i h h',tn i h->(∀ b∈fp,∀ o,h.get? b=some o->h'.get? b=some o)->tn i h'
 item:∀ (X:Cx),X.prog=P->X.w=w->X.K=K->X.calm=true->∀ (i:Nat) (pins:List (Addr×Obj)) (s:Shared) (σ:St) (H:Hp) (E:Value->Shared->Prop),Inv X pins σ H s->(∀ b∈fp,HC X pins H b)->tn i s.heap->J.go i H ->
  wpAny (model P w) X.A (pyNext (.ref it)) (fun r s1=>∃ u,r=some u /\
   wpAny (model P w) X.A (letOwnedTupleGo tg (.ref it) u) (fun _ s2=>∃ x H',Inv X pins σ H' s2/\RelV x u/\J.yld i H x H'/\tn (i+1) s2.heap/\∀ b∈fp,H' b=none) E s1) E s
 done:∀ (X:Cx),X.prog=P->X.w=w->X.K=K->X.calm=true->∀ (i:Nat) (pins:List (Addr×Obj)) (s:Shared) (σ:St) (H:Hp) (E:Value->Shared->Prop),Inv X pins σ H s->(∀ b∈fp,HC X pins H b)->tn i s.heap->J.stop i H ->
  wpAny (model P w) X.A (pyNext (.ref it)) (fun r s1=>r=none/\Inv X pins σ H s1) E s
 self:∀ (A:Around) (i:Nat) (s:Shared) (Q:Value->Shared->Prop) (E:Value->Shared->Prop),tn i s.heap->Q (.ref it) s->wpAny (model P w) A (pyIter (.ref it)) Q E s
abbrev TI:=St->Hp->(It->Hp->Prop)->Prop
def PIE (X:Cx)(pins:List (Addr×Obj))(σ:St)(tg:Expr)(R:It->Hp->Prop)(itv:Value)(s2:Shared):Prop :=
 ∃ (it:Addr) (fp:List Addr) (tn:Nat->Heap->Prop) (J:It) (H':Hp),itv=.ref it/\Inv X pins σ H' s2/\Turn X.prog X.w X.K tg J fp it tn/\tn 0 s2.heap/\(∀ b∈fp,HC X pins H' b)/\R J H'
def PI (X:Cx)(tg iter:Expr)(wi:TI):Prop :=
 ∀ (pins:List (Addr×Obj)) (s:Shared) (σ:St) (H:Hp) (R:It->Hp->Prop),Inv X pins σ H s->wi σ H R ->
  wpAny (model X.prog X.w) X.A (eval iter X.env) (fun v s1=>wpAny (model X.prog X.w) X.A (pyIter v) (PIE X pins σ tg R) X.xe s1) X.xe s
theorem J5p {M:Model}{A:Around}{E:Value->Shared->Prop}{s:Shared}{tg:Expr}{it:Addr}{u:Value}{o:Obj}{n:String}{vs:Array Value}{Q:Unit->Shared->Prop}(ho:s.heap.get? it=some o)(hc:o.cls=.type n)(hd:o.data=.fields vs)
 (hn:["enumerate","zip","dict_itemiterator","dict_reverseitemiterator","odict_iterator","itertools.zip_longest","itertools.pairwise"].contains n=false) (hQ:Q () s):wpAny M A (letOwnedTupleGo tg (.ref it) u) Q E s:=by
 unfold letOwnedTupleGo
 cases tg<;>first
  | exact B5 hQ
  | (cases u<;>first
   | exact B5 hQ
   | (refine B0 (wpAny_load ho ?_)
      rw [hc,hd]
      show wpAny M A (if (["enumerate","zip","dict_itemiterator","dict_reverseitemiterator","odict_iterator","itertools.zip_longest","itertools.pairwise"].contains n&&vs[0]?==some (rawInt _))=true then _ else _) Q E s
      rw [if_neg (by intro h;rw [hn,B2v] at h;cases h)]
      exact B5 hQ))
def Itl (K:Fg)(a:Addr):It :=
 ⟨fun i H=>∃ xs x,SqL K H a xs/\xs[i]?=some x,fun i H x H'=>H'=H/\∀ xs,SqL K H a xs->xs[i]?=some x,fun i H=>∃ xs,SqL K H a xs/\xs.length<=i⟩
def Itt (K:Fg)(a:Addr):It :=
 ⟨fun i H=>∃ xs x,SqT K H a xs/\xs[i]?=some x,fun i H x H'=>H'=H/\∀ xs,SqT K H a xs->xs[i]?=some x,fun i H=>∃ xs,SqT K H a xs/\xs.length<=i⟩
def Itr (lo:Int)(n:Nat):It:=⟨fun i _=>i<n,fun i H x H'=>H'=H/\x=.int (lo+i),fun i _=>n<=i⟩
theorem J0v {w:World} {tg:Expr}(a it:Addr):Turn P w K tg (Itl K a) [it] it (fun i h=>h.IsListIter it a i) where
 mem:=by simp
 obj:=fun i h st b hb=>by
  have e:b=it:=by simpa using hb
  subst e
  obtain ⟨o,e,c,d⟩:=st
  exact ⟨o,e,fun v z=>by rw [d] at z;cases z⟩
 keep:=fun i h h' st k=>st.at fun o e=>k it (by simp) o e
 item:=by
  intro X hP hw hK hc i pins s σ H E I hf st hg
  subst hP hw hK
  obtain ⟨xs,x,hq,hx⟩:=hg
  obtain ⟨its,rv,p,hz⟩:=I.list hq
  obtain ⟨u,hu,ru⟩:=rv.get hx
  obtain ⟨f0,f1,f2,f3,f4,f5⟩:=hf it (by simp)
  refine wpAny_pyNext_list_item st p.isList (x:=u) (by simpa using hu) fun h' st' sb=>?_
  have I1:Inv X pins σ H { s with heap:=h' }:=I.turned (t':=s.toks) (fun b o hb e=>(sb.2 b hb).trans e) f0 f1 f3 f4 f5
  obtain ⟨o,e,c,d⟩:=id st'
  exact ⟨u,rfl,J5p (s:={ s with heap:=h' }) e c d (by decide) ⟨x,H,I1,ru,⟨rfl,fun ys hy=>by rw [I.list_inj hy hq];exact hx⟩,st',fun b hb=>(hf b hb).1⟩⟩
 done:=by
  intro X hP hw hK hc i pins s σ H E I hf st hg
  subst hP hw hK
  obtain ⟨xs,hq,hx⟩:=hg
  obtain ⟨its,rv,p,hz⟩:=I.list hq
  obtain ⟨f0,f1,f2,f3,f4,f5⟩:=hf it (by simp)
  have hl:=rv.length
  exact wpAny_pyNext_list_end (I.ok.hd hc) st p.isList (by simp;omega) fun h' eb=>⟨rfl,I.turned (t':=s.toks) (fun b o hb e=>eb b o hb e) f0 f1 f3 f4 f5⟩
 self:=fun _ _ _ _ _ st h=>wpAny_pyIter_listiter st h
theorem WB {w:World} {tg:Expr}(a it:Addr):Turn P w K tg (Itt K a) [it] it (fun i h=>h.IsTupleIter it a i) where
 mem:=by simp
 obj:=fun i h st b hb=>by
  have e:b=it:=by simpa using hb
  subst e
  obtain ⟨o,e,c,d⟩:=st
  exact ⟨o,e,fun v z=>by rw [d] at z;cases z⟩
 keep:=fun i h h' st k=>st.at fun o e=>k it (by simp) o e
 item:=by
  intro X hP hw hK hc i pins s σ H E I hf st hg
  subst hP hw hK
  obtain ⟨xs,x,hq,hx⟩:=hg
  obtain ⟨its,rv,p,hz⟩:=I.tuple hq
  obtain ⟨u,hu,ru⟩:=rv.get hx
  obtain ⟨f0,f1,f2,f3,f4,f5⟩:=hf it (by simp)
  refine wpAny_pyNext_tuple_item st (show s.heap.IsTuple a its.toArray from p) (x:=u) (by simpa using hu) fun h' st' sb=>?_
  have I1:Inv X pins σ H { s with heap:=h' }:=I.turned (t':=s.toks) (fun b o hb e=>(sb.2 b hb).trans e) f0 f1 f3 f4 f5
  obtain ⟨o,e,c,d⟩:=id st'
  exact ⟨u,rfl,J5p (s:={ s with heap:=h' }) e c d (by decide) ⟨x,H,I1,ru,⟨rfl,fun ys hy=>by rw [I.tuple_inj hy hq];exact hx⟩,st',fun b hb=>(hf b hb).1⟩⟩
 done:=by
  intro X hP hw hK hc i pins s σ H E I hf st hg
  subst hP hw hK
  obtain ⟨xs,hq,hx⟩:=hg
  obtain ⟨its,rv,p,hz⟩:=I.tuple hq
  obtain ⟨f0,f1,f2,f3,f4,f5⟩:=hf it (by simp)
  have hl:=rv.length
  exact wpAny_pyNext_tuple_end (I.ok.hd hc) st (show s.heap.IsTuple a its.toArray from p) (by simp;omega) fun h' eb=>⟨rfl,I.turned (t':=s.toks) (fun b o hb e=>eb b o hb e) f0 f1 f3 f4 f5⟩
 self:=fun _ _ _ _ _ st h=>wpAny_pyIter_tupleiter st h
theorem WC {w:World} {tg:Expr}(it:Addr)(lo:Int)(n:Nat):Turn P w K tg (Itr lo n) [it] it (fun i h=>IsRangeIter h it (lo+(i:Nat)*1) ((n:Int) - (i:Nat)) 1) where
 mem:=by simp
 obj:=fun i h st b hb=>by
  have e:b=it:=by simpa using hb
  subst e
  exact ⟨_,st,fun v z=>by
   have z':Data.fields _=Data.cell v:=z
   cases z'⟩
 keep:=fun i h h' st k=>k it (by simp) _ st
 item:=by
  intro X hP hw hK hc i pins s σ H E I hf st hg
  subst hP hw hK
  obtain ⟨f0,f1,f2,f3,f4,f5⟩:=hf it (by simp)
  have W:=Walks.range (prog:=X.prog) (w:=X.w) (I.ok.hd hc) it lo 1 n
  refine W.item i s _ _ hg st fun v h' tk hv st' kk=>?_
  obtain ⟨t,rfl⟩:=hv
  have I1:Inv X pins σ H { s with heap:=h',toks:=tk }:=I.turned (fun b o hb e=>kk b o (by simpa using hb) e) f0 f1 f3 f4 f5
  refine ⟨_,rfl,J5p (s:={ s with heap:=h',toks:=tk }) (n:="range_iterator") st' rfl rfl (by decide) ⟨.int (lo+i),H,I1,⟨t,?_⟩,⟨rfl,rfl⟩,st',fun b hb=>(hf b hb).1⟩⟩
  rw [Int.mul_one]
 done:=by
  intro X hP hw hK hc i pins s σ H E I hf st hg
  subst hP hw hK
  obtain ⟨f0,f1,f2,f3,f4,f5⟩:=hf it (by simp)
  exact wpAny_pyNext_range_end (I.ok.hd hc) st (by have:n<=i:=hg;omega) fun h' eb=>⟨rfl,I.turned (t':=s.toks) (fun b o hb e=>eb b o hb e) f0 f1 f3 f4 f5⟩
 self:=fun _ _ _ _ _ st h=>wpAny_pyIter_rangeiter st h
section
variable {X:Cx}{tg:Expr}
theorem TU {pins:List (Addr×Obj)}{σ:St}{H:Hp}{s:Shared}{R:It->Hp->Prop}{E:Value->Shared->Prop}{lo hi:Int}{t u v:Tok}{tk:Nat}(I:Inv X pins σ H s)(h1 : -(2 ^ 62)<=lo)(h2:lo<2 ^ 62)(h3 : -(2 ^ 62)<=hi)(h4:hi<2 ^ 62)
 (q:R (Itr lo (hi - lo).toNat) H):wpAny (model X.prog X.w) X.A (pyIter (.ref s.heap.objs.size)) (PIE X pins σ tg R) E { s with heap:=s.heap.push { cls:=.type "range",data:=.fields #[.int lo t,.int hi u,.int 1 v] },toks:=tk }:=by
 refine wpAny_pyIter_range (IsRange.new ..) (small_one h1 h2 h3 h4) ?_
 have I1:Inv X pins σ H { s with heap:=s.heap.push { cls:=.type "range",data:=.fields #[.int lo t,.int hi u,.int 1 v] },toks:=tk }:=I.kept fun b o e=>B1 _ e
 refine ⟨(s.heap.push { cls:=.type "range",data:=.fields #[.int lo t,.int hi u,.int 1 v] }).objs.size,[(s.heap.push { cls:=.type "range",data:=.fields #[.int lo t,.int hi u,.int 1 v] }).objs.size],_,_,H,rfl,
  I1.kept (t':=tk) fun b o e=>B1 _ e,WC _ lo (hi - lo).toNat,?_,fun b hb=>?_,q⟩
 · have e1:lo+((0:Nat):Int)*1=lo:=by simp
   have e2:(((hi - lo).toNat:Nat):Int) - ((0:Nat):Int)=Builtin.Range.rangeSize lo hi 1:=by rw [rangeSize_one];split<;>omega
   show IsRangeIter _ _ (lo+((0:Nat):Int)*1) ((((hi - lo).toNat:Nat):Int) - ((0:Nat):Int)) 1
   rw [e1,e2]
   exact L8 _ rfl
 · have e:b=(s.heap.push { cls:=.type "range",data:=.fields #[.int lo t,.int hi u,.int 1 v] }).objs.size:=by simpa using hb
   subst e
   exact I1.fpOk (B6 _) (I1.hok.fresh (B6 _))
def Q8t (ta:TA):TI:=fun σ H R=>ta σ H fun vs H1=>∃ j:Int,vs=[.int j]/\-(2 ^ 62)<=j/\j<2 ^ 62/\R (Itr 0 j.toNat) H1
def Q8s (ta:TA):TI:=fun σ H R=>ta σ H fun vs H1=>∃ i j:Int,vs=[.int i,.int j]/\(-(2 ^ 62)<=i/\i<2 ^ 62/\-(2 ^ 62)<=j/\j<2 ^ 62)/\R (Itr i (j - i).toNat) H1
theorem PX {a:Expr}{ta:TA}{p pos:Pos}(hg:Gl X "range") (hm:X.mg "range" = none) (ha:PA X [a] ta) (hs:starEach [a] X.env=[(false,eval a X.env)]:=by rfl):PI X tg (.Call (.Name "range" p) [a] [] pos) (Q8t ta):=by
 intro pins s σ H R I h
 refine Call_ (JL I hg hm boot_range (D8 (thn (ha pos pins s σ H _ I h) fun us s1 ⟨vs,H1,I1,r1,q1⟩=>?_) hs rfl))
 obtain ⟨j,e,q1,q2,q⟩:=q1
 subst e
 cases r1 with
 | cons r rr =>
   cases rr
   obtain ⟨t,rfl⟩:=r
   exact call_range_1 (TU I1 (by omega) (by omega) q1 q2 (by simpa using q))
theorem J1i {a b:Expr}{ta:TA}{p pos:Pos}(hg:Gl X "range") (hm:X.mg "range" = none) (ha:PA X [a,b] ta) (hs:starEach [a,b] X.env=[(false,eval a X.env),(false,eval b X.env)]:=by rfl) (hs2:starEach [b] X.env=[(false,eval b X.env)]:=by rfl) :
 PI X tg (.Call (.Name "range" p) [a,b] [] pos) (Q8s ta):=by
 intro pins s σ H R I h
 refine Call_ (JL I hg hm boot_range (D8 (thn (ha pos pins s σ H _ I h) fun us s1 ⟨vs,H1,I1,r1,q1⟩=>?_) (by rw [hs,hs2]) (by rw [hs2];rfl)))
 obtain ⟨i,j,e,⟨q1,q2,q3,q4⟩,q⟩:=q1
 subst e
 cases r1 with
 | cons r rr =>
   cases rr with
   | cons r' rr =>
     cases rr
     obtain ⟨t,rfl⟩:=r
     obtain ⟨t',rfl⟩:=r'
     exact call_range_2 (TU I1 q1 q2 q3 q4 q)
def Q3d (wi:TI)(g:TG)(tb:TS):TS:=fun D σ H=>wi σ H fun J H1=>∃ W:Nat->Nat->St->Hp->Prop,(∃ m,W 0 m σ H1)/\∀ i m σ H,W i m σ H ->
 (J.stop i H/\D.nx σ H)\/(J.go i H/\∃ N:St->Hp->Prop,(∀ σ' H',N σ' H'->∃ m',m'<m/\W (i+1) m' σ' H')/\∀ x H',J.yld i H x H'->g x σ H' fun σ2 H2=>tb { D with nx:=N,ct:=N,bk:=D.nx } σ2 H2)
def GT (fp:List Addr)(h:Heap):List (Addr×Obj):=fp.filterMap fun b=>(h.get? b).map fun o=>(b,o)
theorem BM {fp:List Addr}{h:Heap}{b:Addr}{o:Obj}(hb:b∈fp)(e:h.get? b=some o):(b,o)∈GT fp h:=List.mem_filterMap.mpr ⟨b,hb,by rw [e];rfl⟩
theorem QA {fp:List Addr}{h:Heap}{p:Addr×Obj}(hp:p∈GT fp h):p.1∈fp/\h.get? p.1=some p.2:=by
 obtain ⟨b,hb,e⟩:=List.mem_filterMap.mp hp
 cases q:h.get? b with
 | none=>rw [q] at e;cases e
 | some o =>
   rw [q] at e
   have e':(b,o)=p:=Option.some.inj e
   subst e'
   exact ⟨hb,q⟩
theorem Inv.pinned {pins:List (Addr×Obj)}{σ:St}{H:Hp}{s:Shared}{fp:List Addr}(I:Inv X pins σ H s)(hf:∀ b∈fp,HC X pins H b)(ho:∀ b∈fp,∃ o,s.heap.get? b=some o/\∀ v,o.data≠.cell v):Inv X (pins++GT fp s.heap) σ H s :=
 I.pins_of fun p hp=>(U0.mp hp).elim (fun z=>I.pin p (B3 _ z)) fun z=>by
  obtain ⟨hb,e⟩:=QA z
  obtain ⟨f0,f1,f2,_⟩:=hf p.1 hb
  obtain ⟨o,e',d⟩:=ho p.1 hb
  rw [e] at e';cases e'
  exact ⟨e,f0,f1,f2,d⟩
theorem Inv.unpinned {pins pl:List (Addr×Obj)}{σ:St}{H:Hp}{s:Shared}(I:Inv X (pins++pl) σ H s):Inv X pins σ H s:=I.pins_of fun p hp=>I.pin p (B3 _ (R7 _ hp))
theorem J4c {iter:Expr}{body:List Stmt}{wi:TI}{g:TG}{tb:TS}{pos:Pos}(hp:PassesOwn (model X.prog X.w) X.A X.env X.xe)(hc:X.calm=true)(hi:PI X tg iter wi)(hg:PG X tg g)(hb:PSs X body tb)
 (hs:∀ x,foldedSetIterable iter X.env x=pure x:=by intro _;rfl):PS X (.For tg iter body [] pos) (Q3d wi g tb):=by
 intro pins s σ H D I h
 refine wpAny_For (thn (hi pins s σ H _ I h) fun v s1 h1=>thn h1 fun itv s2 h2=>?_) hs
 obtain ⟨it,fp,tn,J,H2,e,I2,T,st2,f2,W,⟨m0,w0⟩,turn⟩:=h2
 subst e
 have stat:∀ {H':Hp},(∀ b∈fp,H' b=none)->∀ b∈fp,HC X pins H' b:=fun hn b hb=>⟨hn b hb,(f2 b hb).2⟩
 refine codeAny_forLoop_any (fun n s'=>∃ i σ' H',Inv X pins σ' H' s'/\tn i s'.heap/\(∀ b∈fp,H' b=none)/\W i n σ' H') ?_ m0 ⟨0,σ,H2,I2,st2,fun b hb=>(f2 b hb).1,w0⟩
 rintro n s3 ⟨i,σ3,H3,I3,st3,fr3,w3⟩
 rcases turn i n σ3 H3 w3 with ⟨stop,qn⟩|⟨go,N,hN,step⟩
 · refine B0p hp (thn (T.done X rfl rfl rfl hc i pins s3 σ3 H3 X.xe I3 (stat fr3) st3 stop) fun r s4 ⟨hr,I4⟩=>?_)
   subst hr
   exact B2b ⟨σ3,H3,I4,qn⟩
 · refine B0p hp (thn (T.item X rfl rfl rfl hc i pins s3 σ3 H3 X.xe I3 (stat fr3) st3 go) fun r s4 ⟨u,hr,h4⟩=>?_)
   subst hr
   refine B0p hp (thn h4 fun _ s5 ⟨x,H5,I5,r5,y5,st5,fr5⟩=>?_)
   have I5':=I5.pinned (stat fr5) (T.obj _ _ st5)
   refine B0p hp (thn (hg _ s5 σ3 H5 x u _ I5' r5 (step x H5 y5)) fun _ s6 ⟨σ6,H6,I6,q6⟩=>?_)
   refine B0p hp (thn (hb _ s6 σ6 H6 _ I6 q6) fun f s7 q7=>?_)
   have again:∀ {σ7:St} {H7:Hp},Inv X (pins++GT fp s5.heap) σ7 H7 s7->N σ7 H7->∃ m,m<n/\∃ i σ' H',Inv X pins σ' H' s7/\tn i s7.heap/\(∀ b∈fp,H' b=none)/\W i m σ' H':=fun {σ7 H7} I7 n7=>by
    obtain ⟨m',hm,w7⟩:=hN σ7 H7 n7
    refine ⟨m',hm,i+1,σ7,H7,I7.unpinned,T.keep _ _ _ st5 fun b hb o e=>(I7.pin (b,o) (B3 _ (B3 _ (BM hb e)))).1,fun b hb=>?_,w7⟩
    obtain ⟨o,e,d⟩:=T.obj _ _ st5 b hb
    exact (I7.pin (b,o) (B3 _ (B3 _ (BM hb e)))).2.1
   cases f with
   | next=>obtain ⟨σ7,H7,I7,n7⟩:=q7;exact again I7 n7
   | cont=>obtain ⟨σ7,H7,I7,n7⟩:=q7;exact again I7 n7
   | brk=>obtain ⟨σ7,H7,I7,q7⟩:=q7;exact ⟨σ7,H7,I7.unpinned,q7⟩
   | ret v=>obtain ⟨x7,σ7,H7,I7,r7,q7⟩:=q7;exact ⟨x7,σ7,H7,I7.unpinned,r7,q7⟩
end
theorem J3b {c:TT}{tb:TS}{D:Ends}{σ:St}{H:Hp}(Pv:St->Hp->Prop)(μ:St->Hp->Nat)(h0:Pv σ H)
 (hs:∀ σ H,Pv σ H->c σ H fun b H1=>if b=true then tb { D with nx:=fun σ' H'=>Pv σ' H'/\μ σ' H'<μ σ H,ct:=fun σ' H'=>Pv σ' H'/\μ σ' H'<μ σ H,bk:=D.nx } σ H1 else D.nx σ H1)
 (mono:∀ σ H Q Q',(∀ b H1,Q b H1->Q' b H1)->c σ H Q->c σ H Q'):J3h c tb D σ H:=by
 refine ⟨fun m σ H=>m=μ σ H/\Pv σ H,⟨_,rfl,h0⟩,?_⟩
 rintro m σ H ⟨rfl,p⟩
 refine mono σ H _ _ (fun b H1 q=>?_) (hs σ H p)
 cases b with
 | true=>exact ⟨_,fun σ' H' ⟨p',l⟩=>⟨_,l,rfl,p'⟩,q⟩
 | false=>exact q
abbrev R2:=V->V->Hp->VK->Prop
def OpR (X:Cx)(f:Value->Value->Sem Value)(r:R2):Prop :=
 ∀ (pins:List (Addr×Obj)) (s:Shared) (σ:St) (H:Hp) (x y:V) (v u:Value) (Q:VK),Inv X pins σ H s->RelV x v->RelV y u->r x y H Q ->
  wpAny (model X.prog X.w) X.A (f v u) (EP X pins σ Q) X.xe s
def UnR (X:Cx)(f:Value->Sem Value)(r:V->Hp->VK->Prop):Prop :=
 ∀ (pins:List (Addr×Obj)) (s:Shared) (σ:St) (H:Hp) (x:V) (v:Value) (Q:VK),Inv X pins σ H s->RelV x v->r x H Q ->
  wpAny (model X.prog X.w) X.A (f v) (EP X pins σ Q) X.xe s
def BD (X:Cx)(f:Value)(r:List V->Hp->VK->Prop):Prop :=
 ∀ (pins:List (Addr×Obj)) (s:Shared) (σ:St) (H:Hp) (xs:List V) (us:List Value) (Q:VK),Inv X pins σ H s->Vals xs us->r xs H Q ->
  wpAny (model X.prog X.w) X.A (call f us) (EP X pins σ Q) X.xe s
def V1l (X:Cx)(r:V->Hp->(Bool->Hp->Prop)->Prop):Prop :=
 ∀ (pins:List (Addr×Obj)) (s:Shared) (σ:St) (H:Hp) (x:V) (v:Value) (Q:Bool->Hp->Prop),Inv X pins σ H s->RelV x v->r x H Q ->
  wpAny (model X.prog X.w) X.A (truthy v) (TP X pins σ Q) X.xe s
def tOp (r:R2)(ta tb:TE):TE:=fun σ H Q=>ta σ H fun x H1=>tb σ H1 fun y H2=>r x y H2 Q
def tUn (r:V->Hp->VK->Prop)(ta:TE):TE:=fun σ H Q=>ta σ H fun x H1=>r x H1 Q
def rI (C:Int->Int->Prop)(g:Int->Int->V):R2:=fun x y H Q=>∃ i j,x=.int i/\y=.int j/\C i j/\Q (g i j) H
def rI0 (g:Int->Int->V):R2:=fun x y H Q=>∃ i j,x=.int i/\y=.int j/\Q (g i j) H
def rU (g:Int->V):V->Hp->VK->Prop:=fun x H Q=>∃ i,x=.int i/\Q (g i) H
section
variable {X:Cx}{a b:Expr}{ta tb:TE}{pos:Pos}
theorem Q6s (ha:PE X a ta)(hb:PE X b tb){pins:List (Addr×Obj)}{s:Shared}{σ:St}{H:Hp}{R:V->V->Hp->Prop}(I:Inv X pins σ H s)
 (h:ta σ H fun x H1=>tb σ H1 fun y H2=>R x y H2) {Q:Value->Shared->Prop} {f:Value->Value->Sem Value}
 (hf:∀ v u s2 x y H2,Inv X pins σ H2 s2->RelV x v->RelV y u->R x y H2->wpAny (model X.prog X.w) X.A (f v u) Q X.xe s2) :
 wpAny (model X.prog X.w) X.A (eval a X.env) (fun v s₁=>wpAny (model X.prog X.w) X.A (eval b X.env) (fun u s₂=>wpAny (model X.prog X.w) X.A (f v u) Q X.xe s₂) X.xe s₁) X.xe s:=by
 refine thn (ha pins s σ H _ I h) fun v s1 ⟨x,H1,I1,r1,q1⟩=>?_
 refine thn (hb pins s1 σ H1 _ I1 q1) fun u s2 ⟨y,H2,I2,r2,q2⟩=>?_
 exact hf v u s2 x y H2 I2 r1 r2 q2
theorem AE {op:Operator}{r:R2}(ho:OpR X (binaryOp op) r)(ha:PE X a ta)(hb:PE X b tb):PE X (.BinOp a op b pos) (tOp r ta tb):=by
 intro pins s σ H Q I h
 exact wpAny_BinOp (Q6s ha hb I h fun v u s2 x y H2 I2 rx ry q=>ho pins s2 σ H2 x y v u Q I2 rx ry q)
theorem Q8e {op:UnaryOp}{r:V->Hp->VK->Prop}(ho:UnR X (unaryOp op) r)(ha:PE X a ta):PE X (.UnaryOp op a pos) (tUn r ta):=by
 intro pins s σ H Q I h
 exact UnaryOp_ (thn (ha pins s σ H _ I h) fun v s1 ⟨x,H1,I1,r1,q1⟩=>ho pins s1 σ H1 x v Q I1 r1 q1)
theorem opI {f:Value->Value->Sem Value}{C:Int->Int->Prop}{g:Int->Int->Int}
 (rule:∀ (i j:Int) (t u:Tok) (s:Shared) (Q:Value->Shared->Prop) (E:Value->Shared->Prop),C i j->Q (.int (g i j) s.toks) { s with toks:=s.toks+1 }->wpAny (model X.prog X.w) X.A (f (.int i t) (.int j u)) Q E s) :
 OpR X f (rI C fun i j=>.int (g i j)):=by
 intro pins s σ H x y v u Q I rx ry h
 obtain ⟨i,j,rfl,rfl,hc,q⟩:=h
 obtain ⟨t,rfl⟩:=rx
 obtain ⟨t',rfl⟩:=ry
 exact rule i j t t' s _ _ hc ⟨.int (g i j),H,I.tok _,⟨_,rfl⟩,q⟩
theorem Q8i {f:Value->Value->Sem Value}{g:Int->Int->Int}
 (rule:∀ (i j:Int) (t u:Tok) (s:Shared) (Q:Value->Shared->Prop) (E:Value->Shared->Prop),Q (.int (g i j) s.toks) { s with toks:=s.toks+1 }->wpAny (model X.prog X.w) X.A (f (.int i t) (.int j u)) Q E s) :
 OpR X f (rI0 fun i j=>.int (g i j)):=by
 intro pins s σ H x y v u Q I rx ry h
 obtain ⟨i,j,rfl,rfl,q⟩:=h
 obtain ⟨t,rfl⟩:=rx
 obtain ⟨t',rfl⟩:=ry
 exact rule i j t t' s _ _ ⟨.int (g i j),H,I.tok _,⟨_,rfl⟩,q⟩
theorem J9e {f:Value->Value->Sem Value}{g:Int->Int->Bool}
 (rule:∀ (i j:Int) (t u:Tok) (s:Shared) (Q:Value->Shared->Prop) (E:Value->Shared->Prop),Q (.bool (g i j)) s->wpAny (model X.prog X.w) X.A (f (.int i t) (.int j u)) Q E s) :
 OpR X f (rI0 fun i j=>.bl (g i j)):=by
 intro pins s σ H x y v u Q I rx ry h
 obtain ⟨i,j,rfl,rfl,q⟩:=h
 obtain ⟨t,rfl⟩:=rx
 obtain ⟨t',rfl⟩:=ry
 exact rule i j t t' s _ _ ⟨.bl (g i j),H,I,rfl,q⟩
def V1o (i j:Int):Prop:=0<=j/\j<=1000000/\i.natAbs<2 ^ 64
def CMul (i j:Int):Prop:=(-(2 ^ 64)<i/\i<2 ^ 64)\/(-(2 ^ 64)<j/\j<2 ^ 64)
theorem CMul.ok {i j:Int}(h:CMul i j):IntMulOk i j:=by
 rcases h with ⟨h1,h2⟩|⟨h1,h2⟩
 · exact .of_left (intBits_le_64 h1 h2)
 · exact .of_right (intBits_le_64 h1 h2)
theorem EE:OpR X (binaryOp .Add) (rI0 fun i j=>.int (i+j)):=Q8i fun _ _ _ _ _ _ _ q=>add_int q
theorem ET:OpR X (binaryOp .Sub) (rI0 fun i j=>.int (i - j)):=Q8i fun _ _ _ _ _ _ _ q=>sub_int q
theorem JH:OpR X (binaryOp .Mod) (rI (fun _ j=>0<j) fun i j=>.int (i % j)):=opI fun i j _ _ _ _ _ hc q=>by
 have h1:(0:Int)<j:=hc
 exact mod_int' (by omega) (by rw [B1z i (by omega)];exact q)
theorem J9c:OpR X (binaryOp .Mod) (rI (fun _ j=>j≠0) fun i j=>.int (i.fmod j)):=opI fun _ _ _ _ _ _ _ hc q=>mod_int' hc q
theorem WW:OpR X (binaryOp .Pow) (rI V1o fun i j=>.int (i ^ j.toNat)):=opI fun _ _ _ _ _ _ _ hc q=>pow_int_small hc.1 hc.2.1 hc.2.2 q
theorem unI {f:Value->Sem Value}{g:Int->Int}
 (rule:∀ (i:Int) (t:Tok) (s:Shared) (Q:Value->Shared->Prop) (E:Value->Shared->Prop),Q (.int (g i) s.toks) { s with toks:=s.toks+1 }->wpAny (model X.prog X.w) X.A (f (.int i t)) Q E s) :
 UnR X f (rU fun i=>.int (g i)):=by
 intro pins s σ H x v Q I rx h
 obtain ⟨i,rfl,q⟩:=h
 obtain ⟨t,rfl⟩:=rx
 exact rule i t s _ _ ⟨.int (g i),H,I.tok _,⟨_,rfl⟩,q⟩
theorem Q2z:UnR X (unaryOp .USub) (rU fun i=>.int (-i)):=unI fun _ _ _ _ _ q=>neg_int q
end
def Q7y:V->V->Bool
 | .non,.non=>true|.non,.int _=>true|.int _,.non=>true|.non,.bl _=>true|.bl _,.non=>true|.non,.str _=>true|.str _,.non=>true
 | .int _,.int _=>true|.bl _,.bl _=>true|.str _,.str _=>true|.byt _,.byt _=>true
 | .int _,.str _=>true|.str _,.int _=>true|.bl _,.str _=>true|.str _,.bl _=>true
 | _,_=>false
def rEq:R2:=fun x y H Q=>Q7y x y=true/\Q (.bl (decide (x=y))) H
def rNe:R2:=fun x y H Q=>Q7y x y=true/\Q (.bl (!decide (x=y))) H
theorem ZT {i j:Int}:decide (V.int i=V.int j)=(i==j):=by
 rw [B0n]
 simp
theorem J6e {i j:Bool}:decide (V.bl i=V.bl j)=(i==j):=by
 rw [B0n]
 simp
theorem ZS {i j:Str}:decide (V.str i=V.str j)=(i==j):=by
 rw [B0n]
 simp
theorem ZU {i j:Array UInt8}:decide (V.byt i=V.byt j)=(i.toList==j.toList):=by
 rw [B0n]
 cases i
 cases j
 simp
section
variable {X:Cx}{a b c:Expr}{ta tb tc:TE}{pos:Pos}
theorem Z9 {pins:List (Addr×Obj)}{σ:St}{H:Hp}{s:Shared}{Q:VK}{k k':Bool}(I:Inv X pins σ H s)(q:Q (.bl k) H)(e:k=k'):EP X pins σ Q (.bool k') s:=by
 subst e
 exact ⟨.bl k,H,I,rfl,q⟩
theorem DY:OpR X (compareOp .Eq) rEq:=by
 intro pins s σ H x y v u Q I rx ry h
 obtain ⟨hs,q⟩:=h
 cases x with
 | non =>
   cases rx
   cases y with
   | non=>cases ry;exact PySem.EqNone.eq_none_none (Z9 I q (by simp))
   | bl j=>cases ry;exact PySem.EqNone.eq_none_bool (Z9 I q (by simp))
   | int j=>obtain ⟨t',rfl⟩:=ry;exact PySem.EqNone.eq_none_int (Z9 I q (by simp))
   | str j=>obtain ⟨t',rfl⟩:=ry;exact PySem.EqNone.eq_none_str (Z9 I q (by simp))
   | _=>exact absurd (show false=true from hs) B9
 | bl i =>
   cases rx
   cases y with
   | non=>cases ry;exact PySem.EqNone.eq_bool_none (Z9 I q (by simp))
   | bl j=>cases ry;exact eq_bool (Z9 I q J6e)
   | str j=>obtain ⟨t',rfl⟩:=ry;exact PySem.EqMixed.eq_bool_str (Z9 I q (by simp))
   | _=>exact absurd (show false=true from hs) B9
 | int i =>
   obtain ⟨t,rfl⟩:=rx
   cases y with
   | non=>cases ry;exact PySem.EqNone.eq_int_none (Z9 I q (by simp))
   | int j=>obtain ⟨t',rfl⟩:=ry;exact eq_int (Z9 I q ZT)
   | str j=>obtain ⟨t',rfl⟩:=ry;exact PySem.EqMixed.eq_int_str (Z9 I q (by simp))
   | _=>exact absurd (show false=true from hs) B9
 | str i =>
   obtain ⟨t,rfl⟩:=rx
   cases y with
   | non=>cases ry;exact PySem.EqNone.eq_str_none (Z9 I q (by simp))
   | bl j=>cases ry;exact PySem.EqMixed.eq_str_bool (Z9 I q (by simp))
   | int j=>obtain ⟨t',rfl⟩:=ry;exact PySem.EqMixed.eq_str_int (Z9 I q (by simp))
   | str j=>obtain ⟨t',rfl⟩:=ry;exact eq_str (Z9 I q ZS)
   | _=>exact absurd (show false=true from hs) B9
 | byt i =>
   obtain ⟨t,rfl⟩:=rx
   cases y with
   | byt j=>obtain ⟨t',rfl⟩:=ry;exact PySem.W.eq_bytes (Z9 I q ZU)
   | _=>exact absurd (show false=true from hs) B9
 | _=>cases y<;>exact absurd (show false=true from hs) B9
theorem IT:OpR X (compareOp .NotEq) rNe:=by
 intro pins s σ H x y v u Q I rx ry h
 obtain ⟨hs,q⟩:=h
 cases x with
 | non =>
   cases rx
   cases y with
   | non=>cases ry;exact PySem.EqNone.ne_none_none (Z9 I q (by simp))
   | bl j=>cases ry;exact PySem.EqNone.ne_none_bool (Z9 I q (by simp))
   | int j=>obtain ⟨t',rfl⟩:=ry;exact PySem.EqNone.ne_none_int (Z9 I q (by simp))
   | str j=>obtain ⟨t',rfl⟩:=ry;exact PySem.EqNone.ne_none_str (Z9 I q (by simp))
   | _=>exact absurd (show false=true from hs) B9
 | bl i =>
   cases rx
   cases y with
   | non=>cases ry;exact PySem.EqNone.ne_bool_none (Z9 I q (by simp))
   | bl j=>cases ry;exact ne_bool (Z9 I q (B0b not J6e))
   | str j=>obtain ⟨t',rfl⟩:=ry;exact PySem.EqMixed.ne_bool_str (Z9 I q (by simp))
   | _=>exact absurd (show false=true from hs) B9
 | int i =>
   obtain ⟨t,rfl⟩:=rx
   cases y with
   | non=>cases ry;exact PySem.EqNone.ne_int_none (Z9 I q (by simp))
   | int j=>obtain ⟨t',rfl⟩:=ry;exact ne_int (Z9 I q (B0b not ZT))
   | str j=>obtain ⟨t',rfl⟩:=ry;exact PySem.EqMixed.ne_int_str (Z9 I q (by simp))
   | _=>exact absurd (show false=true from hs) B9
 | str i =>
   obtain ⟨t,rfl⟩:=rx
   cases y with
   | non=>cases ry;exact PySem.EqNone.ne_str_none (Z9 I q (by simp))
   | bl j=>cases ry;exact PySem.EqMixed.ne_str_bool (Z9 I q (by simp))
   | int j=>obtain ⟨t',rfl⟩:=ry;exact PySem.EqMixed.ne_str_int (Z9 I q (by simp))
   | str j=>obtain ⟨t',rfl⟩:=ry;exact ne_str (Z9 I q (B0b not ZS))
   | _=>exact absurd (show false=true from hs) B9
 | byt i =>
   obtain ⟨t,rfl⟩:=rx
   cases y with
   | byt j=>obtain ⟨t',rfl⟩:=ry;exact PySem.W.ne_bytes (Z9 I q (B0b not ZU))
   | _=>exact absurd (show false=true from hs) B9
 | _=>cases y<;>exact absurd (show false=true from hs) B9
theorem GA:OpR X (compareOp .Lt) (rI0 fun i j=>.bl (decide (i<j))):=J9e fun _ _ _ _ _ _ _ q=>lt_int q
theorem NK:OpR X (compareOp .LtE) (rI0 fun i j=>.bl (decide (i<=j))):=J9e fun _ _ _ _ _ _ _ q=>le_int q
theorem KA:OpR X (compareOp .Gt) (rI0 fun i j=>.bl (decide (j<i))):=J9e fun _ _ _ _ _ _ _ q=>gt_int q
theorem Q1t:OpR X (compareOp .GtE) (rI0 fun i j=>.bl (decide (j<=i))):=J9e fun _ _ _ _ _ _ _ q=>ge_int q
theorem Q4a:OpR X (compareOp .Is) (fun x y H Q=>y=.non/\Q (.bl (decide (x=.non))) H):=by
 intro pins s σ H x y v u Q I rx ry h
 obtain ⟨rfl,q⟩:=h
 cases ry
 refine is_none_gen (Z9 I q ?_)
 cases x<;>first
  | (cases rx;rfl)
  | (obtain ⟨t,rfl⟩:=rx;rfl)
theorem J9b:OpR X (compareOp .IsNot) (fun x y H Q=>y=.non/\Q (.bl (!decide (x=.non))) H):=by
 intro pins s σ H x y v u Q I rx ry h
 obtain ⟨rfl,q⟩:=h
 cases ry
 refine isnot_none_gen (Z9 I q ?_)
 cases x<;>first
  | (cases rx;rfl)
  | (obtain ⟨t,rfl⟩:=rx;rfl)
theorem Q7 (b:Expr){op:CmpOp}(h:op≠.In:=by decide)(h2:op≠.NotIn:=by decide):behindInMarks op b=false:=by
 have e1:(op==CmpOp.In)=false:=by cases op<;>first|rfl|exact absurd rfl h
 have e2:(op==CmpOp.NotIn)=false:=by cases op<;>first|rfl|exact absurd rfl h2
 cases b<;>simp [behindInMarks,e1,e2]
theorem ZA {op:CmpOp}{r:R2}(ho:OpR X (compareOp op) r)(ha:PE X a ta)(hb:PE X b tb)(hm:behindInMarks op b=false):PE X (.Compare a [op] [b] pos) (tOp r ta tb):=by
 intro pins s σ H Q I h
 exact wpAny_Compare1 (Q6s ha hb I h fun v u s2 x y H2 I2 rx ry q=>ho pins s2 σ H2 x y v u Q I2 rx ry q) hm
def Q7n (t:TE):TT:=fun σ H Q=>t σ H fun x H'=>∃ k,x=.bl k/\Q k H'
theorem MN {op:CmpOp}{r:R2}(ho:OpR X (compareOp op) r)(ha:PE X a ta)(hb:PE X b tb)(hm:behindInMarks op b=false):PT X (.Compare a [op] [b] pos) (Q7n (tOp r ta tb)):=by
 intro pins s σ H Q I h
 refine wpAny_isTrue_Compare1 (thn (ha pins s σ H _ I h) fun v s1 ⟨x,H1,I1,r1,q1⟩=>thn (hb pins s1 σ H1 _ I1 q1) fun u s2 ⟨y,H2,I2,r2,q2⟩ =>
  thn (ho pins s2 σ H2 x y v u _ I2 r1 r2 q2) fun c s3 ⟨z,H3,I3,r3,k,e,q3⟩=>?_) hm
 subst e
 cases r3
 exact D9 ⟨H3,I3,q3⟩
def Q3g (r r':R2)(ta tb tc:TE):TE:=fun σ H Q=>ta σ H fun x H1=>tb σ H1 fun y H2=>r x y H2 fun z H3=>∃ k,z=.bl k /\
 (if k=true then tc σ H3 fun w' H4=>r' y w' H4 Q else Q (.bl false) H3)
theorem J4n {op op':CmpOp}{r r':R2}(ho:OpR X (compareOp op) r)(ho':OpR X (compareOp op') r')(ha:PE X a ta)(hb:PE X b tb)(hc:PE X c tc)
 (hm:lastMarks [op,op'] [b,c]=false:=by with_unfolding_all rfl):PE X (.Compare a [op,op'] [b,c] pos) (Q3g r r' ta tb tc):=by
 intro pins s σ H Q I h
 refine Compare_chain (thn (ha pins s σ H _ I h) fun v s1 ⟨x,H1,I1,r1,q1⟩=>chain_link (thn (hb pins s1 σ H1 _ I1 q1) fun u s2 ⟨y,H2,I2,r2,q2⟩ =>
  thn (ho pins s2 σ H2 x y v u _ I2 r1 r2 q2) fun d s3 ⟨z,H3,I3,r3,k,e,q3⟩=>?_)) hm
 subst e
 cases r3
 refine D9 ?_
 cases k with
 | false=>exact ite_ff ⟨.bl false,H3,I3,rfl,q3⟩
 | true=>exact ite_tt (chain_last (thn (hc pins s3 σ H3 _ I3 q3) fun w' s4 ⟨z',H4,I4,r4,q4⟩=>ho' pins s4 σ H4 y z' u w' Q I4 r2 r4 q4))
def Q6w (K:Fg)(x:V)(H:Hp)(k:Bool):Prop :=
 match x with
 | .non=>k=false
 | .bl b=>k=b
 | .int i=>k=(i != 0)
 | .str y=>y.length<=sizeLine/\k=((y.length:Int)!=0)
 | .byt y=>y.size<=sizeLine/\k=((y.size:Int)!=0)
 | .ref p=>(∃ xs,SqL K H p xs/\k = !xs.isEmpty)\/(∃ xs,SqT K H p xs/\k = !xs.isEmpty)\/∃ kvs,H p=some (.dK kvs)/\k = !kvs.isEmpty
 | _=>False
theorem XS {κ:Type}{kvs:List (κ×V)}{vs:List (κ×Value)}(r:KV kvs vs):(!vs.isEmpty) = !kvs.isEmpty:=by
 cases r<;>rfl
theorem OA {xs:List V}{its:List Value}(r:Vals xs its):(!its.toArray.isEmpty) = !xs.isEmpty:=by
 cases r<;>simp
theorem NU:(sizeLine:Nat)<2 ^ 63:=by rw [B1w];decide
theorem Q3c:V1l X (fun x H Q=>∃ k,Q6w X.K x H k/\Q k H):=by
 intro pins s σ H x v Q I rx h
 obtain ⟨k,e,q⟩:=h
 have hl:=NU
 have hs:sizeLine=16777216:=B1w
 cases x with
 | non =>
   cases rx
   have e':k=false:=e
   subst e'
   exact truthy_none ⟨H,I,q⟩
 | bl b =>
   cases rx
   have e':k=b:=e
   subst e'
   exact D9 ⟨H,I,q⟩
 | int i =>
   obtain ⟨t,rfl⟩:=rx
   have e':k=(i != 0):=e
   subst e'
   exact PySem.P.truthy_int ⟨H,I,q⟩
 | str y =>
   obtain ⟨t,rfl⟩:=rx
   obtain ⟨hy,e'⟩:y.length<=sizeLine/\k=((y.length:Int)!=0):=e
   subst e'
   exact PySem.P.truthy_str (by omega) ⟨H,I.tok _,q⟩
 | byt y =>
   obtain ⟨t,rfl⟩:=rx
   obtain ⟨hy,e'⟩:y.size<=sizeLine/\k=((y.size:Int)!=0):=e
   subst e'
   exact PySem.W.truthy_bytes (by omega) ⟨H,I.tok _,q⟩
 | ref p =>
   cases rx
   have e':(∃ xs,SqL X.K H p xs/\k = !xs.isEmpty)\/(∃ xs,SqT X.K H p xs/\k = !xs.isEmpty)\/∃ kvs,H p=some (.dK kvs)/\k = !kvs.isEmpty:=e
   rcases e' with ⟨xs,hx,e'⟩|⟨xs,hx,e'⟩|⟨kvs,hx,e'⟩
   · subst e'
     obtain ⟨its,r,pl,hz⟩:=I.list hx
     have hlen:=r.length
     exact wpAny_truthy_list pl.isList (by simp only [L9];omega) ⟨H,I.tok _,by rw [OA r];exact q⟩
   · subst e'
     obtain ⟨its,r,pl,hz⟩:=I.tuple hx
     have hlen:=r.length
     exact truthy_tuple pl (by simp only [L9];omega) ⟨H,I.tok _,by rw [OA r];exact q⟩
   · subst e'
     obtain ⟨hz,hS,vs,r,m⟩:kvs.length<=sizeLine/\(p==sysModules)=false/\∃ vs,KV kvs vs/\s.heap.DictOf (RW X.prog X.w) p vs:=I.hok p _ hx
     have hlen:kvs.length=vs.length:=Paired.length r
     exact wpAny_truthy_dict hS m (by omega) ⟨H,I.tok _,by rw [XS r];exact q⟩
 | _=>exact (show False from e).elim
theorem J3y (ha:PE X a ta)(he:∀ whole,isTrue a X.env whole=(do let v <- whole;standAt a.pos;holding [v] (truthy v))) :
 PT X a (fun σ H Q=>ta σ H fun x H'=>∃ k,Q6w X.K x H' k/\Q k H'):=by
 intro pins s σ H Q I h
 exact isTrue_plain (thn (ha pins s σ H _ I h) fun v s1 ⟨x,H1,I1,r1,q1⟩=>Q3c pins s1 σ H1 x v Q I1 r1 q1) (he _)
theorem HD {x:V}{us:List Value}(r:Vals [x] us):∃ u,us=[u]/\RelV x u:=by
 cases r with
 | cons r1 r2=>cases r2;exact ⟨_,rfl,r1⟩
theorem SY {x y:V}{us:List Value}(r:Vals [x,y] us):∃ u w',us=[u,w']/\RelV x u/\RelV y w':=by
 cases r with
 | cons r1 r2 =>
   cases r2 with
   | cons r3 r4=>cases r4;exact ⟨_,_,rfl,r1,r3⟩
theorem IC:BD X (.builtin "abs") (fun xs H Q=>∃ i,xs=[.int i]/\Q (.int (if i<0 then -i else i)) H):=by
 intro pins s σ H xs us Q I r h
 obtain ⟨i,rfl,q⟩:=h
 obtain ⟨u,rfl,t,rfl⟩:=HD r
 exact call_abs_int fun u tk=>⟨.int (if i<0 then -i else i),H,I.tok _,⟨_,rfl⟩,q⟩
theorem QO (hc:X.calm=true):BD X (.builtin "max") (fun xs H Q=>∃ i j,xs=[.int i,.int j]/\Q (.int (if j>i then j else i)) H):=by
 intro pins s σ H xs us Q I r h
 obtain ⟨i,j,rfl,q⟩:=h
 obtain ⟨u,w',rfl,⟨t,rfl⟩,⟨t',rfl⟩⟩:=SY r
 refine max_two_ints (I.ok.hd hc) fun h' tk k=>⟨_,H,I.kept k,?_,q⟩
 by_cases hj:j>i
 · rw [if_pos hj,if_pos hj];exact ⟨_,rfl⟩
 · rw [if_neg hj,if_neg hj];exact ⟨_,rfl⟩
theorem QN (hc:X.calm=true):BD X (.builtin "min") (fun xs H Q=>∃ i j,xs=[.int i,.int j]/\Q (.int (if j<i then j else i)) H):=by
 intro pins s σ H xs us Q I r h
 obtain ⟨i,j,rfl,q⟩:=h
 obtain ⟨u,w',rfl,⟨t,rfl⟩,⟨t',rfl⟩⟩:=SY r
 refine min_two_ints (I.ok.hd hc) fun h' tk k=>⟨_,H,I.kept k,?_,q⟩
 by_cases hj:j<i
 · rw [if_pos hj,if_pos hj];exact ⟨_,rfl⟩
 · rw [if_neg hj,if_neg hj];exact ⟨_,rfl⟩
theorem QP:BD X (.type "int") (fun xs H Q=>(∃ i,xs=[.int i]/\Q (.int i) H)\/∃ k,xs=[.bl k]/\Q (.int (if k then 1 else 0)) H):=by
 intro pins s σ H xs us Q I r h
 rcases h with ⟨i,rfl,q⟩|⟨k,rfl,q⟩
 · obtain ⟨u,rfl,t,rfl⟩:=HD r
   exact call_int_int ⟨.int i,H,I,⟨_,rfl⟩,q⟩
 · obtain ⟨u,rfl,r1⟩:=HD r
   cases r1
   exact call_int_bool ⟨.int (if k then 1 else 0),H,I.tok _,⟨_,rfl⟩,q⟩
end
structure ObjM (h:Heap)(x dx C:Addr)(mA:Str->Option Value):Prop where
 obj:h.get? x=some (PySem.W.instObj C dx)
 ns:h.Ns1 dx mA
 ne:dx≠x
theorem J1r {h:Heap}{dx:Addr}{mA:Str->Option Value}(n:h.Ns1 dx mA):∃ od,h.get? dx=some od/\∀ name,PySem.W.lookIn name od=some (mA name):=by
 obtain ⟨o,es,ep,ho,hd,hk,_,hm⟩:=n
 refine ⟨o,ho,fun name=>?_⟩
 have e:=hm name
 unfold nsFind findBy at e
 rw [<- Array.find?_toList] at e
 unfold PySem.W.lookIn
 rw [hd]
 dsimp only
 split
 · rename_i y q
   rw [q] at e
   exact B0b some e
 · rename_i q
   rw [q] at e
   have a:es.toList.any (·.refKey)=false:=by
    rw [List.any_eq_false]
    intro y hy
    obtain ⟨z,t,hkey⟩:=hk y (Array.mem_toList_iff.mp hy)
    simp [DictEntry.refKey,hkey]
   have a':¬ es.toList.any (·.refKey)=true:=by rw [a];exact B9
   rw [if_neg a']
   exact B0b some e
theorem ObjM.look {h:Heap}{x dx C:Addr}{mA:Str->Option Value}(I:ObjM h x dx C mA):∃ od,PySem.W.InstAt h x (PySem.W.instObj C dx) C (some od)/\∀ name,PySem.W.lookIn name od=some (mA name) :=
 let ⟨od,ho,hl⟩:=J1r I.ns
 ⟨od,⟨I.obj,rfl,rfl,ho⟩,hl⟩
section
variable {P:Program}{w:World}{H:Hp}{h:Heap}{a C dx:Addr}{fs:List (Str×V)}
theorem Q0a (hok:HOk P w H h)(e:H a=some (.ins C dx fs)):∃ mA,ObjM h a dx C mA/\(∀ f,Q7b (fs.lookup f) (mA f))/\PySem.Within mA (fs.map (·.1))/\fs.length<=1000/\H dx=some (.own a):=by
 obtain ⟨d,z,ne,ob,mA,n,r,q⟩:=(show ObjOk P w H h a (.ins C dx fs) from hok a _ e)
 exact ⟨mA,⟨ob,n,ne⟩,r,q,z,d⟩
end
structure Cls (K:Fg)(C:Addr):Prop where
 pg:PySem.W.plainGet K C Str.empty=true
 hd:PySem.W.hasDictIn K C=true
 po:PySem.W.plainOver K C=true
 sa:PySem.W.findIn K (.ref C) "__setattr__" = some (some (.builtin "object.__setattr__"))
theorem Cls.get {C:Addr}(c:Cls K C)(f:Str):PySem.W.plainGet K C f=true:=c.pg
def Q7e (K:Fg)(C:Addr)(f:Str):Prop:=PySem.W.findIn K (.ref C) f=some none
def V1r (K:Fg)(ta:TE)(f:Str):TE:=fun σ H Q=>ta σ H fun x H1=>∃ a C dx fs v,x=.ref a/\H1 a=some (.ins C dx fs)/\Cls K C/\Q7e K C f/\fs.lookup f=some v/\Q v H1
section
variable {X:Cx}{pins:List (Addr×Obj)}{σ:St}{H:Hp}{s:Shared}{A:Around}{E:Value->Shared->Prop}{Q:Value->Shared->Prop}{c:Value}{b:Bool}
inductive TyOf (K:Fg)(H:Hp):V->Value->Prop where
 | non:TyOf K H .non (.type "NoneType")
 | bl (x:Bool):TyOf K H (.bl x) (.type "bool")
 | int (i:Int):TyOf K H (.int i) (.type "int")
 | str (x:Str):TyOf K H (.str x) (.type "str")
 | flt (x:UInt64):TyOf K H (.flt x) (.type "float")
 | lst {a:Addr} {xs:List V} (e:H a=some (.lst xs)):TyOf K H (.ref a) (.type "list")
 | frz {a:Addr} {o:Obj} {xs:List V} (e:H a=some (.frz o (.lst xs))):TyOf K H (.ref a) (.type "list")
 | tup {a:Addr} {xs:List V} (e:H a=some (.tup xs)):TyOf K H (.ref a) (.type "tuple")
 | dK {a:Addr} {kvs:List (Key×V)} (e:H a=some (.dK kvs)):TyOf K H (.ref a) (.type "dict")
 | dT {a:Addr} {kvs:List (List Key×V)} (e:H a=some (.dT kvs)):TyOf K H (.ref a) (.type "dict")
 | ins {a C dx:Addr} {fs:List (Str×V)} (e:H a=some (.ins C dx fs)) (cl:Cls K C) (ha:PySem.W.findIn K (.ref C) "__class__" = some (some (.builtin "object.__class__")))
  (hn:PySem.W.specialIn K (.builtin "object.__class__") "__get__" = some (some (.builtin "getset_descriptor.__get__"))) (htk:PySem.W.takesIn K (.builtin "object.__class__")=some true)
  (hm:PySem.W.mroIn K C (.type "object")=some true):TyOf K H (.ref a) (.ref C)
theorem J1x {x:V}{u t:Value}(I:Inv X pins σ H s)(rx:RelV x u)(ty:TyOf X.K H x t)(e:PySem.W.kitOne X.K t c=some b)(h:∀ tk,Q (.bool b) { s with toks:=tk }) :
 wpAny (model X.prog X.w) A (call (.builtin "isinstance") [u,c]) Q E s:=by
 cases ty with
 | non=>cases (show u=Value.none from rx);exact W4 PySem.W.kitx_none I.kIn True.intro e (fun z=>nomatch z) h
 | bl y=>cases (show u=Value.bool y from rx);exact W4 PySem.W.kitx_bool I.kIn True.intro e (fun z=>nomatch z) h
 | int i=>obtain ⟨t,q⟩:=(show ∃ t,u=Value.int i t from rx);cases q;exact W4 PySem.W.kitx_int I.kIn True.intro e (fun z=>nomatch z) h
 | str y=>obtain ⟨t,q⟩:=(show ∃ t,u=Value.str y t from rx);cases q;exact W4 PySem.W.kitx_str I.kIn True.intro e (fun z=>nomatch z) h
 | flt y=>obtain ⟨t,q⟩:=(show ∃ t,u=Value.float y t from rx);cases q;exact W4 PySem.W.kitx_float I.kIn True.intro e (fun z=>nomatch z) h
 | @lst a xs ea =>
   cases (show u=Value.ref a from rx)
   obtain ⟨_,_,n,_,h1⟩:=(show ObjOk X.prog X.w H s.heap a (.lst xs) from I.hok a _ ea)
   exact W4 PySem.W.kitx_list I.kIn ⟨_,h1,rfl⟩ e (fun z=>nomatch z) h
 | @frz a ob xs ea =>
   cases (show u=Value.ref a from rx)
   obtain ⟨_,_,_,n,_,h1⟩:=(show ObjOk X.prog X.w H s.heap a (.frz ob (.lst xs)) from I.hok a _ ea)
   exact W4 PySem.W.kitx_list I.kIn ⟨_,h1,rfl⟩ e (fun z=>nomatch z) h
 | @tup a xs ea =>
   cases (show u=Value.ref a from rx)
   obtain ⟨_,_,_,p⟩:=(show ObjOk X.prog X.w H s.heap a (.tup xs) from I.hok a _ ea)
   obtain ⟨o,h1,h2,_⟩:=p
   exact W4 PySem.W.kitx_tuple I.kIn ⟨o,h1,h2⟩ e (fun z=>nomatch z) h
 | @dK a kvs ea =>
   cases (show u=Value.ref a from rx)
   obtain ⟨_,_,vs,_,p⟩:=(show ObjOk X.prog X.w H s.heap a (.dK kvs) from I.hok a _ ea)
   obtain ⟨o,es,ep,h1,h2,_⟩:=p
   exact W4 PySem.W.kitx_dict I.kIn ⟨o,h1,h2.1⟩ e (fun z=>nomatch z) h
 | @dT a kvs ea =>
   cases (show u=Value.ref a from rx)
   obtain ⟨_,_,xs,_,o,es,ep,h1,h2,_⟩:=(show ObjOk X.prog X.w H s.heap a (.dT kvs) from I.hok a _ ea)
   exact W4 PySem.W.kitx_dict I.kIn ⟨o,h1,h2.1⟩ e (fun z=>nomatch z) h
 | @ins a C dx fs ea cl ha hn htk hm =>
   cases (show u=Value.ref a from rx)
   obtain ⟨mA,O,_⟩:=Q0a I.hok ea
   obtain ⟨od,J,_⟩:=O.look
   exact W4 (PySem.W.kitx_own (cl.get _) cl.hd ha hn htk hm) I.kIn J e (fun z=>nomatch z) h
end
structure Room (k:Nat)(A:Around):Prop where
 hd:A.handled=none
 dp:A.depth+3*k+5<recursionLimit
 un:A.units+16*k+200<cLine
 gd:A.guards=some []
theorem Room.mono {j k:Nat}{A:Around}(r:Room k A)(h:j<=k):Room j A:=⟨r.hd,by have:=r.dp;omega,by have:=r.un;omega,r.gd⟩
theorem Room.deeper {k:Nat}{A:Around}(r:Room (k+1) A)(env:Env):Room k (A.deeper env) :=
 ⟨r.hd,by have:=r.dp;show A.depth+1+3*k+5<_;omega,by have:=r.un;show A.units+3+16*k+200<_;omega,r.gd⟩
theorem Room.depth {k:Nat}{A:Around}(r:Room k A):A.depth<recursionLimit:=by have:=r.dp;omega
theorem Room.units {k:Nat}{A:Around}(r:Room k A):A.units+64<cLine:=by have:=r.un;omega
def V0r:TA:=fun _ H Q=>Q [] H
def Q7s (ta:TE)(tr:TA):TA:=fun σ H Q=>ta σ H fun x H1=>tr σ H1 fun xs H2=>Q (x::xs) H2
section
variable {X:Cx}{e:Expr}{es:List Expr}{te:TE}{t:TA}{pos:Pos}
theorem ES:PA X [] V0r:=fun _ _ _ _ H Q I h=>Calls.spliced_nil ⟨[],H,I,.nil,h⟩
theorem BC (ha:PE X e te)(hr:PA X es t)(hs:starEach (e::es) X.env=(false,eval e X.env)::starEach es X.env:=by rfl):PA X (e::es) (Q7s te t):=by
 intro pos pins s σ H Q I h
 rw [hs]
 show wpAny _ _ (spliced ((false,eval e X.env)::backTo pos (starEach es X.env))) _ _ s
 refine Calls.spliced_cons (thn (ha pins s σ H _ I h) fun u s1 ⟨x,H1,I1,r1,q1⟩=>?_)
 exact thn (hr pos pins s1 σ H1 _ I1 q1) fun us s2 ⟨xs,H2,I2,r2,q2⟩=>⟨x::xs,H2,I2,.cons r1 r2,q2⟩
def Q7l (t:TA):TE:=fun σ H Q=>t σ H fun xs H1=>xs.length<=sizeLine/\∀ p,H1 p=none->Q (.ref p) (upd H1 p (.tup xs))
def V0s (t:TA):TE:=fun σ H Q=>t σ H fun xs H1=>xs.length<=sizeLine/\∀ p,H1 p=none->Q (.ref p) (upd H1 p (.lst xs))
theorem J4g {x1}(h:PA X es t):PE X (.Tuple es x1 pos) (Q7l t):=by
 intro pins s σ H Q I hq
 refine wpAny_Tuple_spliced (thn (h pos pins s σ H _ I hq) fun us s1 ⟨xs,H1,I1,r,z,q⟩=>⟨by rw [<- r.length];exact z,?_⟩)
 have hf:H1 s1.heap.objs.size=none:=I1.hok.fresh (B6 _)
 refine ⟨.ref s1.heap.objs.size,upd H1 s1.heap.objs.size (.tup xs),I1.laid (t':=s1.toks) (fun b u e=>B1 _ e) (B6 _) ?_,rfl,q _ hf⟩
 exact ⟨z,us,r,⟨_,L8 _ rfl,rfl,_,rfl⟩⟩
theorem RN (h:PA X es t):PE X (.List es pos) (V0s t):=by
 intro pins s σ H Q I hq
 refine wpAny_List_spliced (thn (h pos pins s σ H _ I hq) fun us s1 ⟨xs,H1,I1,r,z,q⟩=>⟨by rw [<- r.length];exact z,?_⟩)
 have hf:H1 s1.heap.objs.size=none:=I1.hok.fresh (B6 _)
 refine ⟨.ref s1.heap.objs.size,upd H1 s1.heap.objs.size (.lst xs),I1.laid (t':=s1.toks) (fun b u e=>B1 _ e) (B6 _) ?_,rfl,q _ hf⟩
 exact ⟨z,us,0,r,L8 _ rfl⟩
end
abbrev Sp:=List V->Hp->VK->XK->Prop
abbrev CXT:=List Env->Hp->Shared->XK->Value->Shared->Prop
structure Env0 (P:Program)(w:World)(K:Fg)(mg:Str->Option Value)(base:Heap)(A:Around)(outer:List Env)(s:Shared)(H:Hp):Prop where
 frames:A.frames=some outer
 mod:Mod K mg base
 bs:∀ b o,base.get? b=some o->s.heap.get? b=some o/\H b=none
 bsz:base.objs.size<=s.heap.objs.size
 funs:s.heap.FunFrames base outer
 frf:∀ b∈frs outer,H b=none
 hok:HOk P w H s.heap
 bare:AllBare s.gens
def CE (outer:List Env)(P:Program)(w:World)(H:Hp)(s:Shared)(Q:VK)(u:Value)(s':Shared):Prop :=
 ∃ v H',s'.os=s.os/\AllBare s'.gens/\Un (frs outer) [] H H' s.heap s'.heap/\HOk P w H' s'.heap/\RelV v u/\Q v H'
def CR (CX:CXT)(outer:List Env)(P:Program)(w:World)(H:Hp)(s:Shared)(Q:VK)(E:XK)(r:Result)(s':Shared):Prop :=
 match r with
 | .ok (.ret u)=>CE outer P w H s Q u s'
 | .ok _=>False
 | .error e=>CX outer H s E e s'
structure FnOk (P:Program)(w:World)(K:Fg)(mg:Str->Option Value)(base:Heap)(CX:CXT)(k:Nat)(f:Addr)(fd:FuncData)(ps:List Str)(sp:Sp):Prop where
 len:∀ vs H Q E,sp vs H Q E->vs.length=ps.length
 run:∀ (A:Around) (outer:List Env) (s:Shared) (H:Hp) (args:Args) (us:List Value) (vs:List V) (Q:VK) (E:XK),Room k A->Env0 P w K mg base A outer s H->BindsTo s fd args (ps.zip us)->Vals vs us->sp vs H Q E ->
  codeAny (model P w) A (.call (.ref f) args) (CR CX outer P w H s Q E) s
theorem FnOk.imp {w:World} {CX:CXT}{k:Nat}{f:Addr} {ps:List Str}{sp sp':Sp}(F:FnOk P w K mg base CX k f fd ps sp)
 (h:∀ vs H Q E,sp' vs H Q E->sp vs H Q E):FnOk P w K mg base CX k f fd ps sp' :=
 ⟨fun vs H Q E q=>F.len vs H Q E (h _ _ _ _ q),fun A outer s H args us vs Q E hr he hb hv hs=>F.run A outer s H args us vs Q E hr he hb hv (h _ _ _ _ hs)⟩
section
variable {X:Cx}{pins:List (Addr×Obj)}{σ:St}{H:Hp}{s s':Shared}
theorem Inv.env0 (I:Inv X pins σ H s):Env0 X.prog X.w X.K X.mg X.base X.A X.stack s H :=
 ⟨I.ok.frames,I.ok.mod,I.bs,M7 I.ok.bsz I.sz,I.stack,I.stkFree,I.hok,I.bare⟩
theorem Inv.after {Q:VK}{u:Value}(I:Inv X pins σ H s)(h:CE X.stack X.prog X.w H s Q u s'):EP X pins σ Q u s':=by
 obtain ⟨v,H',os,bare,un,hok,r,q⟩:=h
 obtain ⟨hh,g,d,t,os'⟩:=s'
 obtain rfl:os'=s.os:=os
 exact ⟨v,H',I.call (h':=hh) (g':=g) (d':=d) (t':=t) (ch:=[]) un hok bare (fun b z=>absurd z (by simp)),r,q⟩
end
def YJ (sp:Sp)(dvs:List V)(E:XK)(t:TA):TE:=fun σ H Q=>t σ H fun vs H1=>sp (vs++dvs) H1 Q E
def V1p (C:Addr)(m:Str)(sp:Sp)(dvs:List V)(E:XK)(ta:TE)(t:TA):TE:=fun σ H Q=>ta σ H fun x H1=>∃ a dx fs,x=.ref a/\H1 a=some (.ins C dx fs)/\fs.lookup m=none /\
 t σ H1 fun vs H2=>sp (x::(vs++dvs)) H2 Q E
def V1q (C:Addr)(sp:Sp)(dvs:List V)(E:XK)(t:TA):TE:=fun σ H Q=>t σ H fun vs H1=>∀ x dx,H1 x=none->H1 dx=none->dx≠x ->
 sp (.ref x::(vs++dvs)) (upd (upd H1 dx (.own x)) x (.ins C dx [])) (fun v H2=>v=.non/\Q (.ref x) H2) E
def Binds (K:Fg)(fd:FuncData)(ps:List Str)(ds:List Value):Prop :=
 ∀ (s:Shared) (us:List Value),K.In s.heap->(us++ds).length=ps.length->BindsTo s fd ⟨us,[]⟩ (ps.zip (us++ds))
theorem Binds.all {ps:List Str}(h:∀ us:List Value,us.length=ps.length->bindArgs fd ⟨us,[]⟩=pure (ps.zip us)):Binds K fd ps []:=fun s us _ hl=>by
 rw [U9] at hl ⊢
 exact .of_eq (h us hl)
def FE (CX:CXT)(X:Cx)(E:XK):Prop:=∀ (pins:List (Addr×Obj)) (σ:St) (H:Hp) (s:Shared) (e:Value) (s':Shared),Inv X pins σ H s->CX X.stack H s E e s'->X.xe e s'
section
variable {X:Cx}{CX:CXT}{k:Nat}{f:Addr}{fd:FuncData}{ps:List Str}{sp:Sp}{dvs:List V}{ds:List Value}{E:XK}{x:Str}{p pos:Pos}{e:Expr}{es:List Expr}{t:TA}
theorem Q3l {pins:List (Addr×Obj)}{σ:St}{H:Hp}{s:Shared}{Q:VK}{us:List Value}{vs:List V}(F:FnOk X.prog X.w X.K X.mg X.base CX k f fd ps sp)(hr:Room k X.A)(hb:Binds X.K fd ps ds)(hd:Vals dvs ds)(hx:FE CX X E)
 (I:Inv X pins σ H s) (r:Vals vs us) (h:sp (vs++dvs) H Q E):wpAny (model X.prog X.w) X.A (call (.ref f) us) (EP X pins σ Q) X.xe s:=by
 have r2:Vals (vs++dvs) (us++ds):=r.append hd
 have hl:(us++ds).length=ps.length:=by rw [<- r2.length];exact F.len _ _ _ _ h
 refine wpAny_call (codeAny_mono (F.run X.A X.stack s H ⟨us,[]⟩ (us++ds) (vs++dvs) Q E hr I.env0 (hb s us I.kIn hl) r2 h) fun r s' hq=>?_)
 cases r with
 | error e=>exact hx pins σ H s e s' I hq
 | ok fl =>
   cases fl with
   | ret u=>exact I.after hq
   | next=>exact False.elim hq
   | brk=>exact False.elim hq
   | cont=>exact False.elim hq
theorem ZB (F:FnOk X.prog X.w X.K X.mg X.base CX k f fd ps sp)(hr:Room k X.A)(hg:Gl X x)(hm:X.mg x=some (.ref f))(hk:PySem.W.keepIn X.K (.ref f)=true)(hb:Binds X.K fd ps ds)(hd:Vals dvs ds)(hx:FE CX X E)
 (ha:PA X (e::es) t) (hdb:(x==("__debug__" : Str))=false:=by decide) (he:starEach (e::es) X.env=(false,eval e X.env)::starEach es X.env:=by rfl) (hpl:(backTo pos (starEach es X.env)).any (·.1)=false:=by rfl) :
 PE X (.Call (.Name x p) (e::es) [] pos) (YJ sp dvs E t):=by
 intro pins s σ H Q I h
 refine wpAny_Call_Name_kw (MP I hg hm ?_ hdb)
 refine PySem.W.callWith_K (h₀:=X.base) I.ok.mod.kin hk (thn (ha pos pins s σ H _ I h) fun us s1 ⟨vs,H1,I1,r,q⟩=>⟨I1.kIn,?_⟩) he hpl
 exact Q3l F hr hb hd hx I1 r q
end
structure FnScope (N P:List Str)(sc:Scope):Prop where
 kind:sc.kind=.function
 co:sc.isCoroutine=false
 gen:sc.isGenerator=false
 nd:N.Nodup
 pre:N.take P.length=P
 par:∀ x∈P,sc.names.lookup x=some .local\/sc.names.lookup x=some .cell
 nofree:∀ y∈sc.names,y.2≠.free
theorem QR {kindOf:Str->Option NameKind}{x:Str}:∀ {binds:List (Str×Value)} {m:Str->Option Value},(∀ v,(x,v)∉binds)->bindL kindOf binds m x=m x
 | [],_,_=>rfl
 | (n,v)::r,m,h=>by
   unfold bindL
   rw [QR fun w hw=>h w (L6 _ hw)]
   split
   · have:x≠n:=by rintro rfl;exact h v B8
     simp [this]
   · rfl
theorem QT {kindOf:Str->Option NameKind}{x:Str}:∀ {binds:List (Str×Value)} {m:Str->Option Value},(∀ v,(x,v)∉binds)->bindC kindOf binds m x=m x
 | [],_,_=>rfl
 | (n,v)::r,m,h=>by
   unfold bindC
   rw [QT fun w hw=>h w (L6 _ hw)]
   split
   · rfl
   · have:x≠n:=by rintro rfl;exact h v B8
     simp [this]
theorem QS {kindOf:Str->Option NameKind}{x:Str}{v:Value}:∀ {P:List Str} {vs:List Value} {i:Nat} {m:Str->Option Value},P.Nodup->P[i]?=some x->vs[i]?=some v->kindOf x=some .local ->
 bindL kindOf (P.zip vs) m x=some v
 | [],_,_,_,_,h,_,_=>by simp at h
 | _::_,[],_,_,_,_,h,_=>by simp at h
 | p::P,w::vs,0,m,nd,h1,h2,hk=>by
   simp at h1 h2;subst h1;subst h2
   show bindL kindOf ((p,w)::P.zip vs) m p=_
   unfold bindL
   rw [QR fun v hv=>(E5.mp nd).1 (List.of_mem_zip hv).1,if_pos hk]
   simp
 | p::P,w::vs,i+1,m,nd,h1,h2,hk=>by
   show bindL kindOf ((p,w)::P.zip vs) m x=_
   unfold bindL
   exact QS (i:=i) (E5.mp nd).2 (by simpa using h1) (by simpa using h2) hk
theorem QU {kindOf:Str->Option NameKind}{x:Str}{v:Value}:∀ {P:List Str} {vs:List Value} {i:Nat} {m:Str->Option Value},P.Nodup->P[i]?=some x->vs[i]?=some v->kindOf x≠some .local ->
 bindC kindOf (P.zip vs) m x=some v
 | [],_,_,_,_,h,_,_=>by simp at h
 | _::_,[],_,_,_,_,h,_=>by simp at h
 | p::P,w::vs,0,m,nd,h1,h2,hk=>by
   simp at h1 h2;subst h1;subst h2
   show bindC kindOf ((p,w)::P.zip vs) m p=_
   unfold bindC
   rw [QT fun v hv=>(E5.mp nd).1 (List.of_mem_zip hv).1,if_neg hk]
   simp
 | p::P,w::vs,i+1,m,nd,h1,h2,hk=>by
   show bindC kindOf ((p,w)::P.zip vs) m x=_
   unfold bindC
   exact QU (i:=i) (E5.mp nd).2 (by simpa using h1) (by simpa using h2) hk
def EO (N:List Str)(vs:List V):St:=vs.map some++List.replicate (N.length - vs.length) none
def BQ (CX:CXT)(P:Program)(w:World)(K:Fg)(mg:Str->Option Value)(base:Heap)(N:List Str)(qual:Str)(scope:Scope)(f:Addr)(cd:Value)(A:Around)(outer:List Env)(s:Shared)(H:Hp)(E:XK):Cx where
 prog:=P
 w:=w
 K:=K
 mg:=mg
 base:=base
 A:=A.deeper (envOfC qual scope s.heap.objs.size f cd)
 N:=N
 s₀:=s
 H₀:=H
 env:=envOfC qual scope s.heap.objs.size f cd
 outer:=outer
 stack:=envOfC qual scope s.heap.objs.size f cd::outer
 ex:=[]
 calm:=true
 fn:=fun _=>true
 pn:=[]
 xe:=fun e s'=>wpAny (model P w) (A.deeper (envOfC qual scope s.heap.objs.size f cd)) (leaving (envOfC qual scope s.heap.objs.size f cd) e) (fun _ s''=>CX outer H s E e s'') (fun e' s''=>CX outer H s E e' s'') s'
theorem VM {sc:Scope}{n:Nat}{x:Str}(h:sc.names.lookup x=some .cell):∃ c,(cellsFrom n sc.names []).lookup x=some c:=by
 have q:=B2p sc.names n [] (.inl h)
 exact B2j.mp q
theorem J1y {CX:CXT}{P:Program}{w:World}{K:Fg}{mg:Str->Option Value}{base:Heap}{N ps:List Str}{qual:Str}{scope:Scope}{f:Addr}{cd:Value}{A:Around}{outer:List Env}{s s1:Shared}{H:Hp}{E:XK}{us:List Value}{vs:List V}
 (S:FnScope N ps scope) (hd:A.handled=none) (e0:Env0 P w K mg base A outer s H) (hl:vs.length=ps.length) (r:Vals vs us)
 (x:InCallC s s.heap.objs.size (bindL (envOfC qual scope s.heap.objs.size f cd).kindOf (ps.zip us) fun _=>none) (cellsFrom (s.heap.objs.size+1) scope.names []) (bindC (envOfC qual scope s.heap.objs.size f cd).kindOf (ps.zip us) fun _=>none) s1) :
 Inv (BQ CX P w K mg base N qual scope f cd A outer s H E) [] (EO N vs) H s1:=by
 have hpl:ps.length<=N.length:=by have:=B0b List.length S.pre;rw [B0s] at this;omega
 obtain ⟨h1,tk,rfl,hk⟩:=x.done
 have noA:∀ b:Addr,b∉(BQ CX P w K mg base N qual scope f cd A outer s H E).ex:=fun b z=>absurd (show b∈([]:List Addr) from z) (by simp)
 refine ⟨⟨e0.mod,S.kind,rfl,rfl,B6 _,fun y z c h1 h2=>?_,fun y hy=>?_,fun y c _ h=>?_,fun _=>hd,Around.frames_deeper e0.frames,.inr ⟨rfl,rfl⟩,fun b z=>absurd z (noA b),e0.bs,e0.bsz,fun b _ _=>noA b,fun b z=>absurd z (noA b),e0.funs,e0.frf⟩,
  rfl,e0.bare,Un.kept hk,⟨_,x.toInCall.ns,fun i y v h1 h2 h3=>?_⟩,fun y c h=>⟨_,x.cell y c h⟩,e0.hok.fresh (B6 _),fun y c h=>?_,fun p hp=>absurd (show p∈([]:List (Addr×Obj)) from hp) (by simp),e0.hok.kept hk,?_⟩
 · exact name_of_addr x.apart (W7 h1) (W7 h2)
 · have hy:scope.names.lookup y=some .cell\/scope.names.lookup y=some .free:=hy
   rcases hy with hy|hy
   · exact VM hy
   · exact absurd rfl (S.nofree _ (W7 hy))
 · exact B1v (x.above y c (W7 h))
 · have hi:i<vs.length:=by
    unfold EO at h2
    by_cases hi:i<vs.length
    · exact hi
    · rw [B1y (by simpa using hi)] at h2
      rw [List.getElem?_replicate] at h2
      split at h2<;>cases h2
   have ha:vs[i]?=some v:=by
    unfold EO at h2
    rw [B0v (by simpa using hi),M9] at h2
    cases e:vs[i]? with
    | none=>rw [e] at h2;cases h2
    | some a=>rw [e] at h2;cases h2;rfl
   obtain ⟨u,hu,rv⟩:=r.get ha
   have hp:ps[i]?=some y:=by
    rw [<- S.pre,List.getElem?_take_of_lt (by omega)];exact h1
   have ndP:ps.Nodup:=by rw [<- S.pre];exact S.nd.sublist (List.take_sublist _ _)
   refine ⟨u,rv,?_⟩
   rcases S.par y (R6 hp) with k|k
   · exact .inl ⟨k,QS ndP hp hu k⟩
   · obtain ⟨c,e⟩:=VM (n:=s.heap.objs.size+1) k
     refine .inr ⟨.inl k,c,e,?_⟩
     have q:=x.cell y c e
     rw [QU ndP hp hu (by show scope.names.lookup y≠_;rw [k];decide)] at q
     exact q
 · exact e0.hok.fresh (B1v (x.above y c (W7 h)))
 · unfold EO
   show _=N.length
   rw [T1,L7,List.length_replicate]
   omega
theorem Q2d {CX:CXT}{P:Program}{w:World}{K:Fg}{mg:Str->Option Value}{base:Heap}{k:Nat}{f:Addr}{name qual:Str}{params:Arguments}{body:List Stmt}{scope:Scope}{dV kV doc pm cdv ct oc:Value}{an od:Option Addr}
 {osl:Array (Option Value)} {N ps:List Str} {sp:Sp} (lk:K.lookup f=some ⟨oc,od,.func (PySem.W.fnOf name qual params body scope dV kV doc pm an cdv ct),osl⟩) (hcd:PySem.W.codeIn K cdv qual=true) (S:FnScope N ps scope)
 (len:∀ vs H Q E,sp vs H Q E->vs.length=ps.length)
 (hbody:∀ (A:Around) (outer:List Env) (s:Shared) (H:Hp) (vs:List V) (Q:VK) (E:XK),Room k (A.deeper (envOfC qual scope s.heap.objs.size f cdv))->sp vs H Q E ->
  ∃ t,PSs (BQ CX P w K mg base N qual scope f cdv A outer s H E) body t/\t { nx:=fun _ H'=>Q .non H',rt:=Q } (EO N vs) H) :
 FnOk P w K mg base CX (k+1) f (PySem.W.fnOf name qual params body scope dV kV doc pm an cdv ct) ps sp:=by
 refine ⟨len,fun A outer s H args us vs Q E hr e0 hb r hsp=>?_⟩
 have hl:=len _ _ _ _ hsp
 have KX:K.In s.heap:=e0.mod.kin.keeps fun b o e=>(e0.bs b o e).1
 have lim:s.heap.NoLimit:=e0.mod.nolimit.keeps fun b o e=>(e0.bs b o e).1
 have hkind:∀ y∈ps.zip us,scope.names.lookup y.1=some .local\/(scope.names.lookup y.1=some .cell/\((cellsFrom (s.heap.objs.size+1) scope.names []).lookup y.1).isSome=true):=fun ⟨n,v⟩ hy=>by
  rcases S.par n (List.of_mem_zip hy).1 with q|q
  · exact .inl q
  · exact .inr ⟨q,B2p _ _ _ (.inl q)⟩
 refine codeAny_call_function hr.depth (KX _ _ lk) rfl S.co S.gen rfl (PySem.W.codeRec_of KX hcd) (hb _ _ _ _ ?_)
 refine wpAny_newFunctionEnv_cells S.kind hkind fun env he s1 x=>?_
 subst he
 refine ⟨lim.keeps x.toInCall.keep,codeAny_func ?_⟩
 obtain ⟨t,ht,hq⟩:=hbody A outer s H vs Q E (hr.deeper _) hsp
 have I:Inv (BQ CX P w K mg base N qual scope f cdv A outer s H E) [] (EO N vs) H s1:=J1y S hr.hd e0 hl r x
 refine U7 (ht [] s1 (EO N vs) H _ I hq) (fun fl s' hs=>?_) fun e s' hs=>hs
 have fin:∀ {σ':St} {H':Hp} {v:V} {u:Value},Inv (BQ CX P w K mg base N qual scope f cdv A outer s H E) [] σ' H' s'->RelV v u->Q v H'->CE outer P w H s Q u s' :=
  fun {σ' H' v u} J rv q=>⟨v,H',J.os,J.bare,J.base,J.hok,rv,q⟩
 cases fl with
 | ret u =>
   obtain ⟨v,σ',H',J,rv,q⟩:=hs
   exact fin J rv q
 | next =>
   obtain ⟨σ',H',J,q⟩:=hs
   exact fin (v:=V.non) (u:=Value.none) J rfl q
 | brk =>
   obtain ⟨_,_,_,q⟩:=hs
   exact False.elim q
 | cont =>
   obtain ⟨_,_,_,q⟩:=hs
   exact False.elim q
section
variable {X:Cx}{x:Str}{p pos:Pos}{e:Expr}{es:List Expr}{t:TA}{id T:String}{r:List V->Hp->VK->Prop}
def tCB (r:List V->Hp->VK->Prop)(t:TA):TE:=fun σ H Q=>t σ H fun vs H1=>r vs H1 Q
theorem FZ (hc:BD X (.builtin id) r)(hg:Gl X x)(hm:X.mg x=none)(hv:bootBuiltins x=some (.builtin id))(ha:PA X (e::es) t)(hn:x≠"__name__":=by decide) (hdb:(x==("__debug__" : Str))=false:=by decide)
 (he:starEach (e::es) X.env=(false,eval e X.env)::starEach es X.env:=by rfl) (hpl:(backTo pos (starEach es X.env)).any (·.1)=false:=by rfl):PE X (.Call (.Name x p) (e::es) [] pos) (tCB r t):=by
 intro pins s σ H Q I h
 refine wpAny_Call_Name_kw (JL I hg hm hv ?_ hn hdb)
 exact PyProof.Rows.callWith_builtin1 (thn (ha pos pins s σ H _ I h) fun us s1 ⟨vs,H1,I1,r1,q1⟩=>hc pins s1 σ H1 vs us Q I1 r1 q1) he hpl
theorem PY (hc:BD X (.type T) r)(hg:Gl X x)(hm:X.mg x=none)(hv:bootBuiltins x=some (.type T))(ha:PA X (e::es) t)(hn:x≠"__name__":=by decide) (hdb:(x==("__debug__" : Str))=false:=by decide)
 (he:starEach (e::es) X.env=(false,eval e X.env)::starEach es X.env:=by rfl) (hpl:(backTo pos (starEach es X.env)).any (·.1)=false:=by rfl):PE X (.Call (.Name x p) (e::es) [] pos) (tCB r t):=by
 intro pins s σ H Q I h
 refine wpAny_Call_Name_kw (JL I hg hm hv ?_ hn hdb)
 exact D8 (thn (ha pos pins s σ H _ I h) fun us s1 ⟨vs,H1,I1,r1,q1⟩=>hc pins s1 σ H1 vs us Q I1 r1 q1) he hpl
end
end L2
namespace HT
open PySem PyProof.Rows
section
variable {prog:Program}{w:World}{A:Around}{E:Value->Shared->Prop}{s:Shared}
theorem cat_tup {t b:Addr}{vs ws:List Value}{Q:Value->Shared->Prop}(ht:IsTup s.heap t vs.toArray)(hb:IsTup s.heap b ws.toArray)(hv:vs≠[])
 (h1:ws=[]->Q (.ref t) s) (h2:ws≠[]->Q (.ref s.heap.objs.size) { s with heap:=s.heap.push { cls:=.type "tuple",data:=.seq (vs++ws).toArray } })
 (hsz:vs.length+ws.length<=sizeLine):wpAny (model prog w) A (binaryOp .Add (.ref t) (.ref b)) Q E s:=by
 obtain ⟨⟨cls,dd,data,sl⟩,ho,hc,n,hd⟩:=id ht
 obtain ⟨⟨cls2,dd2,data2,sl2⟩,ho2,hc2,n2,hd2⟩:=id hb
 simp only at hc hd hc2 hd2
 subst hc hd hc2 hd2
 have e:vs.toArray++ws.toArray=(vs++ws).toArray:=by simp
 by_cases hw:ws=[]
 · exact concat_meets ⟨_,ho,rfl⟩ ⟨_,ho2,rfl⟩ noFill_tuple_add seq_tuple_add B2q B2k (B2i _ _)
    (tuple_addW1 t b vs.toArray ws.toArray n n2 dd dd2 sl sl2 (by simpa using hv) (by simp [hw])) ⟨ho,ho2,h1 hw⟩
 · refine concat_meets ⟨_,ho,rfl⟩ ⟨_,ho2,rfl⟩ noFill_tuple_add seq_tuple_add B2q B2k (B2i _ _)
    (tuple_addW2 t b vs.toArray ws.toArray n n2 dd dd2 sl sl2 (by simpa using hv) (by simpa using hw) (by rw [L9,L9];exact hsz)) ⟨ho,ho2,?_⟩
   rw [e]
   exact h2 hw
def sIx (n d:Nat):Option Int->Nat
 | none=>d
 | some v=>if v<0 then (v+(n:Int)).toNat else min v.toNat n
theorem sIx_nat (n d k:Nat):sIx n d (some (k:Int))=min k n:=by
 show (if (k:Int)<0 then ((k:Int)+(n:Int)).toNat else min (k:Int).toNat n)=min k n
 rw [if_neg (by omega),D5]
theorem Q3k (n d:Nat)(hd:d<=n)(o:Option Int):sIx n d o<=n:=by
 cases o with
 | none=>exact hd
 | some v =>
   show (if v<0 then (v+(n:Int)).toNat else min v.toNat n)<=n
   by_cases hv:v<0
   · rw [if_pos hv];omega
   · rw [if_neg hv];exact Nat.min_le_right _ _
theorem ZY (v:Int)(n d:Nat):(if v<0 then max (v+(n:Int)) 0 else min v (n:Int))=((sIx n d (some v):Nat):Int):=by
 show (if v<0 then max (v+(n:Int)) 0 else min v (n:Int))=(((if v<0 then (v+(n:Int)).toNat else min v.toNat n):Nat):Int)
 by_cases hv:v<0
 · simp only [if_pos hv];omega
 · simp only [if_neg hv];omega
theorem YG (lo hi:Option Int)(n:Nat):Builtin.Slice.sliceAdjust lo hi 1 (n:Int)=(((sIx n 0 lo:Nat):Int),((sIx n n hi:Nat):Int)):=by
 have h1:¬ ((1:Int)<0):=by omega
 unfold Builtin.Slice.sliceAdjust
 simp only [h1,B0d]
 refine Prod.ext ?_ ?_
 · cases lo with
   | none=>rfl
   | some v=>exact ZY v n 0
 · cases hi with
   | none=>rfl
   | some v=>exact ZY v n n
theorem WS (i j:Nat):Builtin.Slice.slicePlaces (i:Int) (j:Int) 1=j - i:=by
 unfold Builtin.Slice.slicePlaces
 have h1:(1:Int)>0:=by omega
 simp only [h1,if_true,Int.ediv_one]
 split<;>omega
theorem MY {v:Value}{o:Option Int}{Q:Option Int->Shared->Prop}(p:IsPart v o)(h:Q o s):wpAny (model prog w) A (Builtin.Slice.slicePartIndex v) Q E s:=by
 cases p with
 | none=>exact slicePart_none h
 | int i t=>exact slicePart_int h
theorem KW {sl:Addr}{vl vu:Value}{lo hi:Option Int}{n:Nat}{Q:Int×Int×Nat->Shared->Prop}(hs:s.heap.IsSliceOf sl vl vu .none)(pl:IsPart vl lo)(pu:IsPart vu hi)
 (h:Q (((sIx n 0 lo:Nat):Int),1,sIx n n hi - sIx n 0 lo) s):wpAny (model prog w) A (Builtin.Slice.sliceApplied (.ref sl) (pure (n:Int))) Q E s:=by
 obtain ⟨os,hos,hcs,hds⟩:=id hs
 unfold Builtin.Slice.sliceApplied Builtin.Slice.sliceFields
 refine B0 (B0 (U6 hos hds (x:=vl) rfl (B0 (U6 hos hds (x:=vu) rfl (B0 (U6 hos hds (x:=.none) rfl (B5 ?_)))))))
 refine B0 (slicePart_none ?_)
 show wpAny _ _ (if ((1:Int)==0)=true then _ else _) _ _ s
 rw [if_neg (by decide)]
 refine B0 (MY pl (B0 (MY pu (B0 (B5 ?_)))))
 show wpAny _ _ (match Builtin.Slice.sliceAdjust lo hi 1 (n:Int) with|(lo,hi)=>pure (lo,(1:Int),Builtin.Slice.slicePlaces lo hi 1)) _ _ s
 rw [YG lo hi n]
 show wpAny _ _ (pure (((sIx n 0 lo:Nat):Int),(1:Int),Builtin.Slice.slicePlaces ((sIx n 0 lo:Nat):Int) ((sIx n n hi:Nat):Int) 1)) _ _ s
 rw [WS]
 exact B5 h
theorem J4f (xs:Array Value)(i k:Nat):((List.range k).filterMap fun (m:Nat)=>xs[((i:Int)+(m:Int)*1).toNat]?).toArray=((xs.toList.drop i).take k).toArray:=by
 have e:(fun (m:Nat)=>xs[((i:Int)+(m:Int)*1).toNat]?)=fun m=>xs[i+m]?:=by
  funext m
  have:((i:Int)+(m:Int)*1).toNat=i+m:=by omega
  rw [this]
 rw [e]
 have:=pick_run xs i k
 rw [List.filterMap_map] at this
 have e2:((fun x=>xs[x]?)∘fun x=>i+x)=fun m=>xs[i+m]?:=rfl
 rw [e2] at this
 rw [this]
theorem getItem_tuple_cut {t sl:Addr}{items:Array Value}{vl vu:Value}{lo hi:Option Int}{Q:Value->Shared->Prop}(ht:IsTup s.heap t items)(hs:s.heap.IsSliceOf sl vl vu .none)(pl:IsPart vl lo)(pu:IsPart vu hi)
 (hw:¬ (sIx items.size 0 lo=0/\sIx items.size items.size hi=items.size))
 (h:Q (.ref s.heap.objs.size) { s with heap:=s.heap.push { cls:=.type "tuple",data:=.seq ((items.toList.drop (sIx items.size 0 lo)).take (sIx items.size items.size hi - sIx items.size 0 lo)).toArray } })
 (hsz:items.size<=sizeLine):wpAny (model prog w) A (getItem (.ref t) (.ref sl)) Q E s:=by
 have htake:sizeOk (.seq ((items.toList.drop (sIx items.size 0 lo)).take (sIx items.size items.size hi - sIx items.size 0 lo)).toArray):=by
  show ((items.toList.drop (sIx items.size 0 lo)).take (sIx items.size items.size hi - sIx items.size 0 lo)).toArray.size<=sizeLine
  rw [L9,B0s,List.length_drop,B2y]
  omega
 have hj:sIx items.size items.size hi<=items.size:=Q3k _ _ (B6 _) hi
 obtain ⟨os,hos,hcs,hds⟩:=id hs
 have hTs:s.TypeIs (.ref sl) "slice":=⟨os,hos,hcs⟩
 unfold getItem
 try with_reducible refine E6 ?_
 first|refine B0 (B5 ?_)|skip
 refine B0 (wpAny_sequenceKey ht.typeIs (by decide) ?_)
 refine B0 (wpAny_callSpecial?_slot (name:=Str.ofString "__getitem__") ht.typeIs B1m
  (B1c B1m ht.typeIs entry_tuple_getitem ?_ (args_tuple_getitem _ _)))
 show wpAny _ _ (Builtin.Tuple.tupleItemsOf (.ref t) >>= _) _ _ s
 refine B0 (tupleItemsOf_ ht ?_)
 refine B0 (wpAny_typeOf hTs ?_)
 rw [if_pos (by decide)]
 refine B0 (KW hs pl pu ?_)
 have hno:¬ ((((sIx items.size 0 lo:Nat):Int)==0&&(1:Int)==1&&(sIx items.size items.size hi - sIx items.size 0 lo)==items.size)=true):=by
  intro q
  rw [L1,L1] at q
  have q1:((sIx items.size 0 lo:Nat):Int)=0:=eq_of_beq q.1.1
  have q2:sIx items.size items.size hi - sIx items.size 0 lo=items.size:=eq_of_beq q.2
  exact hw ⟨by omega,by omega⟩
 show wpAny _ _ (if (((sIx items.size 0 lo:Nat):Int)==0&&(1:Int)==1&&(sIx items.size items.size hi - sIx items.size 0 lo)==items.size)=true then _ else _) _ _ s
 rw [if_neg hno,J4f]
 first
  | exact B0 (m:=Builtin.Tuple.tupleExact _) (W9 (B5 ⟨_,rfl,B5 h⟩) htake)
  | exact B0 (m:=Builtin.Tuple.tupleExact _) (W9 (B0 (B5 (B5 ⟨_,rfl,B5 h⟩))) htake)
  | exact B0 (B0 (m:=Builtin.Tuple.tupleExact _) (W9 (B5 (B5 ⟨_,rfl,B5 h⟩)) htake))
  | exact B0 (B0 (m:=Builtin.Tuple.tupleExact _) (W9 (B5 ⟨_,rfl,B5 h⟩) htake))
end
end HT
namespace L2
open PySem PySem.Spec PyProof.Rows
abbrev TO:=St->Hp->(Option Int->Hp->Prop)->Prop
def PO (X:Cx)(e:Option Expr)(t:TO):Prop :=
 ∀ (pins:List (Addr×Obj)) (s:Shared) (σ:St) (H:Hp) (Q:Option Int->Hp->Prop),Inv X pins σ H s->t σ H Q ->
  wpAny (model X.prog X.w) X.A (evalPart e X.env) (fun u s'=>∃ o H',Inv X pins σ H' s'/\IsPart u o/\Q o H') X.xe s
def J8d:TO:=fun _ H Q=>Q none H
def Q7o (t:TE):TO:=fun σ H Q=>t σ H fun x H1=>∃ i,x=.int i/\Q (some i) H1
section
variable {X:Cx}{e:Expr}{te:TE}{lo hi:Option Expr}{tl th:TO}{pos p2:Pos}
theorem J8s:PO X none J8d:=by
 intro pins s σ H Q I h
 rw [evalPart_none]
 exact B5 ⟨none,H,I,.none,h⟩
theorem J8r (h:PE X e te):PO X (some e) (Q7o te):=by
 intro pins s σ H Q I hw
 rw [evalPart_some]
 refine thn (h pins s σ H _ I hw) fun u s1 ⟨x,H1,I1,r1,q1⟩=>?_
 obtain ⟨i,rfl,q⟩:=q1
 obtain ⟨t,rfl⟩:=r1
 exact ⟨some i,H1,I1,.int i t,q⟩
def SlR (X:Cx)(r:V->Option Int->Option Int->Hp->VK->Prop):Prop :=
 ∀ (pins:List (Addr×Obj)) (s:Shared) (σ:St) (H:Hp) (x:V) (v vl vu:Value) (lo hi:Option Int) (sl:Addr) (Q:VK),Inv X pins σ H s->RelV x v->s.heap.IsSliceOf sl vl vu .none->IsPart vl lo->IsPart vu hi->r x lo hi H Q ->
  ∃ T id,typeLookup (.type T) "__getitem__" = pure (some (.builtin id))/\s.TypeIs v T/\wpAny (model X.prog X.w) X.A (getItem v (.ref sl)) (EP X pins σ Q) X.xe s
theorem SlR.or {r r':V->Option Int->Option Int->Hp->VK->Prop}(h:SlR X r)(h':SlR X r'):SlR X (fun x lo hi H Q=>r x lo hi H Q\/r' x lo hi H Q):=by
 intro pins s σ H x v vl vu lo hi sl Q I rx hs pl pu q
 rcases q with q|q
 · exact h pins s σ H x v vl vu lo hi sl Q I rx hs pl pu q
 · exact h' pins s σ H x v vl vu lo hi sl Q I rx hs pl pu q
def tSl (r:V->Option Int->Option Int->Hp->VK->Prop)(te:TE)(tl th:TO):TE:=fun σ H Q=>te σ H fun x H1=>tl σ H1 fun l H2=>th σ H2 fun u H3=>r x l u H3 Q
theorem J4i {r:V->Option Int->Option Int->Hp->VK->Prop}(hr:SlR X r)(he:PE X e te)(hl:PO X lo tl)(hu:PO X hi th):PE X (.Subscript e (.Slice lo hi none p2) pos) (tSl r te tl th):=by
 intro pins s σ H Q I h
 refine Subscript_ (thn (he pins s σ H _ I h) fun v s1 ⟨x,H1,I1,r1,q1⟩=>?_)
 refine wpAny_Slice (thn (hl pins s1 σ H1 _ I1 q1) fun vl s2 ⟨l,H2,I2,pl,q2⟩=>thn (hu pins s2 σ H2 _ I2 q2) fun vu s3 ⟨u,H3,I3,pu,q3⟩=>?_)
 rw [evalPart_none]
 refine B5 ?_
 have I4:Inv X pins σ H3 { s3 with heap:=s3.heap.push { cls:=.type "slice",data:=.fields #[vl,vu,.none] } }:=I3.kept (t':=s3.toks) fun b ob q=>B1 _ q
 obtain ⟨T,id,hT,ht,hg⟩:=hr pins { s3 with heap:=s3.heap.push { cls:=.type "slice",data:=.fields #[vl,vu,.none] } } σ H3 x v vl vu l u s3.heap.objs.size Q I4 r1 (Heap.IsSliceOf.new ..) pl pu q3
 show wpAny (model X.prog X.w) X.A (subscriptTail e (.Slice lo hi none p2) v (.ref s3.heap.objs.size)) (EP X pins σ Q) X.xe { s3 with heap:=s3.heap.push { cls:=.type "slice",data:=.fields #[vl,vu,.none] } }
 exact tail_any (ops:=[.ref s3.heap.objs.size,v]) ht hT hg (by with_unfolding_all rfl)
def VD (xs:List V)(lo hi:Option Int):List V:=(xs.drop (HT.sIx xs.length 0 lo)).take (HT.sIx xs.length xs.length hi - HT.sIx xs.length 0 lo)
theorem MD (xs:List V)(lo hi:Option Int):(VD xs lo hi).length<=xs.length:=by
 unfold VD
 rw [B0s,List.length_drop]
 omega
def J3u (K:Fg):V->Option Int->Option Int->Hp->VK->Prop:=fun x lo hi H Q=>∃ a xs,x=.ref a/\SqT K H a xs /\
 ¬ (HT.sIx xs.length 0 lo=0/\HT.sIx xs.length xs.length hi=xs.length)/\∀ p,H p=none->Q (.ref p) (upd H p (.tup (VD xs lo hi)))
theorem Q3j:SlR X (J3u X.K):=by
 intro pins s σ H x v vl vu lo hi sl Q I rx hs pl pu h
 obtain ⟨a,xs,rfl,hx,hw,q⟩:=h
 cases rx
 obtain ⟨its,r,ht,hz⟩:=I.tuple hx
 have hlen:its.toArray.size=xs.length:=by rw [L9];exact r.length.symm
 refine ⟨"tuple",_,B1m.lookup,ht.typeIs,?_⟩
 refine HT.getItem_tuple_cut ht hs pl pu (by rw [hlen];exact hw) ?_ (by rw [hlen];exact hz)
 rw [hlen]
 refine ⟨.ref s.heap.objs.size,_,I.laid (t':=s.toks) (o:=.tup (VD xs lo hi)) (fun b ob q=>B1 _ q) (B6 _) ?_,rfl,q _ (I.hok.fresh (B6 _))⟩
 exact ⟨M7 (MD xs lo hi) hz,_,(r.drop (HT.sIx xs.length 0 lo)).take (HT.sIx xs.length xs.length hi - HT.sIx xs.length 0 lo),IsTup.new _ _⟩
def Q1r (K:Fg):R2:=fun x y H Q=>∃ a b xs ys,x=.ref a/\y=.ref b/\SqT K H a xs/\SqT K H b ys/\xs≠[]/\xs.length+ys.length<=sizeLine /\
 (ys=[]->Q (.ref a) H)/\(ys≠[]->∀ p,H p=none->Q (.ref p) (upd H p (.tup (xs++ys))))
theorem Vals.nil_iff {xs:List V}{us:List Value}(r:Vals xs us):us=[]↔xs=[]:=by
 cases r with
 | nil=>simp
 | cons _ _=>simp
theorem J9d:OpR X (binaryOp .Add) (Q1r X.K):=by
 intro pins s σ H x y v u Q I rx ry h
 obtain ⟨a,b,xs,ys,rfl,rfl,ha,hb,hx,hz,q1,q2⟩:=h
 cases rx
 cases ry
 obtain ⟨its,r1,p1,_⟩:=I.tuple ha
 obtain ⟨its2,r2,p2,_⟩:=I.tuple hb
 refine HT.cat_tup p1 p2 (fun z=>hx (r1.nil_iff.mp z)) (fun z=>⟨.ref a,H,I,rfl,q1 (r2.nil_iff.mp z)⟩) (fun z=>?_) (by rw [<- r1.length,<- r2.length];exact hz)
 refine ⟨.ref s.heap.objs.size,_,I.laid (t':=s.toks) (o:=.tup (xs++ys)) (fun b ob q=>B1 _ q) (B6 _) ?_,rfl,q2 (fun w=>z (r2.nil_iff.mpr w)) _ (I.hok.fresh (B6 _))⟩
 exact ⟨by rw [T1];exact hz,_,r1.append r2,IsTup.new _ _⟩
end
def ixN (n:Nat)(i:Int):Option Nat:=if 0<=i then (if i<n then some i.toNat else none) else if -(n:Int)<=i then some (i+n).toNat else none
def atI {α:Type}(xs:List α)(i:Int):Option α:=(ixN xs.length i).bind fun j=>xs[j]?
theorem ZN {n:Nat}{i:Int}{j:Nat}(h:ixN n i=some j):seqIndex? i n=some j/\j<n/\-(n:Int)<=i/\i<n:=by
 unfold ixN at h
 by_cases h0:0<=i
 · rw [if_pos h0] at h
   by_cases h1:i<n
   · rw [if_pos h1] at h
     have e:i.toNat=j:=Option.some.inj h
     exact ⟨by rw [seqIndex_of h0 h1,e],by omega,by omega,h1⟩
   · rw [if_neg h1] at h;cases h
 · rw [if_neg h0] at h
   by_cases h1 : -(n:Int)<=i
   · rw [if_pos h1] at h
     have e:(i+n).toNat=j:=Option.some.inj h
     exact ⟨by rw [seqIndex_neg (by omega) h1,e],by omega,h1,by omega⟩
   · rw [if_neg h1] at h;cases h
theorem J0h {α:Type}{xs:List α}{i:Int}{v:α}(h:atI xs i=some v):∃ j,seqIndex? i xs.length=some j/\xs[j]?=some v/\j<xs.length/\-(xs.length:Int)<=i/\i<xs.length:=by
 unfold atI at h
 cases e:ixN xs.length i with
 | none=>rw [e] at h;cases h
 | some j =>
   rw [e] at h
   obtain ⟨h1,h2,h3,h4⟩:=ZN e
   exact ⟨j,h1,h,h2,h3,h4⟩
theorem FU {α:Type}{xs:List α}{j:Nat}{v:α}(h:xs[j]?=some v):atI xs (j:Int)=some v:=by
 have hj:j<xs.length:=(M1.mp h).1
 have e:ixN xs.length (j:Int)=some j:=by
  unfold ixN
  rw [if_pos (by omega),if_pos (by omega)];simp
 unfold atI;rw [e];exact h
def MT (b:Expr):Prop:=∀ o i,subscripted b false o i=operate [o,i] (getItem o i)
def IxR (X:Cx)(r:R2):Prop :=
 ∀ (value slice:Expr) (pins:List (Addr×Obj)) (s:Shared) (σ:St) (H:Hp) (x y:V) (v u:Value) (Q:VK),Inv X pins σ H s->RelV x v->RelV y u->r x y H Q ->
  subscripted slice false v u=operate [v,u] (getItem v u)->wpAny (model X.prog X.w) X.A (subscriptTail value slice v u) (EP X pins σ Q) X.xe s
def MtR (X:Cx)(id:String)(r:V->List V->Hp->VK->Prop):Prop :=
 ∀ (pins:List (Addr×Obj)) (s:Shared) (σ:St) (H:Hp) (x:V) (xs:List V) (v:Value) (us:List Value) (Q:VK),Inv X pins σ H s->RelV x v->Vals xs us->r x xs H Q ->
  wpAny (model X.prog X.w) X.A (call (.builtin id) (v::us)) (EP X pins σ Q) X.xe s
section
variable {X:Cx}{a b:Expr}{ta tb:TE}{pos:Pos}
theorem IxR.or {r r':R2}(h:IxR X r)(h':IxR X r'):IxR X (fun x y H Q=>r x y H Q\/r' x y H Q):=by
 intro value slice pins s σ H x y v u Q I rx ry q hs
 rcases q with q|q
 · exact h value slice pins s σ H x y v u Q I rx ry q hs
 · exact h' value slice pins s σ H x y v u Q I rx ry q hs
theorem HS {r:R2}(hr:IxR X r)(ha:PE X a ta)(hb:PE X b tb)(hs:MT b):PE X (.Subscript a b pos) (tOp r ta tb):=by
 intro pins s σ H Q I h
 exact Subscript_ (Q6s ha hb I h fun v u s2 x y H2 I2 rx ry q=>hr a b pins s2 σ H2 x y v u Q I2 rx ry q (hs _ _))
def J8m (K:Fg):R2:=fun x y H Q=>∃ p xs i v,x=.ref p/\y=.int i/\SqL K H p xs/\atI xs i=some v/\Q v H
def J8l (K:Fg):R2:=fun x y H Q=>∃ p xs i v,x=.ref p/\y=.int i/\SqT K H p xs/\atI xs i=some v/\Q v H
theorem J9x:IxR X (J8m X.K):=by
 intro value slice pins s σ H x y v u Q I rx ry h hs
 obtain ⟨p,xs,i,z,rfl,rfl,hq,he,q⟩:=h
 cases rx
 obtain ⟨t,rfl⟩:=ry
 obtain ⟨its,r,pl,hz⟩:=I.list hq
 obtain ⟨j,h1,h2,h3,h4,h5⟩:=J0h he
 obtain ⟨w,ew,rw'⟩:=r.get h2
 have hl:=r.length
 have hn:=NU
 have fin:EP X pins σ Q w s:=⟨z,H,I,rw',q⟩
 by_cases h0:0<=i
 · have hj:i.toNat=j:=by
    rw [seqIndex_of h0 h5] at h1
    exact Option.some.inj h1
   exact item_listR pl.isList h0 (by omega) (by rw [hj];simpa using ew) fin hs
 · have hj:(i+(its.toArray.size:Int)).toNat=j:=by
    rw [seqIndex_neg (by omega) h4] at h1
    rw [L9,<- hl]
    exact Option.some.inj h1
   exact subscriptTail_builtinR (x:=w) pl.isList.typeIs slot_list_getitem.lookup
    (wpAny_getItem_list_neg (Q:=fun r s'=>r=w/\EP X pins σ Q r s') pl.isList (by omega) (by rw [L9]<;>omega) (by omega) (by rw [hj];simpa using ew) ⟨rfl,fin⟩) hs
theorem Q4q:IxR X (J8l X.K):=by
 intro value slice pins s σ H x y v u Q I rx ry h hs
 obtain ⟨p,xs,i,z,rfl,rfl,hq,he,q⟩:=h
 cases rx
 obtain ⟨t,rfl⟩:=ry
 obtain ⟨its,r,pl,hz⟩:=I.tuple hq
 obtain ⟨j,h1,h2,h3,h4,h5⟩:=J0h he
 obtain ⟨w,ew,rw'⟩:=r.get h2
 have hl:=r.length
 have hn:=NU
 have fin:EP X pins σ Q w s:=⟨z,H,I,rw',q⟩
 exact subscriptTail_builtinR (x:=w) pl.typeIs slot_tuple_getitem.lookup
  (getItem_tuple (j:=j) (Q:=fun r s'=>r=w/\EP X pins σ Q r s') pl (by omega) (by omega) (by rw [L9,<- hl];exact h1) (by simpa using ew) ⟨rfl,fin⟩) hs
theorem XM (its:List Value)(n j:Nat)(u:Value):Obj.mapSeq (·.setIfInBounds j u) { cls:=.type "list",data:=.seq its.toArray n }={ cls:=.type "list",data:=.seq (its.set j u).toArray n }:=by
 simp [Obj.mapSeq]
theorem Inv.lst {pins:List (Addr×Obj)}{σ:St}{H:Hp}{s:Shared}{p:Addr}{xs:List V}(I:Inv X pins σ H s)(h:H p=some (.lst xs)) :
 ∃ (its:List Value) (n:Nat),Vals xs its/\s.heap.get? p=some { cls:=.type "list",data:=.seq its.toArray n }/\xs.length<=sizeLine:=by
 obtain ⟨z,its,n,r,e⟩:=I.hok p _ h
 exact ⟨its,n,r,e,z⟩
theorem Inv.lstUpd {pins:List (Addr×Obj)}{σ:St}{H:Hp}{s:Shared}{p:Addr}{xs ys:List V}{its its':List Value}{n n':Nat}{f:Obj->Obj}(I:Inv X pins σ H s)(h:H p=some (.lst xs))
 (ho:s.heap.get? p=some { cls:=.type "list",data:=.seq its.toArray n }) (hf:f { cls:=.type "list",data:=.seq its.toArray n }={ cls:=.type "list",data:=.seq its'.toArray n' }) (r:Vals ys its') (hz:ys.length<=sizeLine) (t:Nat) :
 Inv X pins σ (upd H p (.lst ys)) { s with heap:=s.heap.update p f,toks:=t }:=by
 have e:(s.heap.update p f).get? p=some { cls:=.type "list",data:=.seq its'.toArray n' }:=by
  rw [B0u f ho (by rw [hf]<;>rfl),hf]
 refine I.write (x:=p) (e:=p) (by rw [h];trivial) (.inl rfl) (fun b u hb q=>(U3 _ _ (B0c hb)).trans q) ⟨_,e⟩ ?_
 exact ⟨hz,its',n',r,e⟩
def Q7z:V->V->V->Hp->(Hp->Prop)->Prop:=fun o i v H Q=>∃ p xs k j,o=.ref p/\i=.int k/\H p=some (.lst xs)/\ixN xs.length k=some j/\Q (upd H p (.lst (xs.set j v)))
theorem TL:Q7c X Q7z:=by
 intro pins s σ H o i v ov iv u Q I ro ri rv h
 obtain ⟨p,xs,k,j,rfl,rfl,hp,hj,q⟩:=h
 cases ro
 obtain ⟨t,rfl⟩:=ri
 obtain ⟨its,n,r,ho,hz⟩:=I.lst hp
 obtain ⟨h1,h2,h3,h4⟩:=ZN hj
 have hl:=r.length
 have hn:=NU
 have I':Inv X pins σ (upd H p (.lst (xs.set j v))) { s with heap:=s.heap.update p (Obj.mapSeq (·.setIfInBounds j u)) } :=
  I.lstUpd hp ho (XM its n j u) (r.set rv j) (by rw [List.length_set];exact hz) s.toks
 by_cases h0:0<=k
 · have hk:k.toNat=j:=by
    rw [seqIndex_of h0 h4] at h1
    exact Option.some.inj h1
   exact PySem.W.ki_setAt ho h0 (by omega) (by rw [L9,<- hl];exact h4) (by rw [hk];exact ⟨_,I',q⟩)
 · have hk:(k+(its.toArray.size:Int)).toNat=j:=by
    rw [seqIndex_neg (by omega) h3] at h1
    rw [L9,<- hl]
    exact Option.some.inj h1
   exact PySem.W.ki_setBack ho (by omega) (by rw [L9,<- hl];exact h3) (by omega) (by rw [hk];exact ⟨_,I',q⟩)
theorem RC (lo hi:Option Int)(n:Nat):(sliceBounds lo hi none n).1=((HT.sIx n 0 lo:Nat):Int)/\(sliceBounds lo hi none n).2.1=((HT.sIx n n hi:Nat):Int)/\(sliceBounds lo hi none n).2.2=1:=by
 refine ⟨?_,?_,rfl⟩
 · cases lo with
   | none=>simp [sliceBounds,HT.sIx]
   | some i =>
     simp only [sliceBounds,HT.sIx,Option.getD_none,show (1:Int)>0 by decide,if_true]
     by_cases h:i<0
     · simp only [h,if_true]<;>omega
     · simp only [h,B0d]<;>omega
 · cases hi with
   | none=>simp [sliceBounds,HT.sIx]
   | some i =>
     simp only [sliceBounds,HT.sIx,Option.getD_none,show (1:Int)>0 by decide,if_true]
     by_cases h:i<0
     · simp only [h,if_true]<;>omega
     · simp only [h,B0d]<;>omega
theorem OX (its:List Value)(lo hi:Option Int):slicePick its.toArray lo hi none=((its.drop (HT.sIx its.length 0 lo)).take (HT.sIx its.length its.length hi - HT.sIx its.length 0 lo)).toArray:=by
 obtain ⟨h1,h2,h3⟩:=RC lo hi its.toArray.size
 unfold slicePick
 rw [h1,h2,h3]
 simp only [sliceRange_one,pick_run,L9]<;>rfl
def J3v (K:Fg):V->Option Int->Option Int->Hp->VK->Prop:=fun x lo hi H Q=>∃ a xs,x=.ref a/\SqL K H a xs/\∀ p,H p=none->Q (.ref p) (upd H p (.lst (VD xs lo hi)))
theorem J8h:SlR X (J3v X.K):=by
 intro pins s σ H x v vl vu lo hi sl Q I rx hs pl pu h
 obtain ⟨a,xs,rfl,hx,q⟩:=h
 cases rx
 obtain ⟨its,r,ht,hz⟩:=I.list hx
 have hlen:=r.length
 refine ⟨"list",_,slot_list_getitem.lookup,ht.isList.typeIs,?_⟩
 refine wpAny_getItem_list_slice ht.isList hs pl pu .none (by simp) ?_ (by rw [L9]<;>omega)
 rw [OX,<- hlen]
 refine ⟨.ref s.heap.objs.size,_,I.laid (t':=s.toks) (o:=.lst (VD xs lo hi)) (fun b ob q=>B1 _ q) (B6 _) ?_,rfl,q _ (I.hok.fresh (B6 _))⟩
 exact ⟨M7 (MD xs lo hi) hz,_,0,(r.drop (HT.sIx xs.length 0 lo)).take (HT.sIx xs.length xs.length hi - HT.sIx xs.length 0 lo),L8 _ rfl⟩
theorem SL:BD X (.builtin "len") (fun xs H Q=>∃ p ys,xs=[.ref p]/\(SqL X.K H p ys\/SqT X.K H p ys)/\Q (.int ys.length) H):=by
 intro pins s σ H xs us Q I r h
 obtain ⟨p,ys,rfl,hq,q⟩:=h
 obtain ⟨u,rfl,rx⟩:=HD r
 cases rx
 have hn:=NU
 rcases hq with hq|hq
 · obtain ⟨its,r',pl,hz⟩:=I.list hq
   have hlen:=r'.length
   exact Calls.call_len_list pl.isList (by simp only [L9]<;>omega) ⟨.int ys.length,H,I.tok _,⟨s.toks+1,by rw [L9,hlen]⟩,q⟩
 · obtain ⟨its,r',pl,hz⟩:=I.tuple hq
   have hlen:=r'.length
   exact len_tuple pl (by simp only [L9]<;>omega) ⟨.int ys.length,H,I.tok _,⟨s.toks+1,by rw [L9,hlen]⟩,q⟩
theorem PK:BD X (.type "tuple") (fun xs H Q=>∃ p ys,xs=[.ref p]/\((SqL X.K H p ys/\∀ l,H l=none->Q (.ref l) (upd H l (.tup ys)))\/(SqT X.K H p ys/\Q (.ref p) H))):=by
 intro pins s σ H xs us Q I r h
 obtain ⟨p,ys,rfl,h⟩:=h
 obtain ⟨u,rfl,rx⟩:=HD r
 cases rx
 rcases h with ⟨hq,q⟩|⟨hq,q⟩
 · obtain ⟨its,r',pl,hz⟩:=I.list hq
   have hlen:=r'.length
   refine call_tuple_list pl.isList (fun h' kp=>?_) (by simp only [L9]<;>omega)
   have I1:Inv X pins σ H { s with heap:=h' }:=I.kept (t':=s.toks) kp
   have I2:Inv X pins σ (upd H h'.objs.size (.tup ys)) { s with heap:=h'.push { cls:=.type "tuple",data:=.seq its.toArray } } :=
    I1.laid (t':=s.toks) (fun b o e=>B1 _ e) (B6 _) (show ObjOk X.prog X.w _ _ _ (.tup ys) from ⟨hz,its,r',IsTup.new _ _⟩)
   exact ⟨.ref h'.objs.size,_,I2,rfl,q _ (I1.hok.fresh (B6 _))⟩
 · obtain ⟨its,r',pl,hz⟩:=I.tuple hq
   exact call_tuple_same pl ⟨.ref p,H,I,rfl,q⟩
def tyV (K:Fg)(T:String)(x:V)(H:Hp):Prop:=match x with
 | .str _=>T = "str"
 | .int _=>T = "int"
 | .ref p=>(T = "list"/\∃ xs,SqL K H p xs)\/(T = "tuple"/\∃ o,K.lookup p=some o/\o.cls=.type "tuple"/\o.dict=none) \/
  (T = "dict"/\((∃ kvs,H p=some (.dK kvs))\/∃ kvs,H p=some (.dT kvs)))\/(T = "set"/\∃ S n,H p=some (.set S n))
 | _=>False
theorem Q3a {pins:List (Addr×Obj)}{σ:St}{H:Hp}{s:Shared}{T:String}{x:V}{v:Value}(I:Inv X pins σ H s)(r:RelV x v)(ty:tyV X.K T x H) :
 s.TypeIs v T/\∀ a,v=.ref a->∃ ob,s.heap.get? a=some ob/\ob.dict=none:=by
 cases x with
 | str z =>
   obtain ⟨t,rfl⟩:=r
   cases (show T = "str" from ty)
   exact ⟨typeIs_str s z t,fun _ e=>nomatch e⟩
 | int i =>
   obtain ⟨t,rfl⟩:=r
   cases (show T = "int" from ty)
   exact ⟨typeIs_int s i t,fun _ e=>nomatch e⟩
 | ref p =>
   cases r
   rcases ty with ⟨rfl,xs,hq⟩|⟨rfl,o,hk,hc,hd⟩|⟨rfl,hk⟩|⟨rfl,S,n,hk⟩
   · obtain ⟨its,_,pl,_⟩:=I.list hq
     refine ⟨pl.isList.typeIs,fun a e=>?_⟩
     cases e
     obtain ⟨o,n,e,c,hd,_⟩:=pl
     exact ⟨o,e,hd⟩
   · refine ⟨⟨o,I.kIn p o hk,hc⟩,fun a e=>?_⟩
     cases e
     exact ⟨o,I.kIn _ o hk,hd⟩
   · have z:∃ o,s.heap.get? p=some o/\o.ExactDict:=by
      rcases hk with ⟨kvs,hk⟩|⟨kvs,hk⟩
      · obtain ⟨_,_,_,_,o,_,_,e,ex,_⟩:=I.hok p _ hk
        exact ⟨o,e,ex⟩
      · obtain ⟨_,_,_,_,o,_,_,e,ex,_⟩:=I.hok p _ hk
        exact ⟨o,e,ex⟩
     obtain ⟨o,e,ex⟩:=z
     refine ⟨⟨o,e,ex.1⟩,fun a e2=>?_⟩
     cases e2
     exact ⟨o,e,ex.2.1⟩
   · obtain ⟨o,_,_,_,e,ex,_⟩:=I.hok p _ hk
     refine ⟨⟨o,e,ex.1⟩,fun a e2=>?_⟩
     cases e2
     exact ⟨o,e,ex.2.1⟩
 | _=>exact False.elim ty
def tBM (K:Fg)(T:String)(r:V->List V->Hp->VK->Prop)(to:TE)(t:TA):TE:=fun σ H Q=>to σ H fun x H1=>tyV K T x H1/\t σ H1 fun xs H2=>r x xs H2 Q
variable {o e:Expr}{es:List Expr}{to:TE}{t:TA}{name:Str}{apos cpos:Pos}{T id:String}{r:V->List V->Hp->VK->Prop}
theorem Q8g (pa:PlainAttrs T)(slot:Slot T name id)(hty:typeOf (.builtin id)=pure (.type "method_descriptor")) (hm:MtR X id r) (ho:PE X o to) (ha:PA X (e::es) t)
 (hbase:attributeBase o name X.env (eval o X.env)=eval o X.env:=by rfl)
 (hfew:((backTo cpos (starEach (e::es) X.env)).all (fun x=>!x.1)&&(backToKw cpos (keywordEach [] X.env)).all (fun x=>x.1.isSome)
  && decide ((e::es).length+([]:List Keyword).length+(if ([]:List Keyword).isEmpty then 0 else 1)<30))=true:=by rfl)
 (hline:(apos.endLine==cpos.line)=true:=by rfl) (hs:starEach (e::es) X.env=(false,eval e X.env)::starEach es X.env:=by rfl) (hplain:(backTo cpos (starEach es X.env)).any (·.1)=false:=by rfl) :
 PE X (.Call (.Attribute o name apos) (e::es) [] cpos) (tBM X.K T r to t):=by
 intro pins s σ H Q I h
 refine wpAny_Call_method_late hbase hfew hline rfl (thn (ho pins s σ H _ I h) fun v s1 ⟨x,H1,I1,r1,ty,q1⟩=>?_)
 obtain ⟨h1,h2⟩:=Q3a I1 r1 ty
 refine ⟨T,id,pa,slot,hty,h1,h2,?_⟩
 have hA:=ha cpos pins s1 σ H1 _ I1 q1
 rw [hs] at hA ⊢
 refine Calls.callWith_builtin (by show (false||(backTo cpos (starEach es X.env)).any (·.1))=false;rw [hplain]<;>rfl) (Calls.evalArgs_plain ?_)
 exact thn hA fun us s2 ⟨vs,H2,I2,r2,q2⟩=>hm pins s2 σ H2 x vs v us Q I2 r1 r2 q2
end
def MtM (X:Cx)(id:String)(r:V->List V->Hp->VK->Prop):Prop :=
 ∀ (pins:List (Addr×Obj)) (s:Shared) (σ:St) (H:Hp) (x:V) (xs:List V) (v:Value) (us:List Value) (Q:VK),Inv X pins σ H s->RelV x v->Vals xs us->r x xs H Q ->
  wpAny (model X.prog X.w) X.A (call (.builtin id) (v::us)) (EP X pins σ Q) X.xe s
theorem Vals.one:∀ {x:V} {us:List Value},Vals [x] us->∃ u,us=[u]/\RelV x u
 | _,_,.cons r .nil=>⟨_,rfl,r⟩
theorem Vals.two:∀ {x y:V} {us:List Value},Vals [x,y] us->∃ u v,us=[u,v]/\RelV x u/\RelV y v
 | _,_,_,.cons r (.cons q .nil)=>⟨_,_,rfl,r,q⟩
section
variable {X:Cx}{pins:List (Addr×Obj)}{σ:St}{H:Hp}{s:Shared}{l:Addr}{xs ys:List V}
theorem Inv.lset {its its':List Value}{n:Nat}{f:Array Value->Array Value}{t':Nat}(I:Inv X pins σ H s)(hH:H l=some (.lst xs))
 (e:s.heap.get? l=some { cls:=.type "list",data:=.seq its.toArray n }) (hf:f its.toArray=its'.toArray) (hv:Vals ys its') (hz:ys.length<=sizeLine) :
 Inv X pins σ (upd H l (.lst ys)) { s with heap:=s.heap.update l (Obj.mapSeq f),toks:=t' }:=by
 have q:=PySem.IsL.update e f
 rw [hf] at q
 refine I.write (x:=l) (e:=l) (by rw [hH];exact trivial) (.inl rfl) (fun b' u hb hu=>(U3 s.heap (Obj.mapSeq f) (B0c hb)).trans hu) ⟨_,q⟩ ?_
 exact ⟨hz,its',_,hv,q⟩
theorem Inv.lnew {its:List Value}{t':Nat}(I:Inv X pins σ H s)(hv:Vals ys its)(hz:ys.length<=sizeLine) :
 Inv X pins σ (upd H s.heap.objs.size (.lst ys)) { s with heap:=s.heap.push { cls:=.type "list",data:=.seq its.toArray },toks:=t' } :=
 I.laid (fun _ _ q=>B1 _ q) (B6 _) ⟨hz,its,0,hv,L8 _ rfl⟩
theorem Inv.fresh (I:Inv X pins σ H s):H s.heap.objs.size=none:=I.hok.fresh (B6 _)
theorem Inv.lstM (I:Inv X pins σ H s)(hH:H l=some (.lst xs)):xs.length<=sizeLine/\∃ (its:List Value) (n:Nat),Vals xs its/\xs.length=its.length/\s.heap.get? l=some { cls:=.type "list",data:=.seq its.toArray n }:=by
 obtain ⟨z,its,n,r,e⟩:=I.hok l _ hH
 exact ⟨z,its,n,r,r.length,e⟩
end
section
variable {X:Cx}
def MM:V->List V->Hp->VK->Prop:=fun x vs H Q=>∃ l xs y,x=.ref l/\vs=[y]/\H l=some (.lst xs)/\xs.length<sizeLine/\Q .non (upd H l (.lst (xs++[y])))
theorem J1o:MtM X "list.append" MM:=by
 intro pins s σ H x vs v us Q I rx rv h
 obtain ⟨l,xs,y,rfl,rfl,hH,hz,q⟩:=h
 cases rx
 obtain ⟨u,rfl,ru⟩:=rv.one
 obtain ⟨z,its,n,r,hl,e⟩:=I.lstM hH
 refine call_meets F.slot_list_append ⟨_,e,rfl⟩ F.entry_list_append (F.args_list_append_2 _ _) (PySem.list_append l its.toArray n u (by rw [L9];omega)) ⟨e,?_⟩
 refine ⟨.non,_,I.lset (its':=its++[u]) hH e (by simp) (r.append (.cons ru .nil)) ?_,rfl,q⟩
 rw [T1,List.length_singleton]
 omega
def Q8b:R2:=fun x y H Q=>∃ l b xs zs,x=.ref l/\y=.ref b/\H l=some (.lst xs)/\H b=some (.lst zs)/\xs.length+zs.length<=sizeLine/\∀ p,H p=none->Q (.ref p) (upd H p (.lst (xs++zs)))
theorem Q4b:OpR X (binaryOp .Add) Q8b:=by
 intro pins s σ H x y v u Q I rx ry h
 obtain ⟨l,b,xs,zs,rfl,rfl,hH,hB,hz,q⟩:=h
 cases rx
 cases ry
 obtain ⟨z,its,n,r,hl,e⟩:=I.lstM hH
 obtain ⟨z2,its2,n2,r2,hl2,e2⟩:=I.lstM hB
 refine PySem.P.add_list e e2 ?_ (by rw [L9,L9];omega)
 have ea:its.toArray++its2.toArray=(its++its2).toArray:=by simp
 rw [ea]
 exact ⟨.ref _,_,I.lnew (t':=s.toks) (r.append r2) (by rw [T1];omega),rfl,q _ I.fresh⟩
end
end L2
namespace Att
open PySem PySem.W PySem.Calls PyProof.Rows
theorem MK {P:Params}{h:Heap}:∀ (ns:List Int) (vs:List Value),WellAll P h vs (ns.map WData.int)->IntsAre vs ns:=by
 intro ns
 induction ns with
 | nil =>
   intro vs w
   rw [B1h] at w
   cases w
   exact .nil
 | cons n ns ih =>
   intro vs w
   rw [M5] at w
   cases w with
   | cons a b =>
     cases a
     exact .cons _ _ (ih _ b)
theorem J1a {l:OpenLaw}{n:Nat}(hn:l.most=some n){P:Params}{h:Heap}{args:List WData}{vals:List Value}
 (hpre:l.row.toRowW.claim.pre args=true) (hwl:WellAll P h vals args) :
 ∃ a vs ns,vals=[Value.ref a]/\args=[WData.list (ns.map WData.int)]/\h.get? a=some { cls:=.type "list",data:=.seq vs.toArray }/\IntsAre vs ns/\ns.length<=n:=by
 have hsh:WShape.hasAll [] args [.list .int]=true:=(pre_splitW hpre).1
 have hc:l.pre.holds [] { args:=args }=true:=(pre_splitW hpre).2
 obtain ⟨d,r,rfl,h1,h2⟩:=hasAllW_cons hsh
 obtain rfl:=hasAllW_nil h2
 obtain ⟨xs,rfl,h3⟩:=hasW_list h1
 obtain ⟨ns,rfl⟩:=items_int h3
 have hlen:ns.length<=n:=by
  unfold OpenLaw.pre at hc
  have h4:(WTm.not (.lt (.lit (.int (n:Int))) (.len (.arg 0)))).holds [] { args:=[.list (ns.map .int)] }=true:=by
   have h4:=(holds_andW hc).1
   rw [hn] at h4
   exact h4
  have h5:=condW_of h4 (w_not (w_lt w_lit (w_len_list (w_arg rfl))))
  rw [L7] at h5
  refine Nat.le_of_not_lt fun q=>?_
  have q':(n:Int)<((ns.length:Nat):Int):=by omega
  first
   | (rw [T4 q'] at h5;exact absurd h5 (by decide))
   | (simp at h5;omega)
 cases hwl with
 | cons w1 w2 =>
   cases w2
   cases w1 with
   | list ho hall=>exact ⟨_,_,ns,rfl,rfl,ho,MK ns _ hall,hlen⟩
theorem J1h (l:OpenLaw)(args:List WData):l.row.toRowW.claim.post args (.bool true) args=true :=
 postW_of (r:=l.row.toRowW) (X:=(true==true))
  (show WShape.has [] (.bool true) .bool=true by first|rfl|decide|simp [WShape.has,WShape.arms,WShape.armsAll])
  (show (WTm.eq .res (.lit (.bool true))).value [] { args:=args,res:=some (.bool true),after:=args }=some (.bool (true==true)) from w_eq_bool (w_res rfl) w_lit) rfl
theorem attach_call {l:OpenLaw}{n:Nat}{q:Program}{loose:List Str}{XP:(Str->Option Value)->Heap->Prop}{YP:World->Heap->Prop}{d:DefRec}
 (hn:l.most=some n) (hdf:d.params.defaults=[])
 (call:∀ (w:World) (s₀ s₁:Shared) (mg mb:Str->Option Value) (fa:Addr) (o:Obj) (pm cd doc:Value) (a:Addr) (vs:List Value) (ns:List Int),
  Ground q loose [] XP w s₀ mg mb s₁.heap->YP w s₁.heap ->
  s₁.heap.get? fa=some o->o.data=.func (docDef d.name d.params d.body d.scope pm cd doc)->s₁.heap.CodeRec cd d.name->mg d.name=some (.ref fa) ->
  s₁.heap.get? a=some { cls:=.type "list",data:=.seq vs.toArray }->IntsAre vs ns->ns.length<=n->s₁.gens=#[] ->
  codeAny (model l.prog w) callerA (.call (.ref fa) ⟨[.ref a],[]⟩) (fun r s'=>r=.ok (.ret (.bool true))/\OldK s₁.heap s'.heap/\s'.os=s₁.os/\AllBare s'.gens) s₁) :
 WalkO q loose XP YP l.row.toRowW d [] (fun f vs=>PySem.call f vs):=by
 intro w s₀ s₁ mg mb G Y fa o pm cd doc dV kV ho hd hcd hD hmg hg args vals as hpre hlay hrd hwl hlo
 obtain rfl:dV=.none:=Dflts.none hD hdf
 obtain rfl:kV=.none:=Dflts.noKw hD
 obtain ⟨a,vs,ns,rfl,rfl,hobj,hints,hlen⟩:=J1a hn hpre hwl
 refine enter_call (codeAny_mono (call w s₀ s₁ mg mb fa o pm cd doc a vs ns G Y ho (fd_plain hd) hcd hmg hobj hints hlen hg) fun r s' hq=>?_)
 obtain ⟨rfl,h2,h3,h4⟩:=hq
 exact ⟨.inl ⟨.bool true,.bool true,[],rfl,fun _=>rfl,.bool true,J1h l _,fun _=>⟨List.Pairwise.nil,fun _ hm=>(nomatch hm)⟩⟩,h2,h3,h4⟩
section
def V1b (h:Heap)(L d:Addr):List (Addr×Obj):=(List.range h.objs.size).filterMap fun a=>if a=L\/a=d then none else (h.get? a).map fun o=>(a,o)
end
end Att
namespace L2
open PySem PySem.Spec PyProof.Rows
theorem PM:∀ {vs:List Value} {ns:List Int},IntsAre vs ns->Vals (ns.map V.int) vs
 | _,_,.nil=>.nil
 | _,_,.cons n t h=>.cons ⟨t,rfl⟩ (PM h)
def Q7d (H:Hp):Prop:=∀ b,H b=none\/∃ o xs,H b=some (.frz o (.lst xs))
theorem J5b {P:Program}{w:World}{K:Fg}{mg mb:Str->Option Value}{CX:CXT}{k:Nat}{fa a:Addr}{fd:FuncData}{x:Str}{sp:Sp}{s₁:Shared}{vs:List Value}{ns:List Int}
 (KX:K.In s₁.heap) (hns:s₁.heap.Ns mainGlobals mg) (hb:s₁.heap.Ns builtinsNs mb) (hbb:∀ x:Str,x≠"__name__"->mb x=bootBuiltins x) (hlim:s₁.heap.NoLimit) (hg:s₁.gens=#[])
 (ha:s₁.heap.get? a=some { cls:=.type "list",data:=.seq vs.toArray }) (hi:IntsAre vs ns) (hl:ns.length<=sizeLine) (hr:Room k callerA)
 (F:∀ base:Heap,K.In base->base.Ns mainGlobals mg->FnOk P w K mg base CX k fa fd [x] sp) (hbind:∀ (s:Shared) (u:Value),BindsTo s fd ⟨[u],[]⟩ [(x,u)])
 (hsp:∀ H:Hp,Q7d H->SqL K H a (ns.map V.int)->sp [.ref a] H (fun v _=>v=.bl true) fun _ _ _=>False)
 (hCX:∀ H e s',CX [] H s₁ (fun _ _ _=>False) e s'->False) :
 codeAny (model P w) callerA (.call (.ref fa) ⟨[.ref a],[]⟩) (fun r s'=>r=.ok (.ret (.bool true))/\OldK s₁.heap s'.heap/\s'.os=s₁.os/\AllBare s'.gens) s₁:=by
 have rv:=PM hi
 have lenV:=hi.length
 have core:∀ H:Hp,Q7d H->SqL K H a (ns.map V.int)->HOk P w H s₁.heap->(∀ b,H b≠none->b=a)->(H a≠none->K.lookup a=none) ->
  codeAny (model P w) callerA (.call (.ref fa) ⟨[.ref a],[]⟩) (fun r s'=>r=.ok (.ret (.bool true))/\OldK s₁.heap s'.heap/\s'.os=s₁.os/\AllBare s'.gens) s₁:=by
  intro H hO hS hok hA hK
  have base_of:∀ {b:Addr} {o:Obj},s₁.heap.get? b=some o->H b=none->(SA s₁.heap H).get? b=some o:=fun e n=>J5o e n
  have noA:∀ {b:Addr} {o:Obj} {es:Array DictEntry} {ep:Nat},s₁.heap.get? b=some o->o.data=.dict es ep->H b=none:=fun {b o es ep} e d=>by
   cases q:H b with
   | none=>rfl
   | some u =>
     have e':b=a:=hA b (by rw [q];simp)
     subst e'
     rw [ha] at e;cases e
     have d':Data.seq vs.toArray _=Data.dict es ep:=d
     cases d'
  have nsK:∀ {b:Addr} {m:Str->Option Value},s₁.heap.Ns b m->(SA s₁.heap H).Ns b m:=fun {b m} ⟨o,es,ep,e,d,r⟩=>⟨o,es,ep,base_of e (noA e d),d,r⟩
  have hKb:K.In (SA s₁.heap H):=fun b o e=>base_of (KX b o e) (by
   cases q:H b with
   | none=>rfl
   | some u =>
     have e':b=a:=hA b (by rw [q];simp)
     subst e'
     rw [hK (by rw [q];simp)] at e;cases e)
  have hM:Mod K mg (SA s₁.heap H):=⟨hKb,nsK hns,⟨mb,nsK hb,hbb⟩,let ⟨mc,h1,h2⟩:=hlim;⟨mc,nsK h1,h2⟩⟩
  have e0:Env0 P w K mg (SA s₁.heap H) callerA [] s₁ H:=⟨rfl,hM,fun b o e=>J9j e,Nat.le_of_eq (J2a _ _),trivial,fun b hb=>absurd (show b∈([]:List Addr) from hb) (by simp),hok,.of_eq hg⟩
  refine codeAny_mono ((F _ hKb (nsK hns)).run callerA [] s₁ H ⟨[.ref a],[]⟩ [.ref a] [.ref a] _ _ hr e0 (hbind s₁ (.ref a)) (.cons rfl .nil) (hsp H hO hS)) fun r s' h=>?_
  cases r with
  | error e=>exact (hCX H e s' h).elim
  | ok fl =>
    cases fl with
    | next=>exact False.elim h
    | brk=>exact False.elim h
    | cont=>exact False.elim h
    | ret u =>
      obtain ⟨v,H',os,bare,un,hok',r',q⟩:=h
      have q':v=.bl true:=q
      subst q'
      obtain rfl:u=Value.bool true:=r'
      refine ⟨rfl,OldK.of_keep fun b o e=>?_,os,bare⟩
      cases q:H b with
      | none=>exact un.keep b o e q (by intro z;exact absurd (show b∈([]:List Addr) from z) (by simp)) (by simp)
      | some u =>
        rcases hO b with z|⟨ob,xs,z⟩
        · rw [q] at z;cases z
        · have z2:=un.frzs b ob _ z
          obtain ⟨e1,_⟩:=hok b _ z
          obtain ⟨e2,_⟩:=hok' b _ z2
          rw [e] at e1;cases e1
          exact e2
 cases hk:K.lookup a with
 | some o =>
   have e:=KX a o hk
   rw [ha] at e
   cases e
   refine core (fun _=>none) (fun _=>.inl rfl) (.inr ⟨_,vs.toArray,_,hk,rfl,rfl,rfl,by rw [L9,lenV];exact hl,by simpa using rv⟩) (fun b u z=>by have z':(none:Option HO)=some u:=z;cases z') (fun b z=>absurd rfl z) fun z=>absurd rfl z
 | none =>
   refine core (fun b=>if b=a then some (.frz { cls:=.type "list",data:=.seq vs.toArray } (.lst (ns.map V.int))) else none) (fun b=>?_) (.inl (.inr ⟨{ cls:=.type "list",data:=.seq vs.toArray },if_pos rfl⟩)) (fun b u z=>?_) (fun b z=>?_) fun _=>hk
   · by_cases hb:b=a
     · exact .inr ⟨_,_,if_pos hb⟩
     · exact .inl (if_neg hb)
   · by_cases hb:b=a
     · have z':=(if_pos hb).symm.trans z
       cases z'
       subst hb
       exact ⟨ha,by rw [L7];exact hl,vs,_,rv,ha⟩
     · have z':=(if_neg hb).symm.trans z
       cases z'
   · by_cases hb:b=a
     · exact hb
     · exact absurd (if_neg hb) z
theorem J8a {l:PySem.W.OpenLaw}{n k:Nat}{q:Program}{loose:List Str}{XP:(Str->Option Value)->Heap->Prop}{YP:World->Heap->Prop}{d:DefRec}{K:Params->Fg}{CX:World->CXT}{sp:World->Sp}{x:Str}
 (hn:l.most=some n) (hn2:n<=sizeLine) (hdf:d.params.defaults=[]) (hr:Room k callerA)
 (hY:∀ (w:World) (h:Heap),YP w h->(K w.params).In h)
 (F:∀ (w:World) (mg:Str->Option Value) (fa:Addr) (h:Heap),(K w.params).In h->h.Ns mainGlobals mg->mg d.name=some (.ref fa) ->
  ∃ fd:FuncData,(∀ (s:Shared) (u:Value),BindsTo s fd ⟨[u],[]⟩ [(x,u)]) /\
   ∀ base:Heap,(K w.params).In base->base.Ns mainGlobals mg->FnOk l.prog w (K w.params) mg base (CX w) k fa fd [x] (sp w))
 (hsp:∀ (w:World) (H:Hp) (a:Addr) (ns:List Int),ns.length<=n->Q7d H->SqL (K w.params) H a (ns.map V.int)->sp w [.ref a] H (fun v _=>v=.bl true) fun _ _ _=>False)
 (hCX:∀ (w:World) (H:Hp) (s:Shared) (e:Value) (s':Shared),CX w [] H s (fun _ _ _=>False) e s'->False) :
 PySem.W.WalkO q loose XP YP l.row.toRowW d [] (fun f vs=>PySem.call f vs):=by
 refine Att.attach_call hn hdf fun w s₀ s₁ mg mb fa o pm cd doc a vs ns G Y ho hd hcd hmg hobj hints hlen hg=>?_
 have KX:=hY w _ Y
 obtain ⟨fd,hb,hF⟩:=F w mg fa _ KX G.T.g hmg
 exact J5b KX G.T.g G.T.b G.T.builtins G.T.nolimit hg hobj hints (M7 hlen hn2) hr hF hb (fun H hO hS=>hsp w H a ns hlen hO hS) fun H e s'=>hCX w H s₁ e s'
def KQ (s:Stmt):Arguments:=match s with
 | .FunctionDef _ a _ _ _ _ _ _ _ _=>a
 | _=>{ posonlyargs:=[],args:=[],vararg:=none,kwonlyargs:=[],kw_defaults:=[],kwarg:=none,defaults:=[] }
def CB (s:Stmt):List Stmt:=match s with
 | .FunctionDef _ _ b _ _ _ _ _ _ _=>b
 | _=>[]
def J6 (s:Stmt):Scope:=match s with
 | .FunctionDef _ _ _ _ _ _ sc _ _ _=>sc
 | _=>{ kind:=.function,names:=[],isGenerator:=false,isCoroutine:=false }
abbrev CX0:CXT:=fun _ _ _ _ _ _=>False
abbrev E0:XK:=fun _ _ _=>False
theorem Q8h {X:Cx}:FE CX0 X E0:=fun _ _ _ _ _ _ _ h=>h.elim
structure Fun (K:Fg)(x qual:Str)(st:Stmt)(f:Addr)(fd:FuncData):Prop where
 ex:∃ (oc:Value) (od:Option Addr) (kV doc pm:Value) (an:Option Addr) (cdv ct:Value) (osl:Array (Option Value)),
  fd=PySem.W.fnOf x qual (KQ st) (CB st) (J6 st) .none kV doc pm an cdv ct/\K.lookup f=some ⟨oc,od,.func fd,osl⟩/\PySem.W.codeIn K cdv qual=true
 kp:PySem.W.keepIn K (.ref f)=true
section
variable {P:Program}{w:World}{K:Fg}{mg:Str->Option Value}{base:Heap}
theorem Fun.ok {x qual:Str}{st:Stmt}{f:Addr} {N ps:List Str}{k:Nat}{sp:Sp}(F:Fun K x qual st f fd)(S:FnScope N ps (J6 st))(len:∀ vs H Q E,sp vs H Q E->vs.length=ps.length)
 (hbody:∀ (cdv:Value) (A:Around) (outer:List Env) (s:Shared) (H:Hp) (vs:List V) (Q:VK) (E:XK),Room k (A.deeper (envOfC qual (J6 st) s.heap.objs.size f cdv))->sp vs H Q E ->
  ∃ t,PSs (BQ CX0 P w K mg base N qual (J6 st) f cdv A outer s H E).nox (CB st) t/\t { nx:=fun _ H'=>Q .non H',rt:=Q } (EO N vs) H):FnOk P w K mg base CX0 (k+1) f fd ps sp:=by
 obtain ⟨oc,od,kV,doc,pm,an,cdv,ct,osl,rfl,lk,hcd⟩:=F.ex
 refine Q2d lk hcd S len fun A outer s H vs Q E hr hsp=>?_
 obtain ⟨t,h,q⟩:=hbody cdv A outer s H vs Q E hr hsp
 exact ⟨t,h.nox,q⟩
theorem Fun.binds {x qual:Str}{st:Stmt}{f:Addr} {ps:List Str}(F:Fun K x qual st f fd)
 (h:∀ (kV doc pm:Value) (an:Option Addr) (cdv ct:Value) (us:List Value),us.length=ps.length->bindArgs (PySem.W.fnOf x qual (KQ st) (CB st) (J6 st) .none kV doc pm an cdv ct) ⟨us,[]⟩=pure (ps.zip us)):Binds K fd ps []:=by
 obtain ⟨oc,od,kV,doc,pm,an,cdv,ct,osl,rfl,lk,hcd⟩:=F.ex
 exact .all (h kV doc pm an cdv ct)
theorem Q4y {x qual:Str}{st:Stmt}{f:Addr}{oc:Value}{od an:Option Addr}{osl:Array (Option Value)}{kV doc pm cdv ct:Value}(l:K.lookup f=some ⟨oc,od,.func (PySem.W.fnOf x qual (KQ st) (CB st) (J6 st) .none kV doc pm an cdv ct),osl⟩)
 (c:PySem.W.codeIn K cdv qual=true) (k:PySem.W.keepIn K (.ref f)=true):Fun K x qual st f (PySem.W.fnOf x qual (KQ st) (CB st) (J6 st) .none kV doc pm an cdv ct):=⟨⟨oc,od,kV,doc,pm,an,cdv,ct,osl,rfl,l,c⟩,k⟩
end
section
variable {X:Cx}
theorem pv (i:Nat) {x:Str} {pos:Pos} (hN:X.N[i]?=some x:=by rfl) (hv:Vis X.env.scope x:=by first|exact Or.inl rfl|exact Or.inr (Or.inl rfl)|exact Or.inr (Or.inr rfl)) (hd:(x==("__debug__" : Str))=false:=by decide)
 (hcd:(x==("__classdict__" : Str))=false:=by decide):PE X (.Name x pos) (J0x i):=RM hN hv hd hcd
end
theorem V1e {A B:Prop}(h:B):if false=true then A else B:=by
 rw [if_neg B9]
 exact h
theorem V1d {A B:Prop}(h:A):if true=true then A else B:=by
 rw [if_pos rfl]
 exact h
def Same (H H':Hp):Prop:=∀ b o,H b=some o->H' b=some o
theorem Same.refl (H:Hp):Same H H:=fun _ _ h=>h
end L2
set_option maxHeartbeats 4000000
namespace L2
open PySem PySem.Spec PyProof.Rows
theorem SI {x:Str}{lo:Nat}:∀ (names:List (Str×NameKind)) (n:Nat) (acc:List (Str×Addr)),lo<=n->(∀ c,acc.lookup x=some c->lo<=c)->∀ c,(cellsFrom n names acc).lookup x=some c->lo<=c
 | [],_,_,_,h,c,e=>h c e
 | (y,k)::r,n,acc,hn,h,c,e=>by
   unfold cellsFrom at e
   split at e
   · refine SI r (n+1) ((y,n)::acc) (by omega) (fun c' e'=>?_) c e
     rw [T6] at e'
     cases hb:x==y with
     | true=>rw [hb] at e';cases e';exact hn
     | false=>rw [hb] at e';exact h c' e'
   · exact SI r n acc hn h c e
theorem XX {x:Str}{lo:Nat}:∀ (names:List (Str×NameKind)) (n:Nat) (acc:List (Str×Addr)),lo<=n->(x,NameKind.cell)∈names->∀ c,(cellsFrom n names acc).lookup x=some c->lo<=c
 | [],_,_,_,hm,_,_=>by cases hm
 | (y,k)::r,n,acc,hn,hm,c,e=>by
   unfold cellsFrom at e
   split at e
   · rcases B7.mp hm with z|z
     · cases z
       refine SI r (n+1) ((x,n)::acc) (by omega) (fun c' e'=>?_) c e
       rw [T6,beq_self_eq_true] at e'
       cases e'
       exact hn
     · exact XX r (n+1) ((y,n)::acc) (by omega) z c e
   · rename_i hk
     rcases B7.mp hm with z|z
     · cases z
       exact absurd rfl hk
     · exact XX r n acc hn z c e
theorem XY {x:Str}:∀ (names:List (Str×NameKind)) (n:Nat) (acc:List (Str×Addr)),¬ (x,NameKind.cell)∈names->(cellsFrom n names acc).lookup x=acc.lookup x
 | [],_,_,_=>rfl
 | (y,k)::r,n,acc,hm=>by
   unfold cellsFrom
   have hr:¬ (x,NameKind.cell)∈r:=fun z=>hm (L6 _ z)
   split
   · rename_i hk
     rw [XY r (n+1) _ hr,T6]
     have hxy:(x==y)=false:=by
      cases hb:x==y with
      | false=>rfl
      | true =>
        have e1:x=y:=B1d.mp hb
        have e2:k=NameKind.cell:=B1d.mp hk
        subst e1 e2
        exact absurd B8 hm
     rw [hxy]
   · exact XY r n acc hr
theorem XZ:∀ (names:List (Str×NameKind)) (n:Nat) (acc:List (Str×Addr)),(∀ x c,acc.lookup x=some c->c<n)->(∀ x y c,acc.lookup x=some c->acc.lookup y=some c->x=y) ->
 ∀ x y c,(cellsFrom n names acc).lookup x=some c->(cellsFrom n names acc).lookup y=some c->x=y
 | [],_,_,_,h,x,y,c,e1,e2=>h x y c e1 e2
 | (z,k)::r,n,acc,hb,h,x,y,c,e1,e2=>by
   unfold cellsFrom at e1 e2
   split at e1
   · rename_i hk
     rw [if_pos hk] at e2
     refine XZ r (n+1) ((z,n)::acc) (fun x' c' e'=>?_) (fun x' y' c' e1' e2'=>?_) x y c e1 e2
     · rw [T6] at e'
       cases q:x'==z with
       | true=>rw [q] at e';cases e';exact W0 _
       | false=>rw [q] at e';exact B2d (hb x' c' e')
     · rw [T6] at e1' e2'
       cases q1:x'==z with
       | true =>
         rw [q1] at e1'
         cases e1'
         cases q2:y'==z with
         | true=>rw [B1d.mp q1,B1d.mp q2]
         | false =>
           rw [q2] at e2'
           exact absurd (hb y' _ e2') (L5 _)
       | false =>
         rw [q1] at e1'
         cases q2:y'==z with
         | true =>
           rw [q2] at e2'
           cases e2'
           exact absurd (hb x' _ e1') (L5 _)
         | false =>
           rw [q2] at e2'
           exact h x' y' c' e1' e2'
   · rename_i hk
     rw [if_neg hk] at e2
     exact XZ r n acc hb h x y c e1 e2
theorem VL:∀ (names:List (Str×NameKind)) (n:Nat) (acc:List (Str×Addr)) (x:Str) (c:Addr),(cellsFrom n names acc).lookup x=some c->acc.lookup x=some c\/n<=c
 | [],_,_,_,_,e=>.inl e
 | (z,k)::r,n,acc,x,c,e=>by
   unfold cellsFrom at e
   split at e
   · rcases VL r (n+1) ((z,n)::acc) x c e with q|q
     · rw [T6] at q
       cases hb:x==z with
       | true=>rw [hb] at q;cases q;exact .inr (B6 _)
       | false=>rw [hb] at q;exact .inl q
     · exact .inr (by omega)
   · exact VL r n acc x c e
theorem SJ:∀ (names:List (Str×NameKind)) (h:Heap) (acc:List (Str×Addr)),(∀ x c,acc.lookup x=some c->∃ v,h.IsCell c v) ->
 ∀ x c,(cellsFrom h.objs.size names acc).lookup x=some c->∃ v,(pushCells h names).IsCell c v
 | [],_,_,hh,x,c,e=>hh x c e
 | (z,k)::r,h,acc,hh,x,c,e=>by
   unfold cellsFrom at e
   unfold pushCells
   split at e
   · rename_i hk
     rw [if_pos hk]
     have e':(cellsFrom (h.push { cls:=.type "cell",data:=.cell none }).objs.size r ((z,h.objs.size)::acc)).lookup x=some c:=by rw [E7];exact e
     refine SJ r _ _ (fun x' c' q=>?_) x c e'
     rw [T6] at q
     cases hb:x'==z with
     | true =>
       rw [hb] at q
       cases q
       exact ⟨none,_,L8 _ rfl,rfl⟩
     | false =>
       rw [hb] at q
       obtain ⟨v,w⟩:=hh x' c' q
       exact ⟨v,w.keeps fun b o e=>B1 _ e⟩
   · rename_i hk
     rw [if_neg hk]
     exact SJ r h acc hh x c e
theorem SH {env:Env}(f:Str×NameKind->List (Str×Addr)->Sem (ForInStep (List (Str×Addr))))
 (hf:∀ name kind cs,f (name,kind) cs=if kind==.free then (do let a <- cellOf env name;pure (.yield ((name,a)::cs))) else pure (.yield cs)) :
 ∀ (names:List (Str×NameKind)) (acc:List (Str×Addr)),(∀ x,(x,NameKind.free)∈names->∃ c,env.cells.lookup x=some c)->(∀ x c,acc.lookup x=some c->env.cells.lookup x=some c) ->
  ∃ cl,forIn names acc f=pure cl/\(∀ x c,cl.lookup x=some c->env.cells.lookup x=some c)/\∀ x,((acc.lookup x).isSome=true\/(x,NameKind.free)∈names)->(cl.lookup x).isSome=true
 | [],acc,_,ha=>⟨acc,by rw [B2u],ha,fun x h=>h.elim id fun z=>by cases z⟩
 | (name,kind)::r,acc,hn,ha=>by
   have hr:∀ x,(x,NameKind.free)∈r->∃ c,env.cells.lookup x=some c:=fun x hx=>hn x (L6 _ hx)
   by_cases hk:(kind==NameKind.free)=true
   · have ek:kind=NameKind.free:=B1d.mp hk
     subst ek
     obtain ⟨c,hc⟩:=hn name B8
     obtain ⟨cl,e1,e2,e3⟩:=SH f hf r ((name,c)::acc) hr (fun x c' e=>by
      rw [T6] at e
      cases hb:x==name with
      | true=>rw [hb] at e;cases e;rw [B1d.mp hb];exact hc
      | false=>rw [hb] at e;exact ha x c' e)
     refine ⟨cl,?_,e2,fun x hx=>e3 x ?_⟩
     · rw [B1q,hf,if_pos hk]
       unfold cellOf
       rw [hc]
       simpa using e1
     · rcases hx with hx|hx
       · left
         rw [T6]
         cases hb:x==name with
         | true=>rfl
         | false=>exact hx
       · rcases B7.mp hx with z|z
         · cases z
           left
           rw [T6,beq_self_eq_true]
           rfl
         · exact .inr z
   · obtain ⟨cl,e1,e2,e3⟩:=SH f hf r acc hr ha
     refine ⟨cl,?_,e2,fun x hx=>e3 x ?_⟩
     · rw [B1q,hf,if_neg hk]
       simpa using e1
     · rcases hx with hx|hx
       · exact .inl hx
       · rcases B7.mp hx with z|z
         · cases z
           exact absurd rfl hk
         · exact .inr z
theorem PJ {scope:Scope}{env:Env}(hn:∀ x,(x,NameKind.free)∈scope.names->∃ c,env.cells.lookup x=some c) :
 ∃ cl,closureFor scope env=pure cl/\(∀ x c,cl.lookup x=some c->env.cells.lookup x=some c)/\∀ x,(x,NameKind.free)∈scope.names->(cl.lookup x).isSome=true:=by
 obtain ⟨cl,e1,e2,e3⟩:=SH (env:=env) (fun x cs=>match x with
  | (name,kind)=>if (kind==NameKind.free)=true then (do let a <- cellOf env name;pure (ForInStep.yield ((name,a)::cs))) else pure (ForInStep.yield cs)) (fun name kind cs=>rfl) scope.names [] hn (fun x c e=>by cases e)
 refine ⟨cl,?_,e2,fun x hx=>e3 x (.inr hx)⟩
 show (forIn scope.names [] _ >>= fun r=>pure r)=_
 refine Eq.trans (B0b (fun m=>m >>= fun r=>pure r) e1) ?_
 simp
def J3g (ifs:List Expr)(env:Env):Sem Bool:=forIn ifs true fun c r=>if r=true then do let ok <- isTrue c env (eval c env);pure (ForInStep.yield ok) else pure (ForInStep.yield r)
theorem SG {prog:Program}{w:World}{A:Around}{R:Result->Shared->Prop}{s:Shared}{elt target iter:Expr}{ifs:List Expr}{scope:Scope}{pos:Pos}{it acc:Value}{env:Env}(J:Nat->Shared->Prop)
 (turn:∀ n s,J n s->wpAny (model prog w) A (pyNext it) (fun r s₁=>match r with
  | none=>R (.ok .next) s₁
  | some v=>wpAny (model prog w) A (letOwnedTupleGo target it v) (fun _ s₁'=>wpAny (model prog w) A (assign target env v) (fun _ s₂=>wpAny (model prog w) A (J3g ifs env) (fun ok s₃ =>
   if ok=true then wpAny (model prog w) A (eval elt env) (fun x s₄=>wpAny (model prog w) A (call (.builtin "list.append") [acc,x]) (fun _ s₅=>∃ m,m<n/\J m s₅) (notedBy (model prog w) A env fun e s'=>R (.error e) s') s₄)
    (notedBy (model prog w) A env fun e s'=>R (.error e) s') s₃
   else ∃ m,m<n/\J m s₃) (notedBy (model prog w) A env fun e s'=>R (.error e) s') s₂) (notedBy (model prog w) A env fun e s'=>R (.error e) s') s₁') (notedBy (model prog w) A env fun e s'=>R (.error e) s') s₁)
   (notedBy (model prog w) A env fun e s'=>R (.error e) s') s) (n:Nat) (h:J n s) :
 codeAny (model prog w) A (.compLoop (.ListComp elt [⟨target,iter,ifs,0⟩] scope pos) 0 it acc env) R s:=by
 refine codeAny_loop rfl J (fun n s hJ=>?_) n h
 show wpAny _ _ (Sem.onRaise (compTurn (.ListComp elt [⟨target,iter,ifs,0⟩] scope pos) 0 it acc env) fun x=>do noteFrame x env;theTreesLotGoes x) _ _ _
 refine wpAny_noted ?_
 rw [compTurn_list]
 refine B0 (D6 (B0 (thn (turn n s hJ) fun r s₁ h₁=>?_)))
 cases r with
 | none=>exact B5 h₁
 | some v =>
   refine B0 (thn h₁ fun _ s₁' h₁'=>B0 (thn h₁' fun _ s₂ h₂=>B0 (thn h₂ fun ok s₃ h₃=>?_)))
   cases ok with
   | true=>exact B0 (B0 (thn h₃ fun x s₄ h₄=>B0 (thn h₄ fun _ s₅ h₅=>B5 (B5 ⟨rfl,h₅⟩))))
   | false=>exact B5 ⟨rfl,h₃⟩
def Q7g (X:Cx)(C:Addr)(e:Value)(s':Shared):Prop :=
 ∃ m,s'.heap.Ns C m/\∀ h',Heap.SameBut C s'.heap h'->∀ cenv:Env,cenv.locals=C->wpAny (model X.prog X.w) X.A (passOn "comprehension.variables-let-go" e cenv:Sem Value) (fun _ _=>False) X.xe { s' with heap:=h' }
def Q3 (X:Cx)(N:List Str)(scope:Scope)(cells:List (Str×Addr))(C:Addr)(fp:List Addr)(s:Shared)(H:Hp):Cx where
 prog:=X.prog
 w:=X.w
 K:=X.K
 mg:=X.mg
 base:=X.base
 A:=X.A
 N:=N
 s₀:=s
 H₀:=H
 env:=compEnvC scope cells C X.env
 outer:=X.stack
 stack:=X.stack
 ex:=fp
 fn:=fun x=>decide (scope.names.lookup x=some NameKind.cell)
 calm:=X.calm
 pn:=[]
 xe:=notedBy (model X.prog X.w) X.A (compEnvC scope cells C X.env) (Q7g X C)
def capt (σ:St)(map:List (Option Nat)):St:=map.map fun o=>o.bind fun i=>(σ[i]?).join
def CapOk (X:Cx)(scope:Scope):List (Option Nat)->List Str->Prop
 | [],[]=>True
 | none::m,_::n=>CapOk X scope m n
 | some i::m,x::n=>(X.N[i]?=some x/\scope.names.lookup x=some .free/\(scope.names.all fun p=>!(p.1==x&&p.2==NameKind.cell))=true/\(X.env.kindOf x=some .cell\/X.env.kindOf x=some .free))/\CapOk X scope m n
 | _,_=>False
theorem CapOk.length {X:Cx}{scope:Scope}:∀ {m:List (Option Nat)} {n:List Str},CapOk X scope m n->m.length=n.length
 | [],[],_=>rfl
 | none::m,_::n,h=>by simp [CapOk.length (m:=m) (n:=n) h]
 | some i::m,x::n,h=>by simp [CapOk.length (m:=m) (n:=n) h.2]
 | [],_::_,h=>h.elim
 | some _::_,[],h=>h.elim
 | none::_,[],h=>h.elim
theorem CapOk.get {X:Cx}{scope:Scope}:∀ {m:List (Option Nat)} {n:List Str} {j i:Nat} {x:Str},CapOk X scope m n->m[j]?=some (some i)->n[j]?=some x ->
 X.N[i]?=some x/\scope.names.lookup x=some .free/\¬ (x,NameKind.cell)∈scope.names/\(X.env.kindOf x=some .cell\/X.env.kindOf x=some .free)
 | [],[],_,_,_,_,e,_=>by simp at e
 | none::m,_::n,0,_,_,_,e,_=>by simp at e
 | none::m,_::n,j+1,i,x,h,e,e'=>CapOk.get (m:=m) (n:=n) (j:=j) h (by simpa using e) (by simpa using e')
 | some k::m,y::n,0,i,x,h,e,e'=>by
   have e1:k=i:=by simpa using e
   have e2:y=x:=by simpa using e'
   subst e1 e2
   obtain ⟨⟨h1,h2,h3,h4⟩,_⟩:=h
   refine ⟨h1,h2,fun hm=>?_,h4⟩
   have q:=T8.mp h3 _ hm
   simp at q
 | some k::m,y::n,j+1,i,x,h,e,e'=>CapOk.get (m:=m) (n:=n) (j:=j) h.2 (by simpa using e) (by simpa using e')
 | [],_::_,_,_,_,h,_,_=>h.elim
 | some _::_,[],_,_,_,h,_,_=>h.elim
 | none::_,[],_,_,_,h,_,_=>h.elim
def IF (g:TG)(map:List (Option Nat)):Prop:=∀ v σ H Q,g v σ H Q->g v σ H fun σ' H'=>(σ'.length=σ.length/\∀ j i:Nat,map[j]?=some (some i)->σ'[j]?=σ[j]?)/\Q σ' H'
def PIf (X:Cx)(ifs:List Expr)(t:TT):Prop :=
 ∀ (pins:List (Addr×Obj)) (s:Shared) (σ:St) (H:Hp) (Q:Bool->Hp->Prop),Inv X pins σ H s->t σ H Q->wpAny (model X.prog X.w) X.A (J3g ifs X.env) (TP X pins σ Q) X.xe s
def Q7m:TT:=fun _ H Q=>Q true H
theorem YX {X:Cx}:PIf X [] Q7m:=fun _ _ _ H _ I h=>B5 ⟨H,I,h⟩
theorem DB {env:Env}{x:Str}{k:NameKind}:∀ {names:List (Str×NameKind)},
 (names.map fun (p:Str×NameKind)=>match p with|(n,k)=>if (k==NameKind.free&&env.scope.kind==.function&&env.kindOf n==some .cell) then (n,NameKind.cell) else (n,k)).lookup x=some k ->
 ∃ k',names.lookup x=some k'/\(k'=k\/(k'=.free/\k=.cell))
 | [],h=>by simp at h
 | (n,k')::r,h=>by
   rw [M5] at h
   by_cases hc:(k'==NameKind.free&&env.scope.kind==.function&&env.kindOf n==some .cell)=true
   · simp only [if_pos hc,T6] at h
     rw [T6]
     cases hx:x==n with
     | true =>
       rw [hx] at h
       cases h
       refine ⟨k',rfl,.inr ⟨?_,rfl⟩⟩
       simp only [L1,B1d] at hc
       exact hc.1.1
     | false =>
       rw [hx] at h
       exact DB h
   · simp only [if_neg hc,T6] at h
     rw [T6]
     cases hx:x==n with
     | true =>
       rw [hx] at h
       cases h
       exact ⟨_,rfl,.inl rfl⟩
     | false =>
       rw [hx] at h
       exact DB h
theorem GQ {env:Env}{x:Str}:∀ {names:List (Str×NameKind)},names.lookup x=some .free ->
 (names.map fun (p:Str×NameKind)=>match p with|(n,k)=>if (k==NameKind.free&&env.scope.kind==.function&&env.kindOf n==some .cell) then (n,NameKind.cell) else (n,k)).lookup x=some .cell \/
 (names.map fun (p:Str×NameKind)=>match p with|(n,k)=>if (k==NameKind.free&&env.scope.kind==.function&&env.kindOf n==some .cell) then (n,NameKind.cell) else (n,k)).lookup x=some .free
 | [],h=>by simp at h
 | (n,k')::r,h=>by
   rw [M5]
   rw [T6] at h
   by_cases hc:(k'==NameKind.free&&env.scope.kind==.function&&env.kindOf n==some .cell)=true
   · simp only [if_pos hc,T6]
     cases hx:x==n with
     | true=>exact .inl rfl
     | false =>
       rw [hx] at h
       exact GQ h
   · simp only [if_neg hc,T6]
     cases hx:x==n with
     | true =>
       rw [hx] at h
       cases h
       exact .inr rfl
     | false =>
       rw [hx] at h
       exact GQ h
section
variable {X:Cx}{elt iter tg:Expr}{ifs:List Expr}{scope:Scope}{pos:Pos}{N':List Str}{map:List (Option Nat)}{wi:TI}{g:TG}{tt:TT}{te:TE}
def MF (J:It)(g:TG)(tt:TT)(te:TE)(σc:St)(Fin:List V->Hp->Prop)(W:Nat->Nat->List V->Hp->Prop):Prop :=
 ∀ i m acc H2,W i m acc H2->(J.stop i H2/\acc.length<=sizeLine/\Fin acc H2) \/
  (J.go i H2/\acc.length<sizeLine/\∃ N:List V->Hp->Prop,(∀ acc' H',N acc' H'->∃ m',m'<m/\W (i+1) m' acc' H')/\∀ x H3,J.yld i H2 x H3->g x σc H3 fun σ4 H4=>tt σ4 H4 fun b H5=>if b=true then te σ4 H5 fun v H6=>N (acc++[v]) H6 else N acc H5)
structure TurnG (R:Cx->Prop)(P:Program)(w:World)(K:Fg)(tg:Expr)(J:It)(fp:List Addr)(it:Addr)(tn:Nat->Heap->Prop):Prop where
 mem:it∈fp
 obj:∀ i h,tn i h->∀ b∈fp,∃ o,h.get? b=some o/\∀ v,o.data≠.cell v
 keep:∀ i h h',tn i h->(∀ b∈fp,∀ o,h.get? b=some o->h'.get? b=some o)->tn i h'
 item:∀ (X:Cx),X.prog=P->X.w=w->X.K=K->R X->∀ (i:Nat) (pins:List (Addr×Obj)) (s:Shared) (σ:St) (H:Hp) (E:Value->Shared->Prop),Inv X pins σ H s->(∀ b∈fp,HC X pins H b)->tn i s.heap->J.go i H->wpAny (model P w) X.A (pyNext (.ref it)) (fun r s1=>∃ u,r=some u /\
  wpAny (model P w) X.A (letOwnedTupleGo tg (.ref it) u) (fun _ s2=>∃ x H',Inv X pins σ H' s2/\RelV x u/\J.yld i H x H'/\tn (i+1) s2.heap/\∀ b∈fp,H' b=none) E s1) E s
 done:∀ (X:Cx),X.prog=P->X.w=w->X.K=K->R X->∀ (i:Nat) (pins:List (Addr×Obj)) (s:Shared) (σ:St) (H:Hp) (E:Value->Shared->Prop),Inv X pins σ H s->(∀ b∈fp,HC X pins H b)->tn i s.heap->J.stop i H->wpAny (model P w) X.A (pyNext (.ref it)) (fun r s1=>r=none/\Inv X pins σ H s1) E s
 self:∀ (A:Around) (i:Nat) (s:Shared) (Q:Value->Shared->Prop) (E:Value->Shared->Prop),tn i s.heap->Q (.ref it) s->wpAny (model P w) A (pyIter (.ref it)) Q E s
theorem Turn.gen {w:World} {tg:Expr}{J:It}{fp:List Addr}{it:Addr}{tn:Nat->Heap->Prop}(T:Turn P w K tg J fp it tn):TurnG (fun X=>X.calm=true) P w K tg J fp it tn:=⟨T.mem,T.obj,T.keep,T.item,T.done,T.self⟩
def J7n (X:Cx)(C:Addr)(fp:List Addr)(s:Shared)(H:Hp):Prop:=∃ pins σ,Inv X pins σ H s/\(∀ b∈fp,HC X pins H b)/\s.heap.objs.size<=C
structure BlkM (X:Cx)(N':List Str)(scope:Scope)(map:List (Option Nat))(tg elt:Expr)(ifs:List Expr)(g:TG)(tt:TT)(te:TE):Prop where
 kind:scope.kind=.function
 loc:∀ x∈scope.names,x.2=.local->scope.names.lookup x.1=some .local
 free:(scope.names.all fun p=>!(p.2==NameKind.free)||(X.env.kindOf p.1==some .cell||X.env.kindOf p.1==some .free))=true
 cap:CapOk X scope map N'
 keep:IF g map
 run:∀ cells C fp s H,J7n X C fp s H->PG (Q3 X N' scope cells C fp s H) tg g/\PIf (Q3 X N' scope cells C fp s H) ifs tt/\PE (Q3 X N' scope cells C fp s H) elt te
structure Blk (X:Cx)(N':List Str)(scope:Scope)(map:List (Option Nat))(tg elt:Expr)(ifs:List Expr)(g:TG)(tt:TT)(te:TE):Prop where
 calm:X.calm=true
 kind:scope.kind=.function
 loc:∀ x∈scope.names,x.2=.local->scope.names.lookup x.1=some .local
 free:(scope.names.all fun p=>!(p.2==NameKind.free)||(X.env.kindOf p.1==some .cell||X.env.kindOf p.1==some .free))=true
 cap:CapOk X scope map N'
 keep:IF g map
 run:∀ cells C fp s H,J7n X C fp s H->PG (Q3 X N' scope cells C fp s H) tg g/\PIf (Q3 X N' scope cells C fp s H) ifs tt/\PE (Q3 X N' scope cells C fp s H) elt te
theorem Blk.m (B:Blk X N' scope map tg elt ifs g tt te):BlkM X N' scope map tg elt ifs g tt te:=⟨B.kind,B.loc,B.free,B.cap,B.keep,B.run⟩
theorem J0g {pins:List (Addr×Obj)}{σ:St}{H1:Hp}{s2:Shared}{cl:List (Str×Addr)}{fp:List Addr}(I:Inv X pins σ H1 s2)(B:BlkM X N' scope map tg elt ifs g tt te)
 (hsub:∀ x c,cl.lookup x=some c->X.env.cells.lookup x=some c) (hhas:∀ x,(x,NameKind.free)∈scope.names->(cl.lookup x).isSome=true)
 (hf:∀ b∈fp,HC X pins H1 b) (hfo:∀ b∈fp,∃ o,s2.heap.get? b=some o) (C:Addr) (h3:Heap) (hC:s2.heap.objs.size<=C) (k3:∀ b o,s2.heap.get? b=some o->h3.get? b=some o) (hCsz:C<h3.objs.size) (hns:h3.Ns C fun _=>none) (tk:Nat) :
 Inv (Q3 X N' scope (cellsFrom h3.objs.size scope.names cl) C fp s2 H1) [] (capt σ map) H1 { s2 with heap:=pushCells h3 scope.names,toks:=tk }:=by
 have kk:∀ b o,s2.heap.get? b=some o->(pushCells h3 scope.names).get? b=some o:=fun b o e=>B0g _ _ b o (k3 b o e)
 have fsz:∀ b∈fp,b<s2.heap.objs.size:=fun b hb=>by obtain ⟨o,e⟩:=hfo b hb;exact B2 e
 have clz:∀ x c,cl.lookup x=some c->c<s2.heap.objs.size:=fun x c e=>by
  obtain ⟨v,o,ho,_⟩:=I.cell x c (hsub x c e)
  exact B2 ho
 have h3sz:s2.heap.objs.size<h3.objs.size:=B0k hC hCsz
 have cof:∀ x c,(cellsFrom h3.objs.size scope.names cl).lookup x=some c->X.env.cells.lookup x=some c\/h3.objs.size<=c:=fun x c e=>(VL _ _ _ x c e).imp (hsub x c) id
 have cnb:∀ x c,(cellsFrom h3.objs.size scope.names cl).lookup x=some c->∀ b∈fp,c≠b:=fun x c e b hb z=>by
  rcases cof x c e with q|q
  · exact (hf b hb).2.2.2.2.1 x c q z
  · have h1:=fsz b hb
    rw [<- z] at h1
    exact absurd (L3 (Nat.lt_trans h1 h3sz) q) (L5 _)
 have fnf:∀ b∈fp,b∉frs X.stack:=fun b hb hm=>by
  obtain ⟨_,f1,f2,_⟩:=hf b hb
  rcases B7.mp (I.stkSub b hm) with z|z
  · exact f1 z
  · exact f2 z
 have cellI:∀ x c,(cellsFrom h3.objs.size scope.names cl).lookup x=some c->∃ v,(pushCells h3 scope.names).IsCell c v:=fun x c e =>
  SJ scope.names h3 cl (fun x' c' q=>by
   obtain ⟨v,w⟩:=I.cell x' c' (hsub x' c' q)
   exact ⟨v,w.keeps k3⟩) x c e
 have hC0:H1 C=none:=I.hok.fresh hC
 have ok:(Q3 X N' scope (cellsFrom h3.objs.size scope.names cl) C fp s2 H1).Ok :=
  { mod:=I.ok.mod
    kind:=B.kind
    glob:=I.ok.glob
    blt:=I.ok.blt
    above:=hC
    inj:=XZ scope.names h3.objs.size cl (fun x c e=>Nat.lt_trans (clz x c e) h3sz) fun x y c e1 e2=>I.ok.inj x y c (hsub x c e1) (hsub y c e2)
    has:=fun x hx=>by
     have hx:(relabel scope X.env).names.lookup x=some .cell\/(relabel scope X.env).names.lookup x=some .free:=hx
     have goal:(scope.names.lookup x=some .cell\/(cl.lookup x).isSome=true):=by
      rcases hx with q|q
      · obtain ⟨k',e1,e2⟩:=DB q
        rcases e2 with z|⟨z,_⟩
        · exact .inl (by rw [e1,z])
        · exact .inr (hhas x (W7 (by rw [e1,z])))
      · obtain ⟨k',e1,e2⟩:=DB q
        rcases e2 with z|⟨z,z'⟩
        · exact .inr (hhas x (W7 (by rw [e1,z])))
        · cases z'
     exact B2j.mp (B2p scope.names h3.objs.size cl goal)
    cab:=fun x c hx e=>B1v (L3 h3sz (XX scope.names h3.objs.size cl (B6 _) (W7 (T7 hx)) c e))
    hd:=I.ok.hd
    frames:=I.ok.frames
    stk:=.inl rfl
    exf:=fun b hb=>⟨fun z=>absurd (fsz b hb) (by rw [z];exact Nat.not_lt.mpr hC),fun x c e=>cnb x c e b hb⟩
    bs:=I.bs
    bsz:=M7 I.ok.bsz I.sz
    noex:=fun b o e hb=>by
     rcases (hf b hb).2.2.2.1 with z|z
     · exact I.ok.noex b o e z
     · exact absurd (B2 (I.ok.bs b o e).1) (Nat.not_lt.mpr z)
    exfs:=fnf
    funs:=I.stack
    frf:=I.stkFree }
 refine ⟨ok,rfl,I.bare,Un.kept kk,⟨fun _=>none,hns.keeps fun b o e=>B0g _ _ b o e,fun j x v e1 e2 e3=>?_⟩,cellI,hC0,fun x c e=>?_,fun p hp=>absurd (show p∈([]:List (Addr×Obj)) from hp) (by simp),I.hok.kept kk,?_⟩
 · have e2':(capt σ map)[j]?=some (some v):=e2
   unfold capt at e2'
   rw [M9] at e2'
   cases hm:map[j]? with
   | none=>rw [hm] at e2';cases e2'
   | some o =>
     rw [hm] at e2'
     cases o with
     | none=>simp at e2'
     | some i =>
       have e2'':(σ[i]?).join=some v:=by simpa using e2'
       have hσ:σ[i]?=some (some v):=by
        cases q:σ[i]? with
        | none=>rw [q] at e2'';cases e2''
        | some o' =>
          rw [q] at e2''
          have:o'=some v:=by simpa using e2''
          rw [this]
       obtain ⟨c1,c2,c3,c4⟩:=B.cap.get hm e1
       obtain ⟨m,hn,hl⟩:=I.loc
       have vis:Vis X.env.scope x:=by
        rcases c4 with z|z
        · exact .inr (.inl z)
        · exact .inr (.inr z)
       obtain ⟨u,r,l⟩:=hl i x v c1 hσ vis
       refine ⟨u,r,?_⟩
       rcases l with ⟨z,_⟩|⟨_,c,ec,hcell⟩
       · rcases c4 with q|q
         · rw [q] at z;cases z
         · rw [q] at z;cases z
       · right
         refine ⟨GQ c2,c,?_,hcell.keeps kk⟩
         show (cellsFrom h3.objs.size scope.names cl).lookup x=some c
         rw [XY _ _ _ c3]
         obtain ⟨c',hc'⟩:=B2j.mp (hhas x (W7 c2))
         have:=hsub x c' hc'
         rw [ec] at this
         cases this
         exact hc'
 · rcases cof x c e with q|q
   · exact I.freeC x c q
   · exact I.hok.fresh (M7 (B1v h3sz) q)
 · show (capt σ map).length=N'.length
   unfold capt
   rw [L7]
   exact B.cap.length
theorem J0f {pins:List (Addr×Obj)}{σ:St}{H1:Hp}{s2:Shared}{cl:List (Str×Addr)}{fp:List Addr}{it:Addr}{tn:Nat->Heap->Prop}{J:It}{E:Value->Shared->Prop}(I:Inv X pins σ H1 s2)(B:BlkM X N' scope map tg elt ifs g tt te)
 (hsub:∀ x c,cl.lookup x=some c->X.env.cells.lookup x=some c) (hhas:∀ x,(x,NameKind.free)∈scope.names->(cl.lookup x).isSome=true)
 {R:Cx->Prop} (hR:∀ cells C fp s H,R (Q3 X N' scope cells C fp s H)) (T:TurnG R X.prog X.w X.K tg J fp it tn) (st:tn 0 s2.heap) (hf:∀ b∈fp,HC X pins H1 b) {Fin:List V->Hp->Prop} {W:Nat->Nat->List V->Hp->Prop} {m0:Nat} (w0:W 0 m0 [] H1) (ht:MF J g tt te (capt σ map) Fin W)
 {RR:Value->Addr->Result->Shared->Prop}
 (hOk:∀ D C acc H' s' m,Inv X pins σ (upd H' D (.lst acc)) s'->H' D=none->s'.heap.Ns C m->upd H' D (.lst acc) C=none->C≠X.env.locals->X.s₀.heap.objs.size<=C->(∀ x c,X.env.cells.lookup x=some c->c≠C)->(∀ p∈X.pn++pins,p.1≠C)->Fin acc H'->RR (.ref D) C (.ok .next) s')
 (hErr:∀ D C e s',Q7g X C e s'->RR (.ref D) C (.error e) s') :
 wpAny (model X.prog X.w) X.A (newList []) (fun acc s3=>wpAny (model X.prog X.w) X.A (newFunctionEnv scope X.env.globals cl [] X.env.qual none .none (some X.env)) (fun cenv s4 =>
  codeAny (model X.prog X.w) X.A (.compStart (.ListComp elt [⟨tg,iter,ifs,0⟩] scope pos) 0 (.ref it) acc { cenv with scope:=relabel scope X.env }) (RR acc cenv.locals) s4) E s3) E s2:=by
 have fo:∀ b∈fp,∃ o,s2.heap.get? b=some o:=fun b hb=>by obtain ⟨o,e,_⟩:=T.obj 0 _ st b hb;exact ⟨o,e⟩
 refine W9 ?_
 generalize hH2:s2.heap.push { cls:=.type "list",dict:=none,data:=.seq ([]:List Value).toArray }=H2
 have szD:H2.objs.size=s2.heap.objs.size+1:=by rw [<- hH2,E7]
 have kD:∀ b o,s2.heap.get? b=some o->H2.get? b=some o:=fun b o e=>hH2▸B1 _ e
 simp only [newFunctionEnv,Option.isSome_some,if_true]
 refine B0 (wpAny_alloc ?_)
 refine B0 (wpAny_layCells _ (fun name kind cells=>by cases hkc:kind==NameKind.cell<;>simp [hkc]) _ _ _ _ ?_)
 dsimp only
 generalize hH3:H2.push { cls:=.type "dict",dict:=none,data:=.dict #[] }=h3
 have sz3:h3.objs.size=H2.objs.size+1:=by rw [<- hH3,E7]
 have kC:∀ b o,H2.get? b=some o->h3.get? b=some o:=fun b o e=>hH3▸B1 _ e
 have nsC:h3.Ns H2.objs.size fun _=>none:=hH3▸Heap.Ns.new H2 (.type "dict")
 refine B0 (B5 (B5 ?_))
 show codeAny _ _ (.compStart (.ListComp elt [⟨tg,iter,ifs,0⟩] scope pos) 0 (.ref it) (.ref s2.heap.objs.size) (compEnvC scope (cellsFrom h3.objs.size scope.names cl) H2.objs.size X.env)) _ _
 generalize hX':Q3 X N' scope (cellsFrom h3.objs.size scope.names cl) H2.objs.size fp s2 H1=X'
 have I4:Inv X' [] (capt σ map) H1 { s2 with heap:=pushCells h3 scope.names }:=hX'▸J0g I B hsub hhas hf fo H2.objs.size h3 (by rw [szD];exact Nat.le_succ _) (fun b o e=>kC b o (kD b o e)) (by rw [sz3];exact W0 _) nsC s2.toks
 obtain ⟨pg,pif,pel⟩:=B.run (cellsFrom h3.objs.size scope.names cl) H2.objs.size fp s2 H1 ⟨pins,σ,I,hf,by rw [szD];exact Nat.le_succ _⟩
 rw [hX'] at pg pif pel
 have eprog:X'.prog=X.prog:=by rw [<- hX'];rfl
 have ew:X'.w=X.w:=by rw [<- hX'];rfl
 have eK:X'.K=X.K:=by rw [<- hX'];rfl
 have eA:X'.A=X.A:=by rw [<- hX'];rfl
 have ecalm:R X':=by rw [<- hX'];exact hR _ _ _ _ _
 have eenv:X'.env=compEnvC scope (cellsFrom h3.objs.size scope.names cl) H2.objs.size X.env:=by rw [<- hX'];rfl
 have exe:X'.xe=notedBy (model X.prog X.w) X.A (compEnvC scope (cellsFrom h3.objs.size scope.names cl) H2.objs.size X.env) (Q7g X H2.objs.size):=by rw [<- hX'];rfl
 have es0:X'.s₀=s2:=by rw [<- hX'];rfl
 have eH0:X'.H₀=H1:=by rw [<- hX'];rfl
 have eex:X'.ex=fp:=by rw [<- hX'];rfl
 have efs:X'.fs=frs X.stack:=by rw [<- hX'];rfl
 have epn:X'.pn=[]:=by rw [<- hX'];rfl
 have eL:X'.env.locals=H2.objs.size:=by rw [eenv];rfl
 generalize hDd:s2.heap.objs.size=D at *
 have fD:∀ b∈fp,b≠D:=fun b hb=>by obtain ⟨o,e⟩:=fo b hb;exact R9 (hDd▸B2 e)
 have nfsD:D∉X'.fs:=fun hb=>by
  rw [efs] at hb
  have h1:=I.stkSub D hb
  rcases B7.mp h1 with z|z
  · have:=I.lt;rw [hDd,<- z] at this;exact L5 _ this
  · exact I.nofs (by rw [hDd];exact B6 _) z
 have ncD:∀ x c,X'.env.cells.lookup x=some c->c≠D:=fun x c e z=>by
  rw [eenv] at e
  rcases VL _ _ _ x c e with q|q
  · obtain ⟨v,o,ho,_⟩:=I.cell x c (hsub x c q)
    have:=B2 ho
    rw [hDd,z] at this
    exact L5 _ this
  · rw [z,sz3,szD] at q
    exact absurd (L3 (B2d (W0 D)) q) (L5 _)
 have f4:∀ {H':Hp} {pl:List (Addr×Obj)},(∀ b∈fp,H' b=none)->(∀ p∈pl,p.1=D)->∀ b∈fp,HC X' pl H' b:=fun {H' pl} hn hpl b hb=>by
  have q:=hf b hb
  refine ⟨hn b hb,?_,?_,.inl (by rw [eex];exact hb),fun x c e=>?_,fun p hp=>?_⟩
  · rw [eL]
    obtain ⟨o,e⟩:=fo b hb
    have:=B2 e
    rw [hDd] at this
    intro z
    rw [z,szD] at this
    exact absurd (E3 this) (L5 _)
  · have:=I4.ok.exfs b (by rw [eex];exact hb)
    exact this
  · exact (I4.ok.exf b (by rw [eex];exact hb)).2 x c e
  · rw [epn] at hp
    have hp:p∈pl:=by simpa using hp
    rw [hpl p hp]
    exact (fD b hb).symm
 have noCell:∀ {its:Array Value} {n:Nat} (v:Option Value),({ cls:=.type "list",data:=.seq its n }:Obj).data≠.cell v:=fun v z=>by cases z
 have hD4:(pushCells h3 scope.names).get? D=some { cls:=.type "list",data:=.seq ([]:List Value).toArray 0 }:=B0g _ _ _ _ (kC _ _ (by rw [<- hH2,<- hDd];exact L8 _ rfl))
 have loop:codeAny (model X.prog X.w) X.A (.compLoop (.ListComp elt [⟨tg,iter,ifs,0⟩] scope pos) 0 (.ref it) (.ref D) (compEnvC scope (cellsFrom h3.objs.size scope.names cl) H2.objs.size X.env)) (RR (.ref D) H2.objs.size) { s2 with heap:=pushCells h3 scope.names }:=by
  refine SG (fun n s'=>∃ i acc H' its k,Inv X' [] (capt σ map) H' s'/\tn i s'.heap/\(∀ b∈fp,H' b=none)/\H' D=none/\s'.heap.get? D=some { cls:=.type "list",data:=.seq (List.toArray its) k }/\Vals acc its/\W i n acc H') ?_ m0
   ⟨0,[],H1,[],0,I4,T.keep _ _ _ st fun b hb o e=>B0g _ _ _ _ (kC _ _ (kD _ _ e)),fun b hb=>(hf b hb).1,I.hok.fresh (by rw [hDd];exact B6 _),hD4,.nil,w0⟩
  rintro n s5 ⟨i,acc,H5,its,k,I5,st5,fr5,hD5,oD5,rv5,w5⟩
  have pinD:Inv X' [(D,{ cls:=.type "list",data:=.seq (List.toArray its) k })] (capt σ map) H5 s5:=I5.pins_of fun p hp=>by
   have e:p=(D,{ cls:=.type "list",data:=.seq (List.toArray its) k }):=by simpa using hp
   subst e
   refine ⟨oD5,hD5,?_,nfsD,fun v=>noCell v⟩
   rw [eL,szD]
   exact R9 (W0 _)
  have plD:∀ p∈[(D,({ cls:=.type "list",data:=.seq (List.toArray its) k }:Obj))],p.1=D:=fun p hp=>by
   have e:p=(D,{ cls:=.type "list",data:=.seq (List.toArray its) k }):=by simpa using hp
   rw [e]
  have err:∀ e s',X'.xe e s'->notedBy (model X.prog X.w) X.A (compEnvC scope (cellsFrom h3.objs.size scope.names cl) H2.objs.size X.env) (fun e s'=>RR (.ref D) H2.objs.size (.error e) s') e s':=fun e s' he=>by
   rw [exe] at he
   exact U7 he (fun _ s'' q=>hErr D _ e s'' q) fun e'' s'' q=>hErr D _ e'' s'' q
  rcases ht i n acc H5 w5 with ⟨stop,hsz,fin⟩|⟨go,hsz,NN,hNN,step⟩
  · have dn:=T.done X' eprog ew eK ecalm i _ s5 (capt σ map) H5 (notedBy (model X.prog X.w) X.A (compEnvC scope (cellsFrom h3.objs.size scope.names cl) H2.objs.size X.env) fun e s'=>RR (.ref D) H2.objs.size (.error e) s') pinD (f4 fr5 plD) st5 stop
    rw [eA] at dn
    refine thn dn fun r s6 ⟨hr,I6⟩=>?_
    subst hr
    obtain ⟨oD6,hD6,_⟩:=I6.pin (D,_) (by rw [epn];exact B8)
    obtain ⟨m,nsm,_⟩:=I6.loc
    rw [eL] at nsm
    have un:=I6.base
    rw [efs,eex,eH0,es0] at un
    have hok:=I6.hok
    rw [eprog,ew] at hok
    have os6:=I6.os
    rw [es0] at os6
    have fC:H5 H2.objs.size=none:=by rw [<- eL];exact I6.free
    have nDC:H2.objs.size≠D:=by rw [szD];exact B0r (W0 _)
    refine hOk D H2.objs.size acc H5 s6 m (I.call' (ch:=fp) os6 ?_ ?_ I6.bare fun b hb=>?_) hD5 nsm (by rw [Q9 nDC];exact fC) ?_ ?_ ?_ ?_ fin
    · refine ⟨un.keep,un.slot,fun b o e n hx=>?_,un.there,fun b xs e=>?_,fun b o u e=>?_,fun b ps e=>?_⟩
      · rw [Q9 (R9 (hDd▸B2 e))]
        exact un.free b o e n hx
      · have:=un.tups b xs e
        rw [Q9 (V2 this hD5)]
        exact this
      · have:=un.frzs b o u e
        rw [Q9 (V2 this hD5)]
        exact this
      · obtain ⟨more,this⟩:=un.tbls b ps e
        exact ⟨more,by rw [Q9 (V2 this hD5)];exact this⟩
    · intro b o e
      by_cases hb:b=D
      · subst hb
        rw [Y5] at e
        cases e
        exact ⟨hsz,its,k,rv5,oD6⟩
      · rw [Q9 hb] at e
        exact (hok b o e).stay (fun _ _ _ q=>q) (fun c q=>by rw [Q9 (V2 q hD5)];exact q) fun c xs q=>by rw [Q9 (V2 q hD5)];exact q
    · obtain ⟨f0,f1,f2,f3,f4',f5⟩:=hf b hb
      exact ⟨f3,f1,f4',f5⟩
    · have:=I.lt
      rw [hDd] at this
      intro z
      rw [<- z,szD] at this
      exact absurd (E3 this) (L5 _)
    · have:=I.sz
      rw [hDd] at this
      omega
    · intro x c e z
      obtain ⟨v,o,ho,_⟩:=I.cell x c e
      have:=B2 ho
      rw [hDd,z,szD] at this
      exact absurd (E3 this) (L5 _)
    · intro p hp z
      have:=B2 (I.pin p hp).1
      rw [hDd,z,szD] at this
      exact absurd (E3 this) (L5 _)
  · have im:=T.item X' eprog ew eK ecalm i _ s5 (capt σ map) H5 (notedBy (model X.prog X.w) X.A (compEnvC scope (cellsFrom h3.objs.size scope.names cl) H2.objs.size X.env) fun e s'=>RR (.ref D) H2.objs.size (.error e) s') pinD (f4 fr5 plD) st5 go
    rw [eA] at im
    refine thn im fun r s6 ⟨u,hr,h6⟩=>?_
    subst hr
    refine thn h6 fun _ s7 ⟨x,H7,I7,r7,y7,st7,fr7⟩=>?_
    have I7':=I7.pinned (f4 fr7 plD) (T.obj _ _ st7)
    have stp:=B.keep _ _ _ _ (step x H7 y7)
    have pgx:=pg _ s7 (capt σ map) H7 x u _ I7' r7 stp
    rw [eprog,ew,eA,eenv] at pgx
    refine U7 pgx (fun _ s8 ⟨σ8,H8,I8,⟨kl,k8⟩,q8⟩=>?_) err
    have pix:=pif _ s8 σ8 H8 _ I8 q8
    rw [eprog,ew,eA,eenv] at pix
    refine U7 pix (fun b s9 ⟨H9,I9,q9⟩=>?_) err
    have wk:∀ {σa:St} {Ha:Hp} {sa:Shared},σa=σ8->Inv X' ([(D,({ cls:=.type "list",data:=.seq (List.toArray its) k }:Obj))]++GT fp s7.heap) σa Ha sa ->
     Inv X' [] (capt σ map) Ha sa/\tn (i+1) sa.heap/\(∀ b∈fp,Ha b=none)/\Ha D=none/\sa.heap.get? D=some { cls:=.type "list",data:=.seq (List.toArray its) k }:=fun {σa Ha sa} ea Ia=>by
     subst ea
     refine ⟨(Ia.pins_of (pins':=[]) fun p hp=>absurd hp (by simp)).weak kl.symm fun j v e=>?_,T.keep _ _ _ st7 fun b hb o e=>(Ia.pin (b,o) (B3 _ (B3 _ (BM hb e)))).1,fun b hb=>?_,?_,?_⟩
     · have e':=e
       unfold capt at e'
       rw [M9] at e'
       cases hm:map[j]? with
       | none=>rw [hm] at e';cases e'
       | some o =>
         rw [hm] at e'
         cases o with
         | none=>simp at e'
         | some i'=>rw [k8 j i' hm];exact e
     · obtain ⟨o,e,d⟩:=T.obj _ _ st7 b hb
       exact (Ia.pin (b,o) (B3 _ (B3 _ (BM hb e)))).2.1
     · exact (Ia.pin (D,_) (B3 _ (R7 _ B8))).2.1
     · exact (Ia.pin (D,_) (B3 _ (R7 _ B8))).1
    cases b with
    | false =>
      rw [if_neg B9] at q9 ⊢
      obtain ⟨m',hm',w9⟩:=hNN _ _ q9
      obtain ⟨a1,a2,a3,a4,a5⟩:=wk rfl I9
      exact ⟨m',hm',i+1,acc,H9,its,k,a1,a2,a3,a4,a5,rv5,w9⟩
    | true =>
      rw [if_pos rfl] at q9 ⊢
      have pex:=pel _ s9 σ8 H9 _ I9 q9
      rw [eprog,ew,eA,eenv] at pex
      refine U7 pex (fun v s10 ⟨y,H10,I10,r10,q10⟩=>?_) err
      obtain ⟨m',hm',w10⟩:=hNN _ _ q10
      obtain ⟨a1,a2,a3,a4,a5⟩:=wk rfl I10
      have hl:=rv5.length
      refine wpAny_list_append_plain (items:=List.toArray its) ⟨k,a5⟩ (fun h11 pl11 sb11=>?_) (by simp only [L9];omega)
      obtain ⟨k',e11⟩:=pl11
      refine ⟨m',hm',i+1,acc++[y],H10,its++[v],k',a1.turned (t':=s10.toks) (it:=D) (fun b o hb e=>(sb11.2 b hb).trans e) a4 ?_ (.inr (by rw [es0,hDd];exact B6 _)) ncD (fun p hp=>absurd hp (by rw [epn];simp)),T.keep _ _ _ a2 fun b hb o e=>(sb11.2 b (fD b hb)).trans e,a3,a4,?_,rv5.append (.cons r10 .nil),w10⟩
      · rw [eL,szD]
        exact R9 (W0 _)
      · rw [e11,List.push_toArray]
 exact codeAny_compStart_list loop (T.self _ 0 _ _ _ (T.keep _ _ _ st fun b hb o e=>B0g _ _ _ _ (kC _ _ (kD _ _ e))) loop)
theorem Blk.clos {pins:List (Addr×Obj)}{σ:St}{H:Hp}{s:Shared}(B:Blk X N' scope map tg elt ifs g tt te)(I:Inv X pins σ H s) :
 ∃ cl,closureFor scope X.env=pure cl/\(∀ x c,cl.lookup x=some c->X.env.cells.lookup x=some c)/\∀ x,(x,NameKind.free)∈scope.names->(cl.lookup x).isSome=true :=
 PJ fun x hx=>I.ok.has x (by
  have q:=T8.mp B.free _ hx
  simpa using q)
def Q7t (wi:TI)(map:List (Option Nat))(g:TG)(tt:TT)(te:TE):TE:=fun σ H Q=>wi σ H fun J H1=>∃ W:Nat->Nat->List V->Hp->Prop,(∃ m,W 0 m [] H1) /\
 MF J g tt te (capt σ map) (fun acc H'=>∀ D,H' D=none->Q (.ref D) (upd H' D (.lst acc))) W
theorem J8z (B:Blk X N' scope map tg elt ifs g tt te)(hi:PI X tg iter wi)(hs:∀ x,foldedSetIterable iter X.env x=pure x:=by intro _;rfl):PE X (.ListComp elt [⟨tg,iter,ifs,0⟩] scope pos) (Q7t wi map g tt te):=by
 intro pins s σ H Q I h
 obtain ⟨cl,hcl,hsub,hhas⟩:=B.clos I
 rw [eval_ListComp]
 refine B1g (use:=none) rfl hs hcl B.kind B.loc (thn (hi pins s σ H _ I h) fun v s1 h1=>thn h1 fun itv s2 h2=>?_)
 obtain ⟨it,fp,tn,J,H2,e,I2,T,st2,f2,W,⟨m0,w0⟩,turn⟩:=h2
 subst e
 refine J0f (RR:=fun acc C=>compPost (model X.prog X.w) X.A X.xe none (EP X pins σ Q) acc C) I2 B.m hsub hhas (R:=fun X=>X.calm=true) (fun _ _ _ _ _=>B.calm) T.gen st2 f2 w0 turn (fun D C acc H' s' m I' hD nsm fC c1 c2 c3 c4 fin=>?_) fun D C e s' z=>z
 refine ⟨m,nsm,fun h' sb=>⟨.ref D,_,?_,rfl,fin D hD⟩⟩
 exact I'.turned (t':=s'.toks) (fun b o hb e=>(sb.2 b hb).trans e) fC c1 (.inr c2) c3 c4
def J3i (i:Nat)(wi:TI)(map:List (Option Nat))(g:TG)(tt:TT)(te:TE):TS:=fun D σ H=>wi σ H fun J H1=>∃ W:Nat->Nat->List V->Hp->Prop,(∃ m,W 0 m [] H1) /\
 MF J g tt te (capt σ map) (fun acc H'=>∀ d,H' d=none->D.nx (σ.set i (some (.ref d))) (upd H' d (.lst acc))) W
theorem NI {i:Nat}{y:Str}{py spos:Pos}(hN:X.N.Nodup)(hiN:X.N[i]?=some y)(hy:Loc X.env.scope y)(B:Blk X N' scope map tg elt ifs g tt te)(hi:PI X tg iter wi)
 (hsw:swapsWith (.ListComp elt [⟨tg,iter,ifs,0⟩] scope pos) (some (.Name y py)) spos.line X.env=pure true:=by rfl) (hfn:X.fn y=true\/X.env.scope.names.lookup y=some .local:=by first|exact .inl rfl|exact .inr rfl)
 (hs:∀ x,foldedSetIterable iter X.env x=pure x:=by intro _;rfl):PS X (.Assign [.Name y py] (.ListComp elt [⟨tg,iter,ifs,0⟩] scope pos) spos) (J3i i wi map g tt te):=by
 intro pins s σ H D I h
 obtain ⟨cl,hcl,hsub,hhas⟩:=B.clos I
 rw [exec_Assign_Name_used _ _ _ _ hsw]
 refine B0 (D6 (B0 ?_))
 show wpAny _ _ (do let _ <- comprehension (.ListComp elt [⟨tg,iter,ifs,0⟩] scope pos) scope X.env _ (newList []) false (eval iter X.env) (some (assign (.Name y py) X.env))) _ _ _
 refine B0 (thn (B1g (use:=some (assign (.Name y py) X.env)) (Q:=fun _ s'=>SP X pins D .next s') rfl hs hcl B.kind B.loc (thn (hi pins s σ H _ I h) fun v s1 h1=>thn h1 fun itv s2 h2=>?_)) fun _ s' hq=>B5 (B5 hq))
 obtain ⟨it,fp,tn,J,H2,e,I2,T,st2,f2,W,⟨m0,w0⟩,turn⟩:=h2
 subst e
 refine J0f (RR:=fun acc C=>compPost (model X.prog X.w) X.A X.xe (some (assign (.Name y py) X.env)) (fun _ s'=>SP X pins D .next s') acc C) I2 B.m hsub hhas (R:=fun X=>X.calm=true) (fun _ _ _ _ _=>B.calm) T.gen st2 f2 w0 turn (fun d C acc H' s' m I' hD nsm fC c1 c2 c3 c4 fin=>?_) fun D C e s' z=>z
 refine wpAny_assign_Name (KU I' hN hiN hy (v:=.ref d) rfl (fun s'' I'' ⟨a,sb,ha⟩=>?_) hfn)
 have hCa:C≠a:=by
  rcases ha with z|z
  · rw [z];exact c1
  · exact (c3 y a z).symm
 refine ⟨m,nsm.sameBut sb hCa,fun h' sb'=>⟨_,_,?_,fin d hD⟩⟩
 exact I''.turned (t':=s''.toks) (fun b o hb e=>(sb'.2 b hb).trans e) fC c1 (.inr c2) c3 c4
end
theorem gkeep_name {j:Nat}{map:List (Option Nat)}(h:map[j]?=some none):IF (UX j) map:=fun v σ H Q q=>by
 refine ⟨⟨by simp,fun j' i hm=>?_⟩,q⟩
 have:j≠j':=fun z=>by rw [z,hm] at h;cases h
 rw [L4 this]
def Bd (n:Nat)(i:Int):Prop:=i.natAbs<2 ^ n
theorem Bd.mono {m n:Nat}{i:Int}(h:Bd m i)(k:m<=n):Bd n i:=L3 h (B2s (by decide) k)
theorem Bd.mul {m n:Nat}{i j:Int}(h:Bd m i)(k:Bd n j):Bd (m+n) (i*j):=by
 unfold Bd at *
 rw [Int.natAbs_mul,Nat.pow_add]
 exact Nat.mul_lt_mul'' h k
theorem Bd.add {m n:Nat}{i j:Int}(h:Bd m i)(k:Bd n j):Bd (max m n+1) (i+j):=by
 have h':Bd (max m n) i:=h.mono (Nat.le_max_left _ _)
 have k':Bd (max m n) j:=k.mono (Nat.le_max_right _ _)
 unfold Bd at *
 rw [Nat.pow_succ]
 have:=Int.natAbs_add_le i j
 omega
theorem Bd.sub {m n:Nat}{i j:Int}(h:Bd m i)(k:Bd n j):Bd (max m n+1) (i - j):=by
 have h':Bd (max m n) i:=h.mono (Nat.le_max_left _ _)
 have k':Bd (max m n) j:=k.mono (Nat.le_max_right _ _)
 unfold Bd at *
 rw [Nat.pow_succ]
 have:=Int.natAbs_sub_le i j
 omega
theorem Bd.neg {m:Nat}{i:Int}(h:Bd m i):Bd m (-i):=by
 unfold Bd at *
 rw [Int.natAbs_neg]
 exact h
theorem Bd.of {n:Nat}{i:Int}(h1 : -(2 ^ n:Nat)<i)(h2:i<(2 ^ n:Nat)):Bd n i:=by
 unfold Bd
 omega
theorem SN {n:Nat}{i:Int}(h:Bd n i):Builtin.Int.intBits i<=n:=by
 unfold Builtin.Int.intBits
 split
 · exact W1 _
 · rename_i hz
   have h0:i.natAbs≠0:=fun z=>hz (by have:i=0:=Int.natAbs_eq_zero.mp z;simp [this])
   exact (B1p h0).mpr h
def CMulB (i j:Int):Prop:=(∃ m n,Bd m i/\Bd n j/\m+n<=100000000)\/Bd 64 j
def V0k (i j:Int):Prop:=0<j/\∃ n,Bd n j/\n<=9000
section
variable {X:Cx}
theorem Y4:OpR X (binaryOp .Mult) (rI CMulB fun i j=>.int (i*j)):=opI fun i j _ _ _ _ _ hc q=>mul_int q (by
 rcases hc with ⟨m,n,h1,h2,h3⟩|h1
 case inr=>exact .of_right (SN h1)
 have e1:=SN h1
 have e2:=SN h2
 unfold IntMulOk
 have e3:Builtin.Int.intTooBig (Builtin.Int.intBits i+Builtin.Int.intBits j)=false:=by
  unfold Builtin.Int.intTooBig
  refine R5 ?_
  have:bitsLine=134217728:=by unfold bitsLine;decide
  rw [this]
  omega
 rw [e3]
 simp)
theorem HU:OpR X (binaryOp .FloorDiv) (rI V0k fun i j=>.int (i / j)):=opI fun i j _ _ _ _ _ hc q=>by
 obtain ⟨h1,n,h2,h3⟩:=hc
 refine floordiv_int (by omega) (by rw [Int.fdiv_eq_ediv_of_nonneg i (by omega)];exact q) (.inl (PyProof.noPylong_of_log2 ?_))
 have h0:j.natAbs≠0:=by omega
 exact (B1p h0).mpr (h2.mono h3)
theorem J4p:OpR X (binaryOp .FloorDiv) (rI (fun _ j=>j≠0/\∃ n,Bd n j/\n<=9000) fun i j=>.int (i.fdiv j)):=opI fun i j _ _ _ _ _ hc q=>by
 obtain ⟨h1,n,h2,h3⟩:=hc
 refine floordiv_int h1 q (.inl (PyProof.noPylong_of_log2 ?_))
 have h0:j.natAbs≠0:=by omega
 exact (B1p h0).mpr (h2.mono h3)
end
theorem Same.upd {H:Hp}{p:Addr}{o:HO}(h:H p=none):Same H (upd H p o):=fun b u e=>by rw [Q9 (V2 e h)];exact e
def Keep (p:Addr)(H H':Hp):Prop:=∀ b o,b≠p->H b=some o->H' b=some o
theorem Keep.trans {p:Addr}{H H1 H2:Hp}(a:Keep p H H1)(b:Keep p H1 H2):Keep p H H2:=fun c o n e=>b c o n (a c o n e)
theorem Keep.upd {p:Addr}{H:Hp}{o:HO}:Keep p H (upd H p o):=fun b u n e=>by rw [Q9 n];exact e
theorem Same.keep {p:Addr}{H H':Hp}(h:Same H H'):Keep p H H':=fun b o _ e=>h b o e
structure Callee (P:Program)(w:World)(K:Fg)(mg:Str->Option Value)(base:Heap)(CX:CXT)(x:Str)(k:Nat)(ps:List Str)(sp:Sp):Prop where
 ex:∃ f fd,FnOk P w K mg base CX k f fd ps sp/\mg x=some (.ref f)/\PySem.W.keepIn K (.ref f)=true/\Binds K fd ps []
section
variable {X:Cx}{k:Nat}{ps:List Str}{sp:Sp}{x:Str}{p pos:Pos}{e:Expr}{es:List Expr}{t:TA}
theorem WV (G:Callee X.prog X.w X.K X.mg X.base CX0 x k ps sp)(hr:Room k X.A)(hg:Gl X x)(ha:PA X (e::es) t)(hdb:(x==("__debug__" : Str))=false:=by decide) (he:starEach (e::es) X.env=(false,eval e X.env)::starEach es X.env:=by rfl) (hpl:(backTo pos (starEach es X.env)).any (·.1)=false:=by rfl) :
 PE X (.Call (.Name x p) (e::es) [] pos) (YJ sp [] E0 t):=by
 obtain ⟨f,fd,F,hm,hk,hb⟩:=G.ex
 exact ZB F hr hg hm hk hb .nil Q8h ha hdb he hpl
theorem VN:BD X (.builtin "isinstance") (fun xs H Q=>∃ y c t b,xs=[y,.ty c]/\TyOf X.K H y t/\PySem.W.kitOne X.K t (.type c)=some b/\Q (.bl b) H):=by
 intro pins s σ H xs us Q I r h
 obtain ⟨y,c,t,b,rfl,ty,e,q⟩:=h
 obtain ⟨u,w',rfl,r1,r2⟩:=SY r
 cases (show w'=Value.type c from r2)
 exact J1x I r1 ty e fun tk=>⟨.bl b,H,I.tok _,rfl,q⟩
end
theorem Callee.mk' {w:World} {CX:CXT}{x qual:Str}{st:Stmt}{f:Addr} {k:Nat}{ps:List Str}{sp:Sp}(F:Fun K x qual st f fd)(G:FnOk P w K mg base CX k f fd ps sp)(hm:mg x=some (.ref f))(hb:Binds K fd ps []) :
 Callee P w K mg base CX x k ps sp:=⟨f,fd,G,hm,F.kp,hb⟩
theorem Q4r {c:Bool}{A B:Prop}(h1:c=true->A)(h2:c=false->B):if c=true then A else B:=by
 cases c with
 | true=>exact V1d (h1 rfl)
 | false=>exact V1e (h2 rfl)
theorem OO:bootBuiltins "abs" = some (.builtin "abs"):=by decide +kernel
theorem AW:bootBuiltins "len" = some (.builtin "len"):=by decide +kernel
theorem Y0:bootBuiltins "isinstance" = some (.builtin "isinstance"):=by decide +kernel
theorem YD:bootBuiltins "max" = some (.builtin "max"):=by decide +kernel
theorem YC:bootBuiltins "min" = some (.builtin "min"):=by decide +kernel
theorem Q6p:bootBuiltins "sum" = some (.builtin "sum"):=by decide +kernel
theorem EZ:bootBuiltins "all" = some (.builtin "all"):=by decide +kernel
theorem Q6r:bootBuiltins "any" = some (.builtin "any"):=by decide +kernel
theorem J2s:bootBuiltins "sorted" = some (.builtin "sorted"):=by decide +kernel
theorem YE:bootBuiltins "int" = some (.type "int"):=by decide +kernel
theorem J0e:bootBuiltins "bool" = some (.type "bool"):=by decide +kernel
theorem CI:bootBuiltins "tuple" = some (.type "tuple"):=by decide +kernel
theorem MR:bootBuiltins "list" = some (.type "list"):=by decide +kernel
theorem Q6q:bootBuiltins "str" = some (.type "str"):=by decide +kernel
theorem Q6o:bootBuiltins "zip" = some (.type "zip"):=by decide +kernel
theorem SM:bootBuiltins "enumerate" = some (.type "enumerate"):=by decide +kernel
theorem Same.get {H H':Hp}{a:Addr}{o:HO}(S:Same H H')(h:H a=some o):H' a=some o:=S a o h
theorem Keep.get {p:Addr}{H H':Hp}{a:Addr}{o:HO}(S:Keep p H H')(n:a≠p)(h:H a=some o):H' a=some o:=S a o n h
theorem rd_mul {i j:Int}{m n:Nat}{Q:Prop}(h1:Bd m i)(h2:Bd n j)(h3:m+n<=100000000)(q:Q):CMulB i j/\Q:=⟨.inl ⟨m,n,h1,h2,h3⟩,q⟩
theorem Bd.num (i:Int)(h:i.natAbs<18446744073709551616):Bd 64 i:=h
theorem AZ:1000<=sizeLine:=by decide
theorem Q2v {a b:Int}(h:decide (V.int a=V.int b)=true):a=b:=by injection T7 h
theorem J9m {a b:Int}(h:(!decide (V.int a=V.int b))=true):a≠b:=fun z=>by rw [z] at h;simp at h
theorem J9n {a b:Int}(h:(!decide (V.int a=V.int b))=false):a=b:=by
 have q:decide (V.int a=V.int b)=true:=by cases e:decide (V.int a=V.int b) with|true=>rfl|false=>rw [e] at h;cases h
 exact Q2v q
theorem Q2g {p:Prop}[Decidable p](h:decide p=true):p:=T7 h
def Bag (H:Hp)(p:Addr):Prop:=∃ f m:Int,H p=some (.lst [.int f,.int m])/\0<=f/\0<=m/\m<2147483647
theorem Bag.ne {H:Hp}{p a:Addr}{xs:List V}(b:Bag H p)(h:H a=some (.tup xs)):a≠p:=by
 obtain ⟨f,m,e,_⟩:=b
 exact J4x h e (by intro z;cases z)
theorem CMulB.right {i j:Int}(h:Bd 64 j):CMulB i j:=.inr h
theorem Keep.tup {p:Addr}{H H':Hp}{a:Addr}{xs:List V}(S:Keep p H H')(b:Bag H p)(h:H a=some (.tup xs)):H' a=some (.tup xs):=S a _ (b.ne h) h
theorem J6x {xs:List V}{i:Int}(h0:0<=i)(h1:i<xs.length):∃ v,atI xs i=some v/\v∈xs:=by
 obtain ⟨j,rfl⟩:∃ j:Nat,i=j:=⟨i.toNat,by omega⟩
 have hj:j<xs.length:=by omega
 exact ⟨xs[j],FU (L0 hj),E2 hj⟩
theorem Z4 (l:List Str)(h:l.Nodup):l.Nodup:=h
section
variable {X:Cx}{l:Expr}
theorem RY (K:Fg)(h:X.K=K):IxR X (J8l K):=by subst h;exact Q4q
theorem EA (K:Fg)(h:X.K=K):IxR X (J8m K):=by subst h;exact J9x
theorem AK {es:List Expr}{k:Nat}{t:TGs}{n:Nat}{pos:Pos}(K:Fg)(h:X.K=K)(hc:X.calm=true)(hs:PGs X es t)(hn:(assignEach es X.env).length=n:=by rfl)(hst:(assignEach es X.env).findIdx? (·.1)=none:=by rfl):PG X (.Tuple es k pos) (Q4x K n t):=by subst h;exact Q3u hc hs hn hst
theorem V3 (K:Fg)(h:X.K=K):BD X (.builtin "len") (fun xs H Q=>∃ p ys,xs=[.ref p]/\(SqL K H p ys\/SqT K H p ys)/\Q (.int ys.length) H):=by subst h;exact SL
theorem DH (K:Fg)(h:X.K=K):BD X (.type "tuple") (fun xs H Q=>∃ p ys,xs=[.ref p]/\((SqL K H p ys/\∀ l,H l=none->Q (.ref l) (upd H l (.tup ys)))\/(SqT K H p ys/\Q (.ref p) H))):=by subst h;exact PK
theorem J1g {a:Expr}{ta:TE}(K:Fg)(h:X.K=K)(ha:PE X a ta)(he:∀ whole,isTrue a X.env whole=(do let v <- whole;standAt a.pos;holding [v] (truthy v))):PT X a (fun σ H Q=>ta σ H fun x H'=>∃ k,Q6w K x H' k/\Q k H'):=by subst h;exact J3y ha he
end
theorem GZ:∀ {ns:List Int} {us:List Value},Vals (ns.map V.int) us->∃ xs:List (Int×Tok),us=xs.map (fun p=>Value.int p.1 p.2)/\xs.map (·.1)=ns
 | [],us,r=>by
   cases r
   exact ⟨[],rfl,rfl⟩
 | n::ns,us,r=>by
   cases r with
   | cons r1 r2 =>
     obtain ⟨t,rfl⟩:=r1
     obtain ⟨xs,e1,e2⟩:=GZ r2
     exact ⟨(n,t)::xs,by rw [e1];rfl,by rw [<- e2];rfl⟩
theorem DQ (xs:List (Int×Tok)):intItems xs.toArray=(xs.map fun p=>Value.int p.1 p.2).toArray:=by simp [intItems]
theorem DW (xs:List (Int×Tok))(i:Nat):numAt xs.toArray i=((xs.map (·.1))[i]?).getD 0:=by simp [numAt]
section
variable {X:Cx}
theorem J2n (K:Fg)(hK:X.K=K)(hc:X.calm=true):BD X (.builtin "sum") (fun xs H Q=>∃ (p:Addr) (ns:List Int),xs=[.ref p]/\SqL K H p (ns.map V.int)/\Q (.int ns.sum) H):=by
 subst hK
 intro pins s σ H xs us Q I r h
 obtain ⟨p,ns,rfl,hq,q⟩:=h
 obtain ⟨u,rfl,rx⟩:=HD r
 cases rx
 obtain ⟨its,rv,pl,hz⟩:=I.list hq
 obtain ⟨ps,e1,e2⟩:=GZ rv
 subst e1
 have hl:=pl.isList
 rw [<- DQ] at hl
 refine sum_intListG (xs:=ps.toArray) (I.ok.hd hc) hl fun h' tk t' k=>?_
 refine ⟨.int ns.sum,H,I.kept k,⟨t',?_⟩,q⟩
 rw [preSum_eq,B0l (by simp)]
 show Value.int ((ps.map (·.1)).sum) t'=_
 rw [e2]
theorem LV:∀ {bs:List Bool} {us:List Value},Vals (bs.map V.bl) us->us=bs.map Value.bool
 | [],us,r=>by
   cases r
   rfl
 | b::bs,us,r=>by
   cases r with
   | cons r1 r2 =>
     cases r1
     rw [LV r2]
     rfl
theorem LY (bs:List Bool):(List.range bs.length).map (fun i=>bs[i]?.getD false)=bs:=by
 apply List.ext_getElem
 · simp
 · intro i h1 h2
   simp at h1
   simp [h1]
theorem AU (K:Fg)(hK:X.K=K)(hc:X.calm=true):BD X (.builtin "all") (fun xs H Q=>∃ (p:Addr) (bs:List Bool),xs=[.ref p]/\SqL K H p (bs.map V.bl)/\Q (.bl (bs.all id)) H):=by
 subst hK
 intro pins s σ H xs us Q I r h
 obtain ⟨p,bs,rfl,hq,q⟩:=h
 obtain ⟨u,rfl,rx⟩:=HD r
 cases rx
 obtain ⟨its,rv,pl,hz⟩:=I.list hq
 have e1:=LV rv
 subst e1
 have hl:=pl.isList
 have hlt:p<s.heap.objs.size:=by obtain ⟨_,e,_⟩:=hl;exact B2 e
 refine call_all_walk (B1o hl ?_)
 refine ⟨_,_,_,_,_,_,(fun i=>bs[i]?.getD false),rfl,Walks.list (A:=X.A.in1) (I.ok.hd hc) _ p (R9 hlt) (bs.map Value.bool).toArray,⟨⟨_,L8 _ rfl,rfl,rfl⟩,hl.push _⟩,?_,fun h' tk hk=>?_⟩
 · intro i v s' Q' E' hv hq'
   have e:bs[i]?.map Value.bool=some v:=by simpa using hv
   cases hb:bs[i]? with
   | none=>rw [hb] at e;cases e
   | some b =>
     rw [hb] at e
     cases e
     have hq'':Q' (bs[i]?.getD false) s':=hq'
     rw [hb] at hq''
     exact D9 hq''
 · have ea:(List.range (bs.map Value.bool).toArray.size).all (fun i=>bs[i]?.getD false)=bs.all id:=by
    have:=B0b (fun l:List Bool=>l.all id) (LY bs)
    simpa [B2r] using this
   rw [ea]
   refine ⟨.bl (bs.all id),H,I.kept fun b o e=>hk b o (fun hm=>?_) (B1 _ e),rfl,q⟩
   have:b=s.heap.objs.size:=by simpa using hm
   exact absurd (this▸B2 e) (L5 _)
theorem J2r (K:Fg)(hK:X.K=K)(hc:X.calm=true):BD X (.builtin "any") (fun xs H Q=>∃ (p:Addr) (bs:List Bool),xs=[.ref p]/\SqL K H p (bs.map V.bl)/\Q (.bl (bs.any id)) H):=by
 subst hK
 intro pins s σ H xs us Q I r h
 obtain ⟨p,bs,rfl,hq,q⟩:=h
 obtain ⟨u,rfl,rx⟩:=HD r
 cases rx
 obtain ⟨its,rv,pl,hz⟩:=I.list hq
 have e1:=LV rv
 subst e1
 have hl:=pl.isList
 have hlt:p<s.heap.objs.size:=by obtain ⟨_,e,_⟩:=hl;exact B2 e
 refine call_any_walk (B1o hl ?_)
 refine ⟨_,_,_,_,_,_,(fun i=>bs[i]?.getD false),rfl,Walks.list (A:=X.A.in1) (I.ok.hd hc) _ p (R9 hlt) (bs.map Value.bool).toArray,⟨⟨_,L8 _ rfl,rfl,rfl⟩,hl.push _⟩,?_,fun h' tk hk=>?_⟩
 · intro i v s' Q' E' hv hq'
   have e:bs[i]?.map Value.bool=some v:=by simpa using hv
   cases hb:bs[i]? with
   | none=>rw [hb] at e;cases e
   | some b =>
     rw [hb] at e
     cases e
     have hq'':Q' (bs[i]?.getD false) s':=hq'
     rw [hb] at hq''
     exact D9 hq''
 · have ea:(List.range (bs.map Value.bool).toArray.size).any (fun i=>bs[i]?.getD false)=bs.any id:=by
    have:=B0b (fun l:List Bool=>l.any id) (LY bs)
    simpa [List.any_map] using this
   rw [ea]
   refine ⟨.bl (bs.any id),H,I.kept fun b o e=>hk b o (fun hm=>?_) (B1 _ e),rfl,q⟩
   have:b=s.heap.objs.size:=by simpa using hm
   exact absurd (this▸B2 e) (L5 _)
end
section
variable {prog:Program}{w:World}{A:Around}{E:Value->Shared->Prop}{s:Shared}
theorem XH {u t:Addr}{j:Nat}{its}{v:Value}{Q:Value->Shared->Prop}(a1:s.heap.IsTupleIter u t j)(a2:s.heap.IsTuple t its)(a3:its[j]?=some v)
 (q:∀ h',h'.IsTupleIter u t (j+1)->Heap.SameBut u s.heap h'->Q v { s with heap:=h' }):wpAny (model prog w) A (Builtin.SmallTypes.nextOf (.ref u)) Q E s:=by
 obtain ⟨oi,b1,b2,b3⟩:=id a1
 obtain ⟨ot,c1,_,nt,c2⟩:=a2
 unfold Builtin.SmallTypes.nextOf
 refine B0 (wpAny_callSpecial?_slot (name:=Str.ofString "__next__") a1.typeIs B1a (B1c B1a a1.typeIs F.entry_tuple_iterator_next ?_ (F.args_tuple_iterator_next_1 _)))
 show wpAny _ _ (field (.ref u) 0 >>= _) _ _ s
 refine B0 (U6 b1 b3 (x:=.ref t) rfl ?_)
 show wpAny _ _ (if (Value.ref t==Value.none)=true then _ else _) _ _ s;rw [if_neg (show ¬ ((Value.ref t==Value.none)=true) from B9)]
 show wpAny _ _ (field (.ref u) 1 >>= _) _ _ s
 refine B0 (U6 b1 b3 (x:=.int j 0) rfl ?_)
 show wpAny _ _ (seqItems? (.ref t) >>= _) _ _ s;refine B0 (B0z c1 c2 ?_)
 simp only [D5,a3]
 refine B0 (B0y b1 b3 (by simp) (B5 ⟨v,rfl,B5 (q _ ⟨_,B0u _ b1 (B1r (B0e b3 _)),(Obj.cls_mapFields ..).trans b2,by rw [B0e b3];simp [rawInt]⟩ (Heap.SameBut.update ..))⟩))
theorem J1n {u t:Addr}{j:Nat}{its}{Q:Value->Shared->Prop}(a0:A.handled=none)(a1:s.heap.IsTupleIter u t j)(a2:s.heap.IsTuple t its)(a3:its[j]?=none)
 (q:∀ h' e,Heap.ExtBut u s.heap h'->(∃ o,h'.get? e=some o/\o.cls=.type "StopIteration")->E (.ref e) { s with heap:=h' }):wpAny (model prog w) A (Builtin.SmallTypes.nextOf (.ref u)) Q E s:=by
 obtain ⟨oi,b1,b2,b3⟩:=id a1
 obtain ⟨ot,c1,_,nt,c2⟩:=a2
 unfold Builtin.SmallTypes.nextOf
 refine B0 (wpAny_callSpecial?_slot (name:=Str.ofString "__next__") a1.typeIs B1a (B1c B1a a1.typeIs F.entry_tuple_iterator_next ?_ (F.args_tuple_iterator_next_1 _)))
 show wpAny _ _ (field (.ref u) 0 >>= _) _ _ s
 refine B0 (U6 b1 b3 (x:=.ref t) rfl ?_)
 show wpAny _ _ (if (Value.ref t==Value.none)=true then _ else _) _ _ s;rw [if_neg (show ¬ ((Value.ref t==Value.none)=true) from B9)]
 show wpAny _ _ (field (.ref u) 1 >>= _) _ _ s
 refine B0 (U6 b1 b3 (x:=.int j 0) rfl ?_)
 show wpAny _ _ (seqItems? (.ref t) >>= _) _ _ s;refine B0 (B0z c1 c2 ?_)
 simp only [D5,a3]
 refine B0 (B1t (B0 (B0y b1 b3 (by simp) ?_)))
 show wpAny _ _ (newExc (.type "StopIteration") [] >>= _) _ _ _;refine B0 ?_;simp only [newExc,newTuple]
 refine B0 (W9 ?_ (by size_fits));refine B0 (m:=firstArgMember _ _) (wpAny_of_eq (a:=Value.none) (by first|rfl|(simp only [firstArgMember];rfl)) ?_)
 refine W9 ?_ (by size_fits);simp only [raiseNew];refine B0 (wpAny_handled ?_)
 first|rw [show A.in1.handled=none from a0]|rw [a0]
 refine B0 (B5 (wpAny_throw (q _ _ (((Heap.SameBut.update ..).extBut.push _).push _) ⟨_,L8 _ rfl,rfl⟩)))
def ItAt (b:Bool)(h:Heap)(u l:Addr)(j:Nat):Prop:=match b with|false=>h.IsListIter u l j|true=>h.IsTupleIter u l j
def SeqAt (b:Bool)(h:Heap)(l:Addr)(xs:Array Value):Prop:=match b with|false=>h.IsList l xs|true=>h.IsTuple l xs
theorem ItAt.at {b:Bool}{h h':Heap}{u l:Addr}{j:Nat}(x:ItAt b h u l j)(k:∀ o,h.get? u=some o->h'.get? u=some o):ItAt b h' u l j:=by
 cases b with
 | false=>exact Heap.IsListIter.at x k
 | true=>exact Heap.IsTupleIter.at x k
theorem SeqAt.at {b:Bool}{h h':Heap}{l:Addr}{xs:Array Value}(x:SeqAt b h l xs)(k:∀ o,h.get? l=some o->h'.get? l=some o):SeqAt b h' l xs:=by
 cases b with
 | false=>obtain ⟨o,e,r⟩:=x;exact ⟨o,k o e,r⟩
 | true=>obtain ⟨o,e,r⟩:=x;exact ⟨o,k o e,r⟩
theorem ItAt.obj {b:Bool}{h:Heap}{u l:Addr}{j:Nat}(x:ItAt b h u l j):∃ o,h.get? u=some o/\∀ v,o.data≠.cell v:=by
 cases b with
 | false=>obtain ⟨o,e,c,d⟩:=x;exact ⟨o,e,fun v z=>by rw [d] at z;cases z⟩
 | true=>obtain ⟨o,e,c,d⟩:=x;exact ⟨o,e,fun v z=>by rw [d] at z;cases z⟩
theorem TF {b:Bool}{u l:Addr}{j:Nat}{xs:Array Value}{v:Value}{Q:Value->Shared->Prop}(a1:ItAt b s.heap u l j)(a2:SeqAt b s.heap l xs)(a3:xs[j]?=some v)
 (q:∀ h',ItAt b h' u l (j+1)->Heap.SameBut u s.heap h'->Q v { s with heap:=h' }):wpAny (model prog w) A (Builtin.SmallTypes.nextOf (.ref u)) Q E s:=by
 cases b with
 | false=>exact wpAny_nextOf_list_item a1 a2 a3 q
 | true=>exact XH a1 a2 a3 q
theorem J8f {b:Bool}{u l:Addr}{j:Nat}{xs:Array Value}{Q:Value->Shared->Prop}(a0:A.handled=none)(a1:ItAt b s.heap u l j)(a2:SeqAt b s.heap l xs)(a3:xs[j]?=none)
 (q:∀ h' e,Heap.ExtBut u s.heap h'->(∃ o,h'.get? e=some o/\o.cls=.type "StopIteration")->E (.ref e) { s with heap:=h' }):wpAny (model prog w) A (Builtin.SmallTypes.nextOf (.ref u)) Q E s:=by
 cases b with
 | false=>exact wpAny_nextOf_list_end a0 a1 a2 a3 q
 | true=>exact J1n a0 a1 a2 a3 q
abbrev DI (h:Heap)(T:Addr)(vs:Array Value):Prop:=h.get? T=some { cls:=.type "tuple",data:=.seq vs }
theorem PN {T:Addr}{vs:Array Value}{v:Value}{k:Nat}{Q:Unit->Shared->Prop}(hv:vs.size<=1000)(hT:DI s.heap T vs)
 (q:∀ h',DI h' T (vs.setIfInBounds k v)->Heap.SameBut T s.heap h'->Q () { s with heap:=h' }):wpAny (model prog w) A (updateSeq T (·.setIfInBounds k v)) Q E s:=by
 have z1:vs.size<=sizeLine:=M7 hv AZ
 refine wpAny_updateSeq hT rfl (q _ ?_ (Heap.SameBut.update ..)) (hz:=z1) (_hz':=by simp;omega)
 show Heap.get? _ T=_
 rw [B0u _ hT rfl];simp [Obj.mapSeq]
end
section
variable {X:Cx}{pins:List (Addr×Obj)}{σ:St}{H:Hp}{s:Shared}{h':Heap}
theorem Inv.zipped {fp:List Addr}{T:Addr}{o:HO}{t':Nat}(I:Inv X pins σ H s)(hf:∀ b∈fp,HC X pins H b)(k:∀ b o,b∉fp->s.heap.get? b=some o->h'.get? b=some o)(hT:s.heap.objs.size<=T)
 (new:ObjOk X.prog X.w (upd H T o) h' T o):Inv X pins σ (upd H T o) { s with heap:=h',toks:=t' }:=by
 have hn:H T=none:=I.hok.fresh hT
 have ne:∀ b u,s.heap.get? b=some u->b≠T:=fun b u e z=>absurd (B2 e) (by rw [z];exact Nat.not_lt.mpr hT)
 have nfp:∀ b u,H b=some u->b∉fp:=fun b u e hb=>by rw [(hf b hb).1] at e;cases e
 refine I.step (g':=s.gens) (d':=s.drawn) (ch:=fp) (fun b hb=>?_) (fun b o _ _ hc e _=>k b o hc e) (fun b o _ _ hc e _=>⟨o.slots,k b o hc e⟩) (fun b u _ e n=>by rw [Q9 (ne b u e)];exact n)
  (fun b o hc e=>⟨o,k b o hc e⟩) (fun b xs e=>by rw [Q9 (V2 e hn)];exact e) (fun b o u e=>by rw [Q9 (V2 e hn)];exact e) (fun b ps e=>⟨#[],by rw [Q9 (V2 e hn),e];simp⟩) (fun m hm=>?_) (fun b u e=>?_) I.bare
 · obtain ⟨_,f1,_,f3,f4,f5⟩:=hf b hb
   exact ⟨f3,f1,f4,f5⟩
 · obtain ⟨o,es,ep,ho,r⟩:=hm
   exact ⟨o,es,ep,k _ o (fun hb=>(hf _ hb).2.1 rfl) ho,r⟩
 · by_cases hb:b=T
   · subst hb
     rw [Y5] at e
     cases e
     exact new
   · rw [Q9 hb] at e
     refine (I.hok b u e).stay (fun c v hc q=>k c v ?_ q) (fun c q=>by rw [Q9 (V2 q hn)];exact q) fun c xs q=>by rw [Q9 (V2 q hn)];exact q
     rcases hc with z|z
     · rw [z];exact nfp b u e
     · exact nfp c _ z
theorem Inv.turnedL {fp:List Addr}{t':Nat}(I:Inv X pins σ H s)(hf:∀ b∈fp,HC X pins H b)(k:∀ b o,b∉fp->s.heap.get? b=some o->h'.get? b=some o):Inv X pins σ H { s with heap:=h',toks:=t' }:=by
 have nfp:∀ b u,H b=some u->b∉fp:=fun b u e hb=>by rw [(hf b hb).1] at e;cases e
 refine I.step (g':=s.gens) (d':=s.drawn) (ch:=fp) (fun b hb=>?_) (fun b o _ _ hc e _=>k b o hc e) (fun b o _ _ hc e _=>⟨o.slots,k b o hc e⟩) (fun b u _ e n=>n)
  (fun b o hc e=>⟨o,k b o hc e⟩) (fun b xs e=>e) (fun b o u e=>e) (fun b ps e=>⟨#[],by rw [e];simp⟩) (fun m hm=>?_) (fun b u e=>?_) I.bare
 · obtain ⟨_,f1,_,f3,f4,f5⟩:=hf b hb
   exact ⟨f3,f1,f4,f5⟩
 · obtain ⟨o,es,ep,ho,r⟩:=hm
   exact ⟨o,es,ep,k _ o (fun hb=>(hf _ hb).2.1 rfl) ho,r⟩
 · refine (I.hok b u e).stay (fun c v hc q=>k c v ?_ q) (fun c q=>q) fun c xs q=>q
   rcases hc with z|z
   · rw [z];exact nfp b u e
   · exact nfp c _ z
def SqX (K:Fg)(b:Bool)(H:Hp)(a:Addr)(xs:List V):Prop:=match b with|false=>SqL K H a xs|true=>SqT K H a xs
theorem Inv.seqX {b:Bool}{a:Addr}{xs:List V}(I:Inv X pins σ H s)(h:SqX X.K b H a xs):∃ its:List Value,Vals xs its/\SeqAt b s.heap a its.toArray/\xs.length<=sizeLine:=by
 cases b with
 | false=>obtain ⟨its,r,p,z⟩:=I.list h;exact ⟨its,r,p.isList,z⟩
 | true=>obtain ⟨its,r,p,z⟩:=I.tuple h;exact ⟨its,r,p,z⟩
theorem Inv.seqX_inj {b:Bool}{a:Addr}{xs ys:List V}(I:Inv X pins σ H s)(h:SqX X.K b H a xs)(h':SqX X.K b H a ys):xs=ys:=by
 cases b with
 | false=>exact I.list_inj h h'
 | true=>exact I.tuple_inj h h'
theorem Inv.seqX_ne {b:Bool}{a:Addr}{xs:List V}{c:Addr}(I:Inv X pins σ H s)(h:SqX X.K b H a xs)(f:HC X pins H c):a≠c:=by
 intro e
 subst e
 have base:∀ {o:Obj},X.base.get? a=some o->False:=fun {o} q=>by
  rcases f.2.2.2.1 with z|z
  · exact I.ok.noex a o q z
  · exact absurd (B2 (I.ok.bs a o q).1) (Nat.not_lt.mpr z)
 cases b with
 | false =>
   rcases h with (h|⟨o,h⟩)|⟨o,_,_,h,_⟩
   · rw [f.1] at h;cases h
   · rw [f.1] at h;cases h
   · exact base (I.ok.mod.kin _ _ h)
 | true =>
   rcases h with (h|⟨o,h⟩)|⟨o,_,_,h,_⟩
   · rw [f.1] at h;cases h
   · rw [f.1] at h;cases h
   · exact base (I.ok.mod.kin _ _ h)
end
section
variable {prog:Program}{w:World}{A:Around}{E:Value->Shared->Prop}{s:Shared}
structure ZAp2 (z TI TO i1 i2 l1 l2:Addr):Prop where
 z_TI:z≠TI
 z_TO:z≠TO
 z_i1:z≠i1
 z_i2:z≠i2
 TI_z:TI≠z
 TI_TO:TI≠TO
 TI_i1:TI≠i1
 TI_i2:TI≠i2
 TO_z:TO≠z
 TO_TI:TO≠TI
 TO_i1:TO≠i1
 TO_i2:TO≠i2
 i1_z:i1≠z
 i1_TI:i1≠TI
 i1_TO:i1≠TO
 i1_i2:i1≠i2
 i2_z:i2≠z
 i2_TI:i2≠TI
 i2_TO:i2≠TO
 i2_i1:i2≠i1
 l1_z:l1≠z
 l1_TI:l1≠TI
 l1_TO:l1≠TO
 l1_i1:l1≠i1
 l1_i2:l1≠i2
 l2_z:l2≠z
 l2_TI:l2≠TI
 l2_TO:l2≠TO
 l2_i1:l2≠i1
 l2_i2:l2≠i2
theorem J0q {b1 b2:Bool}{z TI TO i1 i2 l1 l2:Addr}{k:Nat}{xs1 xs2:Array Value}{x1 x2 a1 a2:Value}{Q:Value->Shared->Prop}(D:ZAp2 z TI TO i1 i2 l1 l2)(hz:IsZip s.heap z TI TO .none)(hI:DI s.heap TI #[.ref i1,.ref i2])(hO:DI s.heap TO #[a1,a2])(d1:ItAt b1 s.heap i1 l1 k)(g1:SeqAt b1 s.heap l1 xs1)(d2:ItAt b2 s.heap i2 l2 k)(g2:SeqAt b2 s.heap l2 xs2)
 (e1:xs1[k]?=some x1) (e2:xs2[k]?=some x2)
 (q:∀ h',IsZip h' z TI TO (rawInt s.heap.objs.size)->DI h' TO #[x1,x2]->ItAt b1 h' i1 l1 (k+1)->ItAt b2 h' i2 l2 (k+1)->DI h' s.heap.objs.size #[x1,x2]->(∀ c o,c≠z->c≠TO->c≠i1->c≠i2->s.heap.get? c=some o->h'.get? c=some o)->Q (.ref s.heap.objs.size) { s with heap:=h' }) :
 wpAny (model prog w) A (Builtin.«zip.__next__» ⟨[.ref z],[]⟩) (fun fin s'=>∃ v,fin=.done (.ret v)/\Q v s') E s:=by
 show wpAny _ _ (field (.ref z) 2 >>= _) _ _ _;refine B0 (U6 hz rfl (x:=.bool false) rfl ?_)
 show wpAny _ _ (field (.ref z) 3 >>= _) _ _ _;refine B0 (U6 hz rfl (x:=.ref TI) rfl ?_)
 refine B0 (B0z hI rfl ?_)
 show wpAny _ _ (Builtin.SmallTypes.ownedTupleIsFree (.ref z) >>= _) _ _ _;refine B0 ?_;unfold Builtin.SmallTypes.ownedTupleIsFree
 refine B0 (U6 hz rfl (x:=.none) rfl (B5 ?_));simp only [if_true];refine B0 (B1t ?_)
 refine B0 (U6 hz rfl (x:=.ref TO) rfl ?_);refine B0 (B1l hz (by simp) fun p0 z0 m0=>?_)
 replace z0:IsZip p0 z TI TO .ellipsis:=z0
 have y0:DI p0 TO #[a1,a2]:=m0.extBut _ _ D.TO_z hO
 have w0:∀ c o,c≠z->c≠TO->c≠i1->c≠i2->s.heap.get? c=some o->p0.get? c=some o:=fun c o c1 _ _ _ e=>m0.extBut _ _ c1 e
 have r0:p0.objs.size=s.heap.objs.size:=m0.1
 have d1_0:ItAt b1 p0 i1 l1 k:=d1.at fun o e=>m0.extBut _ _ D.i1_z e
 have g1_0:SeqAt b1 p0 l1 xs1:=g1.at fun o e=>m0.extBut _ _ D.l1_z e
 have d2_0:ItAt b2 p0 i2 l2 k:=d2.at fun o e=>m0.extBut _ _ D.i2_z e
 have g2_0:SeqAt b2 p0 l2 xs2:=g2.at fun o e=>m0.extBut _ _ D.l2_z e
 refine B0 ?_;simp only [List.zipIdx_cons,List.zipIdx_nil,B1q,B2u]
 refine B0 (B0 (wpAny_onRaise ?_));show wpAny _ _ (Builtin.SmallTypes.nextOf (.ref i1) >>= _) _ _ _
 refine B0 (TF d1_0 g1_0 e1 fun u1 t1 n1=>B5 ?_)
 have v1:DI u1 TO #[a1,a2]:=n1.extBut _ _ D.TO_i1 y0
 refine B0 (B0z v1 rfl ?_);refine B0 (PN (M3 rfl) v1 fun p1 y1 m1=>?_)
 replace y1:DI p1 TO #[x1,a2]:=y1
 have z1:IsZip p1 z TI TO .ellipsis:=m1.extBut _ _ D.z_TO (n1.extBut _ _ D.z_i1 z0)
 have w1:∀ c o,c≠z->c≠TO->c≠i1->c≠i2->s.heap.get? c=some o->p1.get? c=some o:=fun c o c1 c2 c3 c4 e=>m1.extBut _ _ c2 (n1.extBut _ _ c3 (w0 c o c1 c2 c3 c4 e))
 have r1:p1.objs.size=s.heap.objs.size:=by rw [m1.1,n1.1];exact r0
 have d1_1:ItAt b1 p1 i1 l1 (k+1):=t1.at fun o e=>m1.extBut _ _ D.i1_TO e
 have d2_1:ItAt b2 p1 i2 l2 k:=(d2_0.at fun o e=>n1.extBut _ _ D.i2_i1 e).at fun o e=>m1.extBut _ _ D.i2_TO e
 have g2_1:SeqAt b2 p1 l2 xs2:=(g2_0.at fun o e=>n1.extBut _ _ D.l2_i1 e).at fun o e=>m1.extBut _ _ D.l2_TO e
 refine B0 (wpAny_letGo (B5 ?_))
 refine B0 (B0 (wpAny_onRaise ?_));show wpAny _ _ (Builtin.SmallTypes.nextOf (.ref i2) >>= _) _ _ _
 refine B0 (TF d2_1 g2_1 e2 fun u2 t2 n2=>B5 ?_)
 have v2:DI u2 TO #[x1,a2]:=n2.extBut _ _ D.TO_i2 y1
 refine B0 (B0z v2 rfl ?_);refine B0 (PN (M3 rfl) v2 fun p2 y2 m2=>?_)
 replace y2:DI p2 TO #[x1,x2]:=y2
 have z2:IsZip p2 z TI TO .ellipsis:=m2.extBut _ _ D.z_TO (n2.extBut _ _ D.z_i2 z1)
 have w2:∀ c o,c≠z->c≠TO->c≠i1->c≠i2->s.heap.get? c=some o->p2.get? c=some o:=fun c o c1 c2 c3 c4 e=>m2.extBut _ _ c2 (n2.extBut _ _ c4 (w1 c o c1 c2 c3 c4 e))
 have r2:p2.objs.size=s.heap.objs.size:=by rw [m2.1,n2.1];exact r1
 have d1_2:ItAt b1 p2 i1 l1 (k+1):=(d1_1.at fun o e=>n2.extBut _ _ D.i1_i2 e).at fun o e=>m2.extBut _ _ D.i1_TO e
 have d2_2:ItAt b2 p2 i2 l2 (k+1):=t2.at fun o e=>m2.extBut _ _ D.i2_TO e
 refine B0 (wpAny_letGo (B5 (B5 ?_)))
 refine B0 (B0z y2 rfl ?_);refine B0 (wpAny_newTuple ?_)
 have zl:z<p2.objs.size:=B2 z2
 show wpAny _ _ (Builtin.SmallTypes.ownedTupleHandOut (.ref z) (.ref p2.objs.size) >>= _) _ _ _;refine B0 ?_;unfold Builtin.SmallTypes.ownedTupleHandOut
 have za:IsZip (p2.push { cls:=.type "tuple",data:=.seq #[x1,x2] }) z TI TO .ellipsis:=B1 _ z2
 refine B0 (B1l za (by simp) fun pa zb ma=>?_)
 replace zb:IsZip pa z TI TO (rawInt p2.objs.size):=zb
 refine B1l zb (by simp) fun pb zc mb=>?_
 replace zc:IsZip pb z TI TO (rawInt p2.objs.size):=zc
 have up:∀ c o,c≠z->p2.get? c=some o->pb.get? c=some o:=fun c o c1 e=>mb.extBut _ _ c1 (ma.extBut _ _ c1 (B1 _ e))
 have tt:DI pb p2.objs.size #[x1,x2]:=mb.extBut _ _ (B0r zl) (ma.extBut _ _ (B0r zl) (L8 _ rfl))
 rw [r2] at zc tt
 refine B5 ⟨_,rfl,?_⟩
 show Q (.ref p2.objs.size) _
 rw [r2]
 exact q pb zc (up _ _ D.TO_z y2) (d1_2.at fun o e=>up _ o D.i1_z e) (d2_2.at fun o e=>up _ o D.i2_z e) tt fun c o c1 c2 c3 c4 e=>up c o c1 (w2 c o c1 c2 c3 c4 e)
theorem J2x {b1 b2:Bool}{z TI TO i1 i2 l1 l2:Addr}{k:Nat}{xs1 xs2:Array Value}{a1 a2:Value}{Q:Fin->Shared->Prop}(hh:A.handled=none)(D:ZAp2 z TI TO i1 i2 l1 l2)(hz:IsZip s.heap z TI TO .none)(hI:DI s.heap TI #[.ref i1,.ref i2])(hO:DI s.heap TO #[a1,a2])(d1:ItAt b1 s.heap i1 l1 k)(g1:SeqAt b1 s.heap l1 xs1)(d2:ItAt b2 s.heap i2 l2 k)(g2:SeqAt b2 s.heap l2 xs2)
 (e1:xs1[k]?=none) (q:∀ h' e,(∀ c o,c≠z->c≠TO->c≠i1->c≠i2->s.heap.get? c=some o->h'.get? c=some o)->(∃ o,h'.get? e=some o/\o.cls=.type "StopIteration")->E (.ref e) { s with heap:=h' }) :
 wpAny (model prog w) A (Builtin.«zip.__next__» ⟨[.ref z],[]⟩) Q E s:=by
 show wpAny _ _ (field (.ref z) 2 >>= _) _ _ _;refine B0 (U6 hz rfl (x:=.bool false) rfl ?_)
 show wpAny _ _ (field (.ref z) 3 >>= _) _ _ _;refine B0 (U6 hz rfl (x:=.ref TI) rfl ?_)
 refine B0 (B0z hI rfl ?_)
 show wpAny _ _ (Builtin.SmallTypes.ownedTupleIsFree (.ref z) >>= _) _ _ _;refine B0 ?_;unfold Builtin.SmallTypes.ownedTupleIsFree
 refine B0 (U6 hz rfl (x:=.none) rfl (B5 ?_));simp only [if_true];refine B0 (B1t ?_)
 refine B0 (U6 hz rfl (x:=.ref TO) rfl ?_);refine B0 (B1l hz (by simp) fun p0 z0 m0=>?_)
 replace z0:IsZip p0 z TI TO .ellipsis:=z0
 have y0:DI p0 TO #[a1,a2]:=m0.extBut _ _ D.TO_z hO
 have w0:∀ c o,c≠z->c≠TO->c≠i1->c≠i2->s.heap.get? c=some o->p0.get? c=some o:=fun c o c1 _ _ _ e=>m0.extBut _ _ c1 e
 have r0:p0.objs.size=s.heap.objs.size:=m0.1
 have d1_0:ItAt b1 p0 i1 l1 k:=d1.at fun o e=>m0.extBut _ _ D.i1_z e
 have g1_0:SeqAt b1 p0 l1 xs1:=g1.at fun o e=>m0.extBut _ _ D.l1_z e
 have d2_0:ItAt b2 p0 i2 l2 k:=d2.at fun o e=>m0.extBut _ _ D.i2_z e
 have g2_0:SeqAt b2 p0 l2 xs2:=g2.at fun o e=>m0.extBut _ _ D.l2_z e
 refine B0 ?_;simp only [List.zipIdx_cons,List.zipIdx_nil,B1q,B2u]
 refine B0 (B0 (wpAny_onRaise ?_));show wpAny _ _ (Builtin.SmallTypes.nextOf (.ref i1) >>= _) _ _ _
 refine B0 (J8f hh d1_0 g1_0 e1 fun u1 e n1 he=>?_)
 obtain ⟨oe,f1,f2⟩:=he
 have z1:IsZip u1 z TI TO .ellipsis:=n1 _ _ D.z_i1 z0
 have ez:e≠z:=fun x=>by subst x;rw [z1] at f1;cases f1;simp at f2
 refine B1l z1 (by simp) fun p1 _ m1=>q p1 e (fun c o c1 c2 c3 c4 x=>m1.extBut _ _ c1 (n1 _ _ c3 (w0 c o c1 c2 c3 c4 x))) ⟨oe,m1.extBut _ _ ez f1,f2⟩
end
section
variable {prog:Program}{w:World}{A:Around}{E:Value->Shared->Prop}{s:Shared}
def CU (b:Bool)(l:Addr):Obj:=match b with
 | false=>{ cls:=.type "list_iterator",data:=.fields #[.ref l,.int 0 0] }
 | true=>{ cls:=.type "tuple_iterator",data:=.fields #[.ref l,.int 0 0] }
theorem UT {b:Bool}{h:Heap}{u l:Addr}(e:h.get? u=some (CU b l)):ItAt b h u l 0:=by
 cases b with
 | false=>exact ⟨_,e,rfl,rfl⟩
 | true=>exact ⟨_,e,rfl,rfl⟩
theorem NZ (b:Bool)(l:Addr):(CU b l).isFreed=false:=by cases b<;>rfl
theorem TD {b:Bool}{l:Addr}{xs:Array Value}{Q:Value->Shared->Prop}(a:SeqAt b s.heap l xs)(q:Q (.ref s.heap.objs.size) { s with heap:=s.heap.push (CU b l) }):wpAny (model prog w) A (pyIter (.ref l)) Q E s:=by
 cases b with
 | false=>exact B1o a q
 | true=>exact wpAny_pyIter_tuple a q
end
section
variable {prog:Program}{w:World}{A:Around}{E:Value->Shared->Prop}{s:Shared}
abbrev zH2 (b1 b2:Bool)(l1 l2:Addr)(s:Shared):Heap:=(((((s.heap.push (CU b1 l1)).push (CU b2 l2)).push { cls:=.type "tuple",data:=.seq #[.ref s.heap.objs.size,.ref (s.heap.objs.size+1)] }).push { cls:=.type "tuple",data:=.seq #[.none,.none] }).push { cls:=.type "zip",data:=.fields #[.none,.bool false,.bool false,.ref (s.heap.objs.size+2),.ref (s.heap.objs.size+3)] })
theorem XJ (b1 b2:Bool)(l1 l2:Addr)(xs1 xs2:Array Value) :
 Meets (Builtin.«zip.__new__» ⟨[.type "zip",.ref l1,.ref l2],[]⟩) (fun _ R s=>SeqAt b1 s.heap l1 xs1/\SeqAt b2 s.heap l2 xs2/\R (.ok (.ret (.ref (s.heap.objs.size+4)))) { s with heap:=zH2 b1 b2 l1 l2 s }) :=
 .of_wp fun prog w A R s h=>by
  obtain ⟨hp,g,d,tk,os⟩:=s;obtain ⟨k1,k2,h⟩:=h
  have hs:=sub_zip
  have K1:SeqAt b1 (Shared.heap ⟨hp,g,d,tk,os⟩) l1 xs1:=k1.at fun o e=>e
  have K2:SeqAt b2 (Shared.heap ⟨(hp.push (CU b1 l1)),g,d,tk,os⟩) l2 xs2:=k2.at fun o e=>B1 _ (e)
  wp_walk using TD K1,TD K2
  simp only [E7] at *
  exact ⟨_,rfl,h⟩
theorem J2m {b1 b2:Bool}{l1 l2:Addr}{xs1 xs2:Array Value}{Q:Value->Shared->Prop}(k1:SeqAt b1 s.heap l1 xs1)(k2:SeqAt b2 s.heap l2 xs2)
 (q:∀ h',IsZip h' (s.heap.objs.size+4) (s.heap.objs.size+2) (s.heap.objs.size+3) .none->DI h' (s.heap.objs.size+2) #[.ref s.heap.objs.size,.ref (s.heap.objs.size+1)]->DI h' (s.heap.objs.size+3) #[.none,.none]->ItAt b1 h' (s.heap.objs.size) l1 0->ItAt b2 h' (s.heap.objs.size+1) l2 0->(∀ c o,s.heap.get? c=some o->h'.get? c=some o)->Q (.ref (s.heap.objs.size+4)) { s with heap:=h' }) :
 wpAny (model prog w) A (call (.type "zip") [.ref l1,.ref l2]) Q E s:=by
 refine callType_new F.called_zip (by decide) (F.typeCall_zip_2 _ _) (F.newCall_zip_2 _ _) (fun obj=>F.args_object_init_3 obj _ _) F.entry_zip_new (XJ b1 b2 l1 l2 xs1 xs2) ⟨k1,k2,?_⟩
 have z1:(s.heap.push (CU b1 l1)).objs.size=s.heap.objs.size+1:=by exact E7 ..
 have z2:((s.heap.push (CU b1 l1)).push (CU b2 l2)).objs.size=s.heap.objs.size+2:=by rw [E7,z1]
 have z3:(((s.heap.push (CU b1 l1)).push (CU b2 l2)).push { cls:=.type "tuple",data:=.seq #[.ref s.heap.objs.size,.ref (s.heap.objs.size+1)] }).objs.size=s.heap.objs.size+3:=by rw [E7,z2]
 have z4:((((s.heap.push (CU b1 l1)).push (CU b2 l2)).push { cls:=.type "tuple",data:=.seq #[.ref s.heap.objs.size,.ref (s.heap.objs.size+1)] }).push { cls:=.type "tuple",data:=.seq #[.none,.none] }).objs.size=s.heap.objs.size+4:=by rw [E7,z3]
 have g0:(zH2 b1 b2 l1 l2 s).get? s.heap.objs.size=some _:=B1 _ (B1 _ (B1 _ (B1 _ (L8 _ (NZ _ _)))))
 have g1:(zH2 b1 b2 l1 l2 s).get? (s.heap.push (CU b1 l1)).objs.size=some _:=B1 _ (B1 _ (B1 _ (L8 _ (NZ _ _))))
 rw [z1] at g1
 have g2:(zH2 b1 b2 l1 l2 s).get? ((s.heap.push (CU b1 l1)).push (CU b2 l2)).objs.size=some _:=B1 _ (B1 _ (L8 _ rfl))
 rw [z2] at g2
 have g3:(zH2 b1 b2 l1 l2 s).get? (((s.heap.push (CU b1 l1)).push (CU b2 l2)).push { cls:=.type "tuple",data:=.seq #[.ref s.heap.objs.size,.ref (s.heap.objs.size+1)] }).objs.size=some _:=B1 _ (L8 _ rfl)
 rw [z3] at g3
 have g4:(zH2 b1 b2 l1 l2 s).get? ((((s.heap.push (CU b1 l1)).push (CU b2 l2)).push { cls:=.type "tuple",data:=.seq #[.ref s.heap.objs.size,.ref (s.heap.objs.size+1)] }).push { cls:=.type "tuple",data:=.seq #[.none,.none] }).objs.size=some _:=L8 _ rfl
 rw [z4] at g4
 exact ⟨⟨_,g4,rfl⟩,q _ g4 g2 g3 (UT g0) (UT g1) fun c o x=>B1 _ (B1 _ (B1 _ (B1 _ (B1 _ x))))⟩
end
def Q7f (K:Fg)(b1 b2:Bool)(l1 l2:Addr):It :=
 ⟨fun i H=>∃ ys1 ys2 y1 y2,SqX K b1 H l1 ys1/\ys1[i]?=some y1/\SqX K b2 H l2 ys2/\ys2[i]?=some y2,
  fun i H v H'=>∃ t y1 y2,v=.ref t/\H t=none/\H'=upd H t (.tup [y1,y2])/\(∀ ys,SqX K b1 H l1 ys->ys[i]?=some y1)/\(∀ ys,SqX K b2 H l2 ys->ys[i]?=some y2),
  fun i H=>(∃ ys,SqX K b1 H l1 ys/\ys.length<=i)/\(∃ ys,SqX K b2 H l2 ys)⟩
structure ZFp2 (z TI TO i1 i2:Addr):Prop where
 z_TI:z≠TI
 z_TO:z≠TO
 z_i1:z≠i1
 z_i2:z≠i2
 TI_z:TI≠z
 TI_TO:TI≠TO
 TI_i1:TI≠i1
 TI_i2:TI≠i2
 TO_z:TO≠z
 TO_TI:TO≠TI
 TO_i1:TO≠i1
 TO_i2:TO≠i2
 i1_z:i1≠z
 i1_TI:i1≠TI
 i1_TO:i1≠TO
 i1_i2:i1≠i2
 i2_z:i2≠z
 i2_TI:i2≠TI
 i2_TO:i2≠TO
 i2_i1:i2≠i1
def V1k (b1 b2:Bool)(z TI TO i1 i2 l1 l2:Addr)(i:Nat)(h:Heap):Prop:=IsZip h z TI TO .none/\DI h TI #[.ref i1,.ref i2]/\(∃ a1 a2,DI h TO #[a1,a2])/\ItAt b1 h i1 l1 i/\ItAt b2 h i2 l2 i
theorem J0u {w:World} {elts:List Expr}{c1}{tpos:Pos}{b1 b2:Bool}{z TI TO i1 i2 l1 l2:Addr}(Z:ZFp2 z TI TO i1 i2):Turn P w K (.Tuple elts c1 tpos) (Q7f K b1 b2 l1 l2) [z,TI,TO,i1,i2] z (V1k b1 b2 z TI TO i1 i2 l1 l2) where
 mem:=by simp
 obj:=fun i h st b hb=>by
  obtain ⟨s1,s2,⟨a1,a2,s3⟩,d1,d2⟩:=st
  simp only [B7,M8,W3] at hb
  rcases hb with rfl|rfl|rfl|rfl|rfl
  · exact ⟨_,s1,fun v q=>by cases q⟩
  · exact ⟨_,s2,fun v q=>by cases q⟩
  · exact ⟨_,s3,fun v q=>by cases q⟩
  · exact d1.obj
  · exact d2.obj
 keep:=fun i h h' st k=>by
  obtain ⟨s1,s2,⟨a1,a2,s3⟩,d1,d2⟩:=st
  exact ⟨k z (by simp) _ s1,k TI (by simp) _ s2,⟨a1,a2,k TO (by simp) _ s3⟩,d1.at fun o e=>k i1 (by simp) o e,d2.at fun o e=>k i2 (by simp) o e⟩
 item:=by
  intro X hP hw hK hc i pins s σ H E I hf st hg
  subst hP hw hK
  obtain ⟨ys1,ys2,y1,y2,h1,q1,h2,q2⟩:=hg
  obtain ⟨s1,s2,⟨a1,a2,s3⟩,d1,d2⟩:=st
  obtain ⟨v1,r1,p1,_⟩:=I.seqX h1
  obtain ⟨u1,m1,t1⟩:=r1.get q1
  obtain ⟨v2,r2,p2,_⟩:=I.seqX h2
  obtain ⟨u2,m2,t2⟩:=r2.get q2
  have D:ZAp2 z TI TO i1 i2 l1 l2:={ z_TI:=Z.z_TI,z_TO:=Z.z_TO,z_i1:=Z.z_i1,z_i2:=Z.z_i2,TI_z:=Z.TI_z,TI_TO:=Z.TI_TO,TI_i1:=Z.TI_i1,TI_i2:=Z.TI_i2,TO_z:=Z.TO_z,TO_TI:=Z.TO_TI,TO_i1:=Z.TO_i1,TO_i2:=Z.TO_i2,i1_z:=Z.i1_z,i1_TI:=Z.i1_TI,i1_TO:=Z.i1_TO,i1_i2:=Z.i1_i2,i2_z:=Z.i2_z,i2_TI:=Z.i2_TI,i2_TO:=Z.i2_TO,i2_i1:=Z.i2_i1,l1_z:=I.seqX_ne h1 (hf z (by simp)),l1_TI:=I.seqX_ne h1 (hf TI (by simp)),l1_TO:=I.seqX_ne h1 (hf TO (by simp)),l1_i1:=I.seqX_ne h1 (hf i1 (by simp)),l1_i2:=I.seqX_ne h1 (hf i2 (by simp)),l2_z:=I.seqX_ne h2 (hf z (by simp)),l2_TI:=I.seqX_ne h2 (hf TI (by simp)),l2_TO:=I.seqX_ne h2 (hf TO (by simp)),l2_i1:=I.seqX_ne h2 (hf i1 (by simp)),l2_i2:=I.seqX_ne h2 (hf i2 (by simp)) }
  have hT:s.TypeIs (.ref z) "zip":=⟨_,s1,rfl⟩
  have szn:∀ b∈[z,TI,TO,i1,i2],b≠s.heap.objs.size:=fun b hb e=>by
   simp only [B7,M8,W3] at hb
   rcases hb with rfl|rfl|rfl|rfl|rfl
   · exact L5 _ (e▸B2 s1)
   · exact L5 _ (e▸B2 s2)
   · exact L5 _ (e▸B2 s3)
   · obtain ⟨_,w1,_⟩:=d1.obj;exact L5 _ (e▸B2 w1)
   · obtain ⟨_,w1,_⟩:=d2.obj;exact L5 _ (e▸B2 w1)
  unfold pyNext
  refine B0 (wpAny_attempt (wpAny_callSpecial?_slot (name:=Str.ofString "__next__") hT F.slot_zip_next (B1c F.slot_zip_next hT F.entry_zip_next (J0q D s1 s2 s3 d1 p1 d2 p2 (x1:=u1) (by simpa using m1) (x2:=u2) (by simpa using m2) fun h' e1 e2 f1 f2 e3 kp=>B5 ?_) (F.args_zip_next_1 _))))
  refine ⟨_,rfl,wpAny_letOwnedTupleGo_zip (s:={ s with heap:=h' }) e1 fun hq e4 sb=>?_⟩
  have up:∀ b o,b≠z->h'.get? b=some o->hq.get? b=some o:=fun b o hb e=>sb.extBut _ _ hb e
  have I2:Inv X pins σ (upd H s.heap.objs.size (.tup [y1,y2])) { s with heap:=hq }:=I.zipped (t':=s.toks) (fp:=[z,TI,TO,i1,i2]) hf (fun b o hb e=>up b o (fun x=>hb (by simp [x])) (kp b o (fun x=>hb (by simp [x])) (fun x=>hb (by simp [x])) (fun x=>hb (by simp [x])) (fun x=>hb (by simp [x])) e)) (B6 _)
   ⟨M7 (M3 rfl) AZ,[u1,u2],.cons t1 (.cons t2 (.nil)),⟨_,up _ _ (B0c (szn z (by simp))) e3,rfl,_,rfl⟩⟩
  refine ⟨.ref s.heap.objs.size,_,I2,rfl,⟨_,y1,y2,rfl,I.hok.fresh (B6 _),rfl,fun ys hy=>by rw [I.seqX_inj hy h1];exact q1,fun ys hy=>by rw [I.seqX_inj hy h2];exact q2⟩,⟨e4,up _ _ D.TI_z (kp _ _ D.TI_z D.TI_TO D.TI_i1 D.TI_i2 s2),⟨_,_,up _ _ D.TO_z e2⟩,f1.at fun o e=>up _ o D.i1_z e,f2.at fun o e=>up _ o D.i2_z e⟩,fun b hb=>?_⟩
  rw [Q9 (szn b hb)]
  exact (hf b hb).1
 done:=by
  intro X hP hw hK hc i pins s σ H E I hf st hg
  subst hP hw hK
  obtain ⟨⟨ys1,h1,q1⟩,⟨ys2,h2⟩⟩:=hg
  obtain ⟨s1,s2,⟨a1,a2,s3⟩,d1,d2⟩:=st
  obtain ⟨v1,r1,p1,_⟩:=I.seqX h1
  obtain ⟨v2,r2,p2,_⟩:=I.seqX h2
  have D:ZAp2 z TI TO i1 i2 l1 l2:={ z_TI:=Z.z_TI,z_TO:=Z.z_TO,z_i1:=Z.z_i1,z_i2:=Z.z_i2,TI_z:=Z.TI_z,TI_TO:=Z.TI_TO,TI_i1:=Z.TI_i1,TI_i2:=Z.TI_i2,TO_z:=Z.TO_z,TO_TI:=Z.TO_TI,TO_i1:=Z.TO_i1,TO_i2:=Z.TO_i2,i1_z:=Z.i1_z,i1_TI:=Z.i1_TI,i1_TO:=Z.i1_TO,i1_i2:=Z.i1_i2,i2_z:=Z.i2_z,i2_TI:=Z.i2_TI,i2_TO:=Z.i2_TO,i2_i1:=Z.i2_i1,l1_z:=I.seqX_ne h1 (hf z (by simp)),l1_TI:=I.seqX_ne h1 (hf TI (by simp)),l1_TO:=I.seqX_ne h1 (hf TO (by simp)),l1_i1:=I.seqX_ne h1 (hf i1 (by simp)),l1_i2:=I.seqX_ne h1 (hf i2 (by simp)),l2_z:=I.seqX_ne h2 (hf z (by simp)),l2_TI:=I.seqX_ne h2 (hf TI (by simp)),l2_TO:=I.seqX_ne h2 (hf TO (by simp)),l2_i1:=I.seqX_ne h2 (hf i1 (by simp)),l2_i2:=I.seqX_ne h2 (hf i2 (by simp)) }
  have hT:s.TypeIs (.ref z) "zip":=⟨_,s1,rfl⟩
  have hl:=r1.length
  unfold pyNext
  refine B0 (wpAny_attempt (wpAny_callSpecial?_slot (name:=Str.ofString "__next__") hT F.slot_zip_next (B1c F.slot_zip_next hT F.entry_zip_next (J2x (I.ok.hd hc) D s1 s2 s3 d1 p1 d2 p2 (by simp;omega) fun h' e kp he=>?_) (F.args_zip_next_1 _))))
  obtain ⟨oe,f1,f2⟩:=he
  refine B0 (wpAny_isInstance (T:="StopIteration") (b:=true) ⟨oe,f1,f2⟩ isSubtype_stop (B5 ⟨rfl,?_⟩))
  exact I.turnedL (t':=s.toks) (fp:=[z,TI,TO,i1,i2]) hf fun b o hb e=>kp b o (fun x=>hb (by simp [x])) (fun x=>hb (by simp [x])) (fun x=>hb (by simp [x])) (fun x=>hb (by simp [x])) e
 self:=fun _ _ _ _ _ st h=>wpAny_pyIter_zip st.1 h
def J5n (K:Fg)(b1 b2:Bool)(ta:TA):TI:=fun σ H R=>ta σ H fun vs H1=>∃ l1 l2,vs=[.ref l1,.ref l2]/\(∃ ys,SqX K b1 H1 l1 ys)/\(∃ ys,SqX K b2 H1 l2 ys)/\R (Q7f K b1 b2 l1 l2) H1
theorem YY {X:Cx}{elts:List Expr}{c1}{tpos:Pos}(K:Fg)(hK:X.K=K)(b1 b2:Bool){e1 e2:Expr}{ta:TA}{p pos:Pos}(hg:Gl X "zip") (hm:X.mg "zip" = none) (ha:PA X [e1,e2] ta)
 (hs:starEach [e1,e2] X.env=[(false,eval e1 X.env),(false,eval e2 X.env)]:=by rfl) (hs2:starEach [e2] X.env=[(false,eval e2 X.env)]:=by rfl) :
 PI X (.Tuple elts c1 tpos) (.Call (.Name "zip" p) [e1,e2] [] pos) (J5n K b1 b2 ta):=by
 subst hK
 intro pins s σ H R I h
 refine Call_ (JL I hg hm Q6o (D8 (thn (ha pos pins s σ H _ I h) fun us s1 ⟨vs,H1,I1,r1,q1⟩=>?_) (by rw [hs,hs2]) (by rw [hs2];rfl)))
 obtain ⟨l1,l2,e,⟨ys1,h1⟩,⟨ys2,h2⟩,q⟩:=q1
 subst e
 obtain ⟨u1,u2,rfl,t1,t2⟩:=SY r1
 cases t1
 cases t2
 obtain ⟨v1,r1,p1,_⟩:=I1.seqX h1
 obtain ⟨v2,r2,p2,_⟩:=I1.seqX h2
 refine J2m p1 p2 fun h' f1 f2 f3 g1 g2 kp=>?_
 refine wpAny_pyIter_zip (s:={ s1 with heap:=h' }) f1 ?_
 refine ⟨s1.heap.objs.size+4,[s1.heap.objs.size+4,s1.heap.objs.size+2,s1.heap.objs.size+3,s1.heap.objs.size,s1.heap.objs.size+1],_,_,H1,rfl,I1.kept (t':=s1.toks) kp,J0u (b1:=b1) (TI:=s1.heap.objs.size+2) (TO:=s1.heap.objs.size+3) (i1:=s1.heap.objs.size) (i2:=s1.heap.objs.size+1) (l1:=l1) (l2:=l2) ⟨by show (_:Nat)≠_;omega,by show (_:Nat)≠_;omega,by show (_:Nat)≠_;omega,by show (_:Nat)≠_;omega,by show (_:Nat)≠_;omega,by show (_:Nat)≠_;omega,by show (_:Nat)≠_;omega,by show (_:Nat)≠_;omega,by show (_:Nat)≠_;omega,by show (_:Nat)≠_;omega,by show (_:Nat)≠_;omega,by show (_:Nat)≠_;omega,by show (_:Nat)≠_;omega,by show (_:Nat)≠_;omega,by show (_:Nat)≠_;omega,by show (_:Nat)≠_;omega,by show (_:Nat)≠_;omega,by show (_:Nat)≠_;omega,by show (_:Nat)≠_;omega,by show (_:Nat)≠_;omega⟩,⟨f1,f2,⟨_,_,f3⟩,g1,g2⟩,fun b hb=>?_,q⟩
 have hge:s1.heap.objs.size<=b:=by
  simp only [B7,M8,W3] at hb
  rcases hb with rfl|rfl|rfl|rfl|rfl<;>first|exact B6 _|exact Nat.le_add_right _ _
 exact I1.fpOk hge (I1.hok.fresh hge)
section
variable {X:Cx}
theorem J4k {x:Str}{n:Int}{pos:Pos}(hg:Gl X x)(hm:∃ t,X.mg x=some (.int n t))(hd:(x==("__debug__" : Str))=false:=by decide):PE X (.Name x pos) (tC (.int n)):=by
 obtain ⟨t,e⟩:=hm
 exact J8x hg e ⟨t,rfl⟩ hd
theorem ZD:∀ cs:List (Int×Nat×Pos),PA X (cs.map fun c=>.Constant (.int c.1) c.2.1 c.2.2) (fun σ H Q=>Q (cs.map fun c=>V.int c.1) H)
 | []=>ES
 | c::cs=>by
   intro pos pins s σ H Q I h
   exact BC (e:=.Constant (.int c.1) c.2.1 c.2.2) AA (ZD cs) (by rfl) pos pins s σ H Q I h
theorem WU {es:List Expr}{x1}{pos:Pos}(cs:List (Int×Nat×Pos))(h:es=cs.map fun c=>.Constant (.int c.1) c.2.1 c.2.2):PE X (.Tuple es x1 pos) (Q7l fun σ H Q=>Q (cs.map fun c=>V.int c.1) H):=by
 subst h
 exact J4g (ZD cs)
theorem J3z {sts0:List Stmt}{t:TS}(h:PSs X sts0 t):∀ {sts:List Stmt},PSs X sts (fun D σ H=>sts=sts0/\t D σ H):=by
 intro sts pins s σ H D I q
 obtain ⟨e,q⟩:=q
 subst e
 exact h pins s σ H D I q
end
theorem J0z {X:Cx}(K:Fg)(h:X.K=K):SlR X (J3v K):=by subst h;exact J8h
section
variable {X:Cx}{x:Str}{C:Addr}{bm bmN:List Value}{newId Bn inN B nid initId:String}{e0:Expr}{rest:List Expr}{t:TA}{np cpos pos:Pos}
theorem J4b (O:OwnCls x C bm newId X.mg X.base)(Fn:ExcBaseFacts Bn newId inN bmN)(hBn:bm.contains (.type Bn)=true)(FB:ExcBaseFacts B nid initId bm)(hc:X.calm=true)(hg:Gl X x)(E:XK)
 (hx:∀ (pins:List (Addr×Obj)) (σ:St) (H:Hp) (s:Shared) (h':Heap) (e:Addr) (us:List Value),Inv X pins σ H s->Heap.MadeExcOf s.heap h' e (.ref C) us->E (.ref C) none H->X.xe (.ref e) { s with heap:=h' })
 (ha:PA X (e0::rest) t) (hz:∀ σ H Q,t σ H Q->t σ H fun vs H1=>vs.length<=sizeLine/\Q vs H1)
 (he:starEach (e0::rest) X.env=(false,eval e0 X.env)::starEach rest X.env:=by rfl) (hpl:(backTo cpos (starEach rest X.env)).any (·.1)=false:=by rfl) (hd:(x==("__debug__" : Str))=false:=by decide) :
 PS X (.Raise (some (.Call (.Name x np) (e0::rest) [] cpos)) none pos) (fun _ σ H=>t σ H fun _ H1=>E (.ref C) none H1):=by
 intro pins s σ H D I q
 obtain ⟨tl,N,nm,qn,bs,hdct,sn,sub,ab,col,dd,k0,k1,k2,k3,k5,mN,hC,hN,hni,T⟩:=O.obj
 refine wpAny_Raise_call_subU (C:=C) (nm:=nm) (q:=qn) (N:=N) (bs:=bs) (bm:=tl) (hdct:=hdct) (sn:=sn) (sub:=sub) (ab:=ab) (col:=col) (dd:=dd) (k0:=k0) (k1:=k1) (k2:=k2) (k3:=k3) (k5:=k5)
  Fn hBn FB (mN:=mN) (T.hasType FB.hasBase) (I.ok.hd hc) (by rw [he];show (false||(backTo cpos (starEach rest X.env)).any (·.1))=false;rw [hpl];rfl) hni (MP I hg O.bound ⟨rfl,?_⟩ hd)
 have h1:=ha cpos pins s σ H _ I (hz _ _ _ q)
 rw [he] at h1 ⊢
 refine Calls.evalArgs_plain (U7 h1 (fun us s2 ⟨vs,H1,I1,r,z,w⟩=>⟨rfl,by rw [<- r.length];exact z,I1.bk _ _ hC,hN.keeps I1.bk,T.keeps I1.bk,fun h' e hm=>hx pins σ H1 s2 h' e us I1 hm w⟩) fun _ _ y=>y)
end
section
variable {M:Model}{A:Around}{E:Value->Shared->Prop}{s:Shared}
structure Gone (fs:List Addr)(x:Addr)(ox:Obj)(old:List Addr)(h h':Heap)(T:Addr):Prop where
 keep:∀ b o,b∉fs->b≠x->b∉old->h.get? b=some o->h'.get? b=some o
 slot:∀ b o,b∈fs->h.get? b=some o->∃ sl,h'.get? b=some { o with slots:=sl }
 new:h.objs.size<=T
 exc:h'.get? x=some (ox.mapFields (·.setIfInBounds 1 (.ref T)))
 tr:∃ oT ts,h'.get? T=some oT/\oT.data=.fields ts/\ts[3]?=some .none
theorem JN {env:Env}{outer:List Env}{L x:Addr}{ox:Obj}{vs:Array Value}{hd:Value}{nx:Bool}{Q:Unit->Shared->Prop}(f1:A.frames=some (env::outer))(f2:s.heap.FunFrames base (env::outer))(f3:env.frame=some L)
 (x1:s.heap.get? x=some ox) (x2:ox.data=.fields vs) (x3:1<vs.size) (q:∀ h' T,Gone ((env::outer).filterMap (·.frame)) x ox [] s.heap h' T->Q () { s with heap:=h' }) :
 wpAny M A (do let a <- frameOf env;let pl <- entryPlaceOf L nx;let b <- EntryCells.newEntry hd a .none (rawInt L) .none pl;setField (.ref x) 1 b) (fun _ s'=>wpAny M A (setFlight (.ref x) none) Q E s') E s:=by
 have xf:x∉(env::outer).filterMap (·.frame):=fun hm=>by
  obtain ⟨_,o,e1,e2⟩:=f2.mem hm
  rw [x1] at e1
  cases e1
  exact e2 vs x2
 refine B0 (wpAny_frameOf_fun f1 f2 f3 fun g1 m1=>B0 (wpAny_entryPlaceOf fun pl hpl=>?_))
 unfold EntryCells.newEntry newFields
 refine B0 (W9 ?_ (hpl.sizeOk5 _ _ _ _ _))
 generalize hob:({ cls:=.type "traceback",dict:=none,data:=.fields ([hd,.ref L,.none,rawInt L,.none]++(if pl.isEmpty then List.replicate 6 Value.none else pl)).toArray }:Obj)=ob
 have dob:ob.data=.fields ([hd,.ref L,.none,rawInt L,.none]++(if pl.isEmpty then List.replicate 6 Value.none else pl)).toArray:=by rw [<- hob]
 have lob:ob.isFreed=false:=B1r dob
 have xg1:g1.get? x=some ox:=(m1.2.1 x xf).trans x1
 have xg2:=B1 (h:=g1) ob xg1
 refine B0y xg2 x2 x3 ?_
 have nTx:g1.objs.size≠x:=B0r (B2 xg1)
 have dx:=B0e x2 (·.setIfInBounds 1 (Value.ref g1.objs.size))
 have xg3:=B0u (Obj.mapFields (·.setIfInBounds 1 (Value.ref g1.objs.size))) xg2 (B1r dx)
 have tg3:=(U3 (g1.push ob) (Obj.mapFields (·.setIfInBounds 1 (Value.ref g1.objs.size))) (B0c nTx)).trans (L8 g1 lob)
 unfold setFlight
 refine B0 (U6 xg3 dx (x:=.ref g1.objs.size) (by simp [x3]) ?_)
 rw [if_pos (show (Value.ref g1.objs.size != Value.none)=true from by simp)]
 refine B0y tg3 dob (by simp only [L9,T1,W5,List.length_nil]<;>omega) (q _ g1.objs.size ⟨?_,?_,?_,?_,?_⟩)
 · intro b o nf nx' _ e
   have e1:g1.get? b=some o:=(m1.2.1 b nf).trans e
   rw [U3 _ _ (B0r (B2 e1)),U3 _ _ (B0c nx')]
   exact B1 _ e1
 · intro b o hb e
   obtain ⟨sl,e1⟩:=m1.2.2 b o e
   refine ⟨sl,?_⟩
   have nbx:b≠x:=fun z=>xf (z▸hb)
   rw [U3 _ _ (B0r (B2 e1)),U3 _ _ (B0c nbx)]
   exact B1 _ e1
 · rw [m1.1]
   exact B6 _
 · rw [U3 _ _ nTx]
   exact xg3
 · refine ⟨_,_,B0u _ tg3 (B1r (B0e dob _)),B0e dob _,?_⟩
   first|(simp;done)|(rcases hpl with rfl|⟨_,_,_,_,_,_,_,rfl⟩<;>simp)
theorem UR {env:Env}{outer:List Env}{L x:Addr}{ox:Obj}{vs:Array Value}{Q:Unit->Shared->Prop}(f1:A.frames=some (env::outer))(f2:s.heap.FunFrames base (env::outer))(f3:env.frame=some L)
 (x1:s.heap.get? x=some ox) (x2:ox.data=.fields vs) (x3:vs[1]?=some .none) (q:∀ h' T,Gone ((env::outer).filterMap (·.frame)) x ox [] s.heap h' T->Q () { s with heap:=h' }):wpAny M A (leaving env (.ref x)) Q E s:=by
 unfold leaving noteFrame;simp only [f3]
 refine B0 (B0 (U6 x1 x2 x3 ?_));rw [if_neg (by decide)]
 exact JN f1 f2 f3 x1 x2 (U8.mp x3).1 q
theorem XN {env:Env}{outer:List Env}{L x T0:Addr}{ox oT:Obj}{vs ts:Array Value}{Q:Unit->Shared->Prop}(f1:A.frames=some (env::outer))(f2:s.heap.FunFrames base (env::outer))(f3:env.frame=some L)
 (x1:s.heap.get? x=some ox) (x2:ox.data=.fields vs) (x3:vs[1]?=some (.ref T0)) (t1:s.heap.get? T0=some oT) (t2:oT.data=.fields ts) (t3:ts[3]?=some .none) (tx:T0≠x)
 (q:∀ h' T,Gone ((env::outer).filterMap (·.frame)) x ox [T0] s.heap h' T->Q () { s with heap:=h' }):wpAny M A (leaving env (.ref x)) Q E s:=by
 unfold leaving noteFrame;simp only [f3]
 refine B0 (B0 (U6 x1 x2 x3 ?_));rw [if_pos (show (Value.ref T0 != Value.none)=true from by simp)]
 refine B0 (U6 t1 t2 t3 ?_);rw [if_neg (show ¬ ((Value.none==rawInt L)=true) from by simp [rawInt])]
 refine B0 (B0y t1 t2 (U8.mp t3).1 ?_)
 have oth:∀ b,b≠T0->(s.heap.update T0 (Obj.mapFields (·.setIfInBounds 3 Value.none))).get? b=s.heap.get? b:=fun b hb=>U3 _ _ (B0c hb)
 have nrec:∀ b o,s.heap.get? b=some o->(∀ vs,o.data≠.fields vs)->b≠T0:=fun b o e n z=>by
  rw [z,t1] at e
  cases e
  exact n ts t2
 have fT:∀ b∈(env::outer).filterMap (·.frame),b≠T0:=fun b hb=>by
  obtain ⟨_,o,e1,e2⟩:=f2.mem hb
  exact nrec b o e1 e2
 refine JN f1 (f2.of_keeps fun b o e n=>⟨o,(oth b (nrec b o e n)).trans e,rfl⟩) f3 ((oth x (B0c tx)).trans x1) x2 (U8.mp x3).1 fun h' T g=>q h' T ⟨?_,?_,?_,g.exc,g.tr⟩
 · intro b o nf nx no e
   exact g.keep b o nf nx (by simp) ((oth b (by simpa using no)).trans e)
 · intro b o hb e
   exact g.slot b o hb ((oth b (fT b hb)).trans e)
 · have:=g.new
   simpa using this
end
theorem ObjOk.ex {w:World}{H:Hp}{h:Heap}{a:Addr}{o:HO}(x:ObjOk P w H h a o):∃ ob,h.get? a=some ob:=by
 cases o with
 | lst xs=>obtain ⟨_,_,_,_,e⟩:=x;exact ⟨_,e⟩
 | tup xs=>obtain ⟨_,_,_,ob,e,_⟩:=x;exact ⟨_,e⟩
 | dK kvs=>obtain ⟨_,_,_,_,o,_,_,e,_⟩:=x;exact ⟨_,e⟩
 | dT kvs=>obtain ⟨_,_,_,_,o,_,_,e,_⟩:=x;exact ⟨_,e⟩
 | set S n=>obtain ⟨o,_,_,_,e,_⟩:=x;exact ⟨_,e⟩
 | ins C dx fs=>obtain ⟨_,_,_,e,_⟩:=x;exact ⟨_,e⟩
 | own y=>exact x
 | xd fs=>obtain ⟨_,⟨_,_,_,e,_⟩,_⟩:=x;exact ⟨_,e⟩
 | rng lo hi=>obtain ⟨_,_,_,e⟩:=x;exact ⟨_,e⟩
 | frz ob u=>obtain ⟨e,_⟩:=x;exact ⟨_,e⟩
 | tbl ps=>exact ⟨_,(show h.get? a=some _ from x)⟩
 | cod q=>obtain ⟨_,e,_⟩:=x;exact ⟨_,e⟩
 | met f y=>exact ⟨_,(show h.get? a=some _ from x)⟩
 | ext φ=>obtain ⟨_,e,_⟩:=x;exact e
theorem QJ (o:Obj)(f:Array Value->Array Value):(o.mapFields f).dict=o.dict:=by unfold Obj.mapFields;split<;>rfl
def Exd (H:Hp)(base g h:Heap)(x C:Addr):Prop:=H x=none/\base.get? x=none/\g.get? x=none/\∃ ox vs T oT ts,h.get? x=some ox/\ox.cls=.ref C/\ox.dict=none/\ox.data=.fields vs/\vs[1]?=some (.ref T)/\vs[2]?=some .none /\
 T≠x/\H T=none/\base.get? T=none/\g.get? T=none/\h.get? T=some oT/\oT.data=.fields ts/\ts[3]?=some .none
def CX1 (P:Program)(w:World)(base:Heap):CXT:=fun outer H s E e s'=>∃ (x C:Addr) (H':Hp),e=.ref x/\s'.os=s.os/\AllBare s'.gens/\Un (frs outer) [] H H' s.heap s'.heap/\HOk P w H' s'.heap/\Exd H' base s.heap s'.heap x C/\E (.ref C) none H'
theorem J2y {P:Program}{w:World}{K:Fg}{mg:Str->Option Value}{base:Heap}{N:List Str}{qual:Str}{scope:Scope}{f:Addr}{cd:Value}{A:Around}{outer:List Env}{s:Shared}{H:Hp}{E:XK}{C:Addr}
 (pins:List (Addr×Obj)) (σ:St) (H1:Hp) (s1:Shared) (h':Heap) (e:Addr) (us:List Value) (I:Inv (BQ (CX1 P w base) P w K mg base N qual scope f cd A outer s H E) pins σ H1 s1) (hm:Heap.MadeExcOf s1.heap h' e (.ref C) us) (q:E (.ref C) none H1) :
 (BQ (CX1 P w base) P w K mg base N qual scope f cd A outer s H E).xe (.ref e) { s1 with heap:=h' }:=by
 obtain ⟨t,e1,e2,e3⟩:=hm.there
 have nH:∀ b,s1.heap.get? b=none->H1 b=none:=fun b hb=>by
  cases z:H1 b with
  | none=>rfl
  | some o =>
    obtain ⟨ob,eo⟩:∃ ob,s1.heap.get? b=some ob:=(I.hok b o z).ex
    rw [hb] at eo
    cases eo
 have hst:s1.heap.FunFrames base (envOfC qual scope s.heap.objs.size f cd::outer):=I.stack
 have hfree:∀ b∈frs (envOfC qual scope s.heap.objs.size f cd::outer),H1 b=none:=I.stkFree
 show wpAny (model P w) (A.deeper (envOfC qual scope s.heap.objs.size f cd)) (leaving (envOfC qual scope s.heap.objs.size f cd) (.ref e)) _ _ { s1 with heap:=h' }
 refine UR (s:={ s1 with heap:=h' }) (base:=base) I.ok.frames (hst.of_keeps fun b o eb _=>⟨o,hm.keeps b o eb,rfl⟩) rfl e1 rfl rfl fun h2 T g=>?_
 have lt1:∀ b o,s1.heap.get? b=some o->b<h'.objs.size:=fun b o eb=>B2 (hm.keeps b o eb)
 have neE:∀ b o,s1.heap.get? b=some o->b≠e:=fun b o eb z=>by rw [z,hm.new] at eb;cases eb
 have kp:∀ b o,b∉frs (envOfC qual scope s.heap.objs.size f cd::outer)->s1.heap.get? b=some o->h2.get? b=some o:=fun b o nf eb=>g.keep b o nf (neE b o eb) (by simp) (hm.keeps b o eb)
 have sl:∀ b o,b∈frs (envOfC qual scope s.heap.objs.size f cd::outer)->s1.heap.get? b=some o->∃ z,h2.get? b=some { o with slots:=z }:=fun b o hb eb=>g.slot b o hb (hm.keeps b o eb)
 have nTo:∀ b o,s1.heap.get? b=some o->b≠T:=fun b o eb z=>by
  have h1:=lt1 b o eb
  rw [z] at h1
  exact absurd (L3 h1 g.new) (L5 _)
 have baseK:∀ b o,base.get? b=some o->s1.heap.get? b=some o:=I.bk
 have nf:∀ b o,s.heap.get? b=some o->b∉frs outer->b∉frs (envOfC qual scope s.heap.objs.size f cd::outer):=fun b o eb nb hb=>by
  rcases B7.mp (show b∈s.heap.objs.size::frs outer from hb) with z|z
  · exact absurd (B2 eb) (by rw [z];exact L5 _)
  · exact nb z
 have tH:H1 T=none:=by
  cases z:H1 T with
  | none=>rfl
  | some o =>
    obtain ⟨ob,eo⟩:=(I.hok T o z).ex
    exact absurd rfl (nTo T ob eo)
 have U:Un (frs outer) [] H H1 s.heap s1.heap:=I.base
 refine ⟨e,C,H1,rfl,I.os,I.bare,⟨fun b o eb n hb hx=>kp b o (nf b o eb hb) (U.keep b o eb n hb hx),fun b o eb n hb hx=>?_,U.free,fun b o eb hx=>?_,U.tups,U.frzs,U.tbls⟩,fun b o eb=>?_,⟨nH e hm.new,?_,?_,?_⟩,q⟩
 · obtain ⟨z,e4⟩:=U.slot b o eb n hb hx
   obtain ⟨z',e5⟩:=sl b _ (L6 _ hb) e4
   exact ⟨z',e5⟩
 · obtain ⟨o',e4⟩:=U.there b o eb hx
   by_cases hb:b∈frs (envOfC qual scope s.heap.objs.size f cd::outer)
   · obtain ⟨z,e5⟩:=sl b o' hb e4
     exact ⟨_,e5⟩
   · exact ⟨o',kp b o' hb e4⟩
 · refine (I.hok b o eb).stay (fun c v hc ev=>kp c v (fun hb=>?_) ev) (fun _ z=>z) fun _ _ z=>z
   have:=hfree c hb
   rcases hc with z|z
   · rw [z,eb] at this
     cases this
   · rw [z] at this
     cases this
 · cases z:base.get? e with
   | none=>rfl
   | some o=>exact absurd rfl (neE e o (baseK e o z))
 · cases z:s.heap.get? e with
   | none=>rfl
   | some o =>
     obtain ⟨o',e4⟩:=U.there e o z (by simp)
     exact absurd rfl (neE e o' e4)
 · obtain ⟨oT,ts,g1,g2,g3⟩:=g.tr
   refine ⟨_,_,T,oT,ts,g.exc,rfl,rfl,rfl,rfl,rfl,?_,tH,?_,?_,g1,g2,g3⟩
   · intro z
     have:=B2 e1
     rw [<- z] at this
     exact absurd (L3 this g.new) (L5 _)
   · cases z:base.get? T with
     | none=>rfl
     | some o=>exact absurd rfl (nTo T o (baseK T o z))
   · cases z:s.heap.get? T with
     | none=>rfl
     | some o =>
       obtain ⟨o',e4⟩:=U.there T o z (by simp)
       exact absurd rfl (nTo T o' e4)
theorem Inv.raised {X:Cx}{pins:List (Addr×Obj)}{σ:St}{H H2:Hp}{s s':Shared}(I:Inv X pins σ H s)(os:s'.os=s.os)(bare:AllBare s'.gens)(un:Un (frs X.stack) [] H H2 s.heap s'.heap)(hok:HOk X.prog X.w H2 s'.heap):Inv X pins σ H2 s':=by
 obtain ⟨hh,g,d,t,os'⟩:=s'
 obtain rfl:os'=s.os:=os
 exact I.call (h':=hh) (g':=g) (d':=d) (t':=t) (ch:=[]) un hok bare (fun b z=>absurd z (by simp))
theorem QW {P:Program}{w:World}{K:Fg}{mg:Str->Option Value}{base:Heap}{N:List Str}{qual:Str}{scope:Scope}{f:Addr}{cd:Value}{A:Around}{outer:List Env}{s:Shared}{H:Hp}{E:XK} :
 FE (CX1 P w base) (BQ (CX1 P w base) P w K mg base N qual scope f cd A outer s H E) E:=by
 intro pins σ H1 s1 e s' I h
 obtain ⟨x,C,H2,rfl,os,bare,U2,hok2,⟨hx0,hb0,hg0,ox,vs,T0,oT,ts,x1,xc,xn,xd,v1,v2,tx,hT0,bT0,gT0,t1,t2,t3⟩,q⟩:=h
 have I2:Inv (BQ (CX1 P w base) P w K mg base N qual scope f cd A outer s H E) pins σ H2 s':=I.raised os bare U2 hok2
 have hst:s'.heap.FunFrames base (envOfC qual scope s.heap.objs.size f cd::outer):=I2.stack
 have hfree:∀ b∈frs (envOfC qual scope s.heap.objs.size f cd::outer),H2 b=none:=I2.stkFree
 have U1:Un (frs outer) [] H H1 s.heap s1.heap:=I.base
 have U:Un (frs outer) [] H H2 s.heap s'.heap:=I2.base
 show wpAny (model P w) (A.deeper (envOfC qual scope s.heap.objs.size f cd)) (leaving (envOfC qual scope s.heap.objs.size f cd) (.ref x)) _ _ s'
 refine XN (s:=s') (base:=base) I2.ok.frames hst rfl x1 xd v1 t1 t2 t3 tx fun h2 T g=>?_
 have ne1:∀ b o,s.heap.get? b=some o->b≠x/\b≠T0:=fun b o eb=>by
  obtain ⟨o',e4⟩:=U1.there b o eb (by simp)
  refine ⟨fun z=>?_,fun z=>?_⟩
  · rw [z,hg0] at e4
    cases e4
  · rw [z,gT0] at e4
    cases e4
 have nf:∀ b o,s.heap.get? b=some o->b∉frs outer->b∉frs (envOfC qual scope s.heap.objs.size f cd::outer):=fun b o eb nb hb=>by
  rcases B7.mp (show b∈s.heap.objs.size::frs outer from hb) with z|z
  · exact absurd (B2 eb) (by rw [z];exact L5 _)
  · exact nb z
 have nTo:∀ b o,s'.heap.get? b=some o->b≠T:=fun b o eb z=>by
  have h1:=B2 eb
  rw [z] at h1
  exact absurd (L3 h1 g.new) (L5 _)
 have tH:H2 T=none:=by
  cases z:H2 T with
  | none=>rfl
  | some o =>
    obtain ⟨ob,eo⟩:=(hok2 T o z).ex
    exact absurd rfl (nTo T ob eo)
 have dx:=B0e xd (·.setIfInBounds 1 (Value.ref T))
 refine ⟨x,C,H2,rfl,I2.os,bare,⟨fun b o eb n hb hx=>g.keep b o (nf b o eb hb) (ne1 b o eb).1 (by simpa using (ne1 b o eb).2) (U.keep b o eb n hb hx),fun b o eb n hb hx=>?_,U.free,fun b o eb hx=>?_,U.tups,U.frzs,U.tbls⟩,fun b o eb=>?_,⟨hx0,hb0,?_,?_⟩,q⟩
 · obtain ⟨z,e4⟩:=U.slot b o eb n hb hx
   obtain ⟨z',e5⟩:=g.slot b _ (L6 _ hb) e4
   exact ⟨z',e5⟩
 · obtain ⟨o',e4⟩:=U.there b o eb hx
   by_cases hb:b∈frs (envOfC qual scope s.heap.objs.size f cd::outer)
   · obtain ⟨z,e5⟩:=g.slot b o' hb e4
     exact ⟨_,e5⟩
   · exact ⟨o',g.keep b o' hb (ne1 b o eb).1 (by simpa using (ne1 b o eb).2) e4⟩
 · have nx:b≠x:=fun z=>by rw [z,hx0] at eb;cases eb
   refine (hok2 b o eb).stay (fun c v hc ev=>g.keep c v (fun hb=>?_) (fun z=>?_) (fun z=>?_) ev) (fun _ z=>z) fun _ _ z=>z
   · have:=hfree c hb
     rcases hc with y|y
     · rw [y,eb] at this;cases this
     · rw [y] at this;cases this
   · rcases hc with y|y
     · rw [<- y,z,hx0] at eb;cases eb
     · rw [z,hx0] at y;cases y
   · have z:c=T0:=by simpa using z
     rcases hc with y|y
     · rw [<- y,z,hT0] at eb;cases eb
     · rw [z,hT0] at y;cases y
 · cases z:s.heap.get? x with
   | none=>rfl
   | some o=>exact absurd rfl (ne1 x o z).1
 · obtain ⟨oT',ts',g1,g2,g3⟩:=g.tr
   refine ⟨_,_,T,oT',ts',g.exc,(Obj.cls_mapFields ..).trans xc,(QJ ..).trans xn,dx,?_,?_,?_,tH,?_,?_,g1,g2,g3⟩
   · have:=(U8.mp v1).1
     simp [this]
   · rw [Array.getElem?_setIfInBounds_ne (by decide)]
     exact v2
   · intro z
     exact nTo x _ x1 z.symm
   · cases z:base.get? T with
     | none=>rfl
     | some o=>exact absurd rfl (nTo T o (I2.bk T o z))
   · cases z:s.heap.get? T with
     | none=>rfl
     | some o =>
       obtain ⟨o',e4⟩:=U.there T o z (by simp)
       exact absurd rfl (nTo T o' e4)
theorem Fun.okX {P:Program}{w:World} {mg:Str->Option Value}{base:Heap}{CX:CXT}{x qual:Str}{st:Stmt}{f:Addr} {N ps:List Str}{k:Nat}{sp:Sp}(F:Fun K x qual st f fd)(S:FnScope N ps (J6 st))(len:∀ vs H Q E,sp vs H Q E->vs.length=ps.length)
 (hbody:∀ (cdv:Value) (A:Around) (outer:List Env) (s:Shared) (H:Hp) (vs:List V) (Q:VK) (E:XK),Room k (A.deeper (envOfC qual (J6 st) s.heap.objs.size f cdv))->sp vs H Q E ->
  ∃ t,PSs (BQ CX P w K mg base N qual (J6 st) f cdv A outer s H E) (CB st) t/\t { nx:=fun _ H'=>Q .non H',rt:=Q } (EO N vs) H):FnOk P w K mg base CX (k+1) f fd ps sp:=by
 obtain ⟨oc,od,kV,doc,pm,an,cdv,ct,osl,rfl,lk,hcd⟩:=F.ex
 exact Q2d lk hcd S len fun A outer s H vs Q E hr hsp=>hbody cdv A outer s H vs Q E hr hsp
theorem YZ {X:Cx}{CX:CXT}{k:Nat}{ps:List Str}{sp:Sp}{E:XK}{x:Str}{p pos:Pos}{e:Expr}{es:List Expr}{t:TA}(hp:FE CX X E)(G:Callee X.prog X.w X.K X.mg X.base CX x k ps sp)(hr:Room k X.A)(hg:Gl X x)(ha:PA X (e::es) t)
 (hdb:(x==("__debug__" : Str))=false:=by decide) (he:starEach (e::es) X.env=(false,eval e X.env)::starEach es X.env:=by rfl) (hpl:(backTo pos (starEach es X.env)).any (·.1)=false:=by rfl):PE X (.Call (.Name x p) (e::es) [] pos) (YJ sp [] E t):=by
 obtain ⟨f,fd,F,hm,hk,hb⟩:=G.ex
 exact ZB F hr hg hm hk hb .nil hp ha hdb he hpl
def ExcO (x C:Addr):HO:=.ext fun h=>∃ (ox:Obj) (vs:Array Value),h.get? x=some ox/\ox.cls=.ref C/\ox.dict=none/\ox.data=.fields vs/\vs[2]?=some .none
theorem ExcO.ok {w:World}{H:Hp}{h:Heap}{x C:Addr}{ox:Obj}{vs:Array Value}(e:h.get? x=some ox)(c:ox.cls=.ref C)(d:ox.dict=none)(f:ox.data=.fields vs)(v:vs[2]?=some .none):ObjOk P w H h x (ExcO x C) :=
 ⟨⟨ox,vs,e,c,d,f,v⟩,⟨ox,e⟩,fun h1 h2 ⟨ox',vs',e',c',d',f',v'⟩ k=>⟨ox',vs',k _ e',c',d',f',v'⟩⟩
theorem Inv.exc {X:Cx}{pins:List (Addr×Obj)}{σ:St}{H:Hp}{s:Shared}{x C:Addr}(I:Inv X pins σ H s)(hx:H x=some (ExcO x C)):∃ (ox:Obj) (vs:Array Value),s.heap.get? x=some ox/\ox.cls=.ref C/\ox.dict=none/\ox.data=.fields vs/\vs[2]?=some .none:=(I.hok x _ hx).1
structure RoomM (k:Nat)(A:Around):Prop where
 dp:A.depth+3*k+5<recursionLimit
 un:A.units+16*k+200<cLine
theorem RoomM.units {k:Nat}{A:Around}(r:RoomM k A):A.units+64<cLine:=by have:=r.un;omega
structure XCls (K:Fg)(D:Addr):Prop where
 get:PySem.W.findIn K (.ref D) "__getattribute__" = some (some (.builtin "BaseException.__getattribute__"))
 hook:PySem.W.findIn K (.ref D) "__getattr__" = some none
 fnd:PySem.W.findObj K D none "__class__" = some (.bind (.builtin "getset_descriptor.__get__") (.builtin "object.__class__"))
 mro:PySem.W.mroIn K D (.type "object")=some true
 cls:(PySem.W.clsIn K D).isSome=true
 exc:PySem.W.subIn K (.ref D) (.type "BaseException")=some true
theorem J1q {M:Model}{h:Heap}{C:Addr}(X:K.In h)(e1:(PySem.W.clsIn K C).isSome=true):PySem.W.Looks M h (isType (.ref C)) true:=by
 unfold PySem.W.clsIn at e1
 split at e1
 · rename_i c' d' cd' sl' ho
   intro A' Q' E' s' k q
   unfold isType loadHead;exact B0 (wpAny_loadPart (k _ _ (X _ _ ho)) (B5 q))
 · cases e1
section
variable {X:Cx}
theorem Inv.instAt {pins:List (Addr×Obj)}{σ:St}{H:Hp}{s:Shared}{x C:Addr}(I:Inv X pins σ H s)(hx:H x=some (ExcO x C)):∃ ox,PySem.W.InstAt s.heap x ox C none:=by
 obtain ⟨ox,vs,e1,e2,e3,e4,e5⟩:=I.exc hx
 exact ⟨ox,e1,e2,by unfold PySem.W.notCls;rw [e4],by rw [e3];trivial⟩
end
theorem Q0f {M:Model}{A:Around}{E:Value->Shared->Prop}{s:Shared} {x B C:Addr}{ox:Obj}{Q:Bool->Shared->Prop}(X:K.In s.heap)(I:PySem.W.InstAt s.heap x ox C none)(hB:(PySem.W.clsIn K B).isSome=true)(tB:PySem.W.typeIn K (.ref B)=some (.type "type"))
 (bB:PySem.W.subIn K (.ref B) (.type "BaseException")=some true) (cB:PySem.W.subIn K (.ref C) (.ref B)=some true) (h:Q true s):wpAny M A (excMatches (.ref x) (.ref B)) Q E s:=by
 obtain ⟨h0,g,d,tt,os⟩:=s
 have LT:PySem.W.Looks M h0 (isInstance (.ref B) (.type "tuple")) false:=(PySem.W.looks_typeIn X tB).andThen (PySem.W.Looks.of_pure tc_notTuple)
 have LE:PySem.W.Looks M h0 (isExcClass (.ref B)) true:=by
  unfold isExcClass
  exact (J1q X hB).andThen (PySem.W.looks_subIn X bB)
 unfold excMatches
 refine B0 (LT.at ?_)
 simp only [T9,B0d]
 refine B0 (B5 ?_)
 simp only [B1q,B2u]
 refine B0 (B0 (B0 (LE.at ?_)))
 simp only [Bool.not_true,T9,B0d]
 refine B5 (B5 ?_)
 refine B0 (I.type.at ?_)
 refine B0 (B0 (B0 ((PySem.W.looks_subIn X cB).at ?_)))
 simp only [if_true]
 exact B5 (B5 (B5 h))
abbrev Cx.re (X:Cx)(E:Value->Shared->Prop)(pn:List (Addr×Obj)):Cx:={ X with xe:=E,pn:=pn }
abbrev Cx.marked (X:Cx)(x:Addr):Cx:={ X with A:=X.A.mark (some (.ref x)),calm:=false,xe:=fun _ _=>False }
section
variable {X:Cx}{pins pl:List (Addr×Obj)}{σ:St}{H:Hp}{s:Shared}{E:Value->Shared->Prop}{x:Addr}
theorem Cx.Ok.re (ok:X.Ok)(E:Value->Shared->Prop)(pn:List (Addr×Obj)):(X.re E pn).Ok:=⟨ok.mod,ok.kind,ok.glob,ok.blt,ok.above,ok.inj,ok.has,ok.cab,ok.hd,ok.frames,ok.stk,ok.exf,ok.bs,ok.bsz,ok.noex,ok.exfs,ok.funs,ok.frf⟩
theorem Cx.Ok.unre {pn:List (Addr×Obj)}(ok:(X.re E pn).Ok):X.Ok:=⟨ok.mod,ok.kind,ok.glob,ok.blt,ok.above,ok.inj,ok.has,ok.cab,ok.hd,ok.frames,ok.stk,ok.exf,ok.bs,ok.bsz,ok.noex,ok.exfs,ok.funs,ok.frf⟩
theorem Cx.Ok.marked (ok:X.Ok)(x:Addr):(X.marked x).Ok:=⟨ok.mod,ok.kind,ok.glob,ok.blt,ok.above,ok.inj,ok.has,ok.cab,fun z=>(by cases z),ok.frames,ok.stk,ok.exf,ok.bs,ok.bsz,ok.noex,ok.exfs,ok.funs,ok.frf⟩
theorem Inv.re (I:Inv X pins σ H s)(E:Value->Shared->Prop):Inv (X.re E (X.pn++pins)) [] σ H s:=⟨I.ok.re E _,I.os,I.bare,I.base,I.loc,I.cell,I.free,I.freeC,fun p hp=>I.pin p (by simpa using hp),I.hok,I.len⟩
theorem Inv.unre (I:Inv (X.re E (X.pn++pins)) pl σ H s):Inv X pins σ H s:=⟨I.ok.unre,I.os,I.bare,I.base,I.loc,I.cell,I.free,I.freeC,fun p hp=>I.pin p (R7 _ hp),I.hok,I.len⟩
theorem Inv.marked (I:Inv X pins σ H s)(x:Addr):Inv (X.marked x) pins σ H s:=⟨I.ok.marked x,I.os,I.bare,I.base,I.loc,I.cell,I.free,I.freeC,I.pin,I.hok,I.len⟩
theorem Inv.unmarked (ok:X.Ok)(I:Inv (X.marked x) pins σ H s):Inv X pins σ H s:=⟨ok,I.os,I.bare,I.base,I.loc,I.cell,I.free,I.freeC,I.pin,I.hok,I.len⟩
end
theorem J1m {M:Model}{A:Around}{F:Value->Shared->Prop}{s:Shared} {env:Env}{outer:List Env}{L x T0:Addr}{ox oT:Obj}{vs ts:Array Value}{Q:Unit->Shared->Prop}(f1:A.frames=some (env::outer))(f2:s.heap.FunFrames base (env::outer))(f3:env.frame=some L)
 (x1:s.heap.get? x=some ox) (x2:ox.data=.fields vs) (x3:vs[1]?=some (.ref T0)) (t1:s.heap.get? T0=some oT) (t2:oT.data=.fields ts) (t3:ts[3]?=some .none) (tx:T0≠x)
 (q:∀ h' T,Gone ((env::outer).filterMap (·.frame)) x ox [T0] s.heap h' T->Q () { s with heap:=h' }):wpAny M A (noteFrame (.ref x) env) (fun _ s'=>wpAny M A (setFlight (.ref x) none) Q F s') F s:=by
 unfold noteFrame;simp only [f3]
 refine B0 (U6 x1 x2 x3 ?_);rw [if_pos (show (Value.ref T0 != Value.none)=true from by simp)]
 refine B0 (U6 t1 t2 t3 ?_);rw [if_neg (show ¬ ((Value.none==rawInt L)=true) from by simp [rawInt])]
 refine B0 (B0y t1 t2 (U8.mp t3).1 ?_)
 have oth:∀ b,b≠T0->(s.heap.update T0 (Obj.mapFields (·.setIfInBounds 3 Value.none))).get? b=s.heap.get? b:=fun b hb=>U3 _ _ (B0c hb)
 have nrec:∀ b o,s.heap.get? b=some o->(∀ vs,o.data≠.fields vs)->b≠T0:=fun b o e n z=>by
  rw [z,t1] at e
  cases e
  exact n ts t2
 have fT:∀ b∈(env::outer).filterMap (·.frame),b≠T0:=fun b hb=>by
  obtain ⟨_,o,e1,e2⟩:=f2.mem hb
  exact nrec b o e1 e2
 refine JN f1 (f2.of_keeps fun b o e n=>⟨o,(oth b (nrec b o e n)).trans e,rfl⟩) f3 ((oth x (B0c tx)).trans x1) x2 (U8.mp x3).1 fun h' T g=>q h' T ⟨?_,?_,?_,g.exc,g.tr⟩
 · intro b o nf nx no e
   exact g.keep b o nf nx (by simp) ((oth b (by simpa using no)).trans e)
 · intro b o hb e
   exact g.slot b o hb ((oth b (fT b hb)).trans e)
 · have:=g.new
   simpa using this
structure XBase (K:Fg)(B:Addr):Prop where
 cls:(PySem.W.clsIn K B).isSome=true
 typ:PySem.W.typeIn K (.ref B)=some (.type "type")
 exc:PySem.W.subIn K (.ref B) (.type "BaseException")=some true
abbrev bmV:List Value:=[.type "ValueError",.type "Exception",.type "BaseException",.type "object"]
theorem ZE {x:Str}{C:Addr}{bmB:List Value}{newId:String}(X:K.In base)(G:base.Ns mainGlobals mg)(e:PySem.W.nsIn K mainGlobals x=some (some (.ref C)))(q:PySem.W.excIn K C bmB newId=true):OwnCls x C bmB newId mg base:=by
 refine ⟨B4 X G e,?_⟩
 unfold PySem.W.excIn at q
 split at q
 · rename_i dd cd sl ho
   split at q
   · rename_i C' bm k0 k1 k2 k3 n k5 hm hs
     simp only [L1,B1d,Bool.not_eq_true'] at q;obtain ⟨⟨⟨⟨⟨rfl,rfl⟩,hdel⟩,ht⟩,hok⟩,hni⟩:=q
     obtain ⟨nm,bs,mro,ns,qn,hd,sn,sub,ab,col,del⟩:=cd
     dsimp only at hm hdel hok hni;subst hm hdel
     have hsl:sl=#[k0,k1,k2,k3,some (.builtin n),k5]:=by
      obtain ⟨l⟩:=sl
      simp only at hs;rw [hs]
     subst hsl
     refine ⟨bm,ns,nm,qn,bs,hd,sn,sub,ab,col,dd,k0,k1,k2,k3,k5,_,X _ _ ho,.of_isNs (PySem.W.isNs_of_in X hok),PySem.W.nsMap_none_of_in X hok hni,PySem.W.tail_of_in X ht⟩
   · cases q
 · cases q
theorem NJ {w:World} {X:Cx}:FE (CX1 P w base) X E0:=fun _ _ _ _ _ _ _ h=>by
 obtain ⟨_,_,_,_,_,_,_,_,_,q⟩:=h
 exact q.elim
theorem CS {P:Program}{w:World}{K:Fg} {N:List Str}{qual:Str}{scope:Scope}{f:Addr}{cd:Value}{A:Around}{outer:List Env}{s:Shared}{H:Hp}{E:XK}{x m:Str}{C:Addr}{j}{mp np cpos pos:Pos}(O:OwnCls x C bmV "ValueError.__new__" mg base)
 (hg:Gl (BQ (CX1 P w base) P w K mg base N qual scope f cd A outer s H E) x) (hd:(x==("__debug__" : Str))=false:=by decide) :
 PS (BQ (CX1 P w base) P w K mg base N qual scope f cd A outer s H E) (.Raise (some (.Call (.Name x np) [.Constant (.str m) j mp] [] cpos)) none pos) (fun _ _ H1=>E (.ref C) none H1) :=
 J4b (X:=BQ (CX1 P w base) P w K mg base N qual scope f cd A outer s H E) O PySem.F.excBase_ValueError (by decide) PySem.F.excBase_ValueError rfl hg E (fun pins σ H1 s1 h' e us I hm q=>J2y pins σ H1 s1 h' e us I hm q) (BC J4h ES) (fun σ H Q q=>⟨M7 (M3 rfl) AZ,q⟩) rfl rfl hd
abbrev met (ns:List Int)(k:Nat):List Int:=firstMet (fun i=>ns.getD i 0) k
def Asc (xs:Array Nat):Prop:=xs.toList.Pairwise (· < ·)
structure Tb (w:World)(t:SetTable):Prop where
 dum:t.dummies=#[]
 led:w.params.followText "set-order" = false->t.led=true
 asc:t.plain=true->Asc t.place
def iv:Value->Int
 | .int n _=>n
 | _=>0
abbrev nums (es:Array (Int×Value)):List Int:=es.toList.map fun e=>iv e.2
structure ISo (prog:Program)(w:World)(ns:List Int)(o:Obj)(es:Array (Int×Value))(ep:Nat)(t:SetTable):Prop where
 ex:o.ExactSet
 da:o.data=.set es ep t
 el:ElemsOf (intKind prog w) es.toList
 nd:(nums es).Nodup
 me:∀ z,z∈nums es↔z∈ns
 sz:es.size<=ns.length
 ft:t.fits es.size=true
 tb:Tb w t
structure WSo (w:World)(o:Obj)(es:Array (Int×Value))(ep:Nat)(t:SetTable):Prop where
 ex:o.ExactSet
 da:o.data=.set es ep t
 ft:t.fits es.size=true
 tb:Tb w t
theorem ISo.w {prog:Program}{w:World}{ns:List Int}{o:Obj}{es:Array (Int×Value)}{ep:Nat}{t:SetTable}(I:ISo prog w ns o es ep t):WSo w o es ep t:=⟨I.ex,I.da,I.ft,I.tb⟩
def ISet (prog:Program)(w:World)(ns:List Int)(a:Addr)(h:Heap):Prop:=∃ o es ep t,h.get? a=some o/\ISo prog w ns o es ep t
section
variable {prog:Program}{w:World}{s:Shared}{ns:List Int}{a:Addr}
theorem ISet.typeIs (h:ISet prog w ns a s.heap):s.TypeIs (.ref a) "set":=by
 obtain ⟨o,es,ep,t,g,I⟩:=h
 exact ⟨o,g,I.ex.1⟩
end
abbrev byT (w:World):Bool:=w.params.followText "set-order"
inductive Way (w:World)(a:Addr)(es:Array (Int×Value))(ep:Nat)(t:SetTable)(ord:List (Int×Value))(fx:List Addr)(h:Heap)(i:Nat)(first:Value):Prop
 | text (k:Nat) (b:byT w=true) (f:first=.int k 0) (o:ord=(pickOrder (w.params.setOrder a ep) es).toList)
 | place (k:Nat) (b:byT w=false) (d:(!t.plain&&decide (es.size>1))=false) (c:Asc t.place) (f:first=.int k 0) (e:SetTable.below t.place k=i) (o:ord=es.toList)
 | drawn (p:Addr) (ps:List Nat) (b:byT w=false) (d:(!t.plain&&decide (es.size>1))=true) (f:first=.ref p) (m:p∈fx) (q:h.get? p=some { cls:=.type "tuple",data:=.seq (ps.map fun x:Nat=>Value.int (x:Int) 0).toArray 0 }) (o:ps.map (fun x=>es[x]?)=ord.map some)
section
variable {w:World}{a:Addr}{o:Obj}{es:Array (Int×Value)}{ep:Nat}{t:SetTable}{ord:List (Int×Value)}{fx:List Addr}{i:Nat}{first:Value}
theorem Way.frame {h h':Heap}(W:Way w a es ep t ord fx h i first)(k:∀ b∈fx,∀ o,h.get? b=some o->h'.get? b=some o):Way w a es ep t ord fx h' i first:=by
 cases W with
 | text k b f o=>exact .text k b f o
 | place k b d c f e o=>exact .place k b d c f e o
 | drawn p ps b d f m q o=>exact .drawn p ps b d f m (k p m _ q) o
end
def kA (k:Keyed->Int)(xs:Array Keyed)(i:Nat):Int:=match xs[i]? with
 | some p=>k p
 | none=>0
def LX (k:Keyed->Int)(xs:Array Keyed)(lo n:Nat):Prop:=∀ i j,lo<=i->i<=j->j<lo+n->kA k xs i<=kA k xs j
def KS (k:Keyed->Int)(xs:Array Keyed)(lo n:Nat):Prop:=∀ i j,lo<=i->i<=j->j<lo+n->kA k xs j<=kA k xs i
theorem HY {k:Keyed->Int}{xs ys:Array Keyed}{i j:Nat}(h:xs[i]?=ys[j]?):kA k xs i=kA k ys j:=by unfold kA;rw [h]
theorem ZL {k:Keyed->Int}{xs:Array Keyed}{i:Nat}(h:i<xs.size):kA k xs i=k xs[i]:=by unfold kA;rw [getElem?_pos xs i h]
theorem QC {k:Keyed->Int}{xs:Array Keyed}{src d:Nat}(hs:src<xs.size)(hd:d<=src)(i:Nat) :
 kA k (bubble xs src d) i=if i=src - d then kA k xs src else if src - d<i/\i<=src then kA k xs (i - 1) else kA k xs i:=by
 have e:=getElem?_bubble hs d hd i
 by_cases h1:i=src - d
 · rw [if_pos h1] at e ⊢;exact HY e
 · rw [if_neg h1] at e ⊢
   by_cases h2:src - d<i/\i<=src
   · rw [if_pos h2] at e ⊢;exact HY e
   · rw [if_neg h2] at e ⊢;exact HY e
theorem LM {k:Keyed->Int}{xs:Array Keyed}{i j:Nat}(hj:j<=xs.size)(q:Nat) :
 kA k (mirror xs i j ((j - i) / 2)) q=if i<=q/\q<j then kA k xs (i+j - 1 - q) else kA k xs q:=by
 have e:=getElem?_mirror_all (i:=i) hj q
 by_cases h1:i<=q/\q<j
 · rw [if_pos h1] at e ⊢;exact HY e
 · rw [if_neg h1] at e ⊢;exact HY e
theorem EF {k:Keyed->Int}{xs:Array Keyed}{i j:Nat}(hj:j<=xs.size)(heq:∀ q,i<=q->q<j->kA k xs q=kA k xs (j - 1))(q:Nat) :
 kA k (mirror xs i j ((j - i) / 2)) q=kA k xs q:=by
 rw [LM hj]
 split
 · rw [heq _ (by omega) (by omega),heq q (by omega) (by omega)]
 · rfl
structure Cmp (prog:Program)(w:World)(A:Around)(s:Shared)(κ:SortKind)(a₀:Array Keyed)(k:Keyed->Int):Prop where
 lt:∀ x∈a₀.toList,∀ y∈a₀.toList,∀ (E:Value->Shared->Prop) (Q:Bool->Shared->Prop),Q (decide (k x<k y)) s->wpAny (model prog w) A (keyLt' κ x.1 y.1) Q E s
structure TB (κ:SortKind)(a₀:Array Keyed)(st:SortSt):Prop where
 perm:(arrOf st).Perm a₀
 kind:kindOf st=κ
 ok:failedOf st=none
theorem TB.size {κ:SortKind}{a₀:Array Keyed}{st:SortSt}(h:TB κ a₀ st):(arrOf st).size=a₀.size:=h.perm.size_eq
theorem TB.setArr {κ:SortKind}{a₀:Array Keyed}{st:SortSt}(h:TB κ a₀ st){xs:Array Keyed}(hp:xs.Perm (arrOf st)):TB κ a₀ (setArr st xs):=⟨hp.trans h.perm,h.kind,h.ok⟩
theorem TB.mem {κ:SortKind}{a₀:Array Keyed}{st:SortSt}(h:TB κ a₀ st){p:Keyed}(hp:p∈(arrOf st).toList):p∈a₀.toList:=(Array.perm_iff_toList_perm.mp h.perm).mem_iff.mp hp
structure Sam (lo hi:Nat)(st st':SortSt):Prop where
 pend:pendingOf st'=pendingOf st
 out:∀ i,i<lo\/hi<=i->(arrOf st')[i]?=(arrOf st)[i]?
theorem Sam.refl (lo hi:Nat)(st:SortSt):Sam lo hi st st:=⟨rfl,fun _ _=>rfl⟩
theorem Sam.trans {lo hi:Nat}{a b c:SortSt}(h:Sam lo hi a b)(h':Sam lo hi b c):Sam lo hi a c:=⟨h'.pend.trans h.pend,fun i hi=>(h'.out i hi).trans (h.out i hi)⟩
theorem Sam.bubble {lo hi:Nat}{st:SortSt}{src d:Nat}(hs:src<(arrOf st).size)(hd:d<=src)(h1:lo<=src - d)(h2:src<hi):Sam lo hi st (setArr st (bubble (arrOf st) src d)):=⟨rfl,fun i h=>by
 show (PyProof.Rows.bubble (arrOf st) src d)[i]?=_
 rw [getElem?_bubble hs d hd i,if_neg (by omega),if_neg (by omega)]⟩
theorem Sam.mirror {lo hi:Nat}{st:SortSt}{i j:Nat}(hj:j<=(arrOf st).size)(h1:lo<=i)(h2:j<=hi):Sam lo hi st (setArr st (mirror (arrOf st) i j ((j - i) / 2))):=⟨rfl,fun q h=>by
 show (PyProof.Rows.mirror (arrOf st) i j ((j - i) / 2))[q]?=_
 rw [getElem?_mirror_all hj q,if_neg (by omega)]⟩
section
variable {prog:Program}{w:World}{A:Around}{E:Value->Shared->Prop}{s:Shared}{κ:SortKind}{a₀:Array Keyed}{k:Keyed->Int}
theorem Q2u {st:SortSt}{x y:Keyed}{Q:Option Bool->SortSt->Prop}(C:Cmp prog w A s κ a₀ k)(hk:kindOf st=κ)(hx:x∈a₀.toList)(hy:y∈a₀.toList)(h:Q (some (decide (k x<k y))) st):wpS (model prog w) A E s (lt' x y) Q st:=by
 rw [lt'_eq]
 refine U5 (wpS_get ?_)
 rw [hk]
 refine U5 (wpS_lift (wpAny_attempt (C.lt x hx y hy _ _ ⟨rfl,?_⟩)))
 exact E4 h
theorem SX {st:SortSt}{arr:Array Keyed}{i:Nat}{Q:Keyed->SortSt->Prop}(hi:i<arr.size)(h:Q arr[i] st):wpS (model prog w) A E s (elem' arr i) Q st:=by
 rw [elem'_eq,getElem?_pos arr i hi]
 exact E4 h
theorem IH {st:SortSt}{i j:Nat}{Q:Option Bool->SortSt->Prop}(C:Cmp prog w A s κ a₀ k)(hB:TB κ a₀ st)(hi:i<a₀.size)(hj:j<a₀.size)
 (h:Q (some (decide (kA k (arrOf st) i<kA k (arrOf st) j))) st):wpS (model prog w) A E s (ltAt' i j) Q st:=by
 have hi':i<(arrOf st).size:=by rw [hB.size];exact hi
 have hj':j<(arrOf st).size:=by rw [hB.size];exact hj
 rw [ZL hi',ZL hj'] at h
 rw [ltAt'_eq]
 refine U5 (wpS_get ?_)
 exact U5 (SX hi' (U5 (SX hj' (Q2u C hB.kind (hB.mem (by simp)) (hB.mem (by simp)) h))))
theorem J3a {st:SortSt}{lo n ok:Nat}{Q:Bool->SortSt->Prop}(C:Cmp prog w A s κ a₀ k)(hn:lo+n<=a₀.size)(hok:ok<=n)(hB:TB κ a₀ st)(hs:LX k (arrOf st) lo ok)
 (h:∀ st',TB κ a₀ st'->Sam lo (lo+n) st st'->LX k (arrOf st') lo n->Q true st'):wpS (model prog w) A E s (binarySort' lo n ok) Q st:=by
 rw [binarySort'_eq]
 refine U5 (wpS_mono (B2a (I:=fun q c st'=>c=(none,())/\TB κ a₀ st'/\Sam lo (lo+n) st st'/\LX k (arrOf st') lo (min q n))
  (Q:=fun c st'=>c=(none,())/\TB κ a₀ st'/\Sam lo (lo+n) st st'/\LX k (arrOf st') lo n) ?step ?fin ?init) ?post)
 case post =>
  rintro c st' ⟨rfl,tb,d3,so⟩
  exact E4 (h st' tb d3 so)
 case init =>
  refine ⟨rfl,hB,Sam.refl _ _ _,fun i j h0 hij hj=>?_⟩
  by_cases h1:ok=0
  · have:i=j:=by omega
    subst this;exact B1f _
  · exact hs i j h0 hij (by omega)
 case fin =>
  rintro c st' ⟨hc,tb,d3,so⟩
  refine ⟨hc,tb,d3,?_⟩
  rwa [show min (max (max ok 1) n) n=n by omega] at so
 case step =>
  rintro q c st' hak hqn ⟨rfl,tb,hsm,so⟩
  rw [show min q n=q by omega] at so
  have hq:lo+q<a₀.size:=by omega
  refine U5 (wpS_mono (B2a (I:=fun x c sx=>sx=st'/\∃ l r,c=(none,l,r)/\l<=r/\r<=q/\r - l<=q - x /\
   (∀ i,i<l->kA k (arrOf st') (lo+i)<=kA k (arrOf st') (lo+q))/\(∀ i,r<=i->i<q->kA k (arrOf st') (lo+q)<kA k (arrOf st') (lo+i)))
   (Q:=fun c sx=>sx=st'/\∃ l r,c=(none,l,r)/\l<=q /\
    (∀ i,i<l->kA k (arrOf st') (lo+i)<=kA k (arrOf st') (lo+q))/\(∀ i,l<=i->i<q->kA k (arrOf st') (lo+q)<kA k (arrOf st') (lo+i))) ?istep ?ifin ?iinit) ?ipost)
  case iinit=>exact ⟨rfl,0,q,rfl,by omega,by omega,by omega,fun i hi=>by omega,fun i h1 h2=>by omega⟩
  case ifin =>
   rintro c sx ⟨rfl,l,r,rfl,d1,d2,d3,d4,d5⟩
   have:l=r:=by omega
   subst this
   exact ⟨rfl,l,l,rfl,d2,d4,d5⟩
  case istep =>
   rintro x c sx _ q1 ⟨rfl,l,r,rfl,d1,d2,d3,d4,d5⟩
   dsimp only
   by_cases cmp:l>=r
   · rw [if_pos cmp]
     have:l=r:=by omega
     subst this
     exact E4 ⟨rfl,l,l,rfl,d2,d4,d5⟩
   · rw [if_neg cmp]
     refine U5 (IH C tb hq (by omega) ?_)
     by_cases les:kA k (arrOf sx) (lo+q)<kA k (arrOf sx) (lo+(l+r) / 2)
     · simp only [les,B2c,if_true]
       refine E4 ⟨rfl,l,(l+r) / 2,rfl,by omega,by omega,by omega,d4,fun i h1 h2=>?_⟩
       exact Int.lt_of_lt_of_le les (so _ _ (by omega) (by omega) (by omega))
     · simp only [les,B1u,T9,B0d]
       refine E4 ⟨rfl,(l+r) / 2+1,r,rfl,by omega,by omega,by omega,fun i h1=>?_,d5⟩
       exact Int.le_trans (so (lo+i) (lo+(l+r) / 2) (by omega) (by omega) (by omega)) (Int.not_lt.mp les)
  case ipost =>
   rintro c sx ⟨rfl,l,r,rfl,d6,d4,d5⟩
   show wpS _ _ _ _ (do moveDown' (lo+q) (lo+l);pure (ForInStep.yield (none,()))) _ _
   rw [moveDown'_eq]
   have kz:lo+q<(arrOf sx).size:=by rw [tb.size];exact hq
   refine U5 (wpS_modify (E4 ⟨rfl,tb.setArr (bubble_perm _ _ _),hsm.trans (Sam.bubble kz (by omega) (by omega) (by omega)),?_⟩))
   rw [show min (q+1) n=q+1 by omega]
   intro i j h0 hij hj
   show kA k (bubble (arrOf sx) (lo+q) (lo+q - (lo+l))) i<=kA k (bubble (arrOf sx) (lo+q) (lo+q - (lo+l))) j
   have lo':∀ i,lo<=i->i<lo+l->kA k (arrOf sx) i<=kA k (arrOf sx) (lo+q):=fun i h1 h2=>by
    have:=d4 (i - lo) (by omega)
    rwa [show lo+(i - lo)=i by omega] at this
   have hi':∀ i,lo+l<=i->i<lo+q->kA k (arrOf sx) (lo+q)<kA k (arrOf sx) i:=fun i h1 h2=>by
    have:=d5 (i - lo) (by omega) (by omega)
    rwa [show lo+(i - lo)=i by omega] at this
   rw [QC kz (by omega),QC kz (by omega),show lo+q - (lo+q - (lo+l))=lo+l by omega]
   repeat' split
   all_goals first
    | (exfalso;omega)
    | exact B1f _
    | exact lo' _ (by omega) (by omega)
    | exact B1k (hi' _ (by omega) (by omega))
    | exact so _ _ (by omega) (by omega) (by omega)
end
local macro_rules | `(tactic| walk_at "un gallop") => do let n := Lean.mkIdent (Lean.mkPrivateNameCore `PySem.Builtin.List.W1All `PySem.Builtin.gallop); `(tactic| unfold $n)
local macro_rules | `(tactic| walk_at "un countRun") => do let n := Lean.mkIdent (Lean.mkPrivateNameCore `PySem.Builtin.List.W1All `PySem.Builtin.countRun); `(tactic| unfold $n)
def J3q:Nat->Nat->StateT SortSt Sem (Option Nat):=sortPriv% PySem.Builtin.countRun
section
variable {prog:Program}{w:World}{A:Around}{E:Value->Shared->Prop}{s:Shared}{κ:SortKind}{a₀:Array Keyed}{k:Keyed->Int}
theorem HL {st:SortSt}{i j:Nat}{Q:Unit->SortSt->Prop}(h:Q () (setArr st (mirror (arrOf st) i j ((j - i) / 2)))):wpS (model prog w) A E s (reverseSlice' i j) Q st:=by
 rw [reverseSlice'_eq];exact wpS_modify h
theorem TC {xs:Array Keyed}{lo x:Nat}(h:LX k xs lo x)(l:¬ kA k xs (lo+x)<kA k xs (lo+x - 1)):LX k xs lo (x+1):=fun i j h0 hij hj=>by
 by_cases e:j<lo+x
 · exact h i j h0 hij e
 · have ej:j=lo+x:=by omega
   subst ej
   by_cases ei:i=lo+x
   · rw [ei];exact B1f _
   · exact Int.le_trans (h i (lo+x - 1) h0 (by omega) (by omega)) (Int.not_lt.mp l)
theorem GE {xs:Array Keyed}{lo x:Nat}(h:KS k xs lo x)(l:kA k xs (lo+x)<=kA k xs (lo+x - 1)):KS k xs lo (x+1):=fun i j h0 hij hj=>by
 by_cases e:j<lo+x
 · exact h i j h0 hij e
 · have ej:j=lo+x:=by omega
   subst ej
   by_cases ei:i=lo+x
   · rw [ei];exact B1f _
   · exact Int.le_trans l (h i (lo+x - 1) h0 (by omega) (by omega))
theorem LQ {xs ys:Array Keyed}{lo x:Nat}(h:KS k xs lo x)(e:∀ i,kA k ys i=kA k xs i):KS k ys lo x:=fun i j h0 hij hj=>by
 rw [e,e];exact h i j h0 hij hj
theorem J2z {st:SortSt}{lo nrem:Nat}{Q:Option Nat->SortSt->Prop}(C:Cmp prog w A s κ a₀ k)(hn:lo+nrem<=a₀.size)(h1:1<=nrem)(hB:TB κ a₀ st)
 (h:∀ m st',TB κ a₀ st'->Sam lo (lo+nrem) st st'->1<=m->m<=nrem->LX k (arrOf st') lo m->Q (some m) st'):wpS (model prog w) A E s (J3q lo nrem) Q st:=by
 unfold J3q
 walk_at "un countRun"
 dsimp only
 refine U5 (wpS_mono (B2a (I:=fun x c st'=>st'=st/\c=(none,x)/\LX k (arrOf st) lo x)
  (Q:=fun c st'=>st'=st/\∃ x,c=(none,x)/\1<=x/\x<=nrem/\LX k (arrOf st) lo x/\(x=nrem\/kA k (arrOf st) (lo+x)<kA k (arrOf st) (lo+x - 1))) ?turn ?stop ⟨rfl,rfl,fun i j h0 hij hj=>?_⟩) ?after)
 case stop =>
  rintro c st' ⟨rfl,rfl,b1⟩
  rw [show max 1 nrem=nrem by omega] at b1 ⊢
  exact ⟨rfl,nrem,rfl,h1,B6 _,b1,.inl rfl⟩
 case turn =>
  rintro x c st' hx1 hx ⟨rfl,rfl,b1⟩
  dsimp only
  refine U5 (IH C hB (by omega) (by omega) ?_)
  by_cases q:kA k (arrOf st') (lo+x)<kA k (arrOf st') (lo+x - 1)
  · simp only [q,B2c,if_true]
    exact E4 ⟨rfl,x,rfl,hx1,by omega,b1,.inr q⟩
  · simp only [q,B1u,T9,B0d]
    exact E4 ⟨rfl,rfl,TC b1 q⟩
 · have:i=j:=by omega
   subst this;exact B1f _
 rintro c st' ⟨rfl,n,rfl,n1,n2,so,up⟩
 dsimp only
 by_cases q:n=nrem
 · rw [if_pos (by simpa using q)]
   exact E4 (h n st' hB (Sam.refl _ _ _) n1 n2 so)
 rw [if_neg (by simpa using q)]
 have lt:=up.resolve_left q
 have facts:n>1\/¬ n>1:=Nat.lt_or_ge 1 n |>.imp id fun z=>by omega
 rcases facts with g1|g1
 case' inl =>
  rw [if_pos g1]
  refine U5 (IH C hB (by omega) (by omega) ?_)
  by_cases r:kA k (arrOf st') lo<kA k (arrOf st') (lo+n - 1)
  · simp only [r,B2c,if_true]
    exact E4 (h n st' hB (Sam.refl _ _ _) n1 n2 so)
  simp only [r,B1u,T9,B0d]
  have sz:lo+n<=(arrOf st').size:=by rw [hB.size];omega
  have al:∀ i,lo<=i->i<lo+n->kA k (arrOf st') i=kA k (arrOf st') (lo+n - 1):=fun i i1 i2=>by
   have a1:=so lo i (by omega) i1 i2
   have a2:=so i (lo+n - 1) i1 (by omega) (by omega)
   omega
  refine U5 (HL ?_)
  have tb:=hB.setArr (mirror_perm (arrOf st') lo (lo+n) ((lo+n - lo) / 2))
  have sm:Sam lo (lo+nrem) st' _:=Sam.mirror (st:=st') (i:=lo) (j:=lo+n) sz (B6 _) (by omega)
  have fl:KS k (mirror (arrOf st') lo (lo+n) ((lo+n - lo) / 2)) lo (n+1):=LQ (xs:=arrOf st') (GE (fun i j h0 hij hj=>by rw [al i h0 (by omega),al j (by omega) hj];exact B1f _) (B1k lt)) (EF sz al)
  generalize hst:setArr st' (mirror (arrOf st') lo (lo+n) ((lo+n - lo) / 2))=st2 at tb sm ⊢
  rw [show mirror (arrOf st') lo (lo+n) ((lo+n - lo) / 2)=arrOf st2 by rw [<- hst]] at fl
  clear hst al
 case' inr =>
  rw [if_neg g1]
  have fl:KS k (arrOf st') lo (n+1):=GE (fun i j h0 hij hj=>by
   have:i=j:=by omega
   subst this;exact B1f _) (B1k lt)
  obtain ⟨st2,hst⟩:∃ z,z=st':=⟨_,rfl⟩
  have sm:Sam lo (lo+nrem) st' st2:=by rw [hst];exact Sam.refl _ _ _
  have tb:TB κ a₀ st2:=by rw [hst];exact hB
  rw [<- hst] at fl
  rw [<- hst]
  clear hst
 all_goals
  refine U5 (wpS_lift (B1t ⟨rfl,?_⟩))
  refine U5 (wpS_mono (B2a (I:=fun x c st'=>∃ u,c=(none,x,u)/\TB κ a₀ st'/\Sam lo (lo+nrem) st2 st'/\KS k (arrOf st') lo x/\u+1<=x/\∀ i,lo+x - (u+1)<=i->i<lo+x->kA k (arrOf st') i=kA k (arrOf st') (lo+x - 1))
   (Q:=fun c st'=>∃ x u,c=(none,x,u)/\n+1<=x/\x<=nrem/\TB κ a₀ st'/\Sam lo (lo+nrem) st2 st'/\KS k (arrOf st') lo x/\u+1<=x/\∀ i,lo+x - (u+1)<=i->i<lo+x->kA k (arrOf st') i=kA k (arrOf st') (lo+x - 1)) ?_ ?_ ⟨0,rfl,tb,Sam.refl _ _ _,fl,by omega,fun i i1 i2=>by congr 1;omega⟩) ?_)
  · rintro x c st3 hx1 hx ⟨u,rfl,b1,b2,b3,b4,b5⟩
    dsimp only
    have sz:lo+x<=(arrOf st3).size:=by rw [b1.size];omega
    refine U5 (IH C b1 (by omega) (by omega) ?_)
    by_cases q:kA k (arrOf st3) (lo+x)<kA k (arrOf st3) (lo+x - 1)
    · simp only [q,B2c,if_true]
      by_cases z:u>0
      · rw [if_pos z]
        refine U5 (HL (E4 ⟨0,rfl,b1.setArr (mirror_perm _ _ _ _),b2.trans (Sam.mirror sz (by omega) (by omega)),LQ (xs:=arrOf st3) (GE b3 (B1k q)) (EF sz b5),by omega,fun i i1 i2=>by congr 1;omega⟩))
      · rw [if_neg z]
        exact E4 ⟨0,rfl,b1,b2,GE b3 (B1k q),by omega,fun i i1 i2=>by congr 1;omega⟩
    · simp only [q,B1u,T9,B0d]
      refine U5 (IH C b1 (by omega) (by omega) ?_)
      by_cases z:kA k (arrOf st3) (lo+x - 1)<kA k (arrOf st3) (lo+x)
      · simp only [z,B2c,if_true]
        exact E4 ⟨x,u,rfl,hx1,by omega,b1,b2,b3,b4,b5⟩
      · simp only [z,B1u,T9,B0d]
        have eq:kA k (arrOf st3) (lo+x)=kA k (arrOf st3) (lo+x - 1):=by omega
        refine E4 ⟨u+1,rfl,b1,b2,GE b3 (Int.le_of_eq eq),by omega,fun i i1 i2=>?_⟩
        rw [show lo+(x+1) - 1=lo+x by omega]
        by_cases ei:i=lo+x
        · rw [ei]
        · rw [eq];exact b5 i (by omega) (by omega)
  · rintro c st3 ⟨u,rfl,b1,b2,b3,b4,b5⟩
    rw [show max (n+1) nrem=nrem by omega] at b3 b4 b5 ⊢
    exact ⟨nrem,u,rfl,by omega,B6 _,b1,b2,b3,b4,b5⟩
  rintro c st3 ⟨m,u,rfl,m1,m2,b1,b2,b3,b4,b5⟩
  dsimp only
  have sz:lo+m<=(arrOf st3).size:=by rw [b1.size];omega
  have fin:∀ st4:SortSt,TB κ a₀ st4->Sam lo (lo+nrem) st3 st4->KS k (arrOf st4) lo m->TB κ a₀ (setArr st4 (mirror (arrOf st4) lo (lo+m) ((lo+m - lo) / 2)))/\Sam lo (lo+nrem) st' (setArr st4 (mirror (arrOf st4) lo (lo+m) ((lo+m - lo) / 2)))/\LX k (mirror (arrOf st4) lo (lo+m) ((lo+m - lo) / 2)) lo m:=fun st4 c1 c2 c3=>by
   have sz4:lo+m<=(arrOf st4).size:=by rw [c1.size];omega
   refine ⟨c1.setArr (mirror_perm _ _ _ _),(sm.trans (b2.trans c2)).trans (Sam.mirror sz4 (B6 _) (by omega)),fun i j h0 hij hj=>?_⟩
   rw [LM sz4,LM sz4,if_pos (by omega),if_pos (by omega)]
   exact c3 _ _ (by omega) (by omega) (by omega)
  have z:u>0\/¬ u>0:=Nat.eq_zero_or_pos u |>.symm.imp id fun z=>by omega
  rcases z with z|z
  case' inl =>
   rw [if_pos z]
   refine U5 (HL ?_)
   refine U5 (HL ?_)
   obtain ⟨d1,d2,d3⟩:=fin _ (b1.setArr (mirror_perm (arrOf st3) (lo+m - (u+1)) (lo+m) ((lo+m - (lo+m - (u+1))) / 2))) (Sam.mirror sz (by omega) (by omega)) (LQ b3 (EF sz b5))
  case' inr =>
   rw [if_neg z]
   refine U5 (HL ?_)
   obtain ⟨d1,d2,d3⟩:=fin _ b1 (Sam.refl _ _ _) b3
  all_goals
   refine U5 (wpS_mono (B2a (I:=fun x c sx=>c=(none,x)/\TB κ a₀ sx/\Sam lo (lo+nrem) st' sx/\LX k (arrOf sx) lo x) (Q:=fun c sx=>∃ x,c=(none,x)/\1<=x/\x<=nrem/\TB κ a₀ sx/\Sam lo (lo+nrem) st' sx/\LX k (arrOf sx) lo x) ?_ ?_ ⟨rfl,d1,d2,d3⟩) ?_)
   · rintro x c st5 hx1 hx ⟨rfl,e1,e2,e3⟩
     dsimp only
     refine U5 (IH C e1 (by omega) (by omega) ?_)
     by_cases q:kA k (arrOf st5) (lo+x)<kA k (arrOf st5) (lo+x - 1)
     · simp only [q,B2c,if_true]
       exact E4 ⟨x,rfl,by omega,by omega,e1,e2,e3⟩
     · simp only [q,B1u,T9,B0d]
       exact E4 ⟨rfl,e1,e2,TC e3 q⟩
   · rintro c st5 ⟨rfl,e1,e2,e3⟩
     rw [show max m nrem=nrem by omega] at e3 ⊢
     exact ⟨nrem,rfl,h1,B6 _,e1,e2,e3⟩
   rintro c st5 ⟨x,rfl,x1,x2,e1,e2,e3⟩
   exact E4 (h x _ e1 e2 x1 x2 e3)
end
def SrtA (k:Keyed->Int)(xs:Array Keyed):Prop:=LX k xs 0 xs.size
theorem SrtA.le {k:Keyed->Int}{xs:Array Keyed}(h:SrtA k xs){i j:Nat}(hij:i<=j)(hj:j<xs.size):kA k xs i<=kA k xs j:=h i j (W1 _) hij (by omega)
theorem J1p {n:Nat}(h2:2<=n)(h:n<64):minRun' n n 0=n:=by
 obtain ⟨f,rfl⟩:∃ f,n=f+2:=⟨n - 2,by omega⟩
 rw [minRun'_succ,if_pos h]
section
variable {prog:Program}{w:World}{A:Around}{E:Value->Shared->Prop}{s:Shared}{κ:SortKind}{a₀:Array Keyed}{k:Keyed->Int}
theorem J0t {st:SortSt}{Q:Unit->SortSt->Prop}(C:Cmp prog w A s κ a₀ k)(hB:TB κ a₀ st)(hp:pendingOf st=#[])(h2:2<=a₀.size)(h128:a₀.size<64)
 (h:∀ st',TB κ a₀ st'->SrtA k (arrOf st')->Q () st'):wpS (model prog w) A E s sortRuns' Q st:=by
 have r1:=J1p h2 h128
 rw [sortRuns'_eq]
 refine U5 (wpS_get ?_)
 dsimp only
 rw [hB.size,r1]
 refine U5 (wpS_mono (B2a
  (I:=fun x c sx=>TB κ a₀ sx/\((x=0/\c=(none,0)/\pendingOf sx=#[])\/(1<=x/\c=(none,a₀.size)/\SrtA k (arrOf sx)/\∃ p,pendingOf sx=#[(0,a₀.size,p)])))
  (Q:=fun c sx=>TB κ a₀ sx/\c=(none,a₀.size)/\SrtA k (arrOf sx)/\∃ p,pendingOf sx=#[(0,a₀.size,p)]) ?_ ?_ ⟨hB,.inl ⟨rfl,rfl,hp⟩⟩) ?_)
 · rintro x c sx _ hx ⟨tb,⟨rfl,rfl,pe⟩|⟨x1,rfl,so,p,pe⟩⟩
   · dsimp only
     rw [if_neg (by omega)]
     simp only [Nat.sub_zero,Nat.zero_add]
     refine U5 (J2z C (by omega) (by omega) tb fun m sy tb1 sm m1 m2 so=>?_)
     dsimp only
     have pe1:pendingOf sy=#[]:=sm.pend.trans pe
     by_cases c1:m<a₀.size
     · rw [if_pos c1]
       refine U5 (wpS_lift (B1t ⟨rfl,?_⟩))
       have em:min a₀.size a₀.size=a₀.size:=Nat.min_self _
       refine U5 (J3a C (by omega) (by omega) tb1 so fun sz tb2 sm2 so2=>?_)
       simp only [Bool.not_true,T9,B0d]
       refine U5 (wpS_get ?_)
       have pe2:pendingOf sz=#[]:=sm2.pend.trans pe1
       have hb:(pendingOf sz).back?=none:=by rw [pe2];rfl
       rw [hb]
       dsimp only
       rw [em] at so2 ⊢
       exact U5 (wpS_modify (E4 ⟨⟨tb2.perm,tb2.kind,tb2.ok⟩,.inr ⟨B6 _,rfl,(fun i j h0 hij hj=>so2 i j h0 hij (by rw [show (arrOf sz).size=a₀.size from tb2.size] at hj;exact hj)),0,by show (pendingOf sz).push _=_;rw [pe2];rfl⟩⟩))
     · rw [if_neg c1]
       have e:m=a₀.size:=by omega
       subst e
       refine U5 (wpS_get ?_)
       have hb:(pendingOf sy).back?=none:=by rw [pe1];rfl
       rw [hb]
       dsimp only
       exact U5 (wpS_modify (E4 ⟨⟨tb1.perm,tb1.kind,tb1.ok⟩,.inr ⟨B6 _,rfl,(fun i j h0 hij hj=>so i j h0 hij (by rw [show (arrOf sy).size=a₀.size from tb1.size] at hj;exact hj)),0,by show (pendingOf sy).push _=_;rw [pe1];rfl⟩⟩))
   · dsimp only
     rw [if_pos (B6 _)]
     exact E4 ⟨tb,rfl,so,p,pe⟩
 · rintro c sx ⟨tb,⟨h0,_⟩|⟨_,e,so,p,pe⟩⟩
   · omega
   · exact ⟨tb,e,so,p,pe⟩
 rintro c sx ⟨tb,rfl,so,p,pe⟩
 dsimp only
 refine U5 (wpS_mono (B2a (I:=fun _ c sy=>sy=sx/\c=(none,())) (Q:=fun c sy=>sy=sx/\c=(none,())) ?_ (fun _ _ z=>z) ⟨rfl,rfl⟩) ?_)
 · rintro y c sy _ _ ⟨rfl,rfl⟩
   refine U5 (wpS_get ?_)
   rw [if_pos (by rw [pe];exact B6 1)]
   exact E4 ⟨rfl,rfl⟩
 · rintro c sy ⟨rfl,rfl⟩
   exact E4 (h _ tb so)
end
def CV (p:Int):List Int->Int
 | []=>p
 | a::ns=>CV (p*18446744073709551616+a) ns
def KH:List Int->List Int->Bool
 | a::ns,c::ms=>decide (a<c)||(decide (a=c)&&KH ns ms)
 | _,_=>false
def BR (z:Int):Prop:=-1000000000000000000<z/\z<1000000000000000000
theorem ZR:∀ (ns ms:List Int) (p q:Int),ns.length=ms.length->(∀ z∈ns,BR z)->(∀ z∈ms,BR z)->(CV p ns<CV q ms↔p<q\/(p=q/\KH ns ms=true))
 | [],[],p,q,_,_,_=>by
   show p<q↔_
   simp [KH]
 | a::ns,c::ms,p,q,hl,hn,hm=>by
   have h1:=hn a (B8 ..)
   have h2:=hm c (B8 ..)
   have ih:=ZR ns ms (p*18446744073709551616+a) (q*18446744073709551616+c) (by simpa using hl) (fun z hz=>hn z (L6 _ hz)) fun z hz=>hm z (L6 _ hz)
   show CV (p*18446744073709551616+a) ns<CV (q*18446744073709551616+c) ms↔_
   rw [ih]
   clear ih hn hm hl
   unfold BR at h1 h2
   show _↔p<q\/(p=q/\(decide (a<c)||(decide (a=c)&&KH ns ms))=true)
   simp only [Bool.or_eq_true,L1,E9]
   cases KH ns ms
   · simp only [T9,and_false,W3]
     rcases B2g p q with z|z|z<;>omega
   · simp only [and_true]
     rcases B2g p q with z|z|z<;>rcases B2g a c with y|y|y<;>omega
theorem VA:∀ (ns ms:List Int) (p q:Int),ns.length=ms.length->(∀ z∈ns,BR z)->(∀ z∈ms,BR z)->CV p ns=CV q ms->p=q/\ns=ms
 | [],[],p,q,_,_,_,h=>⟨h,rfl⟩
 | a::ns,c::ms,p,q,hl,hn,hm,h=>by
   have h1:=hn a (B8 ..)
   have h2:=hm c (B8 ..)
   obtain ⟨e1,e2⟩:=VA ns ms (p*18446744073709551616+a) (q*18446744073709551616+c) (by simpa using hl) (fun z hz=>hn z (L6 _ hz)) (fun z hz=>hm z (L6 _ hz)) h
   unfold BR at h1 h2
   have e3:p=q/\a=c:=by rcases B2g p q with z|z|z<;>omega
   exact ⟨e3.1,by rw [e3.2,e2]⟩
structure TupZ (h:Heap)(v:Value)(ns:List Int):Prop where
 ex:∃ a o xs n,v=.ref a/\h.get? a=some o/\o.cls=.type "tuple"/\o.data=.seq xs n/\IntsAre xs.toList ns
section
variable {prog:Program}{w:World}{A:Around}{E:Value->Shared->Prop}{s:Shared}
theorem J1j {b:Bool}{x y:Int}{t u:Tok}{Q:Bool->Shared->Prop}(h:Q (decide (x<y)) s):wpAny (model prog w) A (oneLt' b (.int x t) (.int y u)) Q E s:=by
 cases b
 · refine PySem.W.kat_one _ _ ?_
   exact CmpOf.ints_lt (prog:=prog) (w:=w) (A:=A) (P:=fun i v=>∃ t,v=.int (if i=0 then x else y) t) (fun i=>if i=0 then x else y) (fun i v h=>h) 0 1 _ _ _ _ _ ⟨t,rfl⟩ ⟨u,rfl⟩ h
 · exact oneLt_int h
theorem LZ {b:Bool}{Q:Bool->Shared->Prop}:∀ {xs ys:List Value} {ns ms:List Int} (i:Nat),IntsAre xs ns->IntsAre ys ms->ns.length=ms.length->Q (KH ns ms) s->PySem.W.KatLex prog w A b false Q (xs.zip ys) i s
 | _,_,_,_,i,.nil,.nil,_,h=>PySem.W.kat_nil h
 | _,_,_,_,i,.cons a t hx,.cons c u hy,hl,h=>by
   rw [List.zip_cons_cons]
   refine PySem.W.kat_cons (wpAny_eqBool_int ?_)
   unfold KH at h
   by_cases e:a=c
   · subst e
     rw [show (a==a)=true by simp]
     refine PySem.W.kat_yes (LZ (i+1) hx hy (by simpa using hl) ?_)
     simpa using h
   · rw [show (a==c)=false by simpa using e]
     refine PySem.W.kat_no (J1j ?_)
     have:decide (a=c)=false:=by simpa using e
     rw [this] at h
     simpa using h
theorem UU {vs:List Value}{ns:List Int}(h:IntsAre vs ns):vs.length=ns.length:=by
 induction h with
 | nil=>rfl
 | cons n t _ ih=>simp [ih]
theorem J9p {b:Bool}{x y:Value}{ns ms:List Int}{Q:Bool->Shared->Prop}(hx:TupZ s.heap x ns)(hy:TupZ s.heap y ms)(hl:ns.length=ms.length)(h:Q (KH ns ms) s):wpAny (model prog w) A (keyLt' (tuples' b) x y) Q E s:=by
 obtain ⟨a,o,xs,n,rfl,g1,c1,d1,i1⟩:=hx
 obtain ⟨a',o',ys,n',rfl,g2,c2,d2,i2⟩:=hy
 refine PySem.W.kat_lt g1 d1 g2 d2 ?_
 have e:decide (xs.size<ys.size)=false:=by
  have z1:=UU i1
  have z2:=UU i2
  simp at z1 z2
  simp;omega
 rw [e]
 exact LZ 0 i1 i2 hl h
theorem J1s {vs:List Value}{rows:Value->List Int}{Q:SortKind->Shared->Prop}(ht:∀ v∈vs,TupZ s.heap v (rows v))(hp:∀ v∈vs,rows v≠[])(hne:0<vs.length)(h:Q (tuples' true) s):wpAny (model prog w) A (keyKind' vs.toArray) Q E s:=by
 have mk:∀ vs:List Value,(∀ v∈vs,TupZ s.heap v (rows v))->(∀ v∈vs,rows v≠[])->∃ fs,PySem.W.KatTups s.heap vs fs/\fs.length=vs.length/\∀ v∈fs,∃ n t,v=Value.int n t:=by
  intro vs
  induction vs with
  | nil=>exact fun _ _=>⟨[],PySem.W.KatTups.nil,rfl,by simp⟩
  | cons v vs ih =>
    intro ht hp
    obtain ⟨fs,k1,k2,k3⟩:=ih (fun v hv=>ht v (L6 _ hv)) fun v hv=>hp v (L6 _ hv)
    obtain ⟨a,o,xs,n,e,g1,c1,d1,i1⟩:=(ht v (B8 ..)).ex
    have hr:=hp v (B8 ..)
    generalize rows v=r at hr i1
    generalize hx:xs.toList=l at i1
    cases i1 with
    | nil=>exact absurd rfl hr
    | cons m t i2 =>
      refine ⟨.int m t::fs,?_,by simp [k2],fun v hv=>?_⟩
      · rw [e]
        exact PySem.W.KatTups.cons g1 c1 d1 (by rw [<- Array.getElem?_toList,hx];rfl) k1
      · rcases B7.mp hv with rfl|hv
        · exact ⟨m,t,rfl⟩
        · exact k3 v hv
 obtain ⟨fs,k1,k2,k3⟩:=mk vs ht hp
 refine PySem.W.kat_kind (T:=.type "int") k1 (by omega) (fun v hv=>?_) (by decide) ?_
 · obtain ⟨n,t,rfl⟩:=k3 v hv
   exact PySem.W.Looks.of_pure rfl
 · exact h
theorem NT {a:Addr}{vs:List Value}{n m:Nat}{rows:Value->List Int}{P:Fin->Shared->Prop}(gl:s.heap.get? a=some (seqObj "list" vs.toArray n))
 (ht:∀ v∈vs,TupZ s.heap v (rows v)) (hm:∀ v∈vs,(rows v).length=m/\∀ z∈rows v,BR z) (m0:0<m) (h64:vs.length<64)
 (h:∀ out:Array Value,out.toList.Perm vs->out.toList.Pairwise (fun x y=>CV 0 (rows x)<=CV 0 (rows y))->P (.done (.ret .none)) { s with heap:=sortedHeap s.heap a vs out }) :
 wpAny (model prog w) A (Builtin.«list.sort» ⟨[.ref a],[]⟩) P E s:=by
 rw [list_sort_plain]
 have al:a<s.heap.objs.size:=B2 gl
 refine B0 (listItems_at gl rfl ?_)
 refine B0 (listUpdate_at gl rfl ?_)
 obtain ⟨ep1,gl1⟩:∃ ep1,(s.heap.update a (Obj.mapSeq fun _=>#[])).get? a=some (seqObj "list" #[] ep1):=⟨_,get?_update_seq gl (fun _=>#[])⟩
 refine B0 (seqEpoch_at gl1 rfl ?_)
 refine B0 (wpAny_newTuple ?_)
 refine B0 (wpAny_newList ?_)
 refine E6 ?_
 have keep:∀ b o,b≠a->s.heap.get? b=some o->(((s.heap.update a (Obj.mapSeq fun _=>#[])).push (seqObj "tuple" vs.toArray 0)).push (seqObj "list" #[] 0)).get? b=some o:=fun b o hb g=>by
  refine B1 _ (B1 _ ?_)
  rw [B2h _ _ _ _ hb]
  exact g
 have gl6:(((s.heap.update a (Obj.mapSeq fun _=>#[])).push (seqObj "tuple" vs.toArray 0)).push (seqObj "list" #[] 0)).get? a=some (seqObj "list" #[] ep1):=B1 _ (B1 _ gl1)
 have ht6:∀ v∈vs,TupZ (((s.heap.update a (Obj.mapSeq fun _=>#[])).push (seqObj "tuple" vs.toArray 0)).push (seqObj "list" #[] 0)) v (rows v):=fun v hv=>by
  obtain ⟨b,o,xs,n',e,g1,c1,d1,i1⟩:=ht v hv
  refine ⟨b,o,xs,n',e,keep b o (fun z=>?_) g1,c1,d1,i1⟩
  rw [z,gl] at g1
  cases g1
  exact absurd c1 (by simp [seqObj])
 show wpAny (model prog w) A _ P E { s with heap:=((s.heap.update a (Obj.mapSeq fun _=>#[])).push (seqObj "tuple" vs.toArray 0)).push (seqObj "list" #[] 0) }
 dsimp only
 have sz0:vs.toArray.size=vs.length:=by simp
 have fin:∀ xs:Array Keyed,xs.Perm (pairsOf vs)->SrtA (fun p=>CV 0 (rows p.1)) xs->P (.done (.ret .none)) { s with heap:=sortedHeap s.heap a vs (xs.map (·.2)) }:=fun xs hp hs=>by
  have zl:xs.toList.Perm (vs.zip vs):=by rw [<- pairsOf_toList];exact Array.perm_iff_toList_perm.mp hp
  have both:∀ p,p∈xs.toList->p.1=p.2:=fun p hp'=>(mem_zip_self (zl.mem_iff.mp hp')).1
  have e:(xs.map (·.2)).toList=xs.toList.map (·.1):=by
   rw [Array.toList_map];exact List.map_congr_left fun p hp'=>(both p hp').symm
  refine h _ ?_ ?_
  · rw [e]
    have:=zl.map Prod.fst
    rwa [List.map_fst_zip (B6 _)] at this
  · rw [e,List.pairwise_iff_getElem]
    intro i j hi hj hij
    have ib:i<xs.size:=by simpa using hi
    have jb:j<xs.size:=by simpa using hj
    have q:=hs.le (B1v hij) jb
    rw [ZL ib,ZL jb] at q
    simpa using q
 by_cases h2:vs.toArray.size<2
 · rw [if_pos h2,if_pos h2]
   refine B0 (B5 ?_)
   rw [StateT.run_pure]
   refine B0 (B5 ?_)
   dsimp only
   refine B0 (seqEpoch_at gl6 rfl ?_)
   refine B0 (listUpdate_at gl6 rfl ?_ (hsz2:=by rw [Array.size_map];show (pairsOf vs).size<=_;rw [pairsOf_size,B1w];omega))
   simp only [bne_self_eq_false,T9,B0d]
   refine B5 (fin (vs.toArray.zip vs.toArray) (Array.Perm.refl _) ?_)
   intro i j _ hij hj
   have z:(vs.toArray.zip vs.toArray).size=vs.length:=pairsOf_size vs
   have:i=j:=by omega
   subst this;exact B1f _
 · rw [if_neg h2,if_neg h2]
   refine B0 (J1s ht6 (fun v hv (z:rows v=[])=>by have:=(hm v hv).1;rw [z] at this;simp at this;omega) (by omega) ?_)
   have C:Cmp prog w A { s with heap:=((s.heap.update a (Obj.mapSeq fun _=>#[])).push (seqObj "tuple" vs.toArray 0)).push (seqObj "list" #[] 0) } (tuples' true) (pairsOf vs) (fun p=>CV 0 (rows p.1)):=⟨fun x hx y hy E' Q q=>by
    rw [pairsOf_toList] at hx hy
    have mx:=(mem_zip_self hx).2
    have my:=(mem_zip_self hy).2
    refine J9p (ht6 _ mx) (ht6 _ my) (by rw [(hm _ mx).1,(hm _ my).1]) ?_
    have:=ZR (rows x.1) (rows y.1) 0 0 (by rw [(hm _ mx).1,(hm _ my).1]) (hm _ mx).2 (hm _ my).2
    have e:KH (rows x.1) (rows y.1)=decide (CV 0 (rows x.1)<CV 0 (rows y.1)):=by
     rw [B0n,E9,this]
     simp
    rw [e]
    exact q⟩
   have zp:(pairsOf vs).size=vs.length:=pairsOf_size vs
   refine B0 (U7 (J0t (E:=E) (a₀:=pairsOf vs) (st:=SortSt.mk' (tuples' true) (vs.toArray.zip vs.toArray) #[] 7 none)
    (Q:=fun _ st'=>TB (tuples' true) (pairsOf vs) st'/\SrtA (fun p=>CV 0 (rows p.1)) (arrOf st')) C ⟨Array.Perm.refl _,rfl,rfl⟩ rfl (by omega) (by omega) fun st' a1 a2=>⟨a1,a2⟩) ?_ fun _ _ e=>e)
   rintro ⟨⟨⟩,st'⟩ s' ⟨rfl,tb,hs⟩
   dsimp only
   refine B0 (seqEpoch_at gl6 rfl ?_)
   refine B0 (listUpdate_at gl6 rfl ?_ (hsz2:=by refine M7 (Nat.le_of_eq ((Array.size_map ..).trans (tb.size.trans (pairsOf_size _)))) ?_;rw [B1w];omega))
   rw [tb.ok]
   simp only [bne_self_eq_false,T9,B0d]
   exact B5 (fin (arrOf st') tb.perm hs)
end
section
variable {prog:Program}{w:World}{A:Around}{E:Value->Shared->Prop}{s:Shared}
theorem VB {it l:Addr}{items:Array Value}(hne:l≠it):∀ (n i:Nat) (s:Shared) (Q:List Value->Shared->Prop),s.heap.IsListIter it l i->s.heap.IsList l items->i+n<=items.size ->
 (∀ h',h'.IsListIter it l (i+n)->Heap.SameBut it s.heap h'->Q ((items.toList.drop i).take n) { s with heap:=h' })->wpAny (model prog w) A (draw (.ref it) n) Q E s
 | 0,i,s,Q,hit,_,_,hQ=>by
   show wpAny _ _ (pure []) Q E s;exact B5 (by simpa using hQ s.heap hit (Heap.SameBut.refl ..))
 | n+1,i,s,Q,hit,ht,hle,hQ=>by
   have hlt:i<items.size:=by omega
   show wpAny _ _ (pyNext (.ref it) >>= _) Q E s;refine B0 (wpAny_pyNext_list_item hit ht (x:=items[i]) (by simp [hlt]) fun h₁ hit₁ hs₁=>?_)
   have ht1:h₁.IsList l items:=by
    obtain ⟨o,e,r⟩:=ht
    exact ⟨o,(hs₁.2 l hne).trans e,r⟩
   refine B0 (E6 (VB hne n (i+1) _ _ hit₁ ht1 (by omega) fun h₂ hit₂ hs₂=>B5 ?_))
   have hd:items.toList.drop i=items[i]::items.toList.drop (i+1):=by simp [B0w,hlt]
   have:=hQ h₂ (by rw [show i+(n+1)=i+1+n by omega];exact hit₂) (hs₁.trans hs₂)
   rw [hd,List.take_succ_cons] at this
   exact this
theorem MG {l:Addr}{items:Array Value}{Q:List Value->Shared->Prop}(hh:A.handled=none)(ht:s.heap.IsList l items)
 (hQ:∀ h',Heap.ExtBut s.heap.objs.size s.heap h'->Q items.toList { s with heap:=h' }):wpAny (model prog w) A (unpackItems (.ref l) items.size none) Q E s:=by
 have hlt:l≠s.heap.objs.size:=by obtain ⟨o,ho,_⟩:=ht;exact R9 (B2 ho)
 have ty:s.TypeIs (.ref l) "list":=by obtain ⟨o,ho,hc,_⟩:=ht;exact ⟨o,ho,hc⟩
 unfold unpackItems;refine B0 ?_
 unfold notIterableAtAll;refine B0 (wpAny_specialOf ty slot_list_iter.lookup ?_)
 refine B5 ?_;simp only [T9,B0d]
 refine B0 (E6 (B1o ht ?_))
 have hp:∀ ob:Obj,(s.heap.push ob).IsList l items:=fun ob=>by
  obtain ⟨o,e,r⟩:=ht
  exact ⟨o,B1 _ e,r⟩
 refine B0 (E6 (VB hlt items.size 0 _ _ ⟨_,L8 _ rfl,rfl,rfl⟩ (hp _) (by omega) fun h₁ hit₁ hs₁=>?_))
 have hall:List.take items.size (List.drop 0 items.toList)=items.toList:=by rw [List.drop_zero];exact B0l (by simp)
 rw [hall,if_neg (by simp)]
 have ht₁:h₁.IsList l items:=by
  obtain ⟨o,e,r⟩:=ht
  exact ⟨o,(hs₁.2 l hlt).trans (B1 _ e),r⟩
 refine B0 (E6 (wpAny_pyNext_list_end hh hit₁ ht₁ (by simp) fun h₂ he₂=>?_))
 simp only [Option.isSome_none,T9,B0d]
 refine B5 (hQ h₂ fun b o hb e=>he₂ b o hb (hs₁.extBut b o hb (B1 _ e)))
end
section
variable {X:Cx}
def Q8z (K:Fg)(n:Nat)(t:TGs):TG:=fun v σ H Q=>∃ a xs,v=.ref a/\SqL K H a xs/\xs.length=n/\t xs σ H Q
theorem AL {es:List Expr}{k:Nat}{t:TGs}{n:Nat}{pos:Pos}(K:Fg)(hK:X.K=K)(hc:X.calm=true)(h:PGs X es t)(hn:(assignEach es X.env).length=n:=by rfl)(hst:(assignEach es X.env).findIdx? (·.1)=none:=by rfl):PG X (.Tuple es k pos) (Q8z K n t):=by
 subst hK
 intro pins s σ H v u Q I r hw
 obtain ⟨a,xs,e1,hq,hl,hw⟩:=hw
 subst e1
 cases r
 obtain ⟨its,rv,p,hz⟩:=I.list hq
 have hl':its.toArray.size=n:=by simp [<- hl,rv.length]
 rw [assign_Tuple];refine B0 (D6 ?_)
 unfold unpack;rw [hn,hst,<- hl']
 refine B0 (E6 (MG (I.ok.hd hc) p.isList fun h' hx=>?_))
 have I1:Inv X pins σ H { s with heap:=h' }:=I.kept (t':=s.toks) fun b o e=>hx b o (R9 (B2 e)) e
 exact h pins _ σ H xs _ Q I1 (by simpa using rv) hw
end
structure Frg where
 ads:List Addr
 R:(Addr->Prop)->Hp->V->Prop
 keep:∀ M H H' v,(∀ c o,(¬ M c\/c∈ads)->H c=some o->H' c=some o)->R M H v->R M H' v
 avoid:∀ M M' H v,(∀ c,M' c->M c\/H c=none)->R M H v->R M' H v
 ref:∀ M H v,R M H v->∃ a,v=.ref a
 nt:∀ M H v,R M H v->∀ c∈ads,∃ o,H c=some o/\∀ vs,o≠.tup vs
abbrev Tg:=List (List Int×Addr×Value)×Nat
inductive D where
 | non|bl (b:Bool)|int (i:Int)|str (x:Str)|ty (n:String)|adr (a:Addr)
 | tup (xs:List D)|lst (xs:List D)|own (xs:List D)|bag|scr (ns:List Int)|dct (t:Tg) (ks:List (List Int)) (xs:List D)|frg (f:Frg) (d:D)
structure BagT where
 ok:Addr->Hp->Prop
 st:∀ p H H',ok p H->(∀ o,H p=some o->H' p=some o)->ok p H'
 dm:∀ p H,ok p H->∃ o,H p=some o
def KTp (K:Fg)(a:Addr)(xs:List V):Prop:=∃ (o:Obj) (its:Array Value) (n:Nat),K.lookup a=some o/\o.cls=.type "tuple"/\o.data=.seq its n/\its.size<=sizeLine/\Vals xs its.toList
def TpA (K:Fg)(M:Addr->Prop)(H:Hp)(a:Addr)(vs:List V):Prop:=(¬ M a/\H a=some (.tup vs))\/KTp K a vs
theorem TpA.sq {H:Hp}{a:Addr}{vs:List V}(h:TpA K M H a vs):SqT K H a vs:=h.elim (fun z=>.inl (.inl z.2)) .inr
theorem TpA.keep {H H':Hp}{a:Addr}{vs:List V}(k:∀ b o,¬ M b->H b=some o->H' b=some o)(h:TpA K M H a vs):TpA K M H' a vs:=h.imp (fun z=>⟨z.1,k _ _ z.1 z.2⟩) id
theorem TpA.avoid {M M':Addr->Prop}{H:Hp}{a:Addr}{vs:List V}(k:∀ b,M' b->M b\/H b=none)(h:TpA K M H a vs):TpA K M' H a vs:=by
 refine h.imp (fun z=>⟨fun m=>?_,z.2⟩) id
 rcases k a m with n|n
 · exact z.1 n
 · rw [n] at z;cases z.2
def KL (K:Fg)(a:Addr)(xs:List V):Prop:=∃ (o:Obj) (its:Array Value) (n:Nat),K.lookup a=some o/\o.cls=.type "list"/\o.dict=none/\o.data=.seq its n/\its.size<=sizeLine/\Vals xs its.toList
def tkH (ns:List Int):Int:=reduceHash (Builtin.Tuple.tupleHashOf (ns.map hashInt))
def Q9u (x:List Int×Addr×Value):DictEntry:=⟨tkH x.1,.ref x.2.1,x.2.2⟩
def DOb (a:Addr)(es:List (List Int×Addr×Value))(ep:Nat):HO:=.ext fun h=>((a==sysModules)=false/\es.length<=sizeLine/\(es.map (·.1)).Nodup)/\∃ (o:Obj) (ds:Array DictEntry),h.get? a=some o/\o.ExactDict/\o.data=.dict ds ep/\ds.toList=es.map Q9u
def DctE (K:Fg)(M:Addr->Prop)(H:Hp)(es:List (List Int×Addr×Value))(ks:List (List Int))(vs:List V):Prop:=es.map (·.1)=ks/\(∀ e∈es,TpA K M H e.2.1 (e.1.map V.int))/\Vals vs (es.map (·.2.2))
theorem DctE.keep {H H':Hp}{es:List (List Int×Addr×Value)}{ks:List (List Int)}{vs:List V}(k:∀ b o,¬ M b->H b=some o->H' b=some o)(h:DctE K M H es ks vs):DctE K M H' es ks vs:=⟨h.1,fun e m=>(h.2.1 e m).keep k,h.2.2⟩
theorem DctE.avoid {M M':Addr->Prop}{H:Hp}{es:List (List Int×Addr×Value)}{ks:List (List Int)}{vs:List V}(k:∀ b,M' b->M b\/H b=none)(h:DctE K M H es ks vs):DctE K M' H es ks vs:=⟨h.1,fun e m=>(h.2.1 e m).avoid k,h.2.2⟩
mutual
def Rep (K:Fg)(M:Addr->Prop)(H:Hp):D->V->Prop
 | .non,v=>v=.non
 | .bl b,v=>v=.bl b
 | .int i,v=>v=.int i
 | .str x,v=>v=.str x
 | .ty n,v=>v=.ty n
 | .adr a,v=>v=.ref a
 | .tup xs,v=>∃ a vs,v=.ref a/\TpA K M H a vs/\Reps K M H xs vs
 | .lst xs,v=>∃ a vs,v=.ref a/\(¬ M a/\H a=some (.lst vs))/\Reps K M H xs vs
 | .own _,_=>False
 | .bag,_=>False
 | .frg _ _,_=>False
 | .scr ns,v=>∃ a,v=.ref a/\((¬ M a/\Rd H a (.lst (ns.map V.int)))\/KL K a (ns.map V.int))
 | .dct t ks xs,v=>∃ (a:Addr) (vs:List V),v=.ref a/\(¬ M a/\H a=some (DOb a t.1 t.2)/\DctE K M H t.1 ks vs)/\Reps K M H xs vs
def Reps (K:Fg)(M:Addr->Prop)(H:Hp):List D->List V->Prop
 | [],vs=>vs=[]
 | d::ds,vs=>∃ v r,vs=v::r/\Rep K M H d v/\Reps K M H ds r
end
theorem Rd.keep {H H':Hp}{a:Addr}{u:HO}(k:∀ o,H a=some o->H' a=some o)(h:Rd H a u):Rd H' a u:=by
 rcases h with h|⟨o,h⟩
 · exact .inl (k _ h)
 · exact .inr ⟨o,k _ h⟩
theorem Rd.some {H:Hp}{a:Addr}{u:HO}(h:Rd H a u):H a≠none:=by
 rcases h with h|⟨o,h⟩<;>rw [h]<;>simp
section
variable {K:Fg}{M M':Addr->Prop}{H H':Hp}
mutual
theorem Rep.keep (k:∀ b o,¬ M b->H b=some o->H' b=some o):∀ (d:D) (v:V),Rep K M H d v->Rep K M H' d v
 | .non,_,h=>h
 | .bl _,_,h=>h
 | .int _,_,h=>h
 | .str _,_,h=>h
 | .ty _,_,h=>h
 | .adr _,_,h=>h
 | .tup xs,v,h=>by
   obtain ⟨a,vs,e,z,r⟩:=h
   exact ⟨a,vs,e,z.keep k,Reps.keep k xs vs r⟩
 | .lst xs,v,h=>by
   obtain ⟨a,vs,e,z,r⟩:=h
   exact ⟨a,vs,e,⟨z.1,k _ _ z.1 z.2⟩,Reps.keep k xs vs r⟩
 | .own _,_,h=>h
 | .bag,_,h=>h
 | .frg _ _,_,h=>h
 | .scr ns,v,h=>by
   obtain ⟨a,e,z⟩:=h
   exact ⟨a,e,z.imp (fun q=>⟨q.1,q.2.keep fun o=>k a o q.1⟩) id⟩
 | .dct t ks xs,v,h=>by
   obtain ⟨a,vs,e,z,r⟩:=h
   exact ⟨a,vs,e,⟨z.1,k _ _ z.1 z.2.1,z.2.2.keep k⟩,Reps.keep k xs _ r⟩
theorem Reps.keep (k:∀ b o,¬ M b->H b=some o->H' b=some o):∀ (ds:List D) (vs:List V),Reps K M H ds vs->Reps K M H' ds vs
 | [],_,h=>h
 | d::ds,vs,h=>by
   obtain ⟨v,r,e,h1,h2⟩:=h
   exact ⟨v,r,e,Rep.keep k d v h1,Reps.keep k ds r h2⟩
end
mutual
theorem Rep.avoid (k:∀ b,M' b->M b\/H b=none):∀ (d:D) (v:V),Rep K M H d v->Rep K M' H d v
 | .non,_,h=>h
 | .bl _,_,h=>h
 | .int _,_,h=>h
 | .str _,_,h=>h
 | .ty _,_,h=>h
 | .adr _,_,h=>h
 | .tup xs,v,h=>by
   obtain ⟨a,vs,e,z,r⟩:=h
   exact ⟨a,vs,e,z.avoid k,Reps.avoid k xs vs r⟩
 | .lst xs,v,h=>by
   obtain ⟨a,vs,e,z,r⟩:=h
   refine ⟨a,vs,e,⟨fun m=>?_,z.2⟩,Reps.avoid k xs vs r⟩
   rcases k a m with n|n
   · exact z.1 n
   · rw [n] at z;cases z.2
 | .own _,_,h=>h
 | .bag,_,h=>h
 | .frg _ _,_,h=>h
 | .scr ns,v,h=>by
   obtain ⟨a,e,z⟩:=h
   refine ⟨a,e,z.imp (fun q=>⟨fun m=>?_,q.2⟩) id⟩
   rcases k a m with n|n
   · exact q.1 n
   · exact q.2.some n
 | .dct t ks xs,v,h=>by
   obtain ⟨a,vs,e,z,r⟩:=h
   refine ⟨a,vs,e,⟨fun m=>?_,z.2.1,z.2.2.avoid k⟩,Reps.avoid k xs _ r⟩
   rcases k a m with n|n
   · exact z.1 n
   · rw [n] at z;cases z.2.1
theorem Reps.avoid (k:∀ b,M' b->M b\/H b=none):∀ (ds:List D) (vs:List V),Reps K M H ds vs->Reps K M' H ds vs
 | [],_,h=>h
 | d::ds,vs,h=>by
   obtain ⟨v,r,e,h1,h2⟩:=h
   exact ⟨v,r,e,Rep.avoid k d v h1,Reps.avoid k ds r h2⟩
end
end
abbrev Ev:=List (Option D)
structure Wd where
 K:Fg
 B:BagT
 H0:Hp
 M0:Addr->Prop
 b0:Option Addr
def okB (B:BagT)(b:Option Addr)(H:Hp):Prop:=∀ p,b=some p->B.ok p H
def Kp (b:Option Addr)(H H':Hp):Prop:=∀ c o,b≠some c->H c=some o->H' c=some o
theorem Kp.refl (b:Option Addr)(H:Hp):Kp b H H:=fun _ _ _ h=>h
theorem Kp.trans {H H1 H2:Hp}(x:Kp b H H1)(y:Kp b H1 H2):Kp b H H2:=fun c o n h=>y c o n (x c o n h)
theorem Kp.upd {H:Hp}{p:Addr}{o:HO}(h:H p=none):Kp b H (upd H p o):=fun c u _ e=>Same.upd h c u e
theorem Kp.same {H H':Hp}(h:Same H H'):Kp b H H':=fun c o _ e=>h c o e
def RepX (W:Wd)(M:Addr->Prop)(b:Option Addr)(H:Hp):D->V->Prop
 | .own xs,v=>∃ a vs,v=.ref a/\M a/\b≠some a/\W.H0 a=none/\¬ W.M0 a/\H a=some (.lst vs)/\Reps W.K M H xs vs
 | .bag,v=>∃ p,b=some p/\v=.ref p
 | .frg f d,v=>(∀ c∈f.ads,M c/\b≠some c/\W.H0 c=none/\¬ W.M0 c)/\f.R M H v/\Rep W.K (fun c=>M c/\c∉f.ads) H d v
 | d,v=>Rep W.K M H d v
def plain:D->Bool
 | .own _=>false
 | .bag=>false
 | .frg _ _=>false
 | _=>true
def Z6:D->Bool
 | .own _=>false
 | .frg _ _=>false
 | _=>true
theorem RepX.rep {W:Wd} {H:Hp}{d:D}{v:V}(h:RepX W M b H d v)(p:plain d=true):Rep W.K M H d v:=by
 cases d<;>first|exact h|cases p
theorem Rep.x {W:Wd} {H:Hp}{d:D}{v:V}(h:Rep W.K M H d v):RepX W M b H d v:=by
 cases d<;>first|exact h|exact h.elim
def RepXs (W:Wd)(M:Addr->Prop)(b:Option Addr)(H:Hp):List D->List V->Prop
 | [],vs=>vs=[]
 | d::ds,vs=>∃ v r,vs=v::r/\RepX W M b H d v/\RepXs W M b H ds r
structure Hs (W:Wd)(M:Addr->Prop)(b:Option Addr)(H:Hp):Prop where
 ok:okB W.B b H
 bagM:∀ p,b=some p->M p
 dom:∀ c,M c->∃ o,H c=some o
 m0:∀ c,W.M0 c->M c
theorem RepX.move {W:Wd}{M M':Addr->Prop}{b b':Option Addr}{H H':Hp}{f:Frg}{d:D}{v:V}(h:RepX W M b H (.frg f d) v)(ow:∀ c∈f.ads,M c->b≠some c->M' c/\b'≠some c)(k:∀ c o,(¬ M' c\/c∈f.ads)->H c=some o->H' c=some o)(a:∀ c,M' c->M c\/H c=none):RepX W M' b' H' (.frg f d) v:=by
 refine ⟨fun c m=>?_,f.keep M' H H' v k (f.avoid M M' H v a h.2.1),Rep.keep (fun c o n e=>k c o ?_ e) _ _ (Rep.avoid (fun c m=>(a c m.1).imp (fun z=>⟨z,m.2⟩) id) _ _ h.2.2)⟩
 · obtain ⟨q1,q2,q3,q4⟩:=h.1 c m
   obtain ⟨z1,z2⟩:=ow c m q1 q2
   exact ⟨z1,z2,q3,q4⟩
 · by_cases z:c∈f.ads
   · exact .inr z
   · exact .inl fun m=>n ⟨m,z⟩
theorem RepX.step {W:Wd} {H H':Hp}{d:D}{v:V}(hb:∀ p,b=some p->M p)(k:Kp b H H')(h:RepX W M b H d v):RepX W M b H' d v:=by
 have k':∀ c o,¬ M c->H c=some o->H' c=some o:=fun c o n e=>k c o (fun z=>n (hb c z)) e
 cases d
 case own xs =>
  obtain ⟨a,vs,e,m,n,n0,m0,h1,h2⟩:=h
  exact ⟨a,vs,e,m,n,n0,m0,k _ _ n h1,Reps.keep k' _ _ h2⟩
 case bag=>exact h
 case frg f d=>exact RepX.move h (fun c m m1 n=>⟨m1,n⟩) (fun c o q e=>q.elim (fun n=>k' c o n e) fun m=>k c o (h.1 c m).2.1 e) fun c m=>.inl m
 all_goals exact Rep.keep k' _ _ h
theorem RepXs.reps {W:Wd} {H:Hp}:∀ (ds:List D) (vs:List V),RepXs W M b H ds vs->ds.all plain=true->Reps W.K M H ds vs
 | [],_,h,_=>h
 | d::ds,vs,h,p=>by
   obtain ⟨v,r,e,h1,h2⟩:=h
   simp only [B0o,L1] at p
   exact ⟨v,r,e,h1.rep p.1,RepXs.reps ds r h2 p.2⟩
theorem Reps.length {H:Hp}:∀ (ds:List D) (vs:List V),Reps K M H ds vs->vs.length=ds.length
 | [],_,h=>by cases (show _=_ from h);rfl
 | d::ds,vs,h=>by
   obtain ⟨v,r,rfl,h1,h2⟩:=h
   simp [Reps.length ds r h2]
theorem Reps.get {H:Hp}:∀ {ds:List D} {vs:List V} {i:Nat} {d:D},Reps K M H ds vs->ds[i]?=some d->∃ v,vs[i]?=some v/\Rep K M H d v
 | [],_,_,_,h,e=>by simp at e
 | d::ds,vs,0,_,h,e=>by
   obtain ⟨v,r,rfl,h1,h2⟩:=h
   simp at e;subst e
   exact ⟨v,rfl,h1⟩
 | d::ds,vs,i+1,d',h,e=>by
   obtain ⟨v,r,rfl,h1,h2⟩:=h
   obtain ⟨u,e1,e2⟩:=Reps.get (i:=i) h2 (by simpa using e)
   exact ⟨u,by simpa using e1,e2⟩
theorem Reps.at {H:Hp}{ds:List D}{vs:List V}{i:Int}{d:D}(h:Reps K M H ds vs)(e:atI ds i=some d):∃ v,atI vs i=some v/\Rep K M H d v:=by
 unfold atI at *
 rw [h.length]
 cases q:ixN ds.length i with
 | none=>rw [q] at e;cases e
 | some j =>
   rw [q] at e
   exact Reps.get h e
theorem Reps.append {H:Hp}:∀ {ds es:List D} {vs us:List V},Reps K M H ds vs->Reps K M H es us->Reps K M H (ds++es) (vs++us)
 | [],_,_,_,h,h'=>by cases (show _=_ from h);exact h'
 | d::ds,_,_,_,h,h'=>by
   obtain ⟨v,r,rfl,h1,h2⟩:=h
   exact ⟨v,_,rfl,h1,Reps.append h2 h'⟩
theorem Reps.set {H:Hp}{d:D}{v:V}(h0:Rep K M H d v):∀ {ds:List D} {vs:List V} (j:Nat),Reps K M H ds vs->Reps K M H (ds.set j d) (vs.set j v)
 | [],_,_,h=>by cases (show _=_ from h);exact rfl
 | e::ds,_,0,h=>by
   obtain ⟨v',r,rfl,h1,h2⟩:=h
   exact ⟨v,r,rfl,h0,h2⟩
 | e::ds,_,j+1,h=>by
   obtain ⟨v',r,rfl,h1,h2⟩:=h
   exact ⟨v',_,rfl,h1,Reps.set h0 j h2⟩
theorem Reps.drop {H:Hp}:∀ {ds:List D} {vs:List V} (j:Nat),Reps K M H ds vs->Reps K M H (ds.drop j) (vs.drop j)
 | _,_,0,h=>h
 | [],_,_+1,h=>by cases (show _=_ from h);exact rfl
 | e::ds,_,j+1,h=>by
   obtain ⟨v',r,rfl,h1,h2⟩:=h
   exact Reps.drop j h2
theorem Reps.take {H:Hp}:∀ {ds:List D} {vs:List V} (j:Nat),Reps K M H ds vs->Reps K M H (ds.take j) (vs.take j)
 | _,_,0,h=>rfl
 | [],_,_+1,h=>by cases (show _=_ from h);exact rfl
 | e::ds,_,j+1,h=>by
   obtain ⟨v',r,rfl,h1,h2⟩:=h
   exact ⟨v',_,rfl,h1,Reps.take j h2⟩
def PinR (W:Wd)(M:Addr->Prop)(b:Option Addr)(H:Hp):D->V->Prop
 | .own xs,v=>RepX W M b H (.own xs) v
 | d,v=>Rep W.K M H d v
theorem PinR.x {W:Wd} {H:Hp}{d:D}{v:V}(h:PinR W M b H d v):RepX W M b H d v:=by
 cases d<;>first|exact h|exact h.elim
theorem RepX.pin {W:Wd} {H:Hp}{d:D}{v:V}(h:RepX W M b H d v)(p:plain d=true):PinR W M b H d v:=by
 cases d<;>first|exact h|cases p
theorem PinR.to {W:Wd}{M M':Addr->Prop}{b b':Option Addr}{H H':Hp}{d:D}{v:V}(h:PinR W M b H d v)(rep:∀ d v,Rep W.K M H d v->Rep W.K M' H' d v)(reps:∀ ds vs,Reps W.K M H ds vs->Reps W.K M' H' ds vs)(own:∀ xs a vs,d=.own xs->v=.ref a->M a->b≠some a->H a=some (.lst vs)->M' a/\b'≠some a/\H' a=some (.lst vs)):PinR W M' b' H' d v:=by
 cases d
 case own xs =>
  obtain ⟨a,vs,rfl,m1,m2,m3,m4,hh,r⟩:=h
  obtain ⟨q1,q2,q3⟩:=own xs a vs rfl rfl m1 m2 hh
  exact ⟨a,vs,rfl,q1,q2,m3,m4,q3,reps _ _ r⟩
 case bag=>exact h.elim
 all_goals exact rep _ _ h
def HF:D->V->Addr->Prop
 | .own _,v,c=>v=.ref c
 | .frg f _,_,c=>c∈f.ads
 | _,_,_=>False
def mine:D->Bool
 | .own _=>true
 | .frg _ _=>true
 | _=>false
theorem HF.m {d:D}{v:V}{c:Addr}(h:HF d v c):mine d=true:=by cases d<;>first|rfl|exact h.elim
theorem RepX.mine {W:Wd} {H:Hp}{d:D}{v:V}{c:Addr}(h:RepX W M b H d v)(m:HF d v c):M c/\b≠some c/\W.H0 c=none/\¬ W.M0 c:=by
 cases d
 case own xs =>
  obtain ⟨a,vs,e,m1,n,n0,m0,h1,h2⟩:=h
  cases (e.symm.trans (show v=.ref c from m))
  exact ⟨m1,n,n0,m0⟩
 case frg f d=>exact h.1 c m
 all_goals exact m.elim
structure Sta (W:Wd)(pn:List (D×V))(M:Addr->Prop)(b:Option Addr)(H:Hp)(σ:St)(ρ:Ev):Prop extends Hs W M b H where
 kp:Kp W.b0 W.H0 H
 new:b=W.b0\/(W.b0=none/\∀ p,b=some p->W.H0 p=none)
 env:∀ (i:Nat) d,ρ[i]?=some (some d)->∃ v,σ[i]?=some (some v)/\RepX W M b H d v
 len:ρ.length=σ.length
 pin:∀ q∈pn,PinR W M b H q.1 q.2
theorem Sta.step {W:Wd}{pn:List (D×V)} {H H':Hp}{σ:St}{ρ:Ev}(s:Sta W pn M b H σ ρ)(k:Kp b H H')(o:okB W.B b H'):Sta W pn M b H' σ ρ where
 ok:=o
 bagM:=s.bagM
 dom:=fun c m=>by
  by_cases z:b=some c
  · exact W.B.dm c H' (o c z)
  · obtain ⟨u,e⟩:=s.dom c m
    exact ⟨u,k c u z e⟩
 m0:=s.m0
 kp:=fun c u n e=>by
  refine k c u (fun z=>?_) (s.kp c u n e)
  rcases s.new with q|⟨_,q⟩
  · exact n (q▸z)
  · rw [q c z] at e;cases e
 new:=s.new
 env:=fun i d e=>by
  obtain ⟨v,e1,r⟩:=s.env i d e
  exact ⟨v,e1,r.step s.bagM k⟩
 len:=s.len
 pin:=fun q hq=>(s.pin q hq).to (fun _ _ r=>Rep.keep (fun c o n e=>k c o (fun z=>n (s.bagM c z)) e) _ _ r) (fun _ _ r=>Reps.keep (fun c o n e=>k c o (fun z=>n (s.bagM c z)) e) _ _ r) fun xs a vs _ _ m n hh=>⟨m,n,k _ _ n hh⟩
theorem Hs.new {W:Wd} {H:Hp}(s:Hs W M b H){p:Addr}(h:H p=none):¬ M p:=fun m=>by
 obtain ⟨o,e⟩:=s.dom p m
 rw [h] at e;cases e
theorem Hs.okU {W:Wd} {H:Hp}(s:Hs W M b H){p:Addr}{o:HO}(h:H p=none):okB W.B b (upd H p o):=fun q e=>W.B.st q H _ (s.ok q e) fun u e'=>Same.upd h q u e'
abbrev DE:=Ev->(D->Prop)->Prop
abbrev DT:=Ev->(Bool->Prop)->Prop
abbrev DA:=Ev->(List D->Prop)->Prop
def dn (W:Wd)(d:DE):TE:=fun σ H Q=>∃ pn M b ρ P,Sta W pn M b H σ ρ/\d ρ P/\∀ x v H',P x->RepX W M b H' x v->Kp b H H'->okB W.B b H'->Q v H'
def dnT (W:Wd)(d:DT):TT:=fun σ H Q=>∃ pn M b ρ P,Sta W pn M b H σ ρ/\d ρ P/\∀ x H',P x->Kp b H H'->okB W.B b H'->Q x H'
def dnA (W:Wd)(d:DA):TA:=fun σ H Q=>∃ pn M b ρ P,Sta W pn M b H σ ρ/\d ρ P/\∀ xs vs H',P xs->RepXs W M b H' xs vs->Kp b H H'->okB W.B b H'->Q vs H'
theorem dn.elim {W:Wd}{d:DE}{σ:St}{H:Hp}{Q:VK}{R:Prop}(h:dn W d σ H Q)(f:∀ pn M b ρ P,Sta W pn M b H σ ρ->d ρ P->(∀ x v H',P x->RepX W M b H' x v->Kp b H H'->okB W.B b H'->Q v H')->R):R:=by
 obtain ⟨pn,M,b,ρ,P,st,h,k⟩:=h
 exact f pn M b ρ P st h k
theorem dnT.elim {W:Wd}{d:DT}{σ:St}{H:Hp}{Q:Bool->Hp->Prop}{R:Prop}(h:dnT W d σ H Q)(f:∀ pn M b ρ P,Sta W pn M b H σ ρ->d ρ P->(∀ x H',P x->Kp b H H'->okB W.B b H'->Q x H')->R):R:=by
 obtain ⟨pn,M,b,ρ,P,st,h,k⟩:=h
 exact f pn M b ρ P st h k
theorem dnA.elim {W:Wd}{d:DA}{σ:St}{H:Hp}{Q:List V->Hp->Prop}{R:Prop}(h:dnA W d σ H Q)(f:∀ pn M b ρ P,Sta W pn M b H σ ρ->d ρ P->(∀ xs vs H',P xs->RepXs W M b H' xs vs->Kp b H H'->okB W.B b H'->Q vs H')->R):R:=by
 obtain ⟨pn,M,b,ρ,P,st,h,k⟩:=h
 exact f pn M b ρ P st h k
section
variable {X:Cx}{W:Wd}{e a b c:Expr}{es:List Expr}{pos:Pos}{d da db dc:DE}{dA:DA}{t:TE}
theorem PE.mono {t':TE}(h:PE X e t)(m:∀ σ H Q,t' σ H Q->t σ H Q):PE X e t':=fun pins s σ H Q I q=>h pins s σ H Q I (m σ H Q q)
theorem PT.mono {t t':TT}(h:PT X e t)(m:∀ σ H Q,t' σ H Q->t σ H Q):PT X e t':=fun pins s σ H Q I q=>h pins s σ H Q I (m σ H Q q)
theorem PA.mono {t t':TA}(h:PA X es t)(m:∀ σ H Q,t' σ H Q->t σ H Q):PA X es t':=fun pos pins s σ H Q I q=>h pos pins s σ H Q I (m σ H Q q)
def J2j (i:Nat):DE:=fun ρ P=>match ρ[i]? with|some (some d)=>P d|_=>False
theorem dv (i:Nat) {x:Str} {pos:Pos} (hN:X.N[i]?=some x:=by rfl) (hv:Vis X.env.scope x:=by first|exact Or.inl rfl|exact Or.inr (Or.inl rfl)|exact Or.inr (Or.inr rfl)) (hd:(x==("__debug__" : Str))=false:=by decide)
 (hcd:(x==("__classdict__" : Str))=false:=by decide):PE X (.Name x pos) (dn W (J2j i)):=(RM hN hv hd hcd).mono fun σ H Q hh=>hh.elim fun pn M b ρ P st h k=>by
 unfold J2j at h
 split at h
 case h_1 d e =>
  obtain ⟨v,e1,r⟩:=st.env i d e
  exact ⟨v,e1,k d v H h r (Kp.refl _ _) st.ok⟩
 case h_2=>exact h.elim
def dC (d:D):DE:=fun _ P=>P d
theorem J2i {d:D}{v:V}(h:PE X e (tC v))(hr:∀ M H,Rep W.K M H d v):PE X e (dn W (dC d)):=h.mono fun σ H Q hh=>hh.elim fun pn M b ρ P st h k=>k d v H h (Rep.x (hr M H)) (Kp.refl _ _) st.ok
theorem Q5v {i j pos}:PE X (.Constant (.int i) j pos) (dn W (dC (.int i))):=J2i AA fun _ _=>rfl
theorem Q9i {i j pos}:PE X (.Constant (.bool i) j pos) (dn W (dC (.bl i))):=J2i Q1s fun _ _=>rfl
theorem Q5s {j pos}:PE X (.Constant .none j pos) (dn W (dC .non)):=J2i Q3x fun _ _=>rfl
theorem Q5o {i j pos}:PE X (.Constant (.str i) j pos) (dn W (dC (.str i))):=J2i J4h fun _ _=>rfl
theorem J6g {x:Str}{n:Int}{pos:Pos}(hg:Gl X x)(hm:∃ t,X.mg x=some (.int n t))(hd:(x==("__debug__" : Str))=false:=by decide):PE X (.Name x pos) (dn W (dC (.int n))):=J2i (J4k hg hm hd) fun _ _=>rfl
theorem Q0t {x:Str}{T:String}{pos:Pos}(hg:Gl X x)(hm:X.mg x=none)(hv:bootBuiltins x=some (.type T))(hn:x≠"__name__":=by decide) (hd:(x==("__debug__" : Str))=false:=by decide):PE X (.Name x pos) (dn W (dC (.ty T))):=J2i (J9a (v:=.ty T) hg hm hv rfl hn hd) fun _ _=>rfl
def OpD (W:Wd)(r:R2)(o:D->D->(D->Prop)->Prop):Prop:=∀ M b H x y v u P Q,Hs W M b H->RepX W M b H x v->RepX W M b H y u->o x y P->(∀ z w H',P z->RepX W M b H' z w->Kp b H H'->okB W.B b H'->Q w H')->r v u H Q
def dOp (o:D->D->(D->Prop)->Prop)(da db:DE):DE:=fun ρ P=>da ρ fun x=>db ρ fun y=>o x y P
theorem YH {r:R2}{o:D->D->(D->Prop)->Prop}(hd:OpD W r o):∀ σ H Q,dn W (dOp o da db) σ H Q->tOp r (dn W da) (dn W db) σ H Q:=by
 intro σ H Q hh
 refine hh.elim fun pn M b ρ P st h k=>?_
 refine ⟨pn,M,b,ρ,_,st,h,fun x v H1 hx rx k1 o1=>?_⟩
 refine ⟨pn,M,b,ρ,_,st.step k1 o1,hx,fun y u H2 hy ry k2 o2=>?_⟩
 exact hd M b H2 x y v u P Q ((st.step k1 o1).step k2 o2).toHs (rx.step st.bagM k2) ry hy fun z w H' hz rz k3 o3=>k z w H' hz rz ((k1.trans k2).trans k3) o3
theorem Q9f {op:Operator}{r:R2}{o:D->D->(D->Prop)->Prop}(ho:OpR X (binaryOp op) r)(hd:OpD W r o)(ha:PE X a (dn W da))(hb:PE X b (dn W db)):PE X (.BinOp a op b pos) (dn W (dOp o da db)):=(AE ho ha hb).mono (YH hd)
theorem Q5w {op:CmpOp}{r:R2}{o:D->D->(D->Prop)->Prop}(ho:OpR X (compareOp op) r)(hd:OpD W r o)(ha:PE X a (dn W da))(hb:PE X b (dn W db))(hm:behindInMarks op b=false):PE X (.Compare a [op] [b] pos) (dn W (dOp o da db)):=(ZA ho ha hb hm).mono (YH hd)
theorem Q9g {r:R2}{o:D->D->(D->Prop)->Prop}(hr:IxR X r)(hd:OpD W r o)(ha:PE X a (dn W da))(hb:PE X b (dn W db))(hs:MT b):PE X (.Subscript a b pos) (dn W (dOp o da db)):=(HS hr ha hb hs).mono (YH hd)
def oI (C:Int->Int->Prop)(g:Int->Int->Int):D->D->(D->Prop)->Prop
 | .int i,.int j,P=>C i j/\P (.int (g i j))
 | _,_,_=>False
def oI0 (g:Int->Int->Int):D->D->(D->Prop)->Prop
 | .int i,.int j,P=>P (.int (g i j))
 | _,_,_=>False
def oB0 (g:Int->Int->Bool):D->D->(D->Prop)->Prop
 | .int i,.int j,P=>P (.bl (g i j))
 | _,_,_=>False
theorem DN {C:Int->Int->Prop}{g:Int->Int->Int}:OpD W (rI C fun i j=>.int (g i j)) (oI C g):=by
 intro M b H x y v u P Q hs rx ry ho k
 cases x<;>first|exact ho.elim|skip
 cases y<;>first|exact ho.elim|skip
 cases (show _=_ from rx)
 cases (show _=_ from ry)
 exact ⟨_,_,rfl,rfl,ho.1,k _ _ H ho.2 (show _=_ from rfl) (Kp.refl _ _) hs.ok⟩
theorem EV {g:Int->Int->Int}:OpD W (rI0 fun i j=>.int (g i j)) (oI0 g):=by
 intro M b H x y v u P Q hs rx ry ho k
 cases x<;>first|exact ho.elim|skip
 cases y<;>first|exact ho.elim|skip
 cases (show _=_ from rx)
 cases (show _=_ from ry)
 exact ⟨_,_,rfl,rfl,k _ _ H ho (show _=_ from rfl) (Kp.refl _ _) hs.ok⟩
theorem AR {g:Int->Int->Bool}:OpD W (rI0 fun i j=>.bl (g i j)) (oB0 g):=by
 intro M b H x y v u P Q hs rx ry ho k
 cases x<;>first|exact ho.elim|skip
 cases y<;>first|exact ho.elim|skip
 cases (show _=_ from rx)
 cases (show _=_ from ry)
 exact ⟨_,_,rfl,rfl,k _ _ H ho (show _=_ from rfl) (Kp.refl _ _) hs.ok⟩
def Q8n (neg:Bool):D->D->(D->Prop)->Prop
 | .int i,.int j,P=>P (.bl (decide (i=j)!=neg))
 | .bl i,.bl j,P=>P (.bl (decide (i=j)!=neg))
 | .str i,.str j,P=>P (.bl (decide (i=j)!=neg))
 | .non,.non,P=>P (.bl (true != neg))
 | .non,.int _,P=>P (.bl (false != neg))
 | .int _,.non,P=>P (.bl (false != neg))
 | .str _,.int _,P=>P (.bl (false != neg))
 | .int _,.str _,P=>P (.bl (false != neg))
 | _,_,_=>False
theorem BL:OpD W rEq (Q8n false):=by
 intro M b H x y v u P Q hs rx ry ho k
 cases x<;>cases y<;>first|exact ho.elim|skip
 all_goals (cases (show _=_ from rx);cases (show _=_ from ry);refine ⟨rfl,?_⟩;refine k _ _ H ho ?_ (Kp.refl _ _) hs.ok)
 all_goals (show V.bl _=V.bl _;simp)
theorem GV:OpD W rNe (Q8n true):=by
 intro M b H x y v u P Q hs rx ry ho k
 cases x<;>cases y<;>first|exact ho.elim|skip
 all_goals (cases (show _=_ from rx);cases (show _=_ from ry);refine ⟨rfl,?_⟩;refine k _ _ H ho ?_ (Kp.refl _ _) hs.ok)
 all_goals (show V.bl _=V.bl _;simp)
def Q1x:D->Bool
 | .non=>true
 | _=>false
def Q8l (neg:Bool):D->D->(D->Prop)->Prop
 | x,.non,P=>P (.bl (Q1x x != neg))
 | _,_,_=>False
theorem ZO {b:Option Addr}{H:Hp}{x:D}{v:V}(rx:RepX W M b H x v):decide (v=.non)=Q1x x:=by
 cases x
 case non=>cases (show _=_ from rx);rfl
 case own=>obtain ⟨a,vs,rfl,_⟩:=rx;rfl
 case frg f d=>obtain ⟨a,rfl⟩:=f.ref _ _ _ rx.2.1;rfl
 case bag=>obtain ⟨a,_,rfl⟩:=rx;rfl
 case tup=>obtain ⟨a,vs,rfl,_⟩:=rx;rfl
 case lst=>obtain ⟨a,vs,rfl,_⟩:=rx;rfl
 case scr=>obtain ⟨a,rfl,_⟩:=rx;rfl
 case dct=>obtain ⟨a,vs,rfl,_⟩:=rx;rfl
 all_goals (cases (show _=_ from rx);rfl)
theorem Q4d:OpD W (fun x y H Q=>y=.non/\Q (.bl (decide (x=.non))) H) (Q8l false):=by
 intro M b H x y v u P Q hs rx ry ho k
 cases y<;>first|exact ho.elim|skip
 cases (show _=_ from ry)
 refine ⟨rfl,k _ _ H ho ?_ (Kp.refl _ _) hs.ok⟩
 show V.bl _=V.bl _
 rw [ZO rx];simp
theorem J9k:OpD W (fun x y H Q=>y=.non/\Q (.bl (!decide (x=.non))) H) (Q8l true):=by
 intro M b H x y v u P Q hs rx ry ho k
 cases y<;>first|exact ho.elim|skip
 cases (show _=_ from ry)
 refine ⟨rfl,k _ _ H ho ?_ (Kp.refl _ _) hs.ok⟩
 show V.bl _=V.bl _
 rw [ZO rx];simp
def oIx:D->D->(D->Prop)->Prop
 | .tup xs,.int i,P=>(atI xs i).elim False P
 | .lst xs,.int i,P=>(atI xs i).elim False P
 | .own xs,.int i,P=>(atI xs i).elim False P
 | _,_,_=>False
theorem Q6 (K:Fg)(h:X.K=K):IxR X (fun x y H Q=>J8l K x y H Q\/J8m K x y H Q):=(RY K h).or (EA K h)
theorem V4:OpD W (fun x y H Q=>J8l W.K x y H Q\/J8m W.K x y H Q) oIx:=by
 intro M b H x y v u P Q hs rx ry ho k
 cases x<;>first|exact ho.elim|skip
 all_goals (cases y<;>first|exact ho.elim|skip)
 all_goals cases (show _=_ from ry)
 case tup.int xs i =>
  obtain ⟨a,vs,rfl,hh,r⟩:=rx
  simp only [oIx] at ho
  cases e:atI xs i with
  | none=>rw [e] at ho;exact ho.elim
  | some d =>
    rw [e] at ho
    obtain ⟨w,e1,r1⟩:=r.at e
    exact .inl ⟨a,vs,i,w,rfl,rfl,hh.sq,e1,k d w H ho r1.x (Kp.refl _ _) hs.ok⟩
 case lst.int xs i =>
  obtain ⟨a,vs,rfl,hh,r⟩:=rx
  simp only [oIx] at ho
  cases e:atI xs i with
  | none=>rw [e] at ho;exact ho.elim
  | some d =>
    rw [e] at ho
    obtain ⟨w,e1,r1⟩:=r.at e
    exact .inr ⟨a,vs,i,w,rfl,rfl,SqL.of hh.2,e1,k d w H ho r1.x (Kp.refl _ _) hs.ok⟩
 case own.int xs i =>
  obtain ⟨a,vs,rfl,_,_,_,_,hh,r⟩:=rx
  simp only [oIx] at ho
  cases e:atI xs i with
  | none=>rw [e] at ho;exact ho.elim
  | some d =>
    rw [e] at ho
    obtain ⟨w,e1,r1⟩:=r.at e
    exact .inr ⟨a,vs,i,w,rfl,rfl,SqL.of hh,e1,k d w H ho r1.x (Kp.refl _ _) hs.ok⟩
def dUn (o:D->(D->Prop)->Prop)(da:DE):DE:=fun ρ P=>da ρ fun x=>o x P
def Q4f:D->(D->Prop)->Prop
 | .int i,P=>P (.int (-i))
 | _,_=>False
theorem Q5t (ha:PE X a (dn W da)):PE X (.UnaryOp .USub a pos) (dn W (dUn Q4f da)):=(Q8e Q2z ha).mono fun σ H Q hh=>hh.elim fun pn M b ρ P st h k=>by
 refine ⟨pn,M,b,ρ,_,st,h,fun x v H1 hx rx k1 o1=>?_⟩
 cases x<;>first|exact hx.elim|skip
 cases (show _=_ from rx)
 exact ⟨_,rfl,k _ _ H1 hx (show _=_ from rfl) k1 o1⟩
inductive IfP (c:Bool)(A B:Prop):Prop
 | t (e:c=true) (h:A):IfP c A B
 | f (e:c=false) (h:B):IfP c A B
theorem IfP.of {c:Bool}{A B:Prop}(h1:c=true->A)(h2:c=false->B):IfP c A B:=by
 cases c
 · exact .f rfl (h2 rfl)
 · exact .t rfl (h1 rfl)
theorem IfP.true_of {A B:Prop}(h:IfP true A B):A:=by
 cases h with
 | t _ h=>exact h
 | f e _=>cases e
theorem IfP.false_of {A B:Prop}(h:IfP false A B):B:=by
 cases h with
 | f _ h=>exact h
 | t e _=>cases e
theorem VU {A B:Prop}:IfP true A B=A:=propext ⟨IfP.true_of,fun h=>.t rfl h⟩
theorem J2w {A B:Prop}:IfP false A B=B:=propext ⟨IfP.false_of,fun h=>.f rfl h⟩
def Q9v (da db:DE):DE:=fun ρ P=>da ρ fun x=>match x with|.bl k=>IfP k (db ρ P) (P (.bl false))|_=>False
def dOr (da db:DE):DE:=fun ρ P=>da ρ fun x=>match x with|.bl k=>IfP k (P (.bl true)) (db ρ P)|_=>False
def Q9q (da:DE):DE:=fun ρ P=>da ρ fun x=>match x with|.bl k=>P (.bl (!k))|_=>False
variable {rest:List Expr}
theorem Q5q {op}(h:PE X a (dn W da)):PE X (.BoolOp op [a] pos) (dn W da):=Q3v h
theorem Q5x (ha:PE X a (dn W da))(hb:PE X (.BoolOp .And (b::rest) pos) (dn W db)):PE X (.BoolOp .And (a::b::rest) pos) (dn W (Q9v da db)):=(Q3y ha hb).mono fun σ H Q hh=>hh.elim fun pn M b ρ P st h k=>by
 refine ⟨pn,M,b,ρ,_,st,h,fun x v H1 hx rx k1 o1=>?_⟩
 cases x<;>first|exact hx.elim|skip
 case bl c =>
  cases (show _=_ from rx)
  refine ⟨c,rfl,?_⟩
  cases hx with
  | f e hx=>subst e;rw [if_neg B9];exact k _ _ H1 hx (show _=_ from rfl) k1 o1
  | t e hx=>subst e;rw [if_pos rfl];exact ⟨pn,M,b,ρ,P,st.step k1 o1,hx,fun x v H' hp r k2 o2=>k x v H' hp r (k1.trans k2) o2⟩
theorem Q9e (ha:PE X a (dn W da))(hb:PE X (.BoolOp .Or (b::rest) pos) (dn W db)):PE X (.BoolOp .Or (a::b::rest) pos) (dn W (dOr da db)):=(Q8f ha hb).mono fun σ H Q hh=>hh.elim fun pn M b ρ P st h k=>by
 refine ⟨pn,M,b,ρ,_,st,h,fun x v H1 hx rx k1 o1=>?_⟩
 cases x<;>first|exact hx.elim|skip
 case bl c =>
  cases (show _=_ from rx)
  refine ⟨c,rfl,?_⟩
  cases hx with
  | f e hx=>subst e;rw [if_neg B9];exact ⟨pn,M,b,ρ,P,st.step k1 o1,hx,fun x v H' hp r k2 o2=>k x v H' hp r (k1.trans k2) o2⟩
  | t e hx=>subst e;rw [if_pos rfl];exact k _ _ H1 hx (show _=_ from rfl) k1 o1
theorem Q5r (ha:PE X a (dn W da)):PE X (.UnaryOp .Not a pos) (dn W (Q9q da)):=(Q3w ha).mono fun σ H Q hh=>hh.elim fun pn M b ρ P st h k=>by
 refine ⟨pn,M,b,ρ,_,st,h,fun x v H1 hx rx k1 o1=>?_⟩
 cases x<;>first|exact hx.elim|skip
 case bl c =>
  cases (show _=_ from rx)
  exact ⟨c,rfl,k _ _ H1 hx (show _=_ from rfl) k1 o1⟩
def J6k (da:DE):DT:=fun ρ P=>da ρ fun x=>match x with|.bl k=>P k|_=>False
theorem Q5e {op:CmpOp}{r:R2}{o:D->D->(D->Prop)->Prop}(ho:OpR X (compareOp op) r)(hd:OpD W r o)(ha:PE X a (dn W da))(hb:PE X b (dn W db))(hm:behindInMarks op b=false):PT X (.Compare a [op] [b] pos) (dnT W (J6k (dOp o da db))):=(MN ho ha hb hm).mono fun σ H Q hh=>hh.elim fun pn M b ρ P st h k=>by
 refine YH hd σ H _ ⟨pn,M,b,ρ,_,st,h,fun x v H1 hx rx k1 o1=>?_⟩
 cases x<;>first|exact hx.elim|skip
 case bl c =>
  cases (show _=_ from rx)
  exact ⟨c,rfl,k _ H1 hx k1 o1⟩
def Q9l (da:DE):DT:=fun ρ P=>da ρ fun x=>match x with
 | .bl k=>P k
 | .int i=>P (i != 0)
 | .non=>P false
 | .tup xs=>P (!xs.isEmpty)
 | .lst xs=>P (!xs.isEmpty)
 | .own xs=>P (!xs.isEmpty)
 | _=>False
theorem Reps.empty {H:Hp}{ds:List D}{vs:List V}(h:Reps K M H ds vs):(!ds.isEmpty) = !vs.isEmpty:=by
 cases ds with
 | nil=>cases (show _=_ from h);rfl
 | cons d ds=>obtain ⟨v,r,rfl,_⟩:=h;rfl
theorem J5y (hK:X.K=W.K)(ha:PE X a (dn W da))(he:∀ whole,isTrue a X.env whole=(do let v <- whole;standAt a.pos;holding [v] (truthy v))):PT X a (dnT W (Q9l da)):=(J1g W.K hK ha he).mono fun σ H Q hh=>hh.elim fun pn M b ρ P st h k=>by
 refine ⟨pn,M,b,ρ,_,st,h,fun x v H1 hx rx k1 o1=>?_⟩
 cases x<;>first|exact hx.elim|skip
 case bl c=>cases (show _=_ from rx);exact ⟨_,rfl,k _ H1 hx k1 o1⟩
 case int c=>cases (show _=_ from rx);exact ⟨_,rfl,k _ H1 hx k1 o1⟩
 case non=>cases (show _=_ from rx);exact ⟨_,rfl,k _ H1 hx k1 o1⟩
 case tup xs=>obtain ⟨a,vs,rfl,hh,r⟩:=rx;exact ⟨_,.inr (.inl ⟨vs,hh.sq,r.empty⟩),k _ H1 hx k1 o1⟩
 case lst xs=>obtain ⟨a,vs,rfl,hh,r⟩:=rx;exact ⟨_,.inl ⟨vs,SqL.of hh.2,r.empty⟩,k _ H1 hx k1 o1⟩
 case own xs=>obtain ⟨a,vs,rfl,_,_,_,_,hh,r⟩:=rx;exact ⟨_,.inl ⟨vs,SqL.of hh,r.empty⟩,k _ H1 hx k1 o1⟩
def J6l (t u:DT):DT:=fun ρ P=>t ρ fun c=>IfP c (u ρ P) (P false)
def Q0w (t u:DT):DT:=fun ρ P=>t ρ fun c=>IfP c (P true) (u ρ P)
def Q2h (t:DT):DT:=fun ρ P=>t ρ fun c=>P (!c)
variable {ta tb:DT}
theorem Q2y:∀ σ H Q,dnT W (J6l ta tb) σ H Q->Q7v (dnT W ta) (dnT W tb) σ H Q:=by
 intro σ H Q hh
 refine hh.elim fun pn M b ρ P st h k=>?_
 refine ⟨pn,M,b,ρ,_,st,h,fun x H1 hx k1 o1=>?_⟩
 cases hx with
 | t e hx=>rw [if_pos e];exact ⟨pn,M,b,ρ,P,st.step k1 o1,hx,fun x H' hp k2 o2=>k x H' hp (k1.trans k2) o2⟩
 | f e hx=>rw [if_neg (by rw [e];exact B9)];exact k _ H1 hx k1 o1
theorem Q7k:∀ σ H Q,dnT W (Q0w ta tb) σ H Q->tOr (dnT W ta) (dnT W tb) σ H Q:=by
 intro σ H Q hh
 refine hh.elim fun pn M b ρ P st h k=>?_
 refine ⟨pn,M,b,ρ,_,st,h,fun x H1 hx k1 o1=>?_⟩
 cases hx with
 | t e hx=>rw [if_pos e];exact k _ H1 hx k1 o1
 | f e hx=>rw [if_neg (by rw [e];exact B9)];exact ⟨pn,M,b,ρ,P,st.step k1 o1,hx,fun x H' hp k2 o2=>k x H' hp (k1.trans k2) o2⟩
theorem PW.mono {t t':TT}(h:PW X e t)(m:∀ σ H Q,t' σ H Q->t σ H Q):PW X e t':=fun wh pins s σ H Q I q=>h wh pins s σ H Q I (m σ H Q q)
theorem Q0h (ha:PT X a (dnT W ta)):PW X (.BoolOp .And [a] pos) (dnT W ta):=J8n ha
theorem Q5b (ha:PT X a (dnT W ta)):PW X (.BoolOp .Or [a] pos) (dnT W ta):=Q3n ha
theorem Q5c (ha:PT X a (dnT W ta))(hb:PW X (.BoolOp .And (b::rest) pos) (dnT W tb)):PW X (.BoolOp .And (a::b::rest) pos) (dnT W (J6l ta tb)):=(Q3o ha hb).mono Q2y
theorem Q2f (ha:PT X a (dnT W ta))(hb:PW X (.BoolOp .Or (b::rest) pos) (dnT W tb)):PW X (.BoolOp .Or (a::b::rest) pos) (dnT W (Q0w ta tb)):=(Q8c ha hb).mono Q7k
theorem Q5d (ha:PT X a (dnT W ta)):PT X (.UnaryOp .Not a pos) (dnT W (Q2h ta)):=(Q3p ha).mono fun σ H Q hh=>hh.elim fun pn M b ρ P st h k=>⟨pn,M,b,ρ,_,st,h,fun x H1 hx k1 o1=>k _ H1 hx k1 o1⟩
def dIf (t:DT)(da db:DE):DE:=fun ρ P=>t ρ fun c=>IfP c (da ρ P) (db ρ P)
theorem Q9h (hc:PT X c (dnT W ta))(ha:PE X a (dn W da))(hb:PE X b (dn W db)):PE X (.IfExp c a b pos) (dn W (dIf ta da db)):=(J4j hc ha hb).mono fun σ H Q hh=>hh.elim fun pn M b ρ P st h k=>by
 refine ⟨pn,M,b,ρ,_,st,h,fun x H1 hx k1 o1=>?_⟩
 cases hx with
 | t e hx=>rw [if_pos e];exact ⟨pn,M,b,ρ,P,st.step k1 o1,hx,fun x v H' hp r k2 o2=>k x v H' hp r (k1.trans k2) o2⟩
 | f e hx=>rw [if_neg (by rw [e];exact B9)];exact ⟨pn,M,b,ρ,P,st.step k1 o1,hx,fun x v H' hp r k2 o2=>k x v H' hp r (k1.trans k2) o2⟩
def J6p (o o':D->D->(D->Prop)->Prop)(da db dc:DE):DE:=fun ρ P=>da ρ fun x=>db ρ fun y=>o x y fun z=>match z with|.bl k=>IfP k (dc ρ fun w=>o' y w P) (P (.bl false))|_=>False
theorem J6h {op op':CmpOp}{r r':R2}{o o':D->D->(D->Prop)->Prop}(ho:OpR X (compareOp op) r)(ho':OpR X (compareOp op') r')(hd:OpD W r o)(hd':OpD W r' o')(ha:PE X a (dn W da))(hb:PE X b (dn W db))(hc:PE X c (dn W dc))
 (hm:lastMarks [op,op'] [b,c]=false:=by with_unfolding_all rfl):PE X (.Compare a [op,op'] [b,c] pos) (dn W (J6p o o' da db dc)):=(J4n ho ho' ha hb hc hm).mono fun σ H Q hh=>hh.elim fun pn M b ρ P st h k=>by
 refine ⟨pn,M,b,ρ,_,st,h,fun x v H1 hx rx k1 o1=>?_⟩
 refine ⟨pn,M,b,ρ,_,st.step k1 o1,hx,fun y u H2 hy ry k2 o2=>?_⟩
 refine hd M b H2 x y v u _ _ ((st.step k1 o1).step k2 o2).toHs (rx.step st.bagM k2) ry hy fun z w H' hz rz k3 o3=>?_
 cases z<;>first|exact hz.elim|skip
 case bl q =>
  cases (show _=_ from rz)
  refine ⟨q,rfl,?_⟩
  cases hz with
  | f e hz=>subst e;rw [if_neg B9];exact k _ _ H' hz (show _=_ from rfl) ((k1.trans k2).trans k3) o3
  | t e hz =>
    subst e
    rw [if_pos rfl]
    refine ⟨pn,M,b,ρ,_,((st.step k1 o1).step k2 o2).step k3 o3,hz,fun w u' H4 hw rw' k4 o4=>?_⟩
    exact hd' M b H4 y w u u' P Q ((((st.step k1 o1).step k2 o2).step k3 o3).step k4 o4).toHs ((ry.step st.bagM k3).step st.bagM k4) rw' hw fun z w H' hz rz k5 o5=>k z w H' hz rz ((((k1.trans k2).trans k3).trans k4).trans k5) o5
def Q6v:DA:=fun _ P=>P []
def J6y (da:DE)(dr:DA):DA:=fun ρ P=>da ρ fun x=>dr ρ fun xs=>P (x::xs)
theorem Q5y:PA X [] (dnA W Q6v):=ES.mono fun σ H Q hh=>hh.elim fun pn M b ρ P st h k=>k [] [] H h rfl (Kp.refl _ _) st.ok
theorem Q0u {dr:DA}(ha:PE X e (dn W da))(hr:PA X es (dnA W dr))(hs:starEach (e::es) X.env=(false,eval e X.env)::starEach es X.env:=by rfl):PA X (e::es) (dnA W (J6y da dr)):=(BC ha hr hs).mono fun σ H Q hh=>hh.elim fun pn M b ρ P st h k=>by
 refine ⟨pn,M,b,ρ,_,st,h,fun x v H1 hx rx k1 o1=>?_⟩
 refine ⟨pn,M,b,ρ,_,st.step k1 o1,hx,fun xs vs H2 hy ry k2 o2=>?_⟩
 exact k _ _ H2 hy ⟨v,vs,rfl,rx.step st.bagM k2,ry⟩ (k1.trans k2) o2
def okIt (xs:List D):Bool:=xs.all plain&&decide (xs.length<=1000)
def Q9k (dA:DA):DE:=fun ρ P=>dA ρ fun xs=>okIt xs=true/\P (.tup xs)
def Q9s (dA:DA):DE:=fun ρ P=>dA ρ fun xs=>okIt xs=true/\P (.lst xs)
theorem okIt.len {xs:List D}(h:okIt xs=true):xs.length<=sizeLine:=by
 unfold okIt at h
 simp only [L1,E9] at h
 exact M7 h.2 AZ
theorem okIt.pl {xs:List D}(h:okIt xs=true):xs.all plain=true:=by
 unfold okIt at h
 simp only [L1,E9] at h
 exact h.1
theorem GX {bg:Option Addr}{H:Hp}{xs:List D}{vs:List V}{p:Addr}(hs:Hs W M bg H)(r:Reps W.K M H xs vs)(h:H p=none):RepX W M bg (upd H p (.tup vs)) (.tup xs) (.ref p) :=
 ⟨p,vs,rfl,.inl ⟨hs.new h,Y5⟩,Reps.keep (fun c o _ e=>Same.upd h c o e) _ _ r⟩
theorem EL {bg:Option Addr}{H:Hp}{xs:List D}{vs:List V}{p:Addr}(hs:Hs W M bg H)(r:Reps W.K M H xs vs)(h:H p=none):RepX W M bg (upd H p (.lst vs)) (.lst xs) (.ref p) :=
 ⟨p,vs,rfl,⟨hs.new h,Y5⟩,Reps.keep (fun c o _ e=>Same.upd h c o e) _ _ r⟩
theorem Q5n {x1}(h:PA X es (dnA W dA)):PE X (.Tuple es x1 pos) (dn W (Q9k dA)):=(J4g h).mono fun σ H Q hh=>hh.elim fun pn M b ρ P st h k=>by
 refine ⟨pn,M,b,ρ,_,st,h,fun xs vs H1 hx rx k1 o1=>?_⟩
 have rr:=rx.reps _ _ (okIt.pl hx.1)
 refine ⟨by rw [rr.length];exact okIt.len hx.1,fun p hp=>k _ _ _ hx.2 (GX (st.step k1 o1).toHs rr hp) (k1.trans (Kp.upd hp)) ((st.step k1 o1).okU hp)⟩
theorem Q5u (h:PA X es (dnA W dA)):PE X (.List es pos) (dn W (Q9s dA)):=(RN h).mono fun σ H Q hh=>hh.elim fun pn M b ρ P st h k=>by
 refine ⟨pn,M,b,ρ,_,st,h,fun xs vs H1 hx rx k1 o1=>?_⟩
 have rr:=rx.reps _ _ (okIt.pl hx.1)
 refine ⟨by rw [rr.length];exact okIt.len hx.1,fun p hp=>k _ _ _ hx.2 (EL (st.step k1 o1).toHs rr hp) (k1.trans (Kp.upd hp)) ((st.step k1 o1).okU hp)⟩
end
abbrev DSp:=List D->(D->Prop)->(Addr->Prop)->Prop
def Q7a (K:Fg)(M:Addr->Prop)(b:Option Addr)(H:Hp):D->V->Prop
 | .own _,_=>False
 | .bag,v=>∃ p,b=some p/\v=.ref p
 | d,v=>Rep K M H d v
def RepAs (K:Fg)(M:Addr->Prop)(b:Option Addr)(H:Hp):List D->List V->Prop
 | [],vs=>vs=[]
 | d::ds,vs=>∃ v r,vs=v::r/\Q7a K M b H d v/\RepAs K M b H ds r
def J8 (K:Fg)(B:BagT)(S:DSp):Sp:=fun vs H Q E=>∃ (M:Addr->Prop) (b:Option Addr) (ds:List D) (P:D->Prop) (Ed:Addr->Prop),S ds P Ed/\RepAs K M b H ds vs/\okB B b H/\(∀ p,b=some p->M p)/\(∀ c,M c->∃ o,H c=some o) /\
 (∀ d v H',P d->Rep K M H' d v->Kp b H H'->okB B b H'->Q v H')/\∀ C H',Ed C->Kp b H H'->okB B b H'->E (.ref C) none H'
theorem RepXs.args {W:Wd} {H:Hp}:∀ (ds:List D) (vs:List V),RepXs W M b H ds vs->ds.all Z6=true->RepAs W.K M b H ds vs
 | [],_,h,_=>h
 | d::ds,vs,h,p=>by
   obtain ⟨v,r,e,h1,h2⟩:=h
   simp only [B0o,L1] at p
   refine ⟨v,r,e,?_,RepXs.args ds r h2 p.2⟩
   cases d<;>first|exact h1|cases p.1
theorem RepAs.length {H:Hp}:∀ {ds:List D} {vs:List V},RepAs K M b H ds vs->vs.length=ds.length
 | [],_,h=>by cases (show _=_ from h);rfl
 | d::ds,vs,h=>by
   obtain ⟨v,r,rfl,h1,h2⟩:=h
   simp [RepAs.length h2]
def IG (W:Wd)(E:XK)(Ed:Addr->Prop):Prop:=∀ C H',Ed C->Kp W.b0 W.H0 H'->okB W.B W.b0 H'->E (.ref C) none H'
theorem Sta.ok0 {W:Wd}{pn:List (D×V)} {H:Hp}{σ:St}{ρ:Ev}(s:Sta W pn M b H σ ρ):okB W.B W.b0 H:=by
 rcases s.new with q|⟨q,_⟩
 · rw [<- q];exact s.ok
 · intro p e;rw [q] at e;cases e
section
variable {X:Cx}{W:Wd}{e a b c:Expr}{es:List Expr}{pos p:Pos}{d:DE}{dA:DA}{x:Str}{k:Nat}{ps:List Str}{S:DSp}
def QL (S:DSp)(Ed:Addr->Prop)(dA:DA):DE:=fun ρ P=>dA ρ fun ds=>ds.all Z6=true/\S ds P Ed
theorem YI {E:XK}{Ed:Addr->Prop}(hE:IG W E Ed):∀ σ H Q,dn W (QL S Ed dA) σ H Q->YJ (J8 W.K W.B S) [] E (dnA W dA) σ H Q:=by
 intro σ H Q hh
 refine hh.elim fun pn M b ρ P st h k=>?_
 refine ⟨pn,M,b,ρ,_,st,h,fun xs vs H1 hx rx k1 o1=>?_⟩
 have st1:=st.step k1 o1
 refine ⟨M,b,xs,P,Ed,hx.2,?_,o1,st.bagM,st1.dom,fun d v H' hd rd k2 o2=>k d v H' hd rd.x (k1.trans k2) o2,fun C H' hC k2 o2=>?_⟩
 · rw [U9];exact rx.args _ _ hx.1
 · have st2:=st1.step k2 o2
   exact hE C H' hC st2.kp st2.ok0
theorem LR:IG W E0 (fun _=>False):=fun _ _ h=>h.elim
theorem Q5p (G:Callee X.prog X.w X.K X.mg X.base CX0 x k ps (J8 W.K W.B S))(hr:Room k X.A)(hg:Gl X x)(ha:PA X (e::es) (dnA W dA))(hdb:(x==("__debug__" : Str))=false:=by decide) (he:starEach (e::es) X.env=(false,eval e X.env)::starEach es X.env:=by rfl) (hpl:(backTo pos (starEach es X.env)).any (·.1)=false:=by rfl) :
 PE X (.Call (.Name x p) (e::es) [] pos) (dn W (QL S (fun _=>False) dA)):=(WV G hr hg ha hdb he hpl).mono (YI LR)
theorem Q0r {CX:CXT}{E:XK}{Ed:Addr->Prop}(hE:IG W E Ed)(hp:FE CX X E)(G:Callee X.prog X.w X.K X.mg X.base CX x k ps (J8 W.K W.B S))(hr:Room k X.A)(hg:Gl X x)(ha:PA X (e::es) (dnA W dA))(hdb:(x==("__debug__" : Str))=false:=by decide) (he:starEach (e::es) X.env=(false,eval e X.env)::starEach es X.env:=by rfl) (hpl:(backTo pos (starEach es X.env)).any (·.1)=false:=by rfl) :
 PE X (.Call (.Name x p) (e::es) [] pos) (dn W (QL S Ed dA)):=(YZ hp G hr hg ha hdb he hpl).mono (YI hE)
def EH (W:Wd)(r:List V->Hp->VK->Prop)(o:List D->(D->Prop)->Prop):Prop:=∀ M b H xs vs P Q,Hs W M b H->RepXs W M b H xs vs->o xs P->(∀ z w H',P z->RepX W M b H' z w->Kp b H H'->okB W.B b H'->Q w H')->r vs H Q
def dCB (o:List D->(D->Prop)->Prop)(dA:DA):DE:=fun ρ P=>dA ρ fun xs=>o xs P
variable {r:List V->Hp->VK->Prop}{o:List D->(D->Prop)->Prop}{id T:String}
theorem Q1l (hd:EH W r o):∀ σ H Q,dn W (dCB o dA) σ H Q->tCB r (dnA W dA) σ H Q:=by
 intro σ H Q hh
 refine hh.elim fun pn M b ρ P st h k=>?_
 refine ⟨pn,M,b,ρ,_,st,h,fun xs vs H1 hx rx k1 o1=>?_⟩
 exact hd M b H1 xs vs P Q (st.step k1 o1).toHs rx hx fun z w H' hz rz k2 o2=>k z w H' hz rz (k1.trans k2) o2
theorem J6i (hc:BD X (.builtin id) r)(hd:EH W r o)(hg:Gl X x)(hm:X.mg x=none)(hv:bootBuiltins x=some (.builtin id))(ha:PA X (e::es) (dnA W dA))(hn:x≠"__name__":=by decide) (hdb:(x==("__debug__" : Str))=false:=by decide)
 (he:starEach (e::es) X.env=(false,eval e X.env)::starEach es X.env:=by rfl) (hpl:(backTo pos (starEach es X.env)).any (·.1)=false:=by rfl):PE X (.Call (.Name x p) (e::es) [] pos) (dn W (dCB o dA)):=(FZ hc hg hm hv ha hn hdb he hpl).mono (Q1l hd)
theorem J2h (hc:BD X (.type T) r)(hd:EH W r o)(hg:Gl X x)(hm:X.mg x=none)(hv:bootBuiltins x=some (.type T))(ha:PA X (e::es) (dnA W dA))(hn:x≠"__name__":=by decide) (hdb:(x==("__debug__" : Str))=false:=by decide)
 (he:starEach (e::es) X.env=(false,eval e X.env)::starEach es X.env:=by rfl) (hpl:(backTo pos (starEach es X.env)).any (·.1)=false:=by rfl):PE X (.Call (.Name x p) (e::es) [] pos) (dn W (dCB o dA)):=(PY hc hg hm hv ha hn hdb he hpl).mono (Q1l hd)
theorem rx1 {b:Option Addr}{H:Hp}{x:D}{vs:List V}(h:RepXs W M b H [x] vs):∃ v,vs=[v]/\RepX W M b H x v:=by
 obtain ⟨v,r,rfl,h1,h2⟩:=h
 cases (show _=_ from h2)
 exact ⟨v,rfl,h1⟩
theorem rx2 {b:Option Addr}{H:Hp}{x y:D}{vs:List V}(h:RepXs W M b H [x,y] vs):∃ v u,vs=[v,u]/\RepX W M b H x v/\RepX W M b H y u:=by
 obtain ⟨v,r,rfl,h1,h2⟩:=h
 obtain ⟨u,rfl,h3⟩:=rx1 h2
 exact ⟨v,u,rfl,h1,h3⟩
def EX:List D->Option (List Int)
 | []=>some []
 | .int i::r=>(EX r).map (i::·)
 | _=>none
def HH:List D->Option (List Bool)
 | []=>some []
 | .bl i::r=>(HH r).map (i::·)
 | _=>none
theorem EX.eq:∀ {ds:List D} {ns:List Int},EX ds=some ns->ds=ns.map D.int
 | [],ns,h=>by cases h;rfl
 | d::r,ns,h=>by
   cases d<;>first|cases h|skip
   case int i =>
    simp only [EX,M6] at h
    obtain ⟨m,e,rfl⟩:=h
    rw [EX.eq e];rfl
theorem HH.eq:∀ {ds:List D} {ns:List Bool},HH ds=some ns->ds=ns.map D.bl
 | [],ns,h=>by cases h;rfl
 | d::r,ns,h=>by
   cases d<;>first|cases h|skip
   case bl i =>
    simp only [HH,M6] at h
    obtain ⟨m,e,rfl⟩:=h
    rw [HH.eq e];rfl
theorem QQ (ns:List Bool):HH (ns.map D.bl)=some ns:=by
 induction ns with
 | nil=>rfl
 | cons n ns ih=>simp [HH,ih]
theorem Reps.ints {H:Hp}:∀ {ns:List Int} {vs:List V},Reps K M H (ns.map D.int) vs->vs=ns.map V.int
 | [],_,h=>by cases (show _=_ from h);rfl
 | n::ns,_,h=>by
   obtain ⟨v,r,rfl,h1,h2⟩:=h
   cases (show _=_ from h1)
   rw [Reps.ints h2];rfl
theorem Reps.bls {H:Hp}:∀ {ns:List Bool} {vs:List V},Reps K M H (ns.map D.bl) vs->vs=ns.map V.bl
 | [],_,h=>by cases (show _=_ from h);rfl
 | n::ns,_,h=>by
   obtain ⟨v,r,rfl,h1,h2⟩:=h
   cases (show _=_ from h1)
   rw [Reps.bls h2];rfl
def asL:D->Option (List D)
 | .lst xs=>some xs
 | .own xs=>some xs
 | _=>none
theorem asL.rep {b:Option Addr}{H:Hp}{x:D}{v:V}{xs:List D}(h:RepX W M b H x v)(e:asL x=some xs):∃ a vs,v=.ref a/\H a=some (.lst vs)/\Reps W.K M H xs vs:=by
 cases x<;>first|cases e|skip
 case lst=>obtain ⟨a,vs,rfl,hh,r⟩:=h;exact ⟨a,vs,rfl,hh.2,r⟩
 case own=>obtain ⟨a,vs,rfl,_,_,_,_,hh,r⟩:=h;exact ⟨a,vs,rfl,hh,r⟩
def V0w:List D->(D->Prop)->Prop
 | [.lst xs],P=>P (.int xs.length)
 | [.own xs],P=>P (.int xs.length)
 | [.tup xs],P=>P (.int xs.length)
 | [.scr ns],P=>P (.int ns.length)
 | _,_=>False
theorem BA:EH W (fun xs H Q=>∃ p ys,xs=[.ref p]/\(SqL W.K H p ys\/SqT W.K H p ys)/\Q (.int ys.length) H) V0w:=by
 intro M b H xs vs P Q hs rx ho k
 match xs,ho with
 | [.lst xs],ho =>
   obtain ⟨v,rfl,r⟩:=rx1 rx
   obtain ⟨a,us,rfl,hh,r'⟩:=r
   exact ⟨a,us,rfl,.inl (SqL.of hh.2),k _ _ H ho (by show _=_;rw [r'.length]) (Kp.refl _ _) hs.ok⟩
 | [.own xs],ho =>
   obtain ⟨v,rfl,r⟩:=rx1 rx
   obtain ⟨a,us,rfl,_,_,_,_,hh,r'⟩:=r
   exact ⟨a,us,rfl,.inl (SqL.of hh),k _ _ H ho (by show _=_;rw [r'.length]) (Kp.refl _ _) hs.ok⟩
 | [.tup xs],ho =>
   obtain ⟨v,rfl,r⟩:=rx1 rx
   obtain ⟨a,us,rfl,hh,r'⟩:=r
   exact ⟨a,us,rfl,.inr (hh.sq),k _ _ H ho (by show _=_;rw [r'.length]) (Kp.refl _ _) hs.ok⟩
 | [.scr ns],ho =>
   obtain ⟨v,rfl,r⟩:=rx1 rx
   obtain ⟨a,rfl,hh⟩:=r
   refine ⟨a,ns.map V.int,rfl,.inl (hh.imp (·.2) id),k _ _ H ho (by show _=_;rw [L7]) (Kp.refl _ _) hs.ok⟩
def J4t:List D->(D->Prop)->Prop
 | [.lst xs],P=>P (.tup xs)
 | [.own xs],P=>P (.tup xs)
 | [.tup xs],P=>P (.tup xs)
 | _,_=>False
theorem KR:EH W (fun xs H Q=>∃ p ys,xs=[.ref p]/\((SqL W.K H p ys/\∀ l,H l=none->Q (.ref l) (upd H l (.tup ys)))\/(SqT W.K H p ys/\Q (.ref p) H))) J4t:=by
 intro M b H xs vs P Q hs rx ho k
 match xs,ho with
 | [.lst xs],ho =>
   obtain ⟨v,rfl,r⟩:=rx1 rx
   obtain ⟨a,us,rfl,hh,r'⟩:=r
   exact ⟨a,us,rfl,.inl ⟨SqL.of hh.2,fun l hl=>k _ _ _ ho (GX hs r' hl) (Kp.upd hl) (hs.okU hl)⟩⟩
 | [.own xs],ho =>
   obtain ⟨v,rfl,r⟩:=rx1 rx
   obtain ⟨a,us,rfl,_,_,_,_,hh,r'⟩:=r
   exact ⟨a,us,rfl,.inl ⟨SqL.of hh,fun l hl=>k _ _ _ ho (GX hs r' hl) (Kp.upd hl) (hs.okU hl)⟩⟩
 | [.tup xs],ho =>
   obtain ⟨v,rfl,r⟩:=rx1 rx
   obtain ⟨a,us,rfl,hh,r'⟩:=r
   exact ⟨a,us,rfl,.inr ⟨hh.sq,k _ _ H ho ⟨a,us,rfl,hh,r'⟩ (Kp.refl _ _) hs.ok⟩⟩
def V0z:List D->(D->Prop)->Prop
 | [.int i],P=>P (.int (if i<0 then -i else i))
 | _,_=>False
theorem J6u:EH W (fun xs H Q=>∃ i,xs=[.int i]/\Q (.int (if i<0 then -i else i)) H) V0z:=by
 intro M b H xs vs P Q hs rx ho k
 match xs,ho with
 | [.int i],ho =>
   obtain ⟨v,rfl,r⟩:=rx1 rx
   cases (show _=_ from r)
   exact ⟨i,rfl,k _ _ H ho (show _=_ from rfl) (Kp.refl _ _) hs.ok⟩
def Q8m:List D->(D->Prop)->Prop
 | [.int i],P=>P (.int i)
 | [.bl c],P=>P (.int (if c then 1 else 0))
 | _,_=>False
theorem Q1g:EH W (fun xs H Q=>(∃ i,xs=[.int i]/\Q (.int i) H)\/∃ k,xs=[.bl k]/\Q (.int (if k then 1 else 0)) H) Q8m:=by
 intro M b H xs vs P Q hs rx ho k
 match xs,ho with
 | [.int i],ho =>
   obtain ⟨v,rfl,r⟩:=rx1 rx
   cases (show _=_ from r)
   exact .inl ⟨i,rfl,k _ _ H ho (show _=_ from rfl) (Kp.refl _ _) hs.ok⟩
 | [.bl i],ho =>
   obtain ⟨v,rfl,r⟩:=rx1 rx
   cases (show _=_ from r)
   exact .inr ⟨i,rfl,k _ _ H ho (show _=_ from rfl) (Kp.refl _ _) hs.ok⟩
def o2I (g:Int->Int->Int):List D->(D->Prop)->Prop
 | [.int i,.int j],P=>P (.int (g i j))
 | _,_=>False
theorem J0c {g:Int->Int->Int}:EH W (fun xs H Q=>∃ i j,xs=[.int i,.int j]/\Q (.int (g i j)) H) (o2I g):=by
 intro M b H xs vs P Q hs rx ho k
 match xs,ho with
 | [.int i,.int j],ho =>
   obtain ⟨v,u,rfl,r,r'⟩:=rx2 rx
   cases (show _=_ from r)
   cases (show _=_ from r')
   exact ⟨i,j,rfl,k _ _ H ho (show _=_ from rfl) (Kp.refl _ _) hs.ok⟩
def Q8j:List D->(D->Prop)->Prop
 | [x],P=>(asL x).elim False fun xs=>(EX xs).elim False fun ns=>P (.int ns.sum)
 | _,_=>False
theorem Q6j:EH W (fun xs H Q=>∃ (p:Addr) (ns:List Int),xs=[.ref p]/\SqL W.K H p (ns.map V.int)/\Q (.int ns.sum) H) Q8j:=by
 intro M b H xs vs P Q hs rx ho k
 match xs,ho with
 | [x],ho =>
   obtain ⟨v,rfl,r⟩:=rx1 rx
   simp only [Q8j] at ho
   cases ex:asL x with
   | none=>rw [ex] at ho;exact ho.elim
   | some xs =>
     rw [ex] at ho
     simp only [Option.elim] at ho
     cases en:EX xs with
     | none=>rw [en] at ho;exact ho.elim
     | some ns =>
       rw [en] at ho
       cases EX.eq en
       obtain ⟨a,us,rfl,hh,r'⟩:=asL.rep r ex
       cases r'.ints
       exact ⟨a,ns,rfl,SqL.of hh,k _ _ H ho (show _=_ from rfl) (Kp.refl _ _) hs.ok⟩
def Q8p (g:List Bool->Bool):List D->(D->Prop)->Prop
 | [x],P=>(asL x).elim False fun xs=>(HH xs).elim False fun ns=>P (.bl (g ns))
 | _,_=>False
theorem EG {g:List Bool->Bool}:EH W (fun xs H Q=>∃ (p:Addr) (bs:List Bool),xs=[.ref p]/\SqL W.K H p (bs.map V.bl)/\Q (.bl (g bs)) H) (Q8p g):=by
 intro M b H xs vs P Q hs rx ho k
 match xs,ho with
 | [x],ho =>
   obtain ⟨v,rfl,r⟩:=rx1 rx
   simp only [Q8p] at ho
   cases ex:asL x with
   | none=>rw [ex] at ho;exact ho.elim
   | some xs =>
     rw [ex] at ho
     simp only [Option.elim] at ho
     cases en:HH xs with
     | none=>rw [en] at ho;exact ho.elim
     | some ns =>
       rw [en] at ho
       cases HH.eq en
       obtain ⟨a,us,rfl,hh,r'⟩:=asL.rep r ex
       cases r'.bls
       exact ⟨a,ns,rfl,SqL.of hh,k _ _ H ho (show _=_ from rfl) (Kp.refl _ _) hs.ok⟩
theorem Y9 (K:Fg)(h:X.K=K):BD X (.builtin "isinstance") (fun xs H Q=>∃ y c t b,xs=[y,.ty c]/\(TyOf K H y t\/∃ a vs,y=.ref a/\KTp K a vs/\t=.type "tuple")/\PySem.W.kitOne K t (.type c)=some b/\Q (.bl b) H):=by
 subst h
 intro pins s σ H xs us Q I rs q
 obtain ⟨y,c,t,b,rfl,ty,e,q⟩:=q
 rcases ty with ty|⟨a,vs,rfl,⟨o,its,n,hk,hc,hs,hz,r⟩,rfl⟩
 · exact VN pins s σ H _ us Q I rs ⟨y,c,t,b,rfl,ty,e,q⟩
 · obtain ⟨u1,u2,rfl,r1,r2⟩:=SY rs
   cases (show u2=Value.type c from r2)
   cases (show u1=Value.ref a from r1)
   refine W4 PySem.W.kitx_tuple I.kIn ⟨o,I.kIn a o hk,hc⟩ e (fun z=>nomatch z) fun tk=>?_
   exact ⟨.bl b,H,I.tok _,rfl,q⟩
def Q3b:D->Option String
 | .non=>some "NoneType"
 | .bl _=>some "bool"
 | .int _=>some "int"
 | .str _=>some "str"
 | .lst _=>some "list"
 | .own _=>some "list"
 | .tup _=>some "tuple"
 | .frg _ (.lst _)=>some "list"
 | _=>none
def V1f (K:Fg)(t c:String)(b:Bool):Prop:=PySem.W.kitOne K (.type t) (.type c)=some b
def Q4g (K:Fg):List D->(D->Prop)->Prop
 | [x,.ty c],P=>match Q3b x with|some t=>∃ b,V1f K t c b/\P (.bl b)|none=>False
 | _,_=>False
theorem AD:EH W (fun xs H Q=>∃ y c t b,xs=[y,.ty c]/\(TyOf W.K H y t\/∃ a vs,y=.ref a/\KTp W.K a vs/\t=.type "tuple")/\PySem.W.kitOne W.K t (.type c)=some b/\Q (.bl b) H) (Q4g W.K):=by
 intro M b H xs vs P Q hs rx ho k
 match xs,ho with
 | [x,.ty c],ho =>
   obtain ⟨v,u,rfl,r,r'⟩:=rx2 rx
   cases (show _=_ from r')
   simp only [Q4g] at ho
   split at ho
   case h_2=>exact ho.elim
   case h_1 t et =>
    obtain ⟨q,hq,hp⟩:=ho
    refine ⟨v,c,.type t,q,rfl,?_,hq,k _ _ H hp (show _=_ from rfl) (Kp.refl _ _) hs.ok⟩
    cases x<;>first|cases et|skip
    case non=>cases (show _=_ from r);exact .inl (.non)
    case bl=>cases (show _=_ from r);exact .inl (.bl _)
    case int=>cases (show _=_ from r);exact .inl (.int _)
    case str=>cases (show _=_ from r);exact .inl (.str _)
    case lst=>obtain ⟨a,us,rfl,hh,r'⟩:=r;exact .inl (.lst hh.2)
    case own=>obtain ⟨a,us,rfl,_,_,_,_,hh,r'⟩:=r;exact .inl (.lst hh)
    case frg f d =>
     cases d<;>first|cases et|skip
     case lst=>obtain ⟨a,us,rfl,hh,r'⟩:=r.2.2;exact .inl (.lst hh.2)
    case tup =>
     obtain ⟨a,us,rfl,hh,r'⟩:=r
     exact hh.elim (fun z=>.inl (.tup z.2)) fun z=>.inr ⟨a,us,rfl,z,rfl⟩
end
theorem Reps.plain {H:Hp}:∀ {ds:List D} {vs:List V},Reps K M H ds vs->ds.all plain=true
 | [],_,_=>rfl
 | d::ds,_,h=>by
   obtain ⟨v,r,rfl,h1,h2⟩:=h
   rw [B0o,Reps.plain h2,B1n]
   cases d<;>first|rfl|exact h1.elim
theorem Reps.xs {W:Wd} {H:Hp}:∀ {ds:List D} {vs:List V},Reps W.K M H ds vs->RepXs W M b H ds vs
 | [],_,h=>h
 | d::ds,_,h=>by
   obtain ⟨v,r,rfl,h1,h2⟩:=h
   exact ⟨v,r,rfl,h1.x,Reps.xs h2⟩
def JR (W:Wd)(J:It)(need:List (D×V))(items:List D):Prop:=∀ M b H,Hs W M b H->(∀ q∈need,RepX W M b H q.1 q.2) ->
 (∀ (i:Nat) d,items[i]?=some d->J.go i H/\∀ x H3,J.yld i H x H3->Same H H3/\RepX W M b H3 d x)/\∀ i,items.length<=i->J.stop i H
def dnI (W:Wd)(fz:Bool)(di:DA):TI:=fun σ H R=>∃ pn M b ρ P,Sta W pn M b H σ ρ/\di ρ P/\∀ items J need H',P items->items.all plain=true->JR W J need items->(∀ q∈need,RepX W M b H' q.1 q.2/\(fz=true->plain q.1=true))->Kp b H H'->okB W.B b H'->R J H'
theorem dnI.elim {W:Wd}{fz:Bool}{d:DA}{σ:St}{H:Hp}{R:It->Hp->Prop}{Z:Prop}(h:dnI W fz d σ H R)(f:∀ pn M b ρ P,Sta W pn M b H σ ρ->d ρ P->(∀ items J need H',P items->items.all plain=true->JR W J need items->(∀ q∈need,RepX W M b H' q.1 q.2/\(fz=true->plain q.1=true))->Kp b H H'->okB W.B b H'->R J H')->Z):Z:=by
 obtain ⟨pn,M,b,ρ,P,st,h,k⟩:=h
 exact f pn M b ρ P st h k
section
variable {X:Cx}{W:Wd}{tg l e a b:Expr}{pos p:Pos}{d dl:DE}{dA:DA}{fz:Bool}
theorem PI.mono {t t':TI}(h:PI X tg l t)(m:∀ σ H R,t' σ H R->t σ H R):PI X tg l t':=fun pins s σ H R I q=>h pins s σ H R I (m σ H R q)
theorem Q3t {tl:TE}(K:Fg)(h:X.K=K)(hl:PE X l tl):PI X tg l (fun σ H R=>tl σ H fun x H1=>(∃ a,x=.ref a/\(∃ xs,SqL K H1 a xs)/\R (Itl K a) H1)\/(∃ a,x=.ref a/\(∃ xs,SqT K H1 a xs)/\R (Itt K a) H1)):=by
 subst h
 intro pins s σ H R I h
 refine thn (hl pins s σ H _ I h) fun v s1 ⟨x,H1,I1,r1,q1⟩=>?_
 rcases q1 with ⟨a,e,⟨xs,hq⟩,q⟩|⟨a,e,⟨xs,hq⟩,q⟩
 · subst e
   cases r1
   obtain ⟨its,rv,p,hz⟩:=I1.list hq
   refine B1o p.isList ?_
   refine ⟨s1.heap.objs.size,[s1.heap.objs.size],_,_,H1,rfl,I1.kept (t':=s1.toks) fun b o e=>B1 _ e,J0v a _,⟨_,L8 _ rfl,rfl,rfl⟩,fun b hb=>?_,q⟩
   have e:b=s1.heap.objs.size:=by simpa using hb
   subst e
   exact I1.fpOk (B6 _) (I1.hok.fresh (B6 _))
 · subst e
   cases r1
   obtain ⟨its,rv,p,hz⟩:=I1.tuple hq
   refine wpAny_pyIter_tuple (show s1.heap.IsTuple a its.toArray from p) ?_
   refine ⟨s1.heap.objs.size,[s1.heap.objs.size],_,_,H1,rfl,I1.kept (t':=s1.toks) fun b o e=>B1 _ e,WB a _,⟨_,L8 _ rfl,rfl,rfl⟩,fun b hb=>?_,q⟩
   have e:b=s1.heap.objs.size:=by simpa using hb
   subst e
   exact I1.fpOk (B6 _) (I1.hok.fresh (B6 _))
def Q4v (fz:Bool)(dl:DE):DA:=fun ρ P=>dl ρ fun x=>match x with
 | .lst xs=>P xs
 | .tup xs=>P xs
 | .own xs=>fz=false/\P xs
 | _=>False
theorem J5m {x:D}{xs:List D}{a:Addr}(hx:asL x=some xs):JR W (Itl W.K a) [(x,.ref a)] xs:=by
 intro M b H hs hn
 obtain ⟨a',vs,e,hh,r⟩:=asL.rep (hn _ (T5.mpr rfl)) hx
 cases e
 refine ⟨fun i d e=>?_,fun i hi=>⟨vs,SqL.of hh,by rw [r.length];exact hi⟩⟩
 obtain ⟨v,e1,r1⟩:=r.get e
 refine ⟨⟨vs,v,SqL.of hh,e1⟩,fun y H3 ⟨eH,hy⟩=>?_⟩
 subst eH
 have:=hy vs (SqL.of hh)
 rw [e1] at this;cases this
 exact ⟨Same.refl _,r1.x⟩
theorem Q4t {xs:List D}{a:Addr}:JR W (Itt W.K a) [(.tup xs,.ref a)] xs:=by
 intro M b H hs hn
 obtain ⟨a',vs,e,hh,r⟩:=hn _ (T5.mpr rfl)
 cases e
 refine ⟨fun i d e=>?_,fun i hi=>⟨vs,hh.sq,by rw [r.length];exact hi⟩⟩
 obtain ⟨v,e1,r1⟩:=r.get e
 refine ⟨⟨vs,v,hh.sq,e1⟩,fun y H3 ⟨eH,hy⟩=>?_⟩
 subst eH
 have:=hy vs (hh.sq)
 rw [e1] at this;cases this
 exact ⟨Same.refl _,r1.x⟩
theorem J4v {b:Option Addr}{H:Hp}{x:D}{v:V}(r:RepX W M b H x v)(h:fz=true->plain x=true):∀ q∈[(x,v)],RepX W M b H q.1 q.2/\(fz=true->plain q.1=true):=fun q hq=>by
 have e:=T5.mp hq
 subst e
 exact ⟨r,h⟩
theorem Q5l (hK:X.K=W.K)(hl:PE X l (dn W dl)):PI X tg l (dnI W fz (Q4v fz dl)):=(Q3t W.K hK hl).mono fun σ H R hh=>hh.elim fun pn M b ρ P st h k=>by
 refine ⟨pn,M,b,ρ,_,st,h,fun x v H1 hx rx k1 o1=>?_⟩
 cases x<;>first|exact hx.elim|skip
 case lst xs =>
  obtain ⟨a,vs,rfl,hh,r⟩:=(show RepX W M b H1 (.lst xs) v from rx)
  exact .inl ⟨a,rfl,⟨vs,SqL.of hh.2⟩,k xs _ _ H1 hx r.plain (J5m (x:=.lst xs) rfl) (J4v rx fun _=>rfl) k1 o1⟩
 case tup xs =>
  obtain ⟨a,vs,rfl,hh,r⟩:=(show RepX W M b H1 (.tup xs) v from rx)
  exact .inr ⟨a,rfl,⟨vs,hh.sq⟩,k xs _ _ H1 hx r.plain Q4t (J4v rx fun _=>rfl) k1 o1⟩
 case own xs =>
  obtain ⟨a,vs,rfl,m1,m2,m3,m4,hh,r⟩:=(show RepX W M b H1 (.own xs) v from rx)
  exact .inl ⟨a,rfl,⟨vs,SqL.of hh⟩,k xs _ _ H1 hx.2 r.plain (J5m (x:=.own xs) rfl) (J4v rx fun z=>by rw [hx.1] at z;cases z) k1 o1⟩
def CC (lo:Int)(n:Nat):List D:=(List.range n).map fun (i:Nat)=>.int (lo+i)
theorem GR (lo:Int)(n:Nat):(CC lo n).all plain=true:=by
 simp [CC,plain]
theorem NY {lo:Int}{n:Nat}:JR W (Itr lo n) [] (CC lo n):=by
 intro M b H hs _
 refine ⟨fun i d e=>?_,fun i hi=>by show n<=i;simpa [CC] using hi⟩
 have hi:i<n:=by
  have:=(M1.mp e).1
  simpa [CC] using this
 refine ⟨hi,fun x H3 ⟨eH,ex⟩=>?_⟩
 subst eH ex
 refine ⟨Same.refl _,?_⟩
 simp [CC,hi] at e
 subst e
 exact (show _=_ from rfl)
def ZQ (dA:DA):DA:=fun ρ P=>dA ρ fun xs=>match xs with
 | [.int j]=>(-(2 ^ 62)<=j/\j<2 ^ 62)/\P (CC 0 j.toNat)
 | _=>False
def ZP (dA:DA):DA:=fun ρ P=>dA ρ fun xs=>match xs with
 | [.int i,.int j]=>(-(2 ^ 62)<=i/\i<2 ^ 62/\-(2 ^ 62)<=j/\j<2 ^ 62)/\P (CC i (j - i).toNat)
 | _=>False
theorem J2g (hg:Gl X "range") (hm:X.mg "range" = none) (ha:PA X [a] (dnA W dA)) (hs:starEach [a] X.env=[(false,eval a X.env)]:=by rfl):PI X tg (.Call (.Name "range" p) [a] [] pos) (dnI W fz (ZQ dA)):=(PX hg hm ha hs).mono fun σ H R hh=>hh.elim fun pn M b ρ P st h k=>by
 refine ⟨pn,M,b,ρ,_,st,h,fun xs vs H1 hx rx k1 o1=>?_⟩
 match xs,hx with
 | [.int j],hx =>
   obtain ⟨v,rfl,r⟩:=rx1 rx
   cases (show _=_ from r)
   exact ⟨j,rfl,hx.1.1,hx.1.2,k _ _ _ H1 hx.2 (GR _ _) NY (fun q hq=>by cases hq) k1 o1⟩
theorem J2f (hg:Gl X "range") (hm:X.mg "range" = none) (ha:PA X [a,b] (dnA W dA)) (hs:starEach [a,b] X.env=[(false,eval a X.env),(false,eval b X.env)]:=by rfl) (hs2:starEach [b] X.env=[(false,eval b X.env)]:=by rfl):PI X tg (.Call (.Name "range" p) [a,b] [] pos) (dnI W fz (ZP dA)):=(J1i hg hm ha hs hs2).mono fun σ H R hh=>hh.elim fun pn M b ρ P st h k=>by
 refine ⟨pn,M,b,ρ,_,st,h,fun xs vs H1 hx rx k1 o1=>?_⟩
 match xs,hx with
 | [.int i,.int j],hx =>
   obtain ⟨v,u,rfl,r,r'⟩:=rx2 rx
   cases (show _=_ from r)
   cases (show _=_ from r')
   exact ⟨i,j,rfl,hx.1,k _ _ _ H1 hx.2 (GR _ _) NY (fun q hq=>by cases hq) k1 o1⟩
def asK (fz t:Bool):D->Option (List D)
 | .tup xs=>if t then some xs else none
 | .lst xs=>if t then none else some xs
 | .own xs=>if t||fz then none else some xs
 | _=>none
theorem asK.rep {b:Option Addr}{H:Hp}{t:Bool}{x:D}{v:V}{xs:List D}(h:RepX W M b H x v)(e:asK fz t x=some xs):(∃ a vs,v=.ref a/\SqX W.K t H a vs/\Reps W.K M H xs vs)/\(fz=true->plain x=true):=by
 cases x<;>first|cases e|skip
 case lst =>
  obtain ⟨a,vs,rfl,hh,r⟩:=h
  cases t<;>cases e
  exact ⟨⟨a,vs,rfl,SqL.of hh.2,r⟩,fun _=>rfl⟩
 case own =>
  obtain ⟨a,vs,rfl,_,_,_,_,hh,r⟩:=h
  cases t<;>cases fz<;>cases e
  exact ⟨⟨a,vs,rfl,SqL.of hh,r⟩,fun z=>by cases z⟩
 case tup =>
  obtain ⟨a,vs,rfl,hh,r⟩:=h
  cases t<;>cases e
  exact ⟨⟨a,vs,rfl,hh.sq,r⟩,fun _=>rfl⟩
def SW (xs ys:List D):List D:=List.zipWith (fun x y=>.tup [x,y]) xs ys
def Q1z (fz t1 t2:Bool)(dA:DA):DA:=fun ρ P=>dA ρ fun zs=>match zs with
 | [x,y]=>(match asK fz t1 x,asK fz t2 y with|some xs,some ys=>xs.length<=ys.length/\P (SW xs ys)|_,_=>False)
 | _=>False
theorem MU:∀ (xs ys:List D),(SW xs ys).all plain=true
 | [],_=>rfl
 | _::_,[]=>rfl
 | x::xs,y::ys=>by
   show (plain (.tup [x,y])&&(SW xs ys).all plain)=true
   rw [MU xs ys];rfl
theorem Q4s {t1 t2:Bool}{x y:D}{xs ys:List D}{l1 l2:Addr}(h1:asK fz t1 x=some xs)(h2:asK fz t2 y=some ys)(hl:xs.length<=ys.length):JR W (Q7f W.K t1 t2 l1 l2) [(x,.ref l1),(y,.ref l2)] (SW xs ys):=by
 intro M b H hs hn
 obtain ⟨⟨a1,us,e1,q1,r1⟩,_⟩:=asK.rep (hn _ (.head _)) h1
 obtain ⟨⟨a2,ws,e2,q2,r2⟩,_⟩:=asK.rep (hn _ (.tail _ (.head _))) h2
 cases e1
 cases e2
 have hlen:(SW xs ys).length=xs.length:=by simp [SW];omega
 refine ⟨fun i d e=>?_,fun i hi=>⟨⟨us,q1,by rw [r1.length,<- hlen];exact hi⟩,⟨ws,q2⟩⟩⟩
 have hi:i<xs.length:=by rw [<- hlen];exact (M1.mp e).1
 obtain ⟨u,eu,ru⟩:=r1.get (L0 hi)
 obtain ⟨w,ew,rw'⟩:=r2.get (L0 (L3 hi hl))
 refine ⟨⟨us,ws,u,w,q1,eu,q2,ew⟩,fun v H3 ⟨t,y1,y2,ev,ht,eH,k1,k2⟩=>?_⟩
 subst ev eH
 have z1:=k1 us q1
 have z2:=k2 ws q2
 rw [eu] at z1;cases z1
 rw [ew] at z2;cases z2
 refine ⟨Same.upd ht,?_⟩
 have ed:d=.tup [xs[i],ys[i]'(L3 hi hl)]:=by
  have:(SW xs ys)[i]?=some (.tup [xs[i],ys[i]'(L3 hi hl)]):=by
   simp [SW,List.getElem?_zipWith,hi,L3 hi hl]
  rw [this] at e;exact (Option.some.inj e).symm
 subst ed
 exact GX hs ⟨u,[w],rfl,ru,w,[],rfl,rw',rfl⟩ ht
theorem Q5k {elts:List Expr}{c1}{tpos:Pos}(hK:X.K=W.K)(t1 t2:Bool)(hg:Gl X "zip") (hm:X.mg "zip" = none) (ha:PA X [a,b] (dnA W dA))
 (h:PI X (.Tuple elts c1 tpos) (.Call (.Name "zip" p) [a,b] [] pos) (J5n W.K t1 t2 (dnA W dA))):PI X (.Tuple elts c1 tpos) (.Call (.Name "zip" p) [a,b] [] pos) (dnI W fz (Q1z fz t1 t2 dA)):=h.mono fun σ H R hh=>hh.elim fun pn M b ρ P st h k=>by
 refine ⟨pn,M,b,ρ,_,st,h,fun zs vs H1 hx rx k1 o1=>?_⟩
 match zs,hx with
 | [x,y],hx =>
   obtain ⟨v,u,rfl,r,r'⟩:=rx2 rx
   dsimp only at hx
   split at hx
   case h_2=>exact hx.elim
   case h_1 xs ys e1 e2 =>
    obtain ⟨⟨a1,us,z1,q1,r1⟩,f1⟩:=asK.rep r e1
    obtain ⟨⟨a2,ws,z2,q2,r2⟩,f2⟩:=asK.rep r' e2
    subst z1 z2
    refine ⟨a1,a2,rfl,⟨us,q1⟩,⟨ws,q2⟩,k _ _ _ H1 hx.2 (MU _ _) (Q4s e1 e2 hx.1) (fun q hq=>?_) k1 o1⟩
    rcases B7.mp hq with z|z
    · subst z;exact ⟨r,f1⟩
    · have z:=T5.mp z
      subst z;exact ⟨r',f2⟩
end
def GD (W:Wd)(g:TG)(gd:D->Ev->(Ev->Prop)->Prop):Prop:=∀ pn M b H σ ρ x v Q P,Sta W pn M b H σ ρ->RepX W M b H x v->plain x=true->gd x ρ P->(∀ ρ' σ',P ρ'->Sta W pn M b H σ' ρ'->(∀ (i:Nat) d,mine d=true->ρ'[i]?=some (some d)->ρ[i]?=some (some d)/\σ'[i]?=σ[i]?)->Q σ' H)->g v σ H Q
theorem Sta.set {W:Wd}{pn:List (D×V)} {H:Hp}{σ:St}{ρ:Ev}{x:D}{v:V}(s:Sta W pn M b H σ ρ)(j:Nat)(r:RepX W M b H x v):Sta W pn M b H (σ.set j (some v)) (ρ.set j (some x)) where
 toHs:=s.toHs
 kp:=s.kp
 new:=s.new
 len:=by simp [s.len]
 pin:=s.pin
 env:=fun i d e=>by
  by_cases z:j=i
  · subst z
    rw [R8] at e
    simp at e
    obtain ⟨hl,rfl⟩:=e
    exact ⟨v,by rw [R8];simp [<- s.len,hl],r⟩
  · rw [L4 z] at e
    obtain ⟨w,e1,r1⟩:=s.env i d e
    exact ⟨w,by rw [L4 z];exact e1,r1⟩
theorem IJ {ρ:Ev}{σ:St}{j:Nat}{x:D}{v:V}(p:plain x=true):∀ (i:Nat) d,mine d=true->(ρ.set j (some x))[i]?=some (some d)->ρ[i]?=some (some d)/\(σ.set j (some v))[i]?=σ[i]?:=fun i d hm e=>by
 by_cases z:j=i
 · subst z
   rw [R8] at e
   simp at e
   obtain ⟨hl,rfl⟩:=e
   cases x<;>first|(cases hm;done)|(cases p;done)
 · rw [L4 z] at e
   exact ⟨e,by rw [L4 z]⟩
def gdN (j:Nat):D->Ev->(Ev->Prop)->Prop:=fun x ρ P=>P (ρ.set j (some x))
theorem V8 {W:Wd}(j:Nat):GD W (UX j) (gdN j):=fun pn M b H σ ρ x v Q P st r p h k=>k _ _ h (st.set j r) (IJ p)
def NA:List Nat->List D->Ev->Ev
 | j::js,x::xs,ρ=>NA js xs (ρ.set j (some x))
 | _,_,ρ=>ρ
def IA:List Nat->TGs
 | []=>Q8y
 | j::js=>Q2c (UX j) (IA js)
def Q8x (K:Fg)(n:Nat)(t:TGs):TG:=fun v σ H Q=>Q4x K n t v σ H Q\/Q8z K n t v σ H Q
def gdU (js:List Nat):D->Ev->(Ev->Prop)->Prop:=fun x ρ P=>match x with
 | .tup xs=>xs.length=js.length/\P (NA js xs ρ)
 | .lst xs=>xs.length=js.length/\P (NA js xs ρ)
 | _=>False
theorem OB {W:Wd}{pn:List (D×V)} {H:Hp}{Q:St->Hp->Prop}{P:Ev->Prop}:∀ (js:List Nat) (xs:List D) (vs:List V) (σ:St) (ρ:Ev),Sta W pn M b H σ ρ->Reps W.K M H xs vs->xs.length=js.length->P (NA js xs ρ)->(∀ ρ' σ',P ρ'->Sta W pn M b H σ' ρ'->(∀ (i:Nat) d,mine d=true->ρ'[i]?=some (some d)->ρ[i]?=some (some d)/\σ'[i]?=σ[i]?)->Q σ' H)->IA js vs σ H Q
 | [],[],vs,σ,ρ,st,r,hl,h,k=>⟨r,k _ _ h st fun _ _ _ e=>⟨e,rfl⟩⟩
 | j::js,x::xs,vs,σ,ρ,st,r,hl,h,k=>by
   obtain ⟨v,us,rfl,r1,r2⟩:=r
   refine ⟨v,us,rfl,?_⟩
   have p:plain x=true:=by cases x<;>first|rfl|exact r1.elim
   refine OB js xs us _ (ρ.set j (some x)) (st.set j r1.x) r2 (by simpa using hl) h fun ρ' σ' hp st' ho=>k ρ' σ' hp st' fun i xs hm e=>?_
   obtain ⟨z1,z2⟩:=ho i xs hm e
   obtain ⟨z3,z4⟩:=IJ (v:=v) (σ:=σ) p i xs hm z1
   exact ⟨z3,z2.trans z4⟩
theorem BO {W:Wd}(js:List Nat):GD W (Q8x W.K js.length (IA js)) (gdU js):=fun pn M b H σ ρ x v Q P st r p h k=>by
 cases x<;>first|exact h.elim|skip
 case tup xs =>
  obtain ⟨a,vs,rfl,hh,r⟩:=r
  exact .inl ⟨a,vs,rfl,hh.sq,by rw [r.length];exact h.1,OB js xs vs σ ρ st r h.1 h.2 k⟩
 case lst xs =>
  obtain ⟨a,vs,rfl,hh,r⟩:=r
  exact .inr ⟨a,vs,rfl,SqL.of hh.2,by rw [r.length];exact h.1,OB js xs vs σ ρ st r h.1 h.2 k⟩
theorem PG.or {X:Cx}{tg:Expr}{t u:TG}(h:PG X tg t)(h':PG X tg u):PG X tg (fun v σ H Q=>t v σ H Q\/u v σ H Q):=by
 intro pins s σ H v u' Q I r q
 rcases q with q|q
 · exact h pins s σ H v u' Q I r q
 · exact h' pins s σ H v u' Q I r q
theorem gkeep_seq {js:List Nat}{n:Nat}{map:List (Option Nat)}(hj:∀ j∈js,map[j]?=some none):IF (Q8x K n (IA js)) map:=by
 have key:∀ (js:List Nat),(∀ j∈js,map[j]?=some none)->∀ vs σ H Q,IA js vs σ H Q->IA js vs σ H fun σ' H'=>(σ'.length=σ.length/\∀ j i:Nat,map[j]?=some (some i)->σ'[j]?=σ[j]?)/\Q σ' H':=by
  intro js
  induction js with
  | nil=>intro _ vs σ H Q h;exact ⟨h.1,⟨rfl,fun _ _ _=>rfl⟩,h.2⟩
  | cons j js ih =>
    intro hj vs σ H Q h
    obtain ⟨v,r,e,h⟩:=h
    refine ⟨v,r,e,?_⟩
    have q:=ih (fun j' m=>hj j' (.tail _ m)) r _ H _ h
    have mono:∀ (js:List Nat) vs σ H (Q Q':St->Hp->Prop),(∀ s h,Q s h->Q' s h)->IA js vs σ H Q->IA js vs σ H Q':=by
     intro js
     induction js with
     | nil=>intro vs σ H Q Q' m h;exact ⟨h.1,m _ _ h.2⟩
     | cons j js ih=>intro vs σ H Q Q' m ⟨v,r,e,h⟩;exact ⟨v,r,e,ih _ _ _ _ _ m h⟩
    refine mono js r _ H _ _ (fun s h ⟨⟨l,z⟩,w⟩=>⟨⟨by rw [l];simp,fun j' i hm=>?_⟩,w⟩) q
    rw [z j' i hm]
    have n1:j≠j':=fun z=>by
     have:=hj j (.head _)
     rw [z,hm] at this;cases this
    rw [L4 n1]
 intro v σ H Q h
 rcases h with ⟨a,xs,e,s,l,h⟩|⟨a,xs,e,s,l,h⟩
 · exact .inl ⟨a,xs,e,s,l,key js hj _ _ _ _ h⟩
 · exact .inr ⟨a,xs,e,s,l,key js hj _ _ _ _ h⟩
def IB (ρ:Ev)(map:List (Option Nat)):Ev:=map.map fun o=>o.bind fun i=>(ρ[i]?).join
def SC (gd:D->Ev->(Ev->Prop)->Prop)(dt:DT)(de:DE)(ρc:Ev):List D->List D->(List D->Prop)->Prop
 | [],acc,P=>P acc
 | x::xs,acc,P=>gd x ρc fun ρ1=>dt ρ1 fun c=>IfP c (de ρ1 fun y=>plain y=true/\SC gd dt de ρc xs (acc++[y]) P) (SC gd dt de ρc xs acc P)
inductive compI (gd:D->Ev->(Ev->Prop)->Prop)(dt:DT)(de:DE)(ρc:Ev)(items:List D)(P:List D->Prop):Prop
 | mk (I:Nat->List D->Prop) (h0:I 0 []) (hs:∀ (i:Nat) x acc,items[i]?=some x->I i acc->gd x ρc fun ρ1=>dt ρ1 fun c=>IfP c (de ρ1 fun y=>plain y=true/\I (i+1) (acc++[y])) (I (i+1) acc)) (hd:∀ acc,I items.length acc->P acc):compI gd dt de ρc items P
theorem J6q {gd:D->Ev->(Ev->Prop)->Prop}{dt:DT}{de:DE}{ρc:Ev}{items:List D}{P:List D->Prop}(h:SC gd dt de ρc items [] P):compI gd dt de ρc items P:=by
 refine ⟨fun i acc=>SC gd dt de ρc (items.drop i) acc P,h,fun i x acc e q=>?_,fun acc q=>?_⟩
 · obtain ⟨hlt,rfl⟩:=M1.mp e
   try dsimp only at q
   rw [B0w hlt] at q
   exact q
 · (try dsimp only at q);rw [List.drop_length] at q;exact q
def J6o (map:List (Option Nat))(gd:D->Ev->(Ev->Prop)->Prop)(di:DA)(dt:DT)(de:DE):DE:=fun ρ P=>di ρ fun items=>items.length<=1000/\compI gd dt de (IB ρ map) items fun acc=>P (.lst acc)
theorem Sta.capt {W:Wd}{pn:List (D×V)} {H:Hp}{σ:St}{ρ:Ev}(s:Sta W pn M b H σ ρ)(map:List (Option Nat)):Sta W pn M b H (capt σ map) (IB ρ map) where
 toHs:=s.toHs
 kp:=s.kp
 new:=s.new
 len:=by simp [L2.capt,IB]
 pin:=s.pin
 env:=fun j d e=>by
  unfold IB at e
  rw [M9] at e
  simp only [M6] at e
  obtain ⟨o,e1,e2⟩:=e
  simp only [B1e] at e2
  obtain ⟨i,rfl,e3⟩:=e2
  have e4:ρ[i]?=some (some d):=by
   cases q:ρ[i]? with
   | none=>rw [q] at e3;cases e3
   | some z=>rw [q] at e3;exact B0b some e3
  obtain ⟨v,e5,r⟩:=s.env i d e4
  exact ⟨v,by unfold L2.capt;rw [M9,e1];simp [e5],r⟩
theorem OI {W:Wd}{pn:List (D×V)}{M:Addr->Prop}{b:Option Addr}{H:Hp}{σ:St}{ρ:Ev}{J:It}{need:List (D×V)}{items:List D}{g:TG}{gd:D->Ev->(Ev->Prop)->Prop}{dt:DT}{de:DE}{P:List D->Prop}{Fin:List V->Hp->Prop}
 (hG:GD W g gd) (st:Sta W pn M b H σ ρ) (hp:items.all plain=true) (hI:JR W J need items) (hn:∀ q∈need,RepX W M b H q.1 q.2) (hl:items.length<=1000) (h:compI gd dt de ρ items P)
 (fin:∀ ds acc H',P ds->Reps W.K M H' ds acc->acc.length<=sizeLine->Kp b H H'->okB W.B b H'->Fin acc H'):∃ Wf:Nat->Nat->List V->Hp->Prop,(∃ m,Wf 0 m [] H)/\MF J g (dnT W dt) (dn W de) σ Fin Wf:=by
 obtain ⟨I,i0,istep,idone⟩:=h
 refine ⟨fun i m acc H2=>m=items.length - i/\i<=items.length/\acc.length<=i/\Kp b H H2/\okB W.B b H2/\∃ ds,Reps W.K M H2 ds acc/\I i ds,⟨items.length,by simp,W1 _,B6 _,Kp.refl _ _,st.ok,[],rfl,i0⟩,?_⟩
 rintro i m acc H2 ⟨rfl,hi,ha,k2,o2,ds,r,q⟩
 have st2:=st.step k2 o2
 obtain ⟨hgo,hstop⟩:=hI M b H2 st2.toHs fun q hq=>(hn q hq).step st.bagM k2
 by_cases hlt:i<items.length
 · have ei:items[i]?=some items[i]:=L0 hlt
   replace q:=istep i _ ds ei q
   refine .inr ⟨(hgo i _ ei).1,by have:=AZ;omega,fun acc' H'=>acc'.length<=i+1/\Kp b H H'/\okB W.B b H'/\∃ ds,Reps W.K M H' ds acc'/\I (i+1) ds,fun acc' H' n=>⟨items.length - (i+1),by omega,rfl,hlt,n⟩,fun x H3 y=>?_⟩
   obtain ⟨S3,rx⟩:=(hgo i _ ei).2 x H3 y
   have o3:okB W.B b H3:=fun p e=>W.B.st p H2 H3 (o2 p e) fun o e'=>S3 p o e'
   have k3:Kp b H2 H3:=Kp.same S3
   have st3:=st2.step k3 o3
   refine hG pn M b H3 σ ρ items[i] x _ _ st3 rx (T8.mp hp _ (E2 hlt)) q fun ρ1 σ1 h1 st4 _=>?_
   refine ⟨pn,M,b,ρ1,_,st4,h1,fun c H5 h5 k5 o5=>?_⟩
   cases h5 with
   | t e h5 =>
     rw [if_pos e]
     refine ⟨pn,M,b,ρ1,_,st4.step k5 o5,h5,fun y v H6 h6 ry k6 o6=>?_⟩
     have kk:=((k3.trans k5).trans k6)
     refine ⟨by simp;omega,k2.trans kk,o6,ds++[y],Reps.append (Reps.keep (fun c o n e=>kk c o (fun z=>n (st.bagM c z)) e) _ _ r) ⟨v,[],rfl,ry.rep h6.1,rfl⟩,h6.2⟩
   | f e h5 =>
     rw [if_neg (by rw [e];exact B9)]
     have kk:=k3.trans k5
     exact ⟨by omega,k2.trans kk,o5,ds,Reps.keep (fun c o n e=>kk c o (fun z=>n (st.bagM c z)) e) _ _ r,h5⟩
 · have e:i=items.length:=by omega
   subst e
   exact .inl ⟨hstop _ (B6 _),by have:=AZ;omega,fin ds acc H2 (idone _ q) r (by have:=AZ;omega) k2 o2⟩
section
variable {X:Cx}{W:Wd}{elt iter tg:Expr}{ifs:List Expr}{scope:Scope}{pos:Pos}{N':List Str}{map:List (Option Nat)}{g:TG}{gd:D->Ev->(Ev->Prop)->Prop}{di:DA}{dt:DT}{de:DE}
theorem Q0s (hG:GD W g gd)(B:Blk X N' scope map tg elt ifs g (dnT W dt) (dn W de))(hi:PI X tg iter (dnI W false di))(hs:∀ x,foldedSetIterable iter X.env x=pure x:=by intro _;rfl):PE X (.ListComp elt [⟨tg,iter,ifs,0⟩] scope pos) (dn W (J6o map gd di dt de)):=(J8z B hi hs).mono fun σ H Q hh=>hh.elim fun pn M b ρ P st h k=>by
 refine ⟨pn,M,b,ρ,_,st,h,fun items J need H1 hx hp hI hn k1 o1=>?_⟩
 have st1:=st.step k1 o1
 refine OI hG (st1.capt map) hp hI (fun q hq=>(hn q hq).1) hx.1 hx.2 fun ds acc H' hP r hl k2 o2 D hD=>?_
 exact k _ _ _ hP (EL (st1.step k2 o2).toHs r hD) ((k1.trans k2).trans (Kp.upd hD)) ((st1.step k2 o2).okU hD)
def QK:DT:=fun _ P=>P true
theorem Q0q:PIf X [] (dnT W QK):=fun pins s σ H Q I hh=>hh.elim fun pn M b ρ P st h k=>YX pins s σ H Q I (k true H h (Kp.refl _ _) st.ok)
end
structure StS (W:Wd)(pn:List (D×V))(M:Addr->Prop)(b:Option Addr)(H:Hp)(σ:St)(ρ:Ev):Prop extends Sta W pn M b H σ ρ where
 dj:∀ (i j:Nat) d e v u c,ρ[i]?=some (some d)->ρ[j]?=some (some e)->σ[i]?=some (some v)->σ[j]?=some (some u)->HF d v c->HF e u c->i=j
 lj:∀ ys a,(D.own ys,V.ref a)∈pn->∀ (i:Nat) d v,ρ[i]?=some (some d)->σ[i]?=some (some v)->¬ HF d v a
theorem StS.own {W:Wd}{pn:List (D×V)} {H:Hp}{σ:St}{ρ:Ev}(s:StS W pn M b H σ ρ):∀ (i j:Nat) xs ys a,ρ[i]?=some (some (.own xs))->ρ[j]?=some (some (.own ys))->σ[i]?=some (some (.ref a))->σ[j]?=some (some (.ref a))->i=j:=fun i j xs ys a e1 e2 e3 e4=>s.dj i j _ _ _ _ a e1 e2 e3 e4 rfl rfl
theorem StS.lk {W:Wd}{pn:List (D×V)} {H:Hp}{σ:St}{ρ:Ev}(s:StS W pn M b H σ ρ):∀ ys a,(D.own ys,V.ref a)∈pn->∀ (i:Nat) xs,ρ[i]?=some (some (.own xs))->σ[i]?≠some (some (.ref a)):=fun ys a hq i xs e y=>s.lj ys a hq i _ _ e y rfl
theorem StS.step {W:Wd}{pn:List (D×V)} {H H':Hp}{σ:St}{ρ:Ev}(s:StS W pn M b H σ ρ)(k:Kp b H H')(o:okB W.B b H'):StS W pn M b H' σ ρ:=⟨s.toSta.step k o,s.dj,s.lj⟩
theorem StS.of2 {W:Wd}{pn pn':List (D×V)}{M M':Addr->Prop}{b b':Option Addr}{H H':Hp}{σ σ':St}{ρ ρ':Ev}(s:StS W pn M b H σ ρ)(t:Sta W pn' M' b' H' σ' ρ')(hp:∀ ys a,(D.own ys,V.ref a)∈pn'->(D.own ys,V.ref a)∈pn)(h:∀ (i:Nat) d v c,ρ'[i]?=some (some d)->σ'[i]?=some (some v)->HF d v c->∃ d0,ρ[i]?=some (some d0)/\σ[i]?=some (some v)/\HF d0 v c):StS W pn' M' b' H' σ' ρ' :=
 ⟨t,fun i j d e v u c e1 e2 e3 e4 m1 m2=>by
  obtain ⟨d0,z1,z2,z3⟩:=h i d v c e1 e3 m1
  obtain ⟨d1,y1,y2,y3⟩:=h j e u c e2 e4 m2
  exact s.dj i j d0 d1 v u c z1 y1 z2 y2 z3 y3,fun ys a hq i d v e1 e2 m=>by
  obtain ⟨d0,z1,z2,z3⟩:=h i d v a e1 e2 m
  exact s.lj ys a (hp ys a hq) i d0 v z1 z2 z3⟩
theorem StS.of {W:Wd}{pn:List (D×V)}{M M':Addr->Prop}{b b':Option Addr}{H H':Hp}{σ σ':St}{ρ ρ':Ev}(s:StS W pn M b H σ ρ)(t:Sta W pn M' b' H' σ' ρ')(h:∀ (i:Nat) d,mine d=true->ρ'[i]?=some (some d)->ρ[i]?=some (some d)/\σ'[i]?=σ[i]?):StS W pn M' b' H' σ' ρ' :=
 s.of2 t (fun _ _ q=>q) fun i d v c e1 e2 m=>by
  obtain ⟨z1,z2⟩:=h i d m.m e1
  exact ⟨d,z1,z2▸e2,m⟩
theorem StS.add {W:Wd}{pn:List (D×V)}{M M':Addr->Prop}{b b':Option Addr}{H H':Hp}{σ:St}{ρ:Ev}(s:StS W pn M b H σ ρ)(i:Nat){d:D}{v:V}(t:Sta W pn M' b' H' (σ.set i (some v)) (ρ.set i (some d)))(h:∀ c,HF d v c->¬ M c):StS W pn M' b' H' (σ.set i (some v)) (ρ.set i (some d)):=by
 have slot:∀ (j:Nat) e u,(ρ.set i (some d))[j]?=some (some e)->(σ.set i (some v))[j]?=some (some u)->(j=i/\e=d/\u=v)\/(j≠i/\ρ[j]?=some (some e)/\σ[j]?=some (some u)):=fun j e u e1 e2=>by
  by_cases z:i=j
  · subst z
    rw [R8] at e1 e2
    simp at e1 e2
    exact .inl ⟨rfl,e1.2.symm,e2.2.symm⟩
  · rw [L4 z] at e1 e2
    exact .inr ⟨fun y=>z y.symm,e1,e2⟩
 have old:∀ (j:Nat) e u c,ρ[j]?=some (some e)->σ[j]?=some (some u)->HF e u c->M c:=fun j e u c e1 e2 m=>by
  obtain ⟨w,e3,r⟩:=s.env j e e1
  rw [e2] at e3;cases e3
  exact (r.mine m).1
 refine ⟨t,fun j k e f u w c e1 e2 e3 e4 m1 m2=>?_,fun ys a hq j e u e1 e2 m=>?_⟩
 · rcases slot j e u e1 e3 with ⟨z1,z2,z3⟩|⟨z1,z2,z3⟩<;>rcases slot k f w e2 e4 with ⟨y1,y2,y3⟩|⟨y1,y2,y3⟩
   · rw [z1,y1]
   · subst z2 z3;exact absurd (old k f w c y2 y3 m2) (h c m1)
   · subst y2 y3;exact absurd (old j e u c z2 z3 m1) (h c m2)
   · exact s.dj j k e f u w c z2 y2 z3 y3 m1 m2
 · rcases slot j e u e1 e2 with ⟨z1,z2,z3⟩|⟨z1,z2,z3⟩
   · subst z2 z3
     obtain ⟨a2,us2,ev,n1,_⟩:=(s.pin _ hq)
     cases ev
     exact absurd n1 (h a m)
   · exact s.lj ys a hq j e u z2 z3 m
structure DEnds where
 nx:Ev->Prop
 rt:D->Prop
 bk:Ev->Prop:=fun _=>False
 ct:Ev->Prop:=fun _=>False
 ro:List D->Prop:=fun _=>False
abbrev DS:=DEnds->Ev->Prop
structure Link (W:Wd)(pn:List (D×V))(E:Ends)(F:DEnds):Prop where
 nx:∀ M b ρ σ H,StS W pn M b H σ ρ->F.nx ρ->E.nx σ H
 rt:∀ d v H,F.rt d->Rep W.K W.M0 H d v->Kp W.b0 W.H0 H->okB W.B W.b0 H->E.rt v H
 bk:∀ M b ρ σ H,StS W pn M b H σ ρ->F.bk ρ->E.bk σ H
 ct:∀ M b ρ σ H,StS W pn M b H σ ρ->F.ct ρ->E.ct σ H
 ro:∀ xs a vs H,F.ro xs->W.H0 a=none->¬ W.M0 a->H a=some (.lst vs)->Reps W.K (fun c=>W.M0 c\/c=a) H xs vs->Kp W.b0 W.H0 H->okB W.B W.b0 H->E.rt (.ref a) H
def sn (W:Wd)(d:DS):TS:=fun E σ H=>∃ pn M b ρ F,StS W pn M b H σ ρ/\Link W pn E F/\d F ρ
theorem sn.elim {W:Wd}{d:DS}{E:Ends}{σ:St}{H:Hp}{Z:Prop}(h:sn W d E σ H)(f:∀ pn M b ρ F,StS W pn M b H σ ρ->Link W pn E F->d F ρ->Z):Z:=by
 obtain ⟨pn,M,b,ρ,F,s,l,h⟩:=h
 exact f pn M b ρ F s l h
section
variable {X:Cx}{W:Wd}{e a b c tg iter l:Expr}{es:List Expr}{pos p:Pos}{d db de:DE}{dA di:DA}{dt:DT}{st:Stmt}{rest sts:List Stmt}{d1 d2:DS}{t:TS}
theorem PS.mono {t':TS}(h:PS X st t)(m:∀ E σ H,t' E σ H->t E σ H):PS X st t':=fun pins s σ H D I q=>h pins s σ H D I (m D σ H q)
theorem PSs.mono {t':TS}(h:PSs X sts t)(m:∀ E σ H,t' E σ H->t E σ H):PSs X sts t':=fun pins s σ H D I q=>h pins s σ H D I (m D σ H q)
def J6n:DS:=fun F ρ=>F.nx ρ
def Q6a (d1 d2:DS):DS:=fun F ρ=>d1 { F with nx:=d2 F } ρ
theorem Q0j:PSs X [] (sn W J6n):=MO.mono fun E σ H hh=>hh.elim fun pn M b ρ F s l h=>l.nx _ _ _ _ _ s h
theorem Q0i (h:PS X st (sn W d1)):PSs X [st] (sn W d1):=EK h
theorem J5z (h1:PS X st (sn W d1))(h2:PSs X rest (sn W d2)):PSs X (st::rest) (sn W (Q6a d1 d2)):=(AJ h1 h2).mono fun E σ H hh=>hh.elim fun pn M b ρ F s l h=>⟨pn,M,b,ρ,{ F with nx:=d2 F },s,⟨fun M b ρ σ H s' h'=>⟨pn,M,b,ρ,F,s',l,h'⟩,l.rt,l.bk,l.ct,l.ro⟩,h⟩
def Q6b (de:DE):DS:=fun F ρ=>de ρ fun x=>match x with|.own xs=>F.rt (.lst xs)|.bag=>False|.frg _ _=>False|x=>F.rt x
theorem YS {b:Option Addr}{H:Hp}{x:D}{v:V}(hs:Hs W M b H)(r:Rep W.K M H x v):Rep W.K W.M0 H x v:=Rep.avoid (fun c m=>.inl (hs.m0 c m)) _ _ r
theorem Q5g (he:PE X e (dn W de)):PS X (.Return (some e) pos) (sn W (Q6b de)):=(GS he).mono fun E σ H hh=>hh.elim fun pn M b ρ F s l h=>by
 refine ⟨pn,M,b,ρ,_,s.toSta,h,fun x v H' hx rx k o=>?_⟩
 have s':=s.toSta.step k o
 cases x
 case own xs =>
  obtain ⟨a,vs,rfl,m,n,n0,m0,hh,r⟩:=rx
  exact l.rt _ _ H' hx ⟨a,vs,rfl,⟨m0,hh⟩,Reps.avoid (fun c m=>.inl (s'.m0 c m)) _ _ r⟩ s'.kp s'.ok0
 case bag=>exact hx.elim
 case frg=>exact hx.elim
 all_goals exact l.rt _ _ H' hx (YS s'.toHs (RepX.rep rx rfl)) s'.kp s'.ok0
def Q2k (de:DE):DS:=fun F ρ=>de ρ fun _=>F.nx ρ
theorem Q0m (he:PE X e (dn W de))(hs:swapsWith e none pos.line X.env=pure false:=by rfl):PS X (.Expr e pos) (sn W (Q2k de)):=(YV he hs).mono fun E σ H hh=>hh.elim fun pn M b ρ F s l h=>⟨pn,M,b,ρ,_,s.toSta,h,fun x v H' hx rx k o=>l.nx _ _ _ _ _ (s.step k o) hx⟩
def Q6c (dt:DT)(d1 d2:DS):DS:=fun F ρ=>dt ρ fun c=>IfP c (d1 F ρ) (d2 F ρ)
theorem Q9c {s1 s2:List Stmt}(hc:PT X c (dnT W dt))(ha:PSs X s1 (sn W d1))(hb:PSs X s2 (sn W d2)):PS X (.If c s1 s2 pos) (sn W (Q6c dt d1 d2)):=(YU hc ha hb).mono fun E σ H hh=>hh.elim fun pn M b ρ F s l h=>by
 refine ⟨pn,M,b,ρ,_,s.toSta,h,fun x H' hx k o=>?_⟩
 cases hx with
 | t e hx=>rw [if_pos e];exact ⟨pn,M,b,ρ,F,s.step k o,l,hx⟩
 | f e hx=>rw [if_neg (by rw [e];exact B9)];exact ⟨pn,M,b,ρ,F,s.step k o,l,hx⟩
def J2k (de:DE)(gd:D->Ev->(Ev->Prop)->Prop):DS:=fun F ρ=>de ρ fun x=>plain x=true/\gd x ρ F.nx
theorem J3e {g:TG}{gd:D->Ev->(Ev->Prop)->Prop}(hG:GD W g gd):∀ E σ H,sn W (J2k de gd) E σ H->J8e (dn W de) g E σ H:=fun E σ H hh=>hh.elim fun pn M b ρ F s l h=>by
 refine ⟨pn,M,b,ρ,_,s.toSta,h,fun x v H' hx rx k o=>?_⟩
 exact hG pn M b H' σ ρ x v E.nx F.nx (s.toSta.step k o) rx hx.1 hx.2 fun ρ' σ' hp st' ho=>l.nx _ _ _ _ _ (s.of st' ho) hp
theorem Q5f {i:Nat} {x:Str} {pos':Pos} (hN:X.N.Nodup) (hi:X.N[i]?=some x) (hx:Loc X.env.scope x) (he:PE X e (dn W de)) (hs:swapsWith e (some (.Name x pos')) pos.line X.env=pure false:=by rfl) (hf:X.fn x=true\/X.env.scope.names.lookup x=some .local:=by first|exact .inl rfl|exact .inr rfl|assumption) :
 PS X (.Assign [.Name x pos'] e pos) (sn W (J2k de (gdN i))):=(DM hN hi hx he hs hf).mono (J3e (V8 i))
theorem Q5j {g:TG}{gd:D->Ev->(Ev->Prop)->Prop}(hG:GD W g gd)(he:PE X e (dn W de))(hg:PG X tg g)(hs:swapsWithSole [tg] e pos.line X.env=pure false:=by rfl)(hw:swappedStores [tg] e X.env=pure none:=by rfl)
 (h1:(assignEach [tg] X.env).map (·.2)=[assign tg X.env]:=by rfl):PS X (.Assign [tg] e pos) (sn W (J2k de gd)):=(RJ he hg hs hw h1).mono (J3e hG)
theorem StS.newOwn {pn:List (D×V)} {b:Option Addr}{H:Hp}{σ:St}{ρ:Ev}{xs:List D}{vs:List V}{p:Addr}(s:StS W pn M b H σ ρ)(i:Nat)(r:Reps W.K M H xs vs)(h:H p=none) :
 StS W pn (fun c=>M c\/c=p) b (upd H p (.lst vs)) (σ.set i (some (.ref p))) (ρ.set i (some (.own xs))):=by
 have hM:∀ c,(M c\/c=p)->M c\/H c=none:=fun c hc=>hc.imp id (fun z=>by rw [z];exact h)
 have kk:∀ c o,H c=some o->upd H p (.lst vs) c=some o:=fun c o e=>Same.upd h c o e
 have rep:∀ d v,Rep W.K M H d v->Rep W.K (fun c=>M c\/c=p) (upd H p (.lst vs)) d v:=fun d v r=>Rep.keep (fun c o _ e=>kk c o e) _ _ (Rep.avoid hM _ _ r)
 have reps:∀ d v,Reps W.K M H d v->Reps W.K (fun c=>M c\/c=p) (upd H p (.lst vs)) d v:=fun d v r=>Reps.keep (fun c o _ e=>kk c o e) _ _ (Reps.avoid hM _ _ r)
 have hbp:b≠some p:=fun z=>by
  obtain ⟨o,e⟩:=W.B.dm p H (s.ok p z)
  rw [h] at e;cases e
 have h0:W.H0 p=none:=by
  cases q:W.H0 p with
  | none=>rfl
  | some o =>
    by_cases z:W.b0=some p
    · rcases s.new with y|⟨y,_⟩
      · exact absurd (y.trans z) hbp
      · rw [y] at z;cases z
    · have:=s.kp p o z q
      rw [h] at this;cases this
 have hm0:¬ W.M0 p:=fun z=>s.toHs.new h (s.m0 p z)
 refine s.add i ⟨⟨s.toHs.okU h,fun q e=>.inl (s.bagM q e),fun c hc=>?_,fun c m=>.inl (s.m0 c m)⟩,fun c o n e=>kk c o (s.kp c o n e),s.new,fun j d e=>?_,by simp [s.len],fun q hq=>(s.pin q hq).to rep reps fun xs a vs _ _ m n hh=>⟨.inl m,n,kk _ _ hh⟩⟩ fun c m=>by
  cases (show V.ref p=V.ref c from m)
  exact s.toHs.new h
 · rcases hc with hc|hc
   · obtain ⟨o,e⟩:=s.dom c hc;exact ⟨o,kk c o e⟩
   · rw [hc];exact ⟨_,Y5⟩
 · by_cases z:i=j
   · subst z
     rw [R8] at e
     simp at e
     obtain ⟨hl,rfl⟩:=e
     exact ⟨.ref p,by rw [R8];simp [<- s.len,hl],p,vs,rfl,.inr rfl,hbp,h0,hm0,Y5,reps _ _ r⟩
   · rw [L4 z] at e
     obtain ⟨w,e1,r1⟩:=s.env j d e
     refine ⟨w,by rw [L4 z];exact e1,?_⟩
     cases d
     case own ys =>
      obtain ⟨a,us,rfl,m1,m2,m3,m4,hh,r'⟩:=r1
      exact ⟨a,us,rfl,.inl m1,m2,m3,m4,kk _ _ hh,reps _ _ r'⟩
     case bag=>exact r1
     case frg f _=>exact RepX.move r1 (fun c _ m n=>⟨.inl m,n⟩) (fun c o _ e=>kk c o e) hM
     all_goals exact rep _ _ r1
theorem StS.setOwn {pn:List (D×V)} {b:Option Addr}{H:Hp}{σ:St}{ρ:Ev}{xs ys:List D}{vs:List V}{a:Addr}(s:StS W pn M b H σ ρ)(i:Nat)(e:ρ[i]?=some (some (.own xs)))(ea:σ[i]?=some (some (.ref a)))(r:Reps W.K M H ys vs) :
 StS W pn M b (upd H a (.lst vs)) σ (ρ.set i (some (.own ys))):=by
 obtain ⟨v,e1,a',us,ev,m1,m2,m3,m4,hh,r'⟩:=s.env i _ e
 rw [ea] at e1;cases e1;cases ev
 have kk:∀ c o,¬ M c->H c=some o->upd H a (.lst vs) c=some o:=fun c o n q=>by rw [Q9 (show c≠a from fun z=>n (by rw [z];exact m1))];exact q
 have kb:∀ c o,c≠a->H c=some o->upd H a (.lst vs) c=some o:=fun c o n q=>by rw [Q9 n];exact q
 refine s.of2 ⟨⟨fun q z=>W.B.st q H _ (s.ok q z) fun o h=>kb q o (fun w=>m2 (w▸z)) h,s.bagM,fun c hc=>?_,s.m0⟩,fun c o n q=>kb c o (fun z=>by rw [z,m3] at q;cases q) (s.kp c o n q),s.new,fun j d e'=>?_,by simp [s.len],fun q hq=>(s.pin q hq).to (fun _ _ r=>Rep.keep kk _ _ r) (fun _ _ r=>Reps.keep kk _ _ r) fun zs a2 us ed ev m n hh2=>⟨m,n,kb _ _ (fun y=>s.lk zs a2 (by rw [<- ed,<- ev];exact hq) i xs e (by rw [y];exact ea)) hh2⟩⟩ (fun _ _ q=>q) fun j d v c e' e2 m=>?_
 · by_cases z:c=a
   · rw [z];exact ⟨_,Y5⟩
   · obtain ⟨o,q⟩:=s.dom c hc;exact ⟨o,kb c o z q⟩
 · by_cases z:i=j
   · subst z
     rw [R8] at e'
     simp at e'
     obtain ⟨hl,rfl⟩:=e'
     exact ⟨.ref a,ea,a,vs,rfl,m1,m2,m3,m4,Y5,Reps.keep kk _ _ r⟩
   · rw [L4 z] at e'
     obtain ⟨w,e1,r1⟩:=s.env j d e'
     refine ⟨w,e1,?_⟩
     cases d
     case own zs =>
      obtain ⟨a2,us2,rfl,n1,n2,n3,n4,hh2,r2⟩:=r1
      have na:a2≠a:=fun y=>z (s.own i j xs zs a e e' ea (y▸e1))
      exact ⟨a2,us2,rfl,n1,n2,n3,n4,kb _ _ na hh2,Reps.keep kk _ _ r2⟩
     case bag=>exact r1
     case frg f _ =>
      have na:a∉f.ads:=fun y=>z (s.dj i j _ _ _ _ a e e' ea e1 rfl y)
      exact RepX.move r1 (fun c _ m n=>⟨m,n⟩) (fun c o q h=>kb c o (fun y=>q.elim (fun n=>n (by rw [y];exact m1)) (fun n=>na (by rw [<- y];exact n))) h) fun c m=>.inl m
     all_goals exact Rep.keep kk _ _ r1
 · by_cases z:i=j
   · subst z
     rw [R8] at e'
     simp at e'
     obtain ⟨_,rfl⟩:=e'
     exact ⟨_,e,e2,m⟩
   · rw [L4 z] at e'
     exact ⟨d,e',e2,m⟩
def Q2j (i:Nat)(dA:DA):DS:=fun F ρ=>dA ρ fun xs=>okIt xs=true/\F.nx (ρ.set i (some (.own xs)))
theorem Q0l {i:Nat} {x:Str} {pos' lpos:Pos} (hN:X.N.Nodup) (hi:X.N[i]?=some x) (hx:Loc X.env.scope x) (ha:PA X es (dnA W dA)) (hs:swapsWith (.List es lpos) (some (.Name x pos')) pos.line X.env=pure false:=by rfl) (hf:X.fn x=true\/X.env.scope.names.lookup x=some .local:=by first|exact .inl rfl|exact .inr rfl|assumption) :
 PS X (.Assign [.Name x pos'] (.List es lpos) pos) (sn W (Q2j i dA)):=(DM hN hi hx (RN ha) hs hf).mono fun E σ H hh=>hh.elim fun pn M b ρ F s l h=>by
 refine ⟨pn,M,b,ρ,_,s.toSta,h,fun xs vs H' hx rx k o=>?_⟩
 have rr:=rx.reps _ _ (okIt.pl hx.1)
 exact ⟨by rw [rr.length];exact okIt.len hx.1,fun q hq=>l.nx _ _ _ _ _ ((s.step k o).newOwn i rr hq) hx.2⟩
def Q2i (own:Bool)(i:Nat)(map:List (Option Nat))(gd:D->Ev->(Ev->Prop)->Prop)(di:DA)(dt:DT)(de:DE):DS:=fun F ρ=>di ρ fun items=>items.length<=1000/\compI gd dt de (IB ρ map) items fun acc=>F.nx (ρ.set i (some (if own then .own acc else .lst acc)))
theorem Q0k {elt iter tg:Expr}{ifs:List Expr}{scope:Scope}{N':List Str}{map:List (Option Nat)}{g:TG}{gd:D->Ev->(Ev->Prop)->Prop}(own:Bool){i:Nat}{y:Str}{py spos:Pos}(hN:X.N.Nodup)(hiN:X.N[i]?=some y)(hy:Loc X.env.scope y)(hG:GD W g gd)(B:Blk X N' scope map tg elt ifs g (dnT W dt) (dn W de))(hi:PI X tg iter (dnI W false di))
 (hsw:swapsWith (.ListComp elt [⟨tg,iter,ifs,0⟩] scope pos) (some (.Name y py)) spos.line X.env=pure true:=by rfl) (hfn:X.fn y=true\/X.env.scope.names.lookup y=some .local:=by first|exact .inl rfl|exact .inr rfl)
 (hs:∀ x,foldedSetIterable iter X.env x=pure x:=by intro _;rfl):PS X (.Assign [.Name y py] (.ListComp elt [⟨tg,iter,ifs,0⟩] scope pos) spos) (sn W (Q2i own i map gd di dt de)):=(NI hN hiN hy B hi hsw hfn hs).mono fun E σ H hh=>hh.elim fun pn M b ρ F s l h=>by
 refine ⟨pn,M,b,ρ,_,s.toSta,h,fun items J need H1 hx hp hI hn k1 o1=>?_⟩
 have s1:=s.step k1 o1
 refine OI hG (s1.toSta.capt map) hp hI (fun q hq=>(hn q hq).1) hx.1 hx.2 fun ds acc H' hP r hl k2 o2 q hq=>?_
 have s2:=s1.step k2 o2
 cases own
 · have s3:=(s2.step (Kp.upd (o:=.lst acc) hq) (s2.toHs.okU hq))
   exact l.nx _ _ _ _ _ (s3.of (s3.toSta.set i (EL s2.toHs r hq)) (IJ rfl)) hP
 · exact l.nx _ _ _ _ _ (s2.newOwn i r hq) hP
def Q1a (i:Nat)(dA:DA):DS:=fun F ρ=>match ρ[i]? with
 | some (some (.own ys))=>dA ρ fun xs=>(match xs with | [y]=>(plain y&&decide (ys.length<1000))=true/\F.nx (ρ.set i (some (.own (ys++[y]))))|_=>False)
 | _=>False
theorem J4o {pn:List (D×V)} {b:Option Addr}{H:Hp}{σ:St}{ρ:Ev}{i:Nat}{ys:List D}(s:Sta W pn M b H σ ρ)(e:ρ[i]?=some (some (.own ys))):∃ a vs,σ[i]?=some (some (.ref a))/\b≠some a/\H a=some (.lst vs)/\Reps W.K M H ys vs:=by
 obtain ⟨v,e1,a,us,rfl,m1,m2,m3,m4,hh,r⟩:=s.env i _ e
 exact ⟨a,us,e1,m2,hh,r⟩
theorem Q2x {i:Nat}:∀ E σ H,sn W (Q1a i dA) E σ H->Q1n (tBM W.K "list" MM (J0x i) (dnA W dA)) E σ H:=fun E σ H hh=>hh.elim fun pn M b ρ F s l h=>by
 unfold Q1a at h
 split at h
 case h_2=>exact h.elim
 case h_1 ys e =>
  obtain ⟨a,vs,ea,nb,hh,r⟩:=J4o s.toSta e
  refine ⟨.ref a,ea,.inl ⟨rfl,vs,SqL.of hh⟩,pn,M,b,ρ,_,s.toSta,h,fun xs us H' hx rx k o=>?_⟩
  match xs,hx with
  | [y],hx =>
    obtain ⟨u,rfl,ru⟩:=rx1 rx
    obtain ⟨p1,p2⟩:=(L1 _ _).mp hx.1
    have p2:=T7 p2
    have s':=s.step k o
    obtain ⟨a',vs',ea',nb',hh',r'⟩:=J4o s'.toSta e
    rw [ea] at ea';cases ea'
    refine ⟨a,vs',u,rfl,rfl,hh',by rw [r'.length];have:=AZ;omega,l.nx _ _ _ _ _ (s'.setOwn i e ea (Reps.append r' (show Reps W.K M H' [y] [u] from ⟨u,[],rfl,ru.rep p1,rfl⟩))) hx.2⟩
theorem J2e {i:Nat}{x:Str}{e:Expr}{npos apos cpos:Pos}(hK:X.K=W.K)(hN:X.N[i]?=some x)(hv:Vis X.env.scope x)(ha:PA X [e] (dnA W dA))
 (h:PE X (.Call (.Attribute (.Name x npos) "append" apos) [e] [] cpos) (tBM X.K "list" MM (J0x i) (dnA W dA))) (hs:swapsWith (.Call (.Attribute (.Name x npos) "append" apos) [e] [] cpos) none pos.line X.env=pure false:=by rfl) :
 PS X (.Expr (.Call (.Attribute (.Name x npos) "append" apos) [e] [] cpos) pos) (sn W (Q1a i dA)):=(YV (by rw [hK] at h;exact h) hs).mono Q2x
def Q6e (i:Nat)(f:Int->Int->Int)(de:DE):DS:=fun F ρ=>match ρ[i]? with
 | some (some (.int n))=>de ρ fun y=>(match y with|.int m=>F.nx (ρ.set i (some (.int (f n m))))|_=>False)
 | _=>False
theorem Q5i {i:Nat} {x:Str} {op:Operator} {f:Int->Int->Int} {pos':Pos} (hN:X.N.Nodup) (hi:X.N[i]?=some x) (hx:Loc X.env.scope x) (he:PE X e (dn W de)) (ho:PIp X op (ipI f)) (hf:X.fn x=true\/X.env.scope.names.lookup x=some .local:=by first|exact .inl rfl|exact .inr rfl|assumption) :
 PS X (.AugAssign (.Name x pos') op e pos) (sn W (Q6e i f de)):=(Q3r hN hi hx he ho hf).mono fun E σ H hh=>hh.elim fun pn M b ρ F s l h=>by
 unfold Q6e at h
 split at h
 case h_2=>exact h.elim
 case h_1 n e =>
  obtain ⟨v,ev,rv⟩:=s.env i _ e
  cases (show _=_ from rv)
  refine ⟨.int n,ev,pn,M,b,ρ,_,s.toSta,h,fun y u H' hy ry k o=>?_⟩
  cases y<;>first|exact hy.elim|skip
  case int m =>
   cases (show _=_ from ry)
   have s':=s.step k o
   exact ⟨n,m,rfl,rfl,l.nx _ _ _ _ _ (s'.of (s'.toSta.set i (x:=.int (f n m)) (v:=.int (f n m)) (show _=_ from rfl)) (IJ rfl)) hy⟩
def ZW (gd:D->Ev->(Ev->Prop)->Prop)(db:DS)(F:DEnds):List D->Ev->Prop
 | [],ρ=>F.nx ρ
 | x::xs,ρ=>gd x ρ fun ρ1=>db { F with nx:=ZW gd db F xs,ct:=ZW gd db F xs,bk:=F.nx } ρ1
inductive forI (gd:D->Ev->(Ev->Prop)->Prop)(db:DS)(F:DEnds)(items:List D)(ρ:Ev):Prop
 | mk (I:Nat->Ev->Prop) (h0:I 0 ρ) (hs:∀ (i:Nat) x ρ,items[i]?=some x->I i ρ->gd x ρ fun ρ1=>db { F with nx:=I (i+1),ct:=I (i+1),bk:=F.nx } ρ1) (hd:∀ ρ,I items.length ρ->F.nx ρ):forI gd db F items ρ
theorem Q0c {gd:D->Ev->(Ev->Prop)->Prop}{db:DS}{F:DEnds}{items:List D}{ρ:Ev}(h:ZW gd db F items ρ):forI gd db F items ρ:=by
 refine ⟨fun i ρ=>ZW gd db F (items.drop i) ρ,h,fun i x ρ e q=>?_,fun ρ q=>?_⟩
 · obtain ⟨hlt,rfl⟩:=M1.mp e
   try dsimp only at q
   rw [B0w hlt] at q
   exact q
 · (try dsimp only at q);rw [List.drop_length] at q;exact q
def Q0y (gd:D->Ev->(Ev->Prop)->Prop)(di:DA)(db:DS):DS:=fun F ρ=>di ρ fun items=>forI gd db F items ρ
theorem Sta.pins {pn pn':List (D×V)} {b:Option Addr}{H:Hp}{σ:St}{ρ:Ev}(s:Sta W pn M b H σ ρ)(h:∀ q∈pn',PinR W M b H q.1 q.2):Sta W pn' M b H σ ρ:=⟨s.toHs,s.kp,s.new,s.env,s.len,h⟩
theorem Q2w {g:TG}{gd:D->Ev->(Ev->Prop)->Prop}{db:DS}(hG:GD W g gd):∀ E σ H,sn W (Q0y gd di db) E σ H->Q3d (dnI W true di) g (sn W db) E σ H:=fun E σ H hh=>hh.elim fun pn M b ρ F s l h=>by
 refine ⟨pn,M,b,ρ,_,s.toSta,h,fun items J need H1 hx hp hI hn k1 o1=>?_⟩
 have s1:=s.step k1 o1
 have pins:∀ q∈need++pn,PinR W M b H1 q.1 q.2:=fun q hq=>(U0.mp hq).elim (fun z=>(hn q z).1.pin ((hn q z).2 rfl)) fun z=>s1.pin q z
 obtain ⟨I,i0,istep,idone⟩:=hx
 refine ⟨fun i m σ H=>m=items.length - i/\i<=items.length/\∃ M b ρ,StS W (need++pn) M b H σ ρ/\I i ρ,⟨items.length,by simp,W1 _,M,b,ρ,⟨s1.toSta.pins pins,s1.dj,fun ys a hq=>(U0.mp hq).elim (fun z=>by have:=(hn _ z).2 rfl;cases this) fun z=>s1.lj ys a z⟩,i0⟩,?_⟩
 rintro i m σ2 H2 ⟨rfl,hi,M2,b2,ρ2,s2,q⟩
 have unp:∀ {M b ρ σ H},StS W (need++pn) M b H σ ρ->StS W pn M b H σ ρ:=fun s=>⟨s.toSta.pins fun q hq=>s.pin q (B3 _ hq),s.dj,fun ys a hq=>s.lj ys a (B3 _ hq)⟩
 obtain ⟨hgo,hstop⟩:=hI M2 b2 H2 s2.toHs fun q hq=>(s2.pin q (R7 _ hq)).x
 by_cases hlt:i<items.length
 · have ei:items[i]?=some items[i]:=L0 hlt
   replace q:=istep i _ ρ2 ei q
   refine .inr ⟨(hgo i _ ei).1,fun σ' H'=>∃ M b ρ,StS W (need++pn) M b H' σ' ρ/\I (i+1) ρ,fun σ' H' n=>⟨items.length - (i+1),by omega,rfl,hlt,n⟩,fun x H3 y=>?_⟩
   obtain ⟨S3,rx⟩:=(hgo i _ ei).2 x H3 y
   have o3:okB W.B b2 H3:=fun p e=>W.B.st p H2 H3 (s2.ok p e) fun o e'=>S3 p o e'
   have s3:=s2.step (Kp.same S3) o3
   refine hG (need++pn) M2 b2 H3 σ2 ρ2 items[i] x _ _ s3.toSta rx (T8.mp hp _ (E2 hlt)) q fun ρ1 σ1 h1 st4 ho=>?_
   exact ⟨need++pn,M2,b2,ρ1,{ F with nx:=I (i+1),ct:=I (i+1),bk:=F.nx },s3.of st4 ho,⟨fun M b ρ σ H s' h'=>⟨M,b,ρ,s',h'⟩,l.rt,fun M b ρ σ H s' h'=>l.nx _ _ _ _ _ (unp s') h',fun M b ρ σ H s' h'=>⟨M,b,ρ,s',h'⟩,l.ro⟩,h1⟩
 · have e:i=items.length:=by omega
   subst e
   exact .inl ⟨hstop _ (B6 _),l.nx _ _ _ _ _ (unp s2) (idone _ q)⟩
theorem Q5h {g:TG}{gd:D->Ev->(Ev->Prop)->Prop}{db:DS}{body:List Stmt}(hG:GD W g gd)(hp:PassesOwn (model X.prog X.w) X.A X.env X.xe)(hc:X.calm=true)(hi:PI X tg iter (dnI W true di))(hg:PG X tg g)(hb:PSs X body (sn W db))
 (hs:∀ x,foldedSetIterable iter X.env x=pure x:=by intro _;rfl):PS X (.For tg iter body [] pos) (sn W (Q0y gd di db)):=(J4c hp hc hi hg hb hs).mono (Q2w hG)
theorem Sta.avoid {pn:List (D×V)}{M M':Addr->Prop}{b:Option Addr}{H:Hp}{σ:St}{ρ:Ev}(s:Sta W pn M b H σ ρ)(h:∀ c,M' c->M c)(hb:∀ p,b=some p->M' p)(h0:∀ c,W.M0 c->M' c)(ho:∀ (i:Nat) d v c,ρ[i]?=some (some d)->σ[i]?=some (some v)->HF d v c->M' c)(hpo:∀ xs a,(D.own xs,V.ref a)∈pn->M' a):Sta W pn M' b H σ ρ where
 ok:=s.ok
 bagM:=hb
 dom:=fun c m=>s.dom c (h c m)
 m0:=h0
 kp:=s.kp
 new:=s.new
 len:=s.len
 pin:=fun q hq=>(s.pin q hq).to (fun _ _ r=>Rep.avoid (fun c m=>.inl (h c m)) _ _ r) (fun _ _ r=>Reps.avoid (fun c m=>.inl (h c m)) _ _ r) fun xs a vs ed ev m n hh=>⟨hpo xs a (by rw [<- ed,<- ev];exact hq),n,hh⟩
 env:=fun i d e=>by
  obtain ⟨v,e1,r⟩:=s.env i d e
  refine ⟨v,e1,?_⟩
  cases d
  case own xs =>
   obtain ⟨a,us,rfl,m1,m2,m3,m4,hh,r'⟩:=r
   exact ⟨a,us,rfl,ho i _ _ a e e1 rfl,m2,m3,m4,hh,Reps.avoid (fun c m=>.inl (h c m)) _ _ r'⟩
  case bag=>exact r
  case frg f _=>exact RepX.move r (fun c m _ n=>⟨ho i _ _ c e e1 m,n⟩) (fun c o _ e=>e) fun c m=>.inl (h c m)
  all_goals exact Rep.avoid (fun c m=>.inl (h c m)) _ _ r
def J6m (Ed:Addr->Prop)(C:Addr):DS:=fun _ _=>Ed C
theorem J6a {E:XK}{Ed:Addr->Prop}{C:Addr}(hE:IG W E Ed)(h:PS X st (fun _ _ H1=>E (.ref C) none H1)):PS X st (sn W (J6m Ed C)):=h.mono fun E' σ H hh=>hh.elim fun pn M b ρ F s l h=>hE C H h s.kp s.ok0
end
def BE (N:List Str)(ds:List D):Ev:=ds.map some++List.replicate (N.length - ds.length) none
theorem RepAs.get {H:Hp}:∀ {ds:List D} {vs:List V} {i:Nat} {d:D},RepAs K M b H ds vs->ds[i]?=some d->∃ v,vs[i]?=some v/\Q7a K M b H d v
 | [],_,_,_,h,e=>by simp at e
 | d::ds,vs,0,_,h,e=>by
   obtain ⟨v,r,rfl,h1,h2⟩:=h
   simp at e;subst e
   exact ⟨v,rfl,h1⟩
 | d::ds,vs,i+1,d',h,e=>by
   obtain ⟨v,r,rfl,h1,h2⟩:=h
   obtain ⟨u,e1,e2⟩:=RepAs.get (i:=i) h2 (by simpa using e)
   exact ⟨u,by simpa using e1,e2⟩
theorem MW {N:List Str}{ds:List D}{i:Nat}{d:D}(h:(BE N ds)[i]?=some (some d)):ds[i]?=some d:=by
 unfold BE at h
 by_cases hi:i<ds.length
 · rw [B0v (by simpa using hi),M9] at h
   simpa using h
 · rw [B1y (by simpa using hi)] at h
   have:=R6 h
   simp at this
theorem J5x {B:BagT} {N:List Str}{ds:List D}{vs:List V}{H:Hp}(hr:RepAs K M b H ds vs)(ho:okB B b H)(hb:∀ p,b=some p->M p)(hd:∀ c,M c->∃ o,H c=some o):StS ⟨K,B,H,M,b⟩ [] M b H (EO N vs) (BE N ds):=by
 refine ⟨⟨⟨ho,hb,hd,fun _ m=>m⟩,Kp.refl _ _,.inl rfl,fun i d e=>?_,by simp [EO,BE,hr.length],fun _ hq=>by cases hq⟩,fun i j d e v u c e0 _ _ _ m _=>?_,fun _ _ hq=>by cases hq⟩
 · obtain ⟨v,e1,r⟩:=hr.get (MW e)
   refine ⟨v,?_,?_⟩
   · unfold EO
     rw [B0v (by simpa using (M1.mp e1).1),M9,e1];rfl
   · cases d<;>first|exact r|exact r.elim
 · obtain ⟨v',e1,r⟩:=hr.get (MW e0)
   cases d<;>first|exact m.elim|exact r.elim
theorem Q8r {B:BagT} {H:Hp}{Q:VK}{P:D->Prop}(hq:∀ d v H',P d->Rep K M H' d v->Kp b H H'->okB B b H'->Q v H'):Link ⟨K,B,H,M,b⟩ [] { nx:=fun _ H'=>Q .non H',rt:=Q } { nx:=fun _=>P .non,rt:=P } :=
 ⟨fun M b ρ σ H s h=>hq _ _ _ h rfl s.kp s.ok0,fun d v H h r k o=>hq d v H h r k o,fun _ _ _ _ _ _ h=>h.elim,fun _ _ _ _ _ _ h=>h.elim,fun _ _ _ _ h=>h.elim⟩
theorem run {B:BagT} {N:List Str}{ds:List D}{vs:List V}{H:Hp}{Q:VK}{P:D->Prop}{d:DS}(hr:RepAs K M b H ds vs)(ho:okB B b H)(hb:∀ p,b=some p->M p)(hd:∀ c,M c->∃ o,H c=some o)(hq:∀ d v H',P d->Rep K M H' d v->Kp b H H'->okB B b H'->Q v H')
 (h:d { nx:=fun _=>P .non,rt:=P } (BE N ds)):sn ⟨K,B,H,M,b⟩ d { nx:=fun _ H'=>Q .non H',rt:=Q } (EO N vs) H :=
 ⟨[],M,b,BE N ds,_,J5x hr ho hb hd,Q8r hq,h⟩
theorem J8.len {B:BagT}{S:DSp}{n:Nat}(h:∀ ds P Ed,S ds P Ed->ds.length=n):∀ vs H Q E,J8 K B S vs H Q E->vs.length=n:=fun vs H Q E ⟨M,b,ds,P,Ed,hS,hr,_⟩=>by rw [hr.length];exact h _ _ _ hS
theorem Callee.imp {w:World} {CX:CXT}{x:Str}{k:Nat}{ps:List Str}{sp sp':Sp}(G:Callee P w K mg base CX x k ps sp)(h:∀ vs H Q E,sp' vs H Q E->sp vs H Q E):Callee P w K mg base CX x k ps sp':=by
 obtain ⟨f,fd,F,r⟩:=G.ex
 exact ⟨f,fd,⟨fun vs H Q E q=>F.len vs H Q E (h _ _ _ _ q),fun A outer s H args us vs Q E r0 e0 b0 v0 q=>F.run A outer s H args us vs Q E r0 e0 b0 v0 (h _ _ _ _ q)⟩,r⟩
section
variable {X:Cx}{W:Wd}{e a b:Expr}{pos p:Pos}{d db dl de:DE}{st:Stmt}{sts:List Stmt}{t:TS}
abbrev DO:=Ev->(Option Int->Prop)->Prop
def dnO (W:Wd)(d:DO):TO:=fun σ H Q=>∃ pn M b ρ P,Sta W pn M b H σ ρ/\d ρ P/\∀ x H',P x->Kp b H H'->okB W.B b H'->Q x H'
theorem dnO.elim {W:Wd}{d:DO}{σ:St}{H:Hp}{Q:Option Int->Hp->Prop}{R:Prop}(h:dnO W d σ H Q)(f:∀ pn M b ρ P,Sta W pn M b H σ ρ->d ρ P->(∀ x H',P x->Kp b H H'->okB W.B b H'->Q x H')->R):R:=by
 obtain ⟨pn,M,b,ρ,P,st,h,k⟩:=h
 exact f pn M b ρ P st h k
def oNo:DO:=fun _ P=>P none
def oPt (de:DE):DO:=fun ρ P=>de ρ fun x=>match x with|.int i=>P (some i)|_=>False
theorem Q0p:PO X none (dnO W oNo):=fun pins s σ H Q I hh=>hh.elim fun pn M b ρ P st h k=>J8s pins s σ H Q I (k _ H h (Kp.refl _ _) st.ok)
theorem Q0o (h:PE X e (dn W de)):PO X (some e) (dnO W (oPt de)):=fun pins s σ H Q I hh=>hh.elim fun pn M b ρ P st q k=>J8r h pins s σ H Q I (by
 refine ⟨pn,M,b,ρ,_,st,q,fun x v H1 hx rx k1 o1=>?_⟩
 cases x<;>first|exact hx.elim|skip
 cases (show _=_ from rx)
 exact ⟨_,rfl,k _ H1 hx k1 o1⟩)
def IQ (xs:List D)(lo hi:Option Int):List D:=(xs.drop (HT.sIx xs.length 0 lo)).take (HT.sIx xs.length xs.length hi - HT.sIx xs.length 0 lo)
theorem Reps.cut {H:Hp}{ds:List D}{vs:List V}(h:Reps K M H ds vs)(lo hi:Option Int):Reps K M H (IQ ds lo hi) (VD vs lo hi):=by
 unfold IQ VD
 rw [h.length]
 exact Reps.take _ (Reps.drop _ h)
def oSl (x:D)(lo hi:Option Int)(P:D->Prop):Prop:=match x with
 | .tup xs=>¬ (HT.sIx xs.length 0 lo=0/\HT.sIx xs.length xs.length hi=xs.length)/\P (.tup (IQ xs lo hi))
 | .lst xs=>P (.lst (IQ xs lo hi))
 | .own xs=>P (.lst (IQ xs lo hi))
 | _=>False
def dSl (de:DE)(dl dh:DO):DE:=fun ρ P=>de ρ fun x=>dl ρ fun lo=>dh ρ fun hi=>oSl x lo hi P
theorem J8g (K:Fg)(h:X.K=K):SlR X (J3u K):=by subst h;exact Q3j
theorem GH (K:Fg)(h:X.K=K):SlR X (fun x lo hi H Q=>J3u K x lo hi H Q\/J3v K x lo hi H Q):=(J8g K h).or (J0z K h)
theorem J6f {lo hi:Option Expr}{dl dh:DO}{p2:Pos}(hr:SlR X (fun x lo hi H Q=>J3u W.K x lo hi H Q\/J3v W.K x lo hi H Q))(he:PE X e (dn W de))(hl:PO X lo (dnO W dl))(hu:PO X hi (dnO W dh)):PE X (.Subscript e (.Slice lo hi none p2) pos) (dn W (dSl de dl dh)):=(J4i hr he hl hu).mono fun σ H Q hh=>hh.elim fun pn M b ρ P st h k=>by
 refine ⟨pn,M,b,ρ,_,st,h,fun x v H1 hx rx k1 o1=>?_⟩
 refine ⟨pn,M,b,ρ,_,st.step k1 o1,hx,fun lo H2 hy k2 o2=>?_⟩
 refine ⟨pn,M,b,ρ,_,(st.step k1 o1).step k2 o2,hy,fun hi H3 hz k3 o3=>?_⟩
 have s3:=((st.step k1 o1).step k2 o2).step k3 o3
 have rx:=(rx.step st.bagM k2).step st.bagM k3
 have kk:=(k1.trans k2).trans k3
 cases x<;>first|exact hz.elim|skip
 case tup xs =>
  obtain ⟨a,vs,rfl,hh,r⟩:=rx
  refine .inl ⟨a,vs,rfl,hh.sq,by rw [r.length];exact hz.1,fun p hp=>k _ _ _ hz.2 (GX s3.toHs (r.cut lo hi) hp) (kk.trans (Kp.upd hp)) (s3.okU hp)⟩
 case lst xs =>
  obtain ⟨a,vs,rfl,hh,r⟩:=rx
  refine .inr ⟨a,vs,rfl,SqL.of hh.2,fun p hp=>k _ _ _ hz (EL s3.toHs (r.cut lo hi) hp) (kk.trans (Kp.upd hp)) (s3.okU hp)⟩
 case own xs =>
  obtain ⟨a,vs,rfl,_,_,_,_,hh,r⟩:=rx
  refine .inr ⟨a,vs,rfl,SqL.of hh,fun p hp=>k _ _ _ hz (EL s3.toHs (r.cut lo hi) hp) (kk.trans (Kp.upd hp)) (s3.okU hp)⟩
def Q8o:D->D->(D->Prop)->Prop:=fun x y P=>match asL x,asL y with
 | some xs,some ys=>xs.length+ys.length<=1000/\P (.lst (xs++ys))
 | _,_=>False
theorem Q4e:OpD W Q8b Q8o:=by
 intro M b H x y v u P Q hs rx ry ho k
 unfold Q8o at ho
 split at ho
 case h_2=>exact ho.elim
 case h_1 xs ys e1 e2 =>
  obtain ⟨a1,vs,rfl,h1,r1⟩:=asL.rep rx e1
  obtain ⟨a2,us,rfl,h2,r2⟩:=asL.rep ry e2
  exact ⟨a1,a2,vs,us,rfl,rfl,h1,h2,by rw [r1.length,r2.length];exact M7 ho.1 AZ,fun p hp=>k _ _ _ ho.2 (EL hs (Reps.append r1 r2) hp) (Kp.upd hp) (hs.okU hp)⟩
theorem Reps.ne {H:Hp}{ds:List D}{vs:List V}(h:Reps K M H ds vs)(n:ds≠[]):vs≠[]:=fun z=>by
 have:=h.length
 rw [z] at this
 exact n (List.length_eq_zero_iff.mp this.symm)
def EY (ρ:Ev):Ev:=ρ.map fun o=>match o with|some .bag=>none|o=>o
theorem LS {ρ:Ev}{i:Nat}{d:D}(h:(EY ρ)[i]?=some (some d)):ρ[i]?=some (some d)/\d≠.bag:=by
 unfold EY at h
 rw [M9] at h
 cases q:ρ[i]? with
 | none=>rw [q] at h;cases h
 | some o =>
   rw [q] at h
   cases o with
   | none=>cases h
   | some d'=>cases d'<;>simp at h<;>subst h<;>exact ⟨rfl,by intro z;cases z⟩
theorem PSs.withE {A:Prop}(h:A->PSs X sts t):PSs X sts (fun E σ H=>A/\t E σ H):=fun pins s σ H D I q=>h q.1 pins s σ H D I q.2
def V1h (db:DS)(Ed:Addr->Prop)(hd:Addr->DEnds->Prop):DS:=fun F ρ=>db F ρ/\∀ C,Ed C->hd C F
end
end L2
namespace K
open PySem L2
theorem _root_.L2.Room.m {k n:Nat}{A:Around}(h:Room n A)(e:k<=n:=by decide):Room k A:=h.mono e
theorem Q9b {a b:Int}(hb:b≠0):(a.fmod b).natAbs<b.natAbs:=by
 by_cases h:0<b
 · rw [B1z a (by omega)]
   have:=B1b a hb
   have:=B0m a h
   omega
 · have e:a.fmod b = -((-a).fmod (-b)):=by grind [Int.neg_fmod_neg]
   rw [e,B1z (-a) (show 0<=-b by omega)]
   have:=B1b (-a) (show -b≠0 by omega)
   have:=B0m (-a) (show 0 < -b by omega)
   omega
theorem J5q {a b:Int}:Int.gcd b (a.fmod b)=Int.gcd a b:=by
 rw [Int.gcd_comm a b,Int.fmod_def]
 apply Nat.dvd_antisymm
 · apply Int.dvd_gcd
   · exact B2o ..
   · have h1:((Int.gcd b (a - b*a.fdiv b):Nat):Int) ∣ b:=B2o ..
     have h2:((Int.gcd b (a - b*a.fdiv b):Nat):Int) ∣ a - b*a.fdiv b:=Int.gcd_dvd_right ..
     have h3:=Int.dvd_add h2 (Int.dvd_trans h1 (Int.dvd_mul_right b (a.fdiv b)))
     have e3:a - b*a.fdiv b+b*a.fdiv b=a:=by omega
     rw [e3] at h3
     exact h3
 · apply Int.dvd_gcd
   · exact B2o ..
   · have h1:((Int.gcd b a:Nat):Int) ∣ b:=B2o ..
     have h2:((Int.gcd b a:Nat):Int) ∣ a:=Int.gcd_dvd_right ..
     exact Int.dvd_sub h2 (Int.dvd_trans h1 (Int.dvd_mul_right b (a.fdiv b)))
def ML (ns:List Int):Int:=ns.foldl (fun g n=>((Int.gcd g n:Nat):Int)) 0
theorem QF (ns:List Int)(n:Int):ML (ns++[n])=((Int.gcd (ML ns) n:Nat):Int):=by unfold ML;rw [List.foldl_append];rfl
theorem IN {ns:List Int}{n:Int}(h:n≠0):0<ML (ns++[n])/\ML (ns++[n])<=n.natAbs:=by
 rw [QF]
 have h1:0<Int.gcd (ML ns) n:=Int.gcd_pos_of_ne_zero_right _ h
 have h2:Int.gcd (ML ns) n ∣ n.natAbs:=Int.gcd_dvd_natAbs_right ..
 have h3:=Nat.le_of_dvd (by omega) h2
 omega
def low (ns:List Int)(last:Int):Int:=if last<0 then -ML (ns++[last]) else ML (ns++[last])
theorem J4z {ns:List Int}{n:Int}(h:n≠0):low ns n≠0:=by
 have:=IN (ns:=ns) h
 unfold low
 split<;>omega
theorem Q4i {ns:List Int}{n:Int}(h:n≠0):(low ns n).natAbs<=n.natAbs:=by
 have:=IN (ns:=ns) h
 unfold low
 split<;>omega
theorem Q8v (x y z w:Int):ML ([x,y,z]++[w])=((Nat.gcd (Int.gcd x y) (Int.gcd z w):Nat):Int):=by
 unfold ML Int.gcd
 show ((Nat.gcd (Int.natAbs ((Nat.gcd (Int.natAbs ((Nat.gcd (Int.natAbs ((Nat.gcd (Int.natAbs 0) x.natAbs:Nat):Int)) y.natAbs:Nat):Int)) z.natAbs:Nat):Int)) w.natAbs:Nat):Int)=_
 simp only [Int.natAbs_natCast,Int.natAbs_zero,Nat.gcd_zero_left,Nat.gcd_assoc]
theorem UN (x y z w:Int):(low [x,y,z] w).natAbs=Nat.gcd (Int.gcd x y) (Int.gcd z w):=by
 unfold low
 split<;>rw [Q8v]<;>omega
theorem ZG {ns:List Int}{n:Int}(h:n≠0):(n<0->low ns n<0)/\(0<n->0<low ns n):=by
 have:=IN (ns:=ns) h
 unfold low
 refine ⟨fun h1=>?_,fun h1=>?_⟩
 · rw [if_pos h1];omega
 · rw [if_neg (by omega)];omega
theorem UM {x y z w:Int}(h:w≠0):∃ a b c d,x.fdiv (low [x,y,z] w)=a/\y.fdiv (low [x,y,z] w)=b/\z.fdiv (low [x,y,z] w)=c/\w.fdiv (low [x,y,z] w)=d/\0<d/\Nat.gcd (Int.gcd a b) (Int.gcd c d)=1/\(a*w=x*d/\b*w=y*d/\c*w=z*d) /\
 (a.natAbs<=x.natAbs/\b.natAbs<=y.natAbs/\c.natAbs<=z.natAbs/\d.natAbs<=w.natAbs):=by
 have hne:=J4z (ns:=[x,y,z]) h
 have habs:=UN x y z w
 obtain ⟨s1,s2⟩:=ZG (ns:=[x,y,z]) h
 generalize low [x,y,z] w=L at *
 have g1:Nat.gcd (Int.gcd x y) (Int.gcd z w) ∣ Int.gcd x y:=Nat.gcd_dvd_left ..
 have g2:Nat.gcd (Int.gcd x y) (Int.gcd z w) ∣ Int.gcd z w:=Nat.gcd_dvd_right ..
 have dv:∀ n:Int,L.natAbs ∣ n.natAbs->L ∣ n:=fun n h=>Int.natAbs_dvd_natAbs.mp h
 have d1:L ∣ x:=dv x (by rw [habs];exact Nat.dvd_trans g1 (Nat.gcd_dvd_left ..))
 have d2:L ∣ y:=dv y (by rw [habs];exact Nat.dvd_trans g1 (Nat.gcd_dvd_right ..))
 have d3:L ∣ z:=dv z (by rw [habs];exact Nat.dvd_trans g2 (Nat.gcd_dvd_left ..))
 have d4:L ∣ w:=dv w (by rw [habs];exact Nat.dvd_trans g2 (Nat.gcd_dvd_right ..))
 have e1:=B1s d1
 have e2:=B1s d2
 have e3:=B1s d3
 have e4:=B1s d4
 generalize x.fdiv L=a at *
 generalize y.fdiv L=b at *
 generalize z.fdiv L=c at *
 generalize w.fdiv L=d at *
 have bnd:∀ n m:Int,n*L=m->n.natAbs<=m.natAbs:=fun n m e=>by
  rw [<- e,Int.natAbs_mul]
  exact Nat.le_mul_of_pos_right _ (by omega)
 refine ⟨a,b,c,d,rfl,rfl,rfl,rfl,?_,?_,⟨?_,?_,?_⟩,⟨bnd _ _ e1,bnd _ _ e2,bnd _ _ e3,bnd _ _ e4⟩⟩
 · by_cases hd:0<d
   · exact hd
   · rcases Int.lt_or_gt_of_ne h with hw|hw
     · have:=Int.mul_nonneg_of_nonpos_of_nonpos (show d<=0 by omega) (B1k (s1 hw));omega
     · have:=B2z (show d<=0 by omega) (B1k (s2 hw));omega
 · have q1:Int.gcd (a*L) (b*L)=Int.gcd a b*L.natAbs:=Int.gcd_mul_right ..
   have q2:Int.gcd (c*L) (d*L)=Int.gcd c d*L.natAbs:=Int.gcd_mul_right ..
   rw [<- e1,<- e2,<- e3,<- e4,q1,q2,Nat.gcd_mul_right] at habs
   have hp:0<L.natAbs:=by omega
   have:1*L.natAbs=Nat.gcd (Int.gcd a b) (Int.gcd c d)*L.natAbs:=by rw [Nat.one_mul];exact habs
   exact (Nat.eq_of_mul_eq_mul_right hp this).symm
 · rw [<- e1,<- e4];grind
 · rw [<- e2,<- e4];grind
 · rw [<- e3,<- e4];grind
def dot (r s:List Int):Int:=(List.zipWith (· * ·) r s).sum
end K
namespace L2
open PySem PySem.Spec PyProof.Rows
theorem J9l {xs:List D}{i:Int}{P:D->Prop}(h0:0<=i)(h1:i<xs.length)(h:∀ d∈xs,P d):oIx (.lst xs) (.int i) P:=by
 obtain ⟨j,rfl⟩:∃ j:Nat,i=j:=⟨i.toNat,by omega⟩
 have hj:j<xs.length:=by omega
 have e:atI xs (j:Int)=some xs[j]:=FU (L0 hj)
 simp only [oIx,e]
 exact h _ (E2 hj)
theorem ixm {xs:List D}{i:Int}{P:D->Prop}(h0:0<=i)(h1:i<xs.length)(h:∀ d∈xs,P d):(atI xs i).elim False P:=J9l (P:=P) h0 h1 h
theorem BJ {lo:Int}{n i:Nat}{d:D}(h:(CC lo n)[i]?=some d):d=.int (lo+i)/\i<n:=by
 have hi:i<n:=by
  have:=(M1.mp h).1
  simpa [CC] using this
 simp [CC,hi] at h
 exact ⟨h.symm,hi⟩
theorem rangeD_len (lo:Int)(n:Nat):(CC lo n).length=n:=by simp [CC]
abbrev sp4 (x y z w:Int):D:=.tup [.int x,.int y,.int z,.int w]
abbrev t3 (x y z:Int):D:=.tup [.int x,.int y,.int z]
abbrev t2 (x y:Int):D:=.tup [.int x,.int y]
theorem J6r {gd:D->Ev->(Ev->Prop)->Prop}{de:DE}{ρc:Ev}{items:List D}{P:List D->Prop}(Pv:Nat->D->Prop)
 (hs:∀ (i:Nat) x (Q:D->Prop),items[i]?=some x->(∀ y,Pv i y->Q y)->gd x ρc fun ρ1=>de ρ1 Q) (hp:∀ i y,Pv i y->plain y=true)
 (hd:∀ acc:List D,acc.length=items.length->(∀ i y,acc[i]?=some y->Pv i y)->P acc):compI gd QK de ρc items P:=by
 refine ⟨fun i acc=>acc.length=i/\∀ j y,acc[j]?=some y->Pv j y,⟨rfl,fun j y e=>by simp at e⟩,fun i x acc e ⟨hl,ha⟩=>?_,fun acc ⟨hl,ha⟩=>hd acc hl ha⟩
 have:=hs i x (fun y=>plain y=true/\((acc++[y]).length=i+1/\∀ j z,(acc++[y])[j]?=some z->Pv j z)) e fun y hy=>⟨hp i y hy,by simp [hl],fun j z ez=>?_⟩
 · simpa only [QK,VU] using this
 · by_cases hj:j<acc.length
   · rw [B0v hj] at ez
     exact ha j z ez
   · rw [B1y (by omega)] at ez
     have:j - acc.length=0:=by
      cases q:j - acc.length with
      | zero=>rfl
      | succ m=>rw [q] at ez;simp at ez
     rw [this] at ez
     simp at ez
     subst ez
     have:j=i:=by omega
     subst this
     exact hy
theorem CG {gd:D->Ev->(Ev->Prop)->Prop}{de:DE}{ρc:Ev}{items:List D}{P:List D->Prop}(f:D->D)
 (hs:∀ x (Q:D->Prop),x∈items->Q (f x)->gd x ρc fun ρ1=>de ρ1 Q) (hp:∀ x∈items,plain (f x)=true) (hd:P (items.map f)):compI gd QK de ρc items P:=by
 refine J6r (fun i y=>∃ x,items[i]?=some x/\y=f x) (fun i x Q e h=>hs x Q (R6 e) (h _ ⟨x,e,rfl⟩)) (fun i y ⟨x,e,h⟩=>by rw [h];exact hp x (R6 e)) fun acc hl ha=>?_
 have:acc=items.map f:=by
  apply List.ext_getElem?
  intro i
  rw [M9]
  cases q:acc[i]? with
  | none =>
    have:items.length<=i:=by rw [<- hl];exact List.getElem?_eq_none_iff.mp q
    rw [List.getElem?_eq_none_iff.mpr this];rfl
  | some y =>
    obtain ⟨x,e,rfl⟩:=ha i y q
    rw [e];rfl
 rw [this];exact hd
theorem okB.same {B:BagT} {H H':Hp}(o:okB B b H)(S:Same H H'):okB B b H':=fun p e=>B.st p H H' (o p e) fun u h=>S p u h
theorem Q1i {α:Type}{l:List α}{x:α}:atI (l++[x]) (-1)=some x:=by
 have e:ixN (l++[x]).length (-1)=some l.length:=by
  unfold ixN
  rw [if_neg (by decide),if_pos (by simp;omega)]
  congr 1
  simp
  omega
 unfold atI
 rw [e]
 simp
structure JE (X:Cx)(W:Wd)(e:Expr)(d:DE):Prop where
 h:PE X e (dn W d)
structure JT (X:Cx)(W:Wd)(e:Expr)(d:DT):Prop where
 h:PT X e (dnT W d)
structure JW (X:Cx)(W:Wd)(e:Expr)(d:DT):Prop where
 h:PW X e (dnT W d)
structure JA (X:Cx)(W:Wd)(es:List Expr)(d:DA):Prop where
 h:PA X es (dnA W d)
structure JO (X:Cx)(W:Wd)(e:Option Expr)(d:DO):Prop where
 h:PO X e (dnO W d)
structure JIf (X:Cx)(W:Wd)(es:List Expr)(d:DT):Prop where
 h:PIf X es (dnT W d)
structure JI (X:Cx)(W:Wd)(fz:Bool)(tg l:Expr)(d:DA):Prop where
 h:PI X tg l (dnI W fz d)
structure JS (X:Cx)(W:Wd)(st:Stmt)(d:DS):Prop where
 h:PS X st (sn W d)
structure JSs (X:Cx)(W:Wd)(st:List Stmt)(d:DS):Prop where
 h:PSs X st (sn W d)
section
variable {X:Cx}{W:Wd}{e a b c:Expr}{es:List Expr}{pos:Pos}{da db dc:DE}{dA:DA}{t:TE}
theorem jdv (i:Nat) {x:Str} {pos:Pos} (hN:X.N[i]?=some x:=by rfl) (hv:Vis X.env.scope x:=by first|exact Or.inl rfl|exact Or.inr (Or.inl rfl)|exact Or.inr (Or.inr rfl)) (hd:(x==("__debug__" : Str))=false:=by decide)
 (hcd:(x==("__classdict__" : Str))=false:=by decide):JE X W (.Name x pos) (J2j i):=⟨dv i hN hv hd hcd⟩
theorem J3 {i j pos}:JE X W (.Constant (.int i) j pos) (dC (.int i)):=⟨Q5v ⟩
theorem AT {i j pos}:JE X W (.Constant (.bool i) j pos) (dC (.bl i)):=⟨Q9i ⟩
theorem KJ {j pos}:JE X W (.Constant .none j pos) (dC .non):=⟨Q5s ⟩
theorem AS {i j pos}:JE X W (.Constant (.str i) j pos) (dC (.str i)):=⟨Q5o ⟩
theorem CA {x:Str}{n:Int}{pos:Pos}(hg:Gl X x)(hm:∃ t,X.mg x=some (.int n t))(hd:(x==("__debug__" : Str))=false:=by decide):JE X W (.Name x pos) (dC (.int n)):=⟨J6g hg hm hd⟩
theorem AO {x:Str}{T:String}{pos:Pos}(hg:Gl X x)(hm:X.mg x=none)(hv:bootBuiltins x=some (.type T))(hn:x≠"__name__":=by decide) (hd:(x==("__debug__" : Str))=false:=by decide):JE X W (.Name x pos) (dC (.ty T)):=⟨Q0t hg hm hv hn hd⟩
theorem V6 {op:Operator}{r:R2}{o:D->D->(D->Prop)->Prop}(ho:OpR X (binaryOp op) r)(hd:OpD W r o)(ha:JE X W a da)(hb:JE X W b db):JE X W (.BinOp a op b pos) (dOp o da db):=⟨Q9f ho hd ha.h hb.h⟩
theorem Z5 {op:CmpOp}{r:R2}{o:D->D->(D->Prop)->Prop}(ho:OpR X (compareOp op) r)(hd:OpD W r o)(ha:JE X W a da)(hb:JE X W b db)(hm:behindInMarks op b=false):JE X W (.Compare a [op] [b] pos) (dOp o da db):=⟨Q5w ho hd ha.h hb.h hm⟩
theorem Q8 {r:R2}{o:D->D->(D->Prop)->Prop}(hr:IxR X r)(hd:OpD W r o)(ha:JE X W a da)(hb:JE X W b db)(hs:MT b):JE X W (.Subscript a b pos) (dOp o da db):=⟨Q9g hr hd ha.h hb.h hs⟩
theorem IK (ha:JE X W a da):JE X W (.UnaryOp .USub a pos) (dUn Q4f da):=⟨Q5t ha.h⟩
variable {rest:List Expr}
theorem BZ {op}(h:JE X W a da):JE X W (.BoolOp op [a] pos) da:=⟨Q5q h.h⟩
theorem AH (ha:JE X W a da)(hb:JE X W (.BoolOp .And (b::rest) pos) db):JE X W (.BoolOp .And (a::b::rest) pos) (Q9v da db):=⟨Q5x ha.h hb.h⟩
theorem J5k (ha:JE X W a da)(hb:JE X W (.BoolOp .Or (b::rest) pos) db):JE X W (.BoolOp .Or (a::b::rest) pos) (dOr da db):=⟨Q9e ha.h hb.h⟩
theorem J9v (ha:JE X W a da):JE X W (.UnaryOp .Not a pos) (Q9q da):=⟨Q5r ha.h⟩
theorem V7 {op:CmpOp}{r:R2}{o:D->D->(D->Prop)->Prop}(ho:OpR X (compareOp op) r)(hd:OpD W r o)(ha:JE X W a da)(hb:JE X W b db)(hm:behindInMarks op b=false):JT X W (.Compare a [op] [b] pos) (J6k (dOp o da db)):=⟨Q5e ho hd ha.h hb.h hm⟩
theorem V0 (hK:X.K=W.K)(ha:JE X W a da)(he:∀ whole,isTrue a X.env whole=(do let v <- whole;standAt a.pos;holding [v] (truthy v))):JT X W a (Q9l da):=⟨J5y hK ha.h he⟩
variable {ta tb:DT}
theorem HZ (ha:JT X W a ta):JW X W (.BoolOp .And [a] pos) ta:=⟨Q0h ha.h⟩
theorem BX (ha:JT X W a ta):JW X W (.BoolOp .Or [a] pos) ta:=⟨Q5b ha.h⟩
theorem RX (ha:JT X W a ta)(hb:JW X W (.BoolOp .Or (b::rest) pos) tb):JW X W (.BoolOp .Or (a::b::rest) pos) (Q0w ta tb):=⟨Q2f ha.h hb.h⟩
theorem Y8 (ha:JT X W a ta):JT X W (.UnaryOp .Not a pos) (Q2h ta):=⟨Q5d ha.h⟩
theorem J5l (hc:JT X W c ta)(ha:JE X W a da)(hb:JE X W b db):JE X W (.IfExp c a b pos) (dIf ta da db):=⟨Q9h hc.h ha.h hb.h⟩
theorem LN {op op':CmpOp}{r r':R2}{o o':D->D->(D->Prop)->Prop}(ho:OpR X (compareOp op) r)(ho':OpR X (compareOp op') r')(hd:OpD W r o)(hd':OpD W r' o')(ha:JE X W a da)(hb:JE X W b db)(hc:JE X W c dc)
 (hm:lastMarks [op,op'] [b,c]=false:=by with_unfolding_all rfl):JE X W (.Compare a [op,op'] [b,c] pos) (J6p o o' da db dc):=⟨J6h ho ho' hd hd' ha.h hb.h hc.h hm⟩
theorem J1:JA X W [] Q6v:=⟨Q5y ⟩
theorem J0 {dr:DA}(ha:JE X W e da)(hr:JA X W es dr)(hs:starEach (e::es) X.env=(false,eval e X.env)::starEach es X.env:=by rfl):JA X W (e::es) (J6y da dr):=⟨Q0u ha.h hr.h hs⟩
theorem Q5 {x1}(h:JA X W es dA):JE X W (.Tuple es x1 pos) (Q9k dA):=⟨Q5n h.h⟩
theorem AN (h:JA X W es dA):JE X W (.List es pos) (Q9s dA):=⟨Q5u h.h⟩
end
section
variable {X:Cx}{W:Wd}{e:Expr}{es:List Expr}{pos p:Pos}{dA:DA}{x:Str}{k:Nat}{ps:List Str}{S:DSp}
theorem Q0 (G:Callee X.prog X.w X.K X.mg X.base CX0 x k ps (J8 W.K W.B S))(hr:Room k X.A)(hg:Gl X x)(ha:JA X W (e::es) dA)(hdb:(x==("__debug__" : Str))=false:=by decide) (he:starEach (e::es) X.env=(false,eval e X.env)::starEach es X.env:=by rfl) (hpl:(backTo pos (starEach es X.env)).any (·.1)=false:=by rfl) :
 JE X W (.Call (.Name x p) (e::es) [] pos) (QL S (fun _=>False) dA):=⟨Q5p G hr hg ha.h hdb he hpl⟩
theorem DZ {CX:CXT}{E:XK}{Ed:Addr->Prop}(hE:IG W E Ed)(hp:FE CX X E)(G:Callee X.prog X.w X.K X.mg X.base CX x k ps (J8 W.K W.B S))(hr:Room k X.A)(hg:Gl X x)(ha:JA X W (e::es) dA)(hdb:(x==("__debug__" : Str))=false:=by decide) (he:starEach (e::es) X.env=(false,eval e X.env)::starEach es X.env:=by rfl) (hpl:(backTo pos (starEach es X.env)).any (·.1)=false:=by rfl) :
 JE X W (.Call (.Name x p) (e::es) [] pos) (QL S Ed dA):=⟨Q0r hE hp G hr hg ha.h hdb he hpl⟩
variable {r:List V->Hp->VK->Prop}{o:List D->(D->Prop)->Prop}{id T:String}
theorem J9 (hc:BD X (.builtin id) r)(hd:EH W r o)(hg:Gl X x)(hm:X.mg x=none)(hv:bootBuiltins x=some (.builtin id))(ha:JA X W (e::es) dA)(hn:x≠"__name__":=by decide) (hdb:(x==("__debug__" : Str))=false:=by decide)
 (he:starEach (e::es) X.env=(false,eval e X.env)::starEach es X.env:=by rfl) (hpl:(backTo pos (starEach es X.env)).any (·.1)=false:=by rfl):JE X W (.Call (.Name x p) (e::es) [] pos) (dCB o dA):=⟨J6i hc hd hg hm hv ha.h hn hdb he hpl⟩
theorem EW (hc:BD X (.type T) r)(hd:EH W r o)(hg:Gl X x)(hm:X.mg x=none)(hv:bootBuiltins x=some (.type T))(ha:JA X W (e::es) dA)(hn:x≠"__name__":=by decide) (hdb:(x==("__debug__" : Str))=false:=by decide)
 (he:starEach (e::es) X.env=(false,eval e X.env)::starEach es X.env:=by rfl) (hpl:(backTo pos (starEach es X.env)).any (·.1)=false:=by rfl):JE X W (.Call (.Name x p) (e::es) [] pos) (dCB o dA):=⟨J2h hc hd hg hm hv ha.h hn hdb he hpl⟩
end
section
variable {X:Cx}{W:Wd}{tg l a b:Expr}{pos p:Pos}{dl:DE}{dA:DA}{fz:Bool}
theorem Z7 (hK:X.K=W.K)(hl:JE X W l dl):JI X W fz tg l (Q4v fz dl):=⟨Q5l hK hl.h⟩
theorem BN (hg:Gl X "range") (hm:X.mg "range" = none) (ha:JA X W [a] dA) (hs:starEach [a] X.env=[(false,eval a X.env)]:=by rfl):JI X W fz tg (.Call (.Name "range" p) [a] [] pos) (ZQ dA):=⟨J2g hg hm ha.h hs⟩
theorem XR (hg:Gl X "range") (hm:X.mg "range" = none) (ha:JA X W [a,b] dA) (hs:starEach [a,b] X.env=[(false,eval a X.env),(false,eval b X.env)]:=by rfl) (hs2:starEach [b] X.env=[(false,eval b X.env)]:=by rfl):JI X W fz tg (.Call (.Name "range" p) [a,b] [] pos) (ZP dA):=⟨J2f hg hm ha.h hs hs2⟩
theorem ZM {elts:List Expr}{c1}{tpos:Pos}(hK:X.K=W.K)(t1 t2:Bool)(hg:Gl X "zip") (hm:X.mg "zip" = none) (ha:JA X W [a,b] dA)
 (h:PI X (.Tuple elts c1 tpos) (.Call (.Name "zip" p) [a,b] [] pos) (J5n W.K t1 t2 (dnA W dA))):JI X W fz (.Tuple elts c1 tpos) (.Call (.Name "zip" p) [a,b] [] pos) (Q1z fz t1 t2 dA):=⟨Q5k hK t1 t2 hg hm ha.h h⟩
end
section
variable {X:Cx}{W:Wd}{elt iter tg:Expr}{ifs:List Expr}{scope:Scope}{pos:Pos}{N':List Str}{map:List (Option Nat)}{g:TG}{gd:D->Ev->(Ev->Prop)->Prop}{di:DA}{dt:DT}{de:DE}
theorem AF (hG:GD W g gd)(B:Blk X N' scope map tg elt ifs g (dnT W dt) (dn W de))(hi:JI X W false tg iter di)(hs:∀ x,foldedSetIterable iter X.env x=pure x:=by intro _;rfl):JE X W (.ListComp elt [⟨tg,iter,ifs,0⟩] scope pos) (J6o map gd di dt de):=⟨Q0s hG B hi.h hs⟩
theorem Z8:JIf X W [] QK:=⟨Q0q ⟩
end
section
variable {X:Cx}{W:Wd}{e c tg iter:Expr}{es:List Expr}{pos:Pos}{db de:DE}{dA di:DA}{dt:DT}{st:Stmt}{rest:List Stmt}{d1 d2:DS}
theorem V1:JSs X W [] J6n:=⟨Q0j ⟩
theorem J5 (h:JS X W st d1):JSs X W [st] d1:=⟨Q0i h.h⟩
theorem J4 (h1:JS X W st d1)(h2:JSs X W rest d2):JSs X W (st::rest) (Q6a d1 d2):=⟨J5z h1.h h2.h⟩
theorem Q4 (he:JE X W e de):JS X W (.Return (some e) pos) (Q6b de):=⟨Q5g he.h⟩
theorem NW (he:JE X W e de)(hs:swapsWith e none pos.line X.env=pure false:=by rfl):JS X W (.Expr e pos) (Q2k de):=⟨Q0m he.h hs⟩
theorem Y6 {s1 s2:List Stmt}(hc:JT X W c dt)(ha:JSs X W s1 d1)(hb:JSs X W s2 d2):JS X W (.If c s1 s2 pos) (Q6c dt d1 d2):=⟨Q9c hc.h ha.h hb.h⟩
theorem Z1 {i:Nat} {x:Str} {pos':Pos} (hN:X.N.Nodup) (hi:X.N[i]?=some x) (hx:Loc X.env.scope x) (he:JE X W e de) (hs:swapsWith e (some (.Name x pos')) pos.line X.env=pure false:=by rfl) (hf:X.fn x=true\/X.env.scope.names.lookup x=some .local:=by first|exact .inl rfl|exact .inr rfl|assumption) :
 JS X W (.Assign [.Name x pos'] e pos) (J2k de (gdN i)):=⟨Q5f hN hi hx he.h hs hf⟩
theorem CK {g:TG}{gd:D->Ev->(Ev->Prop)->Prop}(hG:GD W g gd)(he:JE X W e de)(hg:PG X tg g)(hs:swapsWithSole [tg] e pos.line X.env=pure false:=by rfl)(hw:swappedStores [tg] e X.env=pure none:=by rfl)
 (h1:(assignEach [tg] X.env).map (·.2)=[assign tg X.env]:=by rfl):JS X W (.Assign [tg] e pos) (J2k de gd):=⟨Q5j hG he.h hg hs hw h1⟩
theorem J5i {i:Nat} {x:Str} {pos' lpos:Pos} (hN:X.N.Nodup) (hi:X.N[i]?=some x) (hx:Loc X.env.scope x) (ha:JA X W es dA) (hs:swapsWith (.List es lpos) (some (.Name x pos')) pos.line X.env=pure false:=by rfl) (hf:X.fn x=true\/X.env.scope.names.lookup x=some .local:=by first|exact .inl rfl|exact .inr rfl|assumption) :
 JS X W (.Assign [.Name x pos'] (.List es lpos) pos) (Q2j i dA):=⟨Q0l hN hi hx ha.h hs hf⟩
theorem J5f {elt iter tg:Expr}{ifs:List Expr}{scope:Scope}{N':List Str}{map:List (Option Nat)}{g:TG}{gd:D->Ev->(Ev->Prop)->Prop}(own:Bool){i:Nat}{y:Str}{py spos:Pos}(hN:X.N.Nodup)(hiN:X.N[i]?=some y)(hy:Loc X.env.scope y)(hG:GD W g gd)(B:Blk X N' scope map tg elt ifs g (dnT W dt) (dn W de))(hi:JI X W false tg iter di)
 (hsw:swapsWith (.ListComp elt [⟨tg,iter,ifs,0⟩] scope pos) (some (.Name y py)) spos.line X.env=pure true:=by rfl) (hfn:X.fn y=true\/X.env.scope.names.lookup y=some .local:=by first|exact .inl rfl|exact .inr rfl)
 (hs:∀ x,foldedSetIterable iter X.env x=pure x:=by intro _;rfl):JS X W (.Assign [.Name y py] (.ListComp elt [⟨tg,iter,ifs,0⟩] scope pos) spos) (Q2i own i map gd di dt de):=⟨Q0k own hN hiN hy hG B hi.h hsw hfn hs⟩
theorem XQ {i:Nat}{x:Str}{e:Expr}{npos apos cpos:Pos}(hK:X.K=W.K)(hN:X.N[i]?=some x)(hv:Vis X.env.scope x)(ha:JA X W [e] dA)
 (h:PE X (.Call (.Attribute (.Name x npos) "append" apos) [e] [] cpos) (tBM X.K "list" MM (J0x i) (dnA W dA))) (hs:swapsWith (.Call (.Attribute (.Name x npos) "append" apos) [e] [] cpos) none pos.line X.env=pure false:=by rfl) :
 JS X W (.Expr (.Call (.Attribute (.Name x npos) "append" apos) [e] [] cpos) pos) (Q1a i dA):=⟨J2e hK hN hv ha.h h hs⟩
theorem J9u {i:Nat} {x:Str} {op:Operator} {f:Int->Int->Int} {pos':Pos} (hN:X.N.Nodup) (hi:X.N[i]?=some x) (hx:Loc X.env.scope x) (he:JE X W e de) (ho:PIp X op (ipI f)) (hf:X.fn x=true\/X.env.scope.names.lookup x=some .local:=by first|exact .inl rfl|exact .inr rfl|assumption) :
 JS X W (.AugAssign (.Name x pos') op e pos) (Q6e i f de):=⟨Q5i hN hi hx he.h ho hf⟩
theorem FR {g:TG}{gd:D->Ev->(Ev->Prop)->Prop}{db:DS}{body:List Stmt}(hG:GD W g gd)(hp:PassesOwn (model X.prog X.w) X.A X.env X.xe)(hc:X.calm=true)(hi:JI X W true tg iter di)(hg:PG X tg g)(hb:JSs X W body db)
 (hs:∀ x,foldedSetIterable iter X.env x=pure x:=by intro _;rfl):JS X W (.For tg iter body [] pos) (Q0y gd di db):=⟨Q5h hG hp hc hi.h hg hb.h hs⟩
theorem CT {E:XK}{Ed:Addr->Prop}{C:Addr}(hE:IG W E Ed)(h:PS X st (fun _ _ H1=>E (.ref C) none H1)):JS X W st (J6m Ed C):=⟨J6a hE h⟩
end
section
variable {X:Cx}{W:Wd}{e:Expr}{pos:Pos}{dl de:DE}
theorem DF:JO X W none oNo:=⟨Q0p ⟩
theorem DC (h:JE X W e de):JO X W (some e) (oPt de):=⟨Q0o h.h⟩
theorem BY {lo hi:Option Expr}{dl dh:DO}{p2:Pos}(hr:SlR X (fun x lo hi H Q=>J3u W.K x lo hi H Q\/J3v W.K x lo hi H Q))(he:JE X W e de)(hl:JO X W lo dl)(hu:JO X W hi dh):JE X W (.Subscript e (.Slice lo hi none p2) pos) (dSl de dl dh):=⟨J6f hr he.h hl.h hu.h⟩
end
section
variable {X:Cx}{W:Wd}{a b:Expr}{rest:List Expr}{pos:Pos}{ta tb:DT}
theorem KI (ha:JT X W a ta)(hb:JW X W (.BoolOp .And (b::rest) pos) tb):JT X W (.BoolOp .And (a::b::rest) pos) (J6l ta tb):=⟨(Q5c ha.h hb.h).pt⟩
theorem DP (ha:JT X W a ta)(hb:JW X W (.BoolOp .Or (b::rest) pos) tb):JT X W (.BoolOp .Or (a::b::rest) pos) (Q0w ta tb):=⟨(Q2f ha.h hb.h).pt⟩
end
theorem J5r {es:List Expr}{pos:Pos}{env:Env}:∀ x,foldedSetIterable (.List es pos) env x=pure x:=fun _=>rfl
theorem J2b {es:List Expr}{k}{pos:Pos}{env:Env}:∀ x,foldedSetIterable (.Tuple es k pos) env x=pure x:=fun _=>rfl
theorem IR {X:Cx} {W:Wd} {N':List Str} {scope:Scope} {map:List (Option Nat)} {tg elt:Expr} {ifs:List Expr} {g:TG} {dt:DT} {de:DE} (calm:X.calm=true) (kind:scope.kind=.function) (loc:∀ x∈scope.names,x.2=.local->scope.names.lookup x.1=some .local) (free:(scope.names.all fun p=>!(p.2==NameKind.free)||(X.env.kindOf p.1==some .cell||X.env.kindOf p.1==some .free))=true) (cap:CapOk X scope map N') (keep:IF g map)
 (run:∀ cells C fp s H,PG (Q3 X N' scope cells C fp s H) tg g/\JIf (Q3 X N' scope cells C fp s H) W ifs dt/\JE (Q3 X N' scope cells C fp s H) W elt de):Blk X N' scope map tg elt ifs g (dnT W dt) (dn W de) :=
 ⟨calm,kind,loc,free,cap,keep,fun cells C fp s H _=>⟨(run cells C fp s H).1,(run cells C fp s H).2.1.h,(run cells C fp s H).2.2.h⟩⟩
theorem Fun.okD {P:Program}{w:World} {mg:Str->Option Value}{base:Heap}{x qual:Str}{st:Stmt}{f:Addr} {N ps:List Str}{k:Nat}{B:BagT}{Sd:DSp}(F:Fun K x qual st f fd)(S:FnScope N ps (J6 st))(len:∀ ds PP Ed,Sd ds PP Ed->ds.length=ps.length)
 (hbody:∀ (cdv:Value) (A:Around) (outer:List Env) (s:Shared) (H:Hp) (E:XK) (M:Addr->Prop) (bg:Option Addr) (ds:List D) (PP:D->Prop) (Ed:Addr->Prop),Room k (A.deeper (envOfC qual (J6 st) s.heap.objs.size f cdv))->Sd ds PP Ed ->
  ∃ d,JSs (BQ CX0 P w K mg base N qual (J6 st) f cdv A outer s H E).nox ⟨K,B,H,M,bg⟩ (CB st) d/\d { nx:=fun _=>PP .non,rt:=PP } (BE N ds)):FnOk P w K mg base CX0 (k+1) f fd ps (J8 K B Sd) :=
 F.ok S (J8.len len) fun cdv A outer s H vs Q E hr h=>by
  obtain ⟨M,bg,ds,PP,Ed,hS,hR,ho,hb,hd,hq,hx⟩:=h
  obtain ⟨d,J,q⟩:=hbody cdv A outer s H E M bg ds PP Ed hr hS
  exact ⟨_,J.h,run hR ho hb hd hq q⟩
theorem Fun.okDX {P:Program}{w:World} {mg:Str->Option Value}{base:Heap}{CX:CXT}{x qual:Str}{st:Stmt}{f:Addr} {N ps:List Str}{k:Nat}{B:BagT}{Sd:DSp}(F:Fun K x qual st f fd)(S:FnScope N ps (J6 st))(len:∀ ds PP Ed,Sd ds PP Ed->ds.length=ps.length)
 (hbody:∀ (cdv:Value) (A:Around) (outer:List Env) (s:Shared) (H:Hp) (E:XK) (M:Addr->Prop) (bg:Option Addr) (ds:List D) (PP:D->Prop) (Ed:Addr->Prop),Room k (A.deeper (envOfC qual (J6 st) s.heap.objs.size f cdv))->IG ⟨K,B,H,M,bg⟩ E Ed->Sd ds PP Ed ->
  ∃ d,JSs (BQ CX P w K mg base N qual (J6 st) f cdv A outer s H E) ⟨K,B,H,M,bg⟩ (CB st) d/\d { nx:=fun _=>PP .non,rt:=PP } (BE N ds)):FnOk P w K mg base CX (k+1) f fd ps (J8 K B Sd) :=
 F.okX S (J8.len len) fun cdv A outer s H vs Q E hr h=>by
  obtain ⟨M,bg,ds,PP,Ed,hS,hR,ho,hb,hd,hq,hx⟩:=h
  obtain ⟨d,J,q⟩:=hbody cdv A outer s H E M bg ds PP Ed hr (fun C H' e k o=>hx C H' e k o) hS
  exact ⟨_,J.h,run hR ho hb hd hq q⟩
mutual
def Z0:D->Option PyData
 | .non=>some .none
 | .bl b=>some (.bool b)
 | .int i=>some (.int i)
 | .str x=>if PyData.strOk x then some (.str x) else none
 | .tup xs=>(BK xs).map .tuple
 | .lst xs=>(BK xs).map .list
 | .own xs=>(BK xs).map .list
 | .ty _=>none
 | .adr _=>none
 | .bag=>none
 | .frg _ d=>Z0 d
 | .scr _=>none
 | .dct _ _ _=>none
def BK:List D->Option (List PyData)
 | []=>some []
 | d::ds=>(Z0 d).bind fun p=>(BK ds).map (p::·)
end
mutual
theorem Z0.lay:∀ (d:D) (p:PyData),Z0 d=some p->p.canLay0=true
 | .non,p,h=>by cases h;rfl
 | .bl b,p,h=>by cases h;rfl
 | .int i,p,h=>by cases h;rfl
 | .str x,p,h=>by
   unfold Z0 at h
   split at h
   · cases h;unfold PyData.canLay0;assumption
   · cases h
 | .tup xs,p,h=>by
   unfold Z0 at h
   obtain ⟨ps,e,rfl⟩:=M6.mp h
   unfold PyData.canLay0
   exact BK.lay xs ps e
 | .lst xs,p,h=>by
   unfold Z0 at h
   obtain ⟨ps,e,rfl⟩:=M6.mp h
   unfold PyData.canLay0
   exact BK.lay xs ps e
 | .own xs,p,h=>by
   unfold Z0 at h
   obtain ⟨ps,e,rfl⟩:=M6.mp h
   unfold PyData.canLay0
   exact BK.lay xs ps e
 | .ty _,p,h=>by unfold Z0 at h;cases h
 | .adr _,p,h=>by unfold Z0 at h;cases h
 | .bag,p,h=>by unfold Z0 at h;cases h
 | .frg _ d,p,h=>by unfold Z0 at h;exact Z0.lay d p h
 | .scr _,p,h=>by unfold Z0 at h;cases h
 | .dct _ _ _,p,h=>by unfold Z0 at h;cases h
theorem BK.lay:∀ (ds:List D) (ps:List PyData),BK ds=some ps->PyData.canLayAll0 ps=true
 | [],ps,h=>by cases h;rfl
 | d::ds,ps,h=>by
   unfold BK at h
   obtain ⟨p,e1,h⟩:=B1e.mp h
   obtain ⟨qs,e2,rfl⟩:=M6.mp h
   unfold PyData.canLayAll0
   rw [Z0.lay d p e1,BK.lay ds qs e2];rfl
end
section
variable {X:Cx}{pins:List (Addr×Obj)}{σ:St}{H:Hp}{s:Shared}{M:Addr->Prop}
mutual
theorem II (I:Inv X pins σ H s):∀ (d:D) (v:V) (u:Value) (p:PyData),Rep X.K M H d v->RelV v u->Z0 d=some p->∃ as,Reads s.heap u p as
 | .non,v,u,p,r,q,h=>by cases h;cases (show _=_ from r);cases (show u=Value.none from q);exact ⟨_,.none⟩
 | .bl b,v,u,p,r,q,h=>by cases h;cases (show _=_ from r);cases (show u=Value.bool b from q);exact ⟨_,.bool _⟩
 | .int i,v,u,p,r,q,h=>by
   cases h;cases (show _=_ from r)
   obtain ⟨t,rfl⟩:=(show ∃ t,u=Value.int i t from q)
   exact ⟨_,.int _ _⟩
 | .str x,v,u,p,r,q,h=>by
   unfold Z0 at h
   split at h
   · cases h;cases (show _=_ from r)
     obtain ⟨t,rfl⟩:=(show ∃ t,u=Value.str x t from q)
     exact ⟨_,.str _ _⟩
   · cases h
 | .tup xs,v,u,p,r,q,h=>by
   unfold Z0 at h
   obtain ⟨ps,e,rfl⟩:=M6.mp h
   obtain ⟨a,vs,rfl,z,rs⟩:=r
   cases (show u=Value.ref a from q)
   obtain ⟨its,r1,⟨o,h1,h2,n,h3⟩,_⟩:=I.tuple z.sq
   obtain ⟨as,ra⟩:=GP I xs vs its ps rs r1 e
   exact ⟨as,.tuple h1 h2 h3 (by simpa using ra)⟩
 | .lst xs,v,u,p,r,q,h=>by
   unfold Z0 at h
   obtain ⟨ps,e,rfl⟩:=M6.mp h
   obtain ⟨a,vs,rfl,z,rs⟩:=r
   cases (show u=Value.ref a from q)
   obtain ⟨its,r1,⟨o,n,h1,h2,_,h3⟩,_⟩:=I.list (SqL.of z.2)
   obtain ⟨as,ra⟩:=GP I xs vs its ps rs r1 e
   exact ⟨a::as,.list h1 h2 h3 (by simpa using ra)⟩
 | .own xs,v,u,p,r,q,h=>r.elim
 | .ty _,_,_,p,_,_,h=>by unfold Z0 at h;cases h
 | .adr _,_,_,p,_,_,h=>by unfold Z0 at h;cases h
 | .bag,_,_,p,_,_,h=>by unfold Z0 at h;cases h
 | .frg _ _,_,_,p,r,_,h=>r.elim
 | .scr _,_,_,p,_,_,h=>by unfold Z0 at h;cases h
 | .dct _ _ _,_,_,p,_,_,h=>by unfold Z0 at h;cases h
theorem GP (I:Inv X pins σ H s):∀ (ds:List D) (vs:List V) (us:List Value) (ps:List PyData),Reps X.K M H ds vs->Vals vs us->BK ds=some ps->∃ as,ReadsAll s.heap us ps as
 | [],vs,us,ps,r,q,h=>by
   cases h
   cases (show vs=[] from r)
   cases q
   exact ⟨[],.nil⟩
 | d::ds,vs,us,ps,r,q,h=>by
   unfold BK at h
   obtain ⟨p,e1,h⟩:=B1e.mp h
   obtain ⟨qs,e2,rfl⟩:=M6.mp h
   obtain ⟨v,rv,rfl,r1,r2⟩:=r
   cases q with
   | cons q1 q2 =>
     obtain ⟨as,a1⟩:=II I d v _ p r1 q1 e1
     obtain ⟨bs,a2⟩:=GP I ds rv _ qs r2 q2 e2
     exact ⟨as++bs,.cons a1 a2⟩
end
end
def J2v (K:Fg)(M:Addr->Prop)(H:Hp):D->V->Prop
 | .own xs,v=>∃ a vs,v=.ref a/\H a=some (.lst vs)/\Reps K M H xs vs
 | .frg _ d,v=>∃ M',Rep K M' H d v
 | d,v=>Rep K M H d v
theorem RepX.g {W:Wd} {H:Hp}{d:D}{v:V}{p:PyData}(h:RepX W M b H d v)(e:Z0 d=some p):J2v W.K M H d v:=by
 cases d
 case own xs=>obtain ⟨a,vs,rfl,_,_,_,_,hh,r⟩:=h;exact ⟨a,vs,rfl,hh,r⟩
 case bag=>unfold Z0 at e;cases e
 case frg f d=>exact ⟨_,h.2.2⟩
 all_goals exact h
theorem DL {X:Cx}{pins:List (Addr×Obj)}{σ:St}{H:Hp}{s:Shared} (I:Inv X pins σ H s){d:D}{v:V}{u:Value}{p:PyData}(r:J2v X.K M H d v)(q:RelV v u)(h:Z0 d=some p):∃ as,Reads s.heap u p as:=by
 cases d
 case own xs =>
  obtain ⟨a,vs,rfl,hh,r⟩:=r
  unfold Z0 at h
  obtain ⟨ps,e,rfl⟩:=M6.mp h
  cases (show u=Value.ref a from q)
  obtain ⟨its,r1,⟨o,n,h1,h2,_,h3⟩,_⟩:=I.list (SqL.of hh)
  obtain ⟨as,ra⟩:=GP I xs vs its ps r r1 e
  exact ⟨a::as,.list h1 h2 h3 (by simpa using ra)⟩
 case frg f d =>
  obtain ⟨M',r⟩:=r
  exact II (M:=M') I d _ _ _ r q (by unfold Z0 at h;exact h)
 all_goals exact II I _ _ _ _ r q h
def Q3m (K:Fg)(neg:Bool):R2:=fun x y H Q=>∃ M dx dy p q,J2v K M H dx x/\J2v K M H dy y/\Z0 dx=some p/\Z0 dy=some q/\min p.depth q.depth<=60/\Q (.bl (PyData.eqv p q != neg)) H
theorem HV {X:Cx}(K:Fg)(hK:X.K=K)(hu:X.A.units+64<cLine):OpR X (compareOp .Eq) (Q3m K false):=by
 subst hK
 intro pins s σ H x y v u Q I rx ry h
 obtain ⟨M,dx,dy,p,q,r1,r2,e1,e2,hd,hq⟩:=h
 obtain ⟨as,a1⟩:=DL I r1 rx e1
 obtain ⟨bs,a2⟩:=DL I r2 ry e2
 refine SeqAt.compareEq_reads a1 a2 (Z0.lay _ _ e1) (Z0.lay _ _ e2) (by omega) ?_
 exact ⟨.bl _,H,I,rfl,by simpa using hq⟩
theorem Q3z {X:Cx}(K:Fg)(hK:X.K=K)(hu:X.A.units+64<cLine):OpR X (compareOp .NotEq) (Q3m K true):=by
 subst hK
 intro pins s σ H x y v u Q I rx ry h
 obtain ⟨M,dx,dy,p,q,r1,r2,e1,e2,hd,hq⟩:=h
 obtain ⟨as,a1⟩:=DL I r1 rx e1
 obtain ⟨bs,a2⟩:=DL I r2 ry e2
 refine SeqAt.compareNe_reads a1 a2 (Z0.lay _ _ e1) (Z0.lay _ _ e2) (by omega) ?_
 exact ⟨.bl _,H,I,rfl,by simpa using hq⟩
inductive EqG (neg:Bool)(x y:D)(P:D->Prop):Prop
 | mk (p q:PyData) (e1:Z0 x=some p) (e2:Z0 y=some q) (hd:min p.depth q.depth<=60) (h:P (.bl (PyData.eqv p q != neg))):EqG neg x y P
def V0y (neg:Bool):D->D->(D->Prop)->Prop:=fun x y P=>EqG neg x y P
theorem GW {W:Wd}{neg:Bool}:OpD W (Q3m W.K neg) (V0y neg):=by
 intro M b H x y v u P Q hs rx ry ho k
 obtain ⟨p,q,e1,e2,hd,hp⟩:=ho
 exact ⟨M,x,y,p,q,rx.g e1,ry.g e2,e1,e2,hd,k _ _ H hp (show _=_ from rfl) (Kp.refl _ _) hs.ok⟩
mutual
def Y2:Nat->D->Bool
 | _,.non=>true
 | _,.bl _=>true
 | _,.int _=>true
 | _,.str x=>PyData.strOk x
 | n+1,.tup xs=>BP n xs
 | n+1,.lst xs=>BP n xs
 | n+1,.own xs=>BP n xs
 | n,.frg _ d=>Y2 n d
 | _,_=>false
def BP:Nat->List D->Bool
 | _,[]=>true
 | n,d::ds=>Y2 n d&&BP n ds
end
mutual
theorem KP:∀ (n:Nat) (d:D),Y2 n d=true->∃ p,Z0 d=some p/\p.depth<=n/\PyData.eqv p p=true
 | n,.non,h=>⟨_,rfl,W1 _,rfl⟩
 | n,.bl b,h=>⟨_,rfl,W1 _,by simp [PyData.eqv]⟩
 | n,.int i,h=>⟨_,rfl,W1 _,by simp [PyData.eqv]⟩
 | n,.str x,h=>by
   have h:PyData.strOk x=true:=by cases n<;>simpa [Y2] using h
   exact ⟨.str x,by unfold Z0;rw [if_pos h],W1 _,by simp [PyData.eqv]⟩
 | 0,.tup xs,h=>by simp [Y2] at h
 | 0,.lst xs,h=>by simp [Y2] at h
 | 0,.own xs,h=>by simp [Y2] at h
 | n+1,.tup xs,h=>by
   obtain ⟨ps,e,hd,hq⟩:=KO n xs (by simpa [Y2] using h)
   exact ⟨.tuple ps,by unfold Z0;rw [e];rfl,by unfold PyData.depth;omega,by unfold PyData.eqv;exact hq⟩
 | n+1,.lst xs,h=>by
   obtain ⟨ps,e,hd,hq⟩:=KO n xs (by simpa [Y2] using h)
   exact ⟨.list ps,by unfold Z0;rw [e];rfl,by unfold PyData.depth;omega,by unfold PyData.eqv;exact hq⟩
 | n+1,.own xs,h=>by
   obtain ⟨ps,e,hd,hq⟩:=KO n xs (by simpa [Y2] using h)
   exact ⟨.list ps,by unfold Z0;rw [e];rfl,by unfold PyData.depth;omega,by unfold PyData.eqv;exact hq⟩
 | n,.ty _,h=>by cases n<;>simp [Y2] at h
 | n,.adr _,h=>by cases n<;>simp [Y2] at h
 | n,.bag,h=>by cases n<;>simp [Y2] at h
 | n,.frg _ d,h=>by
   obtain ⟨p,e,h1,h2⟩:=KP n d (by cases n<;>simpa [Y2] using h)
   exact ⟨p,by unfold Z0;exact e,h1,h2⟩
 | n,.scr _,h=>by cases n<;>simp [Y2] at h
 | n,.dct _ _ _,h=>by cases n<;>simp [Y2] at h
theorem KO:∀ (n:Nat) (ds:List D),BP n ds=true->∃ ps,BK ds=some ps/\PyData.depthAll ps<=n/\PyData.eqvAll ps ps=true
 | n,[],h=>⟨[],rfl,W1 _,rfl⟩
 | n,d::ds,h=>by
   unfold BP at h
   obtain ⟨h1,h2⟩:=(L1 _ _).mp h
   obtain ⟨p,e1,d1,q1⟩:=KP n d h1
   obtain ⟨ps,e2,d2,q2⟩:=KO n ds h2
   exact ⟨p::ps,by unfold BK;rw [e1,e2];rfl,by unfold PyData.depthAll;omega,by unfold PyData.eqvAll;rw [q1,q2];rfl⟩
end
theorem LP {n:Nat}:∀ {ds:List D},(∀ d∈ds,Y2 n d=true)->BP n ds=true
 | [],_=>by unfold BP;rfl
 | d::ds,h=>by
   unfold BP
   rw [h d (B8 ..),LP fun e he=>h e (L6 _ he)];rfl
def Ite (K:Fg)(l:Addr):It :=
 ⟨fun i H=>∃ ys y,SqL K H l ys/\ys[i]?=some y,
  fun i H v H'=>∃ t y,v=.ref t/\H t=none/\H'=upd H t (.tup [.int i,y])/\∀ ys,SqL K H l ys->ys[i]?=some y,
  fun i H=>∃ ys,SqL K H l ys/\ys.length<=i⟩
def ETn (e it l:Addr)(i:Nat)(h:Heap):Prop:=(∃ old,IsEnum h e it i old)/\ItAt false h it l i
theorem J0w {w:World} {elts:List Expr}{c1}{tpos:Pos}{e it l:Addr}(hne:e≠it):Turn P w K (.Tuple elts c1 tpos) (Ite K l) [e,it] e (ETn e it l) where
 mem:=by simp
 obj:=fun i h st b hb=>by
  obtain ⟨⟨old,s1⟩,d1⟩:=st
  simp only [B7,M8,W3] at hb
  rcases hb with rfl|rfl
  · exact ⟨_,s1,fun v q=>by cases q⟩
  · exact d1.obj
 keep:=fun i h h' st k=>by
  obtain ⟨⟨old,s1⟩,d1⟩:=st
  exact ⟨⟨old,k e (by simp) _ s1⟩,d1.at fun o x=>k it (by simp) o x⟩
 item:=by
  intro X hP hw hK hc i pins s σ H E I hf st hg
  subst hP hw hK
  obtain ⟨ys,y,h1,q1⟩:=hg
  obtain ⟨⟨old,s1⟩,d1⟩:=st
  obtain ⟨v1,r1,p1,_⟩:=I.list h1
  obtain ⟨u1,m1,t1⟩:=r1.get q1
  have szn:∀ b∈[e,it],b≠s.heap.objs.size:=fun b hb z=>by
   simp only [B7,M8,W3] at hb
   rcases hb with rfl|rfl
   · exact L5 _ (z▸B2 s1)
   · obtain ⟨_,w1,_⟩:=d1.obj;exact L5 _ (z▸B2 w1)
  refine wpAny_pyNext_enum_item s1 d1 p1.isList (x:=u1) (by simpa using m1) hne fun h' eo it' tp sz kp=>?_
  refine ⟨_,rfl,wpAny_letOwnedTupleGo_enum (s:={ s with heap:=h',toks:=s.toks+1 }) eo fun hq e4 sb=>?_⟩
  have up:∀ b o,b≠e->h'.get? b=some o->hq.get? b=some o:=fun b o hb x=>sb.extBut _ _ hb x
  have I2:Inv X pins σ (upd H s.heap.objs.size (.tup [.int i,y])) { s with heap:=hq,toks:=s.toks+1 }:=I.zipped (t':=s.toks+1) (fp:=[e,it]) hf (fun b o hb x=>up b o (fun z=>hb (by simp [z])) (kp b o (fun z=>hb (by simp [z])) (fun z=>hb (by simp [z])) x)) (B6 _)
   ⟨M7 (M3 rfl) AZ,[.int i s.toks,u1],.cons ⟨_,rfl⟩ (.cons t1 .nil),⟨_,up _ _ (B0c (szn e (by simp))) tp,rfl,_,rfl⟩⟩
  refine ⟨.ref s.heap.objs.size,_,I2,rfl,⟨_,y,rfl,I.hok.fresh (B6 _),rfl,fun zs hz=>by rw [I.list_inj hz h1];exact q1⟩,⟨⟨_,e4⟩,ItAt.at (b:=false) it' fun o x=>up _ o (B0c hne) x⟩,fun b hb=>?_⟩
  rw [Q9 (szn b hb)]
  exact (hf b hb).1
 done:=by
  intro X hP hw hK hc i pins s σ H E I hf st hg
  subst hP hw hK
  obtain ⟨ys,h1,q1⟩:=hg
  obtain ⟨⟨old,s1⟩,d1⟩:=st
  obtain ⟨v1,r1,p1,_⟩:=I.list h1
  have hl:=r1.length
  refine wpAny_pyNext_enum_end (I.ok.hd hc) s1 d1 p1.isList (by simp;omega) fun h' kp=>⟨rfl,?_⟩
  exact I.turnedL (t':=s.toks) (fp:=[e,it]) hf fun b o hb x=>kp b o (fun z=>hb (by simp [z])) x
 self:=fun _ _ _ _ _ st h=>by
  obtain ⟨⟨old,s1⟩,d1⟩:=st
  exact wpAny_pyIter_enum s1 h
def Q2a (K:Fg)(ta:TA):TI:=fun σ H R=>ta σ H fun vs H1=>∃ l,vs=[.ref l]/\(∃ ys,SqL K H1 l ys)/\R (Ite K l) H1
theorem J8w {X:Cx}{elts:List Expr}{c1}{tpos:Pos}(K:Fg)(hK:X.K=K){e1:Expr}{ta:TA}{p pos:Pos}(hg:Gl X "enumerate") (hm:X.mg "enumerate" = none) (ha:PA X [e1] ta)
 (hs:starEach [e1] X.env=[(false,eval e1 X.env)]:=by rfl):PI X (.Tuple elts c1 tpos) (.Call (.Name "enumerate" p) [e1] [] pos) (Q2a K ta):=by
 subst hK
 intro pins s σ H R I h
 refine Call_ (JL I hg hm SM (D8 (thn (ha pos pins s σ H _ I h) fun us s1 ⟨vs,H1,I1,r1,q1⟩=>?_) hs rfl))
 obtain ⟨l,rfl,⟨ys,h1⟩,q⟩:=q1
 cases r1 with
 | cons r rr =>
 cases rr
 cases r
 obtain ⟨v1,r1,p1,_⟩:=I1.list h1
 refine call_enumerate_list p1.isList fun h' f1 f2 f3 kp=>?_
 refine wpAny_pyIter_enum (s:={ s1 with heap:=h' }) f1 ?_
 refine ⟨s1.heap.objs.size+1,[s1.heap.objs.size+1,s1.heap.objs.size],_,_,H1,rfl,I1.kept (t':=s1.toks) kp,J0w (l:=l) (by show (_:Nat)≠_;omega),⟨⟨_,f1⟩,f2⟩,fun b hb=>?_,q⟩
 have hge:s1.heap.objs.size<=b:=by
  simp only [B7,M8,W3] at hb
  rcases hb with rfl|rfl<;>first|exact B6 _|exact Nat.le_add_right _ _
 exact I1.fpOk hge (I1.hok.fresh hge)
section
variable {X:Cx}{W:Wd}{e a b:Expr}{pos p:Pos}{d:DE}{dA:DA}{fz:Bool}{x:Str}{k:Nat}
def HG (xs:List D):List D:=xs.mapIdx fun i x=>.tup [.int i,x]
theorem UZ (xs:List D):(HG xs).all plain=true:=by
 unfold HG
 rw [T8]
 intro y hy
 obtain ⟨i,h,rfl⟩:=List.mem_mapIdx.mp hy
 rfl
def Q4w (fz:Bool)(dA:DA):DA:=fun ρ P=>dA ρ fun zs=>match zs with
 | [x]=>(asK fz false x).elim False fun xs=>P (HG xs)
 | _=>False
theorem J9y {x:D}{xs:List D}{l1:Addr}(h1:asK fz false x=some xs):JR W (Ite W.K l1) [(x,.ref l1)] (HG xs):=by
 intro M b H hs hn
 obtain ⟨⟨a1,us,e1,q1,r1⟩,_⟩:=asK.rep (hn _ (.head _)) h1
 cases e1
 have q1:SqL W.K H l1 us:=q1
 have hlen:(HG xs).length=xs.length:=by simp [HG]
 refine ⟨fun i d e=>?_,fun i hi=>⟨us,q1,by rw [r1.length,<- hlen];exact hi⟩⟩
 have hi:i<xs.length:=by rw [<- hlen];exact (M1.mp e).1
 obtain ⟨u,eu,ru⟩:=r1.get (L0 hi)
 refine ⟨⟨us,u,q1,eu⟩,fun v H3 ⟨t,y1,ev,ht,eH,k1⟩=>?_⟩
 subst ev eH
 have z1:=k1 us q1
 rw [eu] at z1;cases z1
 refine ⟨Same.upd ht,?_⟩
 have ed:d=.tup [.int i,xs[i]]:=by
  have:(HG xs)[i]?=some (.tup [.int i,xs[i]]):=by simp [HG,hi]
  rw [this] at e;exact (Option.some.inj e).symm
 subst ed
 exact GX hs ⟨.int i,[u],rfl,rfl,u,[],rfl,ru,rfl⟩ ht
theorem J5j {elts:List Expr}{c1}{tpos:Pos}(hK:X.K=W.K)(ha:JA X W [a] dA)
 (h:PI X (.Tuple elts c1 tpos) (.Call (.Name "enumerate" p) [a] [] pos) (Q2a W.K (dnA W dA))):JI X W fz (.Tuple elts c1 tpos) (.Call (.Name "enumerate" p) [a] [] pos) (Q4w fz dA):=⟨h.mono fun σ H R hh=>hh.elim fun pn M b ρ P st h k=>by
 refine ⟨pn,M,b,ρ,_,st,h,fun zs vs H1 hx rx k1 o1=>?_⟩
 match zs,hx with
 | [x],hx =>
   obtain ⟨v,rfl,r⟩:=rx1 rx
   cases e1:asK fz false x with
   | none=>simp only [e1] at hx;exact hx.elim
   | some xs =>
     simp only [e1] at hx
     obtain ⟨⟨a1,us,z1,q1,r1⟩,f1⟩:=asK.rep r e1
     subst z1
     exact ⟨a1,rfl,⟨us,q1⟩,k _ _ _ H1 hx (UZ _) (J9y e1) (fun q hq=>by
      have z:=T5.mp hq
      subst z;exact ⟨r,f1⟩) k1 o1⟩⟩
def bor:D->D
 | .own xs=>.lst xs
 | .frg _ d=>d
 | d=>d
def GC:D->Bool
 | .non=>true
 | .bl _=>true
 | .int _=>true
 | .str _=>true
 | _=>false
end
abbrev DSO:=List D->(List D->Prop)->(Addr->Prop)->Prop
def EM (K:Fg)(B:BagT)(S:DSO):Sp:=fun vs H Q E=>∃ (M:Addr->Prop) (b:Option Addr) (ds:List D) (P:List D->Prop) (Ed:Addr->Prop),S ds P Ed/\RepAs K M b H ds vs/\okB B b H/\(∀ p,b=some p->M p)/\(∀ c,M c->∃ o,H c=some o) /\
 (∀ xs a us H',P xs->H a=none->H' a=some (.lst us)->Reps K (fun c=>M c\/c=a) H' xs us->Kp b H H'->okB B b H'->Q (.ref a) H')/\∀ C H',Ed C->Kp b H H'->okB B b H'->E (.ref C) none H'
theorem EM.len {B:BagT}{S:DSO}{n:Nat}(h:∀ ds P Ed,S ds P Ed->ds.length=n):∀ vs H Q E,EM K B S vs H Q E->vs.length=n:=fun vs H Q E ⟨M,b,ds,P,Ed,hS,hr,_⟩=>by rw [hr.length];exact h _ _ _ hS
theorem V0v {B:BagT} {N:List Str}{ds:List D}{vs:List V}{H:Hp}{Q:VK}{P:List D->Prop}{d:DS}(hr:RepAs K M b H ds vs)(ho:okB B b H)(hb:∀ p,b=some p->M p)(hd:∀ c,M c->∃ o,H c=some o)(hq:∀ xs a us H',P xs->H a=none->H' a=some (.lst us)->Reps K (fun c=>M c\/c=a) H' xs us->Kp b H H'->okB B b H'->Q (.ref a) H')
 (h:d { nx:=fun _=>False,rt:=fun _=>False,ro:=P } (BE N ds)):sn ⟨K,B,H,M,b⟩ d { nx:=fun _ H'=>Q .non H',rt:=Q } (EO N vs) H :=
 ⟨[],M,b,BE N ds,{ nx:=fun _=>False,rt:=fun _=>False,ro:=P },J5x hr ho hb hd,⟨fun _ _ _ _ _ _ h=>h.elim,fun _ _ _ h=>h.elim,fun _ _ _ _ _ _ h=>h.elim,fun _ _ _ _ _ _ h=>h.elim,fun xs a us H' hp h0 _ hh r k o=>hq xs a us H' hp h0 hh r k o⟩,h⟩
section
variable {X:Cx}{W:Wd}{e a b c l:Expr}{pos p:Pos}{d de:DE}{x:Str}{k:Nat}
theorem Sta.fresh0 {pn:List (D×V)} {b:Option Addr}{H:Hp}{σ:St}{ρ:Ev}{p:Addr}(s:Sta W pn M b H σ ρ)(h:H p=none):W.H0 p=none/\¬ W.M0 p:=by
 have hbp:b≠some p:=fun z=>by
  obtain ⟨o,e⟩:=W.B.dm p H (s.ok p z)
  rw [h] at e;cases e
 refine ⟨?_,fun z=>s.toHs.new h (s.m0 p z)⟩
 cases q:W.H0 p with
 | none=>rfl
 | some o =>
   by_cases z:W.b0=some p
   · rcases s.new with y|⟨y,_⟩
     · exact absurd (y.trans z) hbp
     · rw [y] at z;cases z
   · have:=s.kp p o z q
     rw [h] at this;cases this
def Q9o (de:DE):DS:=fun F ρ=>de ρ fun x=>match x with|.own xs=>F.ro xs|_=>False
theorem J5g (he:JE X W e de):JS X W (.Return (some e) pos) (Q9o de):=⟨(GS he.h).mono fun E σ H hh=>hh.elim fun pn M b ρ F s l h=>by
 refine ⟨pn,M,b,ρ,_,s.toSta,h,fun x v H' hx rx k o=>?_⟩
 have s':=s.toSta.step k o
 cases x<;>first|exact hx.elim|skip
 case own xs =>
  obtain ⟨a,vs,rfl,m,n,n0,m0,hh,r⟩:=rx
  exact l.ro _ _ _ H' hx n0 m0 hh (Reps.avoid (fun c z=>.inl (z.elim (s'.m0 c) fun y=>by rw [y];exact m)) _ _ r) s'.kp s'.ok0⟩
theorem J8k {pn:List (D×V)} {b:Option Addr}{H:Hp}{σ:St}{ρ:Ev}{p:Addr}{E:Ends}{F:DEnds}{xs:List D}{vs:List V}(s:Sta W pn M b H σ ρ)(l:Link W pn E F)(h:H p=none)(r:Reps W.K M H xs vs)(hx:F.ro xs):E.rt (.ref p) (upd H p (.lst vs)):=by
 obtain ⟨h0,m0⟩:=s.fresh0 h
 have s':=s.step (Kp.upd (o:=HO.lst vs) h) (s.toHs.okU h)
 exact l.ro xs p vs _ hx h0 m0 Y5 (Reps.keep (fun c o _ e=>Same.upd h c o e) _ _ (Reps.avoid (fun c z=>z.elim (fun y=>.inl (s.m0 c y)) fun y=>.inr (by rw [y];exact h)) _ _ r)) s'.kp s'.ok0
mutual
def noL:D->Bool
 | .tup xs=>UK xs
 | .lst _=>false
 | .own _=>false
 | .bag=>false
 | .frg _ _=>false
 | .scr _=>false
 | .dct _ _ _=>false
 | .non=>true
 | .bl _=>true
 | .int _=>true
 | .str _=>true
 | .ty _=>true
 | .adr _=>true
def UK:List D->Bool
 | []=>true
 | d::ds=>noL d&&UK ds
end
section
variable {K:Fg}{M M':Addr->Prop}{H:Hp}
mutual
theorem Rep.unbor (k:∀ c,M c->M' c\/∃ o,H c=some o/\∀ vs,o≠.tup vs):∀ (d:D) (v:V),noL d=true->Rep K M' H d v->Rep K M H d v
 | .non,_,_,h=>h
 | .bl _,_,_,h=>h
 | .int _,_,_,h=>h
 | .str _,_,_,h=>h
 | .ty _,_,_,h=>h
 | .adr _,_,_,h=>h
 | .tup xs,v,n,h=>by
   obtain ⟨a,vs,e,z,r⟩:=h
   refine ⟨a,vs,e,z.imp (fun q=>⟨fun m=>?_,q.2⟩) id,Reps.unbor k xs vs (by unfold noL at n;exact n) r⟩
   rcases k a m with y|⟨us,y,nt⟩
   · exact q.1 y
   · rw [q.2] at y;cases y;exact nt _ rfl
 | .lst _,_,n,_=>by unfold noL at n;cases n
 | .own _,_,n,_=>by unfold noL at n;cases n
 | .bag,_,n,_=>by unfold noL at n;cases n
 | .frg _ _,_,n,_=>by unfold noL at n;cases n
 | .scr _,_,n,_=>by unfold noL at n;cases n
 | .dct _ _ _,_,n,_=>by unfold noL at n;cases n
theorem Reps.unbor (k:∀ c,M c->M' c\/∃ o,H c=some o/\∀ vs,o≠.tup vs):∀ (ds:List D) (vs:List V),UK ds=true->Reps K M' H ds vs->Reps K M H ds vs
 | [],_,_,h=>h
 | d::ds,vs,n,h=>by
   obtain ⟨v,r,e,h1,h2⟩:=h
   unfold UK at n
   obtain ⟨n1,n2⟩:=(L1 _ _).mp n
   exact ⟨v,r,e,Rep.unbor k d v n1 h1,Reps.unbor k ds r n2 h2⟩
end
end
def BorAt:List D->List V->Addr->Prop
 | .own _::ds,v::vs,c=>v=.ref c\/BorAt ds vs c
 | .frg f _::ds,_::vs,c=>c∈f.ads\/BorAt ds vs c
 | _::ds,_::vs,c=>BorAt ds vs c
 | _,_,_=>False
theorem BorAt.lst {b:Option Addr}{H:Hp}{c:Addr}:∀ (ds:List D) (vs:List V),RepXs W M b H ds vs->BorAt ds vs c->b≠some c/\∃ o,H c=some o/\∀ vs,o≠.tup vs
 | [],vs,h,q=>by cases (show vs=[] from h);exact q.elim
 | d::ds,vs,h,q=>by
   obtain ⟨v,r,rfl,h1,h2⟩:=h
   cases d
   case own xs =>
    rcases q with z|z
    · obtain ⟨a,us,e,m1,m2,m3,m4,hh,r'⟩:=h1
      rw [z] at e;cases e
      exact ⟨m2,_,hh,fun _ y=>by cases y⟩
    · exact BorAt.lst ds r h2 z
   case frg f d =>
    rcases q with z|z
    · exact ⟨(h1.1 c z).2.1,f.nt _ _ _ h1.2.1 c z⟩
    · exact BorAt.lst ds r h2 z
   all_goals exact BorAt.lst ds r h2 q
theorem RepXs.bor2 {M M':Addr->Prop}{b:Option Addr}{H:Hp}(sub:∀ c,M' c->M c):∀ (ds:List D) (vs:List V),(∀ c,BorAt ds vs c->¬ M' c)->RepXs W M b H ds vs->RepAs W.K M' b H (ds.map L2.bor) vs
 | [],_,_,h=>h
 | d::ds,vs,nb,h=>by
   obtain ⟨v,r,rfl,h1,h2⟩:=h
   have av:∀ c,M' c->M c\/H c=none:=fun c hc=>.inl (sub c hc)
   have nb2:∀ c,BorAt ds r c->¬ M' c:=fun c hc=>nb c (by cases d<;>first|exact hc|exact .inr hc)
   refine ⟨v,r,rfl,?_,RepXs.bor2 sub ds r nb2 h2⟩
   cases d
   case own xs =>
    obtain ⟨a,us,rfl,m1,m2,m3,m4,hh,r'⟩:=h1
    exact ⟨a,us,rfl,⟨nb a (.inl rfl),hh⟩,Reps.avoid av _ _ r'⟩
   case bag=>exact h1
   case frg f d =>
    have r:=Rep.avoid (M':=M') (fun c hc=>.inl ⟨sub c hc,fun m=>nb c (.inl m) hc⟩) _ _ h1.2.2
    show Q7a W.K _ b H d v
    cases d<;>first|exact r|exact r.elim
   all_goals exact Rep.avoid av _ _ h1
end
theorem HT.cat_tup0 {prog:Program}{w:World}{A:Around}{E:Value->Shared->Prop}{s:Shared}{t b:Addr}{ws:List Value}{Q:Value->Shared->Prop}(ht:IsTup s.heap t ([]:List Value).toArray)(hb:IsTup s.heap b ws.toArray)(h1:Q (.ref b) s):wpAny (model prog w) A (binaryOp .Add (.ref t) (.ref b)) Q E s:=by
 obtain ⟨⟨cls,dd,data,sl⟩,ho,hc,n,hd⟩:=id ht
 obtain ⟨⟨cls2,dd2,data2,sl2⟩,ho2,hc2,n2,hd2⟩:=id hb
 simp only at hc hd hc2 hd2
 subst hc hd hc2 hd2
 exact concat_meets ⟨_,ho,rfl⟩ ⟨_,ho2,rfl⟩ noFill_tuple_add seq_tuple_add B2q B2k (B2i _ _)
  (tuple_addW0 t b _ ws.toArray n n2 dd dd2 sl sl2 rfl) ⟨ho,ho2,h1⟩
def J3w (K:Fg):R2:=fun x y H Q=>(∃ a b ys,x=.ref a/\y=.ref b/\SqT K H a []/\SqT K H b ys/\Q (.ref b) H)\/Q1r K x y H Q
theorem NL {X:Cx}(K:Fg)(h:X.K=K):OpR X (binaryOp .Add) (J3w K):=by
 subst h
 intro pins s σ H x y v u Q I rx ry h
 rcases h with ⟨a,b,ys,rfl,rfl,ha,hb,q⟩|h
 · cases rx
   cases ry
   obtain ⟨its,r1,p1,_⟩:=I.tuple ha
   obtain ⟨its2,r2,p2,_⟩:=I.tuple hb
   cases r1
   exact HT.cat_tup0 p1 p2 ⟨.ref b,H,I,rfl,q⟩
 · exact J9d pins s σ H x y v u Q I rx ry h
def Q4h:D->D->(D->Prop)->Prop
 | .tup xs,.tup ys,P=>xs.length+ys.length<=1000/\P (.tup (xs++ys))
 | _,_,_=>False
theorem NS {W:Wd}:OpD W (J3w W.K) Q4h:=by
 intro M b H x y v u P Q hs rx ry ho k
 cases x<;>first|exact ho.elim|skip
 cases y<;>first|exact ho.elim|skip
 rename_i xs ys
 have rx0:=rx
 have ry0:=ry
 obtain ⟨a1,vs,rfl,h1,r1⟩:=rx
 obtain ⟨a2,us,rfl,h2,r2⟩:=ry
 obtain ⟨hl,hp⟩:=ho
 by_cases n1:xs=[]
 · subst n1
   cases (show vs=[] from r1)
   exact .inl ⟨a1,a2,us,rfl,rfl,h1.sq,h2.sq,k _ _ H hp ry0 (Kp.refl _ _) hs.ok⟩
 · refine .inr ⟨a1,a2,vs,us,rfl,rfl,h1.sq,h2.sq,r1.ne n1,by rw [r1.length,r2.length];exact M7 hl AZ,fun z=>?_,fun _ p hp'=>k _ _ _ hp (GX hs (Reps.append r1 r2) hp') (Kp.upd hp') (hs.okU hp')⟩
   have:ys=[]:=by
    have:=r2.length
    rw [z] at this
    exact List.length_eq_zero_iff.mp this.symm
   subst this
   rw [U9] at hp
   exact k _ _ H hp rx0 (Kp.refl _ _) hs.ok
theorem Fun.okDXO {P:Program}{w:World} {mg:Str->Option Value}{base:Heap}{CX:CXT}{x qual:Str}{st:Stmt}{f:Addr} {N ps:List Str}{k:Nat}{B:BagT}{Sd:DSO}(F:Fun K x qual st f fd)(S:FnScope N ps (J6 st))(len:∀ ds PP Ed,Sd ds PP Ed->ds.length=ps.length)
 (hbody:∀ (cdv:Value) (A:Around) (outer:List Env) (s:Shared) (H:Hp) (E:XK) (M:Addr->Prop) (bg:Option Addr) (ds:List D) (PP:List D->Prop) (Ed:Addr->Prop),Room k (A.deeper (envOfC qual (J6 st) s.heap.objs.size f cdv))->IG ⟨K,B,H,M,bg⟩ E Ed->Sd ds PP Ed ->
  ∃ d,JSs (BQ CX P w K mg base N qual (J6 st) f cdv A outer s H E) ⟨K,B,H,M,bg⟩ (CB st) d/\d { nx:=fun _=>False,rt:=fun _=>False,ro:=PP } (BE N ds)):FnOk P w K mg base CX (k+1) f fd ps (EM K B Sd) :=
 F.okX S (EM.len len) fun cdv A outer s H vs Q E hr h=>by
  obtain ⟨M,bg,ds,PP,Ed,hS,hR,ho,hb,hd,hq,hx⟩:=h
  obtain ⟨d,J,q⟩:=hbody cdv A outer s H E M bg ds PP Ed hr (fun C H' e k o=>hx C H' e k o) hS
  exact ⟨_,J.h,V0v hR ho hb hd hq q⟩
section
variable {X:Cx}{W:Wd}{e a b c l:Expr}{es:List Expr}{pos p:Pos}{dA:DA}{x:Str}{k:Nat}{ps:List Str}{S:DSO}
def Q9p (dA:DA):DS:=fun F ρ=>dA ρ fun xs=>okIt xs=true/\F.ro xs
theorem J5h {lpos:Pos}(h:JA X W es dA):JS X W (.Return (some (.List es lpos)) pos) (Q9p dA):=⟨(GS (RN h.h)).mono fun E σ H hh=>hh.elim fun pn M b ρ F s l h=>by
 refine ⟨pn,M,b,ρ,_,s.toSta,h,fun xs vs H1 hx rx k1 o1=>?_⟩
 have rr:=rx.reps _ _ (okIt.pl hx.1)
 exact ⟨by rw [rr.length];exact okIt.len hx.1,fun p hp=>J8k (s.toSta.step k1 o1) l hp rr hx.2⟩⟩
theorem J2o {pn:List (D×V)} {b:Option Addr}{H1:Hp}{σ:St}{ρ:Ev}{xs:List D}{vs:List V}{P:List D->Prop}{Q:VK}{E:XK}{Ed:Addr->Prop}(hE:IG W E Ed)(st1:Sta W pn M b H1 σ ρ)(rx:RepXs W M b H1 xs vs)(hS:S (xs.map bor) (fun ys=>UK ys=true/\P ys) Ed)
 (k:∀ ys a us H',P ys->H1 a=none->H' a=some (.lst us)->Reps W.K M H' ys us->Kp b H1 H'->okB W.B b H'->Q (.ref a) H'):EM W.K W.B S vs H1 Q E:=by
 refine ⟨fun c=>M c/\¬ BorAt xs vs c,b,xs.map bor,_,Ed,hS,RepXs.bor2 (fun c h=>h.1) _ _ (fun c h z=>z.2 h) rx,st1.ok,fun p h=>⟨st1.bagM p h,fun z=>(BorAt.lst xs vs rx z).1 h⟩,fun c hc=>st1.dom c hc.1,fun ys a us H' hp h0 hh r k2 o2=>?_,fun C H' hC k2 o2=>?_⟩
 · refine k ys a us H' hp.2 h0 hh (Reps.unbor (fun c m=>?_) _ _ hp.1 (Reps.avoid (fun c m=>.inl (.inl m)) _ _ r)) k2 o2
   by_cases z:BorAt xs vs c
   · obtain ⟨nb,us',e,nt⟩:=BorAt.lst xs vs rx z
     exact .inr ⟨us',k2 c _ nb e,nt⟩
   · exact .inl ⟨m,z⟩
 · have st2:=st1.step k2 o2
   exact hE C H' hC st2.kp st2.ok0
def Q0z (S:DSO)(Ed:Addr->Prop)(dA:DA):DE:=fun ρ P=>dA ρ fun ds=>S (ds.map bor) (fun ys=>UK ys=true/\P (.lst ys)) Ed
theorem J1w {CX:CXT}{E:XK}{Ed:Addr->Prop}(hE:IG W E Ed)(hp:FE CX X E)(G:Callee X.prog X.w X.K X.mg X.base CX x k ps (EM W.K W.B S))(hr:Room k X.A)(hg:Gl X x)(ha:JA X W (e::es) dA)(hdb:(x==("__debug__" : Str))=false:=by decide) (he:starEach (e::es) X.env=(false,eval e X.env)::starEach es X.env:=by rfl) (hpl:(backTo pos (starEach es X.env)).any (·.1)=false:=by rfl) :
 JE X W (.Call (.Name x p) (e::es) [] pos) (Q0z S Ed dA):=⟨(YZ hp G hr hg ha.h hdb he hpl).mono fun σ H Q hh=>hh.elim fun pn M b ρ P st h k=>by
 refine ⟨pn,M,b,ρ,_,st,h,fun xs vs H1 hx rx k1 o1=>?_⟩
 have st1:=st.step k1 o1
 show EM W.K W.B S (vs++[]) H1 Q E
 rw [U9]
 exact J2o (P:=fun ys=>P (.lst ys)) hE st1 rx hx fun ys a us H' hp h0 hh r k2 o2=>k _ _ H' hp ⟨a,us,rfl,⟨st1.toHs.new h0,hh⟩,r⟩ (k1.trans k2) o2⟩
end
section
theorem J3o {σ:St}{i:Nat}{v:V}(e:σ[i]?=some (some v)):σ.set i (some v)=σ:=by
 apply List.ext_getElem?
 intro n
 by_cases z:i=n
 · subst z;rw [R8,e];simp;exact (M1.mp e).1
 · rw [L4 z]
end
section
variable {prog:Program}{w:World}{A:Around}{E:Value->Shared->Prop}{s:Shared}{l:Addr}{xs:Array (Int×Tok)}
theorem MA {Q:Value->Shared->Prop}(hl:s.heap.IsTuple l (intItems xs))
 (h:∀ s₂:Shared,s₂={ s with heap:=s.heap.push { cls:=.type "tuple_iterator",data:=.fields #[.ref l,.int 0 0] } } ->
  (s₂.heap.IsTupleIter s.heap.objs.size l 0/\s₂.heap.IsTuple l (intItems xs))->(∀ b∈[s.heap.objs.size,l],b<s₂.heap.objs.size)->l≠s.heap.objs.size->Q (.ref s.heap.objs.size) s₂) :
 wpAny (model prog w) A (pyIter (.ref l)) Q E s:=by
 have hlt:l<s.heap.objs.size:=by obtain ⟨_,e,_⟩:=hl;exact B2 e
 refine wpAny_pyIter_tuple hl (h _ rfl ⟨⟨_,L8 _ rfl,rfl,rfl⟩,hl.at fun o e=>B1 _ e⟩ (fun b hb=>?_) (R9 hlt))
 show b<(s.heap.push _).objs.size
 rw [E7]
 rcases B7.mp hb with rfl|hb
 · exact W0 _
 · rcases B7.mp hb with rfl|hb
   · exact B2d hlt
   · cases hb
theorem PZ {h':Heap}(hk:∀ b o,b∉[s.heap.objs.size]->(s.heap.push { cls:=.type "tuple_iterator",data:=.fields #[.ref l,.int 0 0] }).get? b=some o->h'.get? b=some o) :
 ∀ b o,s.heap.get? b=some o->h'.get? b=some o:=fun b o e=>by
 refine hk b o (fun hm=>?_) (B1 _ e)
 rcases B7.mp hm with e1|hm
 · exact absurd (e1▸B2 e) (L5 _)
 · cases hm
theorem XL {Q:Value->Shared->Prop}(hh:A.handled=none)(hl:s.heap.IsTuple l (intItems xs))(hne:0<xs.size)
 (h:∀ v h' tk,(intItems xs)[argBest (fun i j=>decide (numAt xs i>numAt xs j)) (xs.size - 1)]?=some v->(∀ b o,s.heap.get? b=some o->h'.get? b=some o)->Q v { s with heap:=h',toks:=tk }) :
 wpAny (model prog w) A (call (.builtin "max") [.ref l]) Q E s:=by
 refine call_max_walk (MA hl fun s₂ e st hfp hlI=>?_)
 subst e
 refine ⟨_,_,_,_,_,_,_,rfl,Walks.tuple (A:=A.in1) hh _ l hlI (intItems xs),st,hfp,by simpa [intItems] using hne,CmpOf.ints_gt (numAt xs) (fun _ _=>intItems_at),fun v h' tk hP hk=>?_⟩
 exact h v h' tk (by simpa [intItems] using hP) (PZ hk)
theorem XI {Q:Value->Shared->Prop}(hh:A.handled=none)(hl:s.heap.IsTuple l (intItems xs))(hne:0<xs.size)
 (h:∀ v h' tk,(intItems xs)[argBest (fun i j=>decide (numAt xs i<numAt xs j)) (xs.size - 1)]?=some v->(∀ b o,s.heap.get? b=some o->h'.get? b=some o)->Q v { s with heap:=h',toks:=tk }) :
 wpAny (model prog w) A (call (.builtin "min") [.ref l]) Q E s:=by
 refine call_min_walk (MA hl fun s₂ e st hfp hlI=>?_)
 subst e
 refine ⟨_,_,_,_,_,_,_,rfl,Walks.tuple (A:=A.in1) hh _ l hlI (intItems xs),st,hfp,by simpa [intItems] using hne,CmpOf.ints_lt (numAt xs) (fun _ _=>intItems_at),fun v h' tk hP hk=>?_⟩
 exact h v h' tk (by simpa [intItems] using hP) (PZ hk)
end
section
variable {X:Cx}
theorem J2q (K:Fg)(hK:X.K=K)(hc:X.calm=true):BD X (.builtin "max") (fun xs H Q=>∃ (p:Addr) (ns:List Int),xs=[.ref p]/\SqT K H p (ns.map V.int)/\0<ns.length/\∀ M:Int,M∈ns->(∀ a∈ns,a<=M)->Q (.int M) H):=by
 subst hK
 intro pins s σ H xs us Q I r h
 obtain ⟨p,ns,rfl,hq,hn,q⟩:=h
 obtain ⟨u,rfl,rx⟩:=HD r
 cases rx
 obtain ⟨its,rv,pl,hz⟩:=I.tuple hq
 obtain ⟨ps,e1,e2⟩:=GZ rv
 subst e1
 have hlen:ps.length=ns.length:=by rw [<- e2,L7]
 have hl:s.heap.IsTuple p _:=pl
 rw [<- DQ] at hl
 refine XL (xs:=ps.toArray) (I.ok.hd hc) hl (by simp;omega) fun v h' tk hv k=>?_
 obtain ⟨t,e⟩:=intItems_at hv
 obtain ⟨b1,b2⟩:=argBest_gt (numAt ps.toArray) (ps.toArray.size - 1)
 subst e
 refine ⟨.int _,H,I.kept k,⟨t,rfl⟩,q _ ?_ ?_⟩
 · rw [DW,e2]
   have hj:argBest (fun i j=>decide (numAt ps.toArray i>numAt ps.toArray j)) (ps.toArray.size - 1)<ns.length:=by
    have:ps.toArray.size=ns.length:=by simp [hlen]
    omega
   rw [L0 hj]
   exact E2 hj
 · intro a ha
   obtain ⟨j,hj,rfl⟩:=List.mem_iff_getElem.mp ha
   have:=b2 j (by simp;omega)
   rw [DW ps j,e2,L0 hj] at this
   exact this
end
section
variable {W:Wd}
def Q1u (le:Int->Int->Prop):List D->(D->Prop)->Prop
 | [.tup xs],P=>(EX xs).elim False fun ns=>0<ns.length/\∀ M:Int,M∈ns->(∀ a∈ns,le a M)->P (.int M)
 | _,_=>False
theorem J0b {le:Int->Int->Prop}:EH W (fun xs H Q=>∃ (p:Addr) (ns:List Int),xs=[.ref p]/\SqT W.K H p (ns.map V.int)/\0<ns.length/\∀ M:Int,M∈ns->(∀ a∈ns,le a M)->Q (.int M) H) (Q1u le):=by
 intro M b H xs vs P Q hs rx ho k
 match xs,ho with
 | [.tup ys],ho =>
   obtain ⟨v,rfl,r⟩:=rx1 rx
   simp only [Q1u] at ho
   cases en:EX ys with
   | none=>rw [en] at ho;exact ho.elim
   | some ns =>
     rw [en] at ho
     cases EX.eq en
     obtain ⟨a,us,rfl,hh,r'⟩:=(show ∃ a vs,v=.ref a/\TpA W.K M H a vs/\Reps W.K M H _ vs from r)
     cases r'.ints
     exact ⟨a,ns,rfl,hh.sq,ho.1,fun m h1 h2=>k _ _ H (ho.2 m h1 h2) (show _=_ from rfl) (Kp.refl _ _) hs.ok⟩
end
section
variable {κ:Type} [DecidableEq κ]
def J8b (kvs:List (κ×V))(k:κ):Option V:=(kvs.find? fun kv=>decide (kv.1=k)).map (·.2)
def J8p (kvs:List (κ×V))(k:κ)(v:V):List (κ×V) :=
 if (kvs.any fun kv=>decide (kv.1=k))=true then kvs.map (fun kv=>if kv.1=k then (kv.1,v) else kv) else kvs++[(k,v)]
theorem KV.length {kvs:List (κ×V)}{vs:List (κ×Value)}(r:KV kvs vs):kvs.length=vs.length:=Paired.length r
end
def DGet (H:Hp)(a:Addr)(y:V)(r:Option V):Prop :=
 (∃ kvs k,Rd H a (.dK kvs)/\y=kV k/\r=J8b kvs k)\/∃ kvs k b,Rd H a (.dT kvs)/\y=.ref b/\H b=some (.tup (k.map kV))/\r=J8b kvs k
def DPut (H:Hp)(a:Addr)(y v:V)(H':Hp):Prop :=
 (∃ kvs k,H a=some (.dK kvs)/\y=kV k/\kvs.length<sizeLine/\H'=upd H a (.dK (J8p kvs k v))) \/
 ∃ kvs k b,H a=some (.dT kvs)/\y=.ref b/\H b=some (.tup (k.map kV))/\kvs.length<sizeLine/\H'=upd H a (.dT (J8p kvs k v))
theorem DGet.k {H:Hp}{a:Addr}{kvs:List (Key×V)}{k:Key}(e:H a=some (.dK kvs)):DGet H a (kV k) (J8b kvs k):=.inl ⟨kvs,k,.inl e,rfl,rfl⟩
theorem DGet.t {H:Hp}{a b:Addr}{kvs:List (List Key×V)}{k:List Key}(e:H a=some (.dT kvs))(eb:H b=some (.tup (k.map kV))):DGet H a (.ref b) (J8b kvs k):=.inr ⟨kvs,k,b,.inl e,rfl,eb,rfl⟩
theorem DPut.k {H:Hp}{a:Addr}{kvs:List (Key×V)}{k:Key}{v:V}(e:H a=some (.dK kvs))(hl:kvs.length<sizeLine):DPut H a (kV k) v (upd H a (.dK (J8p kvs k v))):=.inl ⟨kvs,k,e,rfl,hl,rfl⟩
theorem DPut.t {H:Hp}{a b:Addr}{kvs:List (List Key×V)}{k:List Key}{v:V}(e:H a=some (.dT kvs))(eb:H b=some (.tup (k.map kV)))(hl:kvs.length<sizeLine) :
 DPut H a (.ref b) v (upd H a (.dT (J8p kvs k v))):=.inr ⟨kvs,k,b,e,rfl,eb,hl,rfl⟩
section
variable {X:Cx}{pins:List (Addr×Obj)}{σ:St}{H:Hp}{s:Shared}{a:Addr}
theorem Inv.big (I:Inv X pins σ H s):sysModules<s.heap.objs.size:=by
 have h:mainGlobals<s.heap.objs.size:=(I.mod.glob.keeps I.bk).lt
 exact Nat.lt_trans (by decide) h
theorem Q0v {h':Heap}{t':Nat}{ob:HO}(I:Inv X pins σ H s)(mu:Mut (H a))(hs:Heap.SameBut a s.heap h')(he:∃ q,h'.get? a=some q)(new:ObjOk X.prog X.w (upd H a ob) h' a ob) :
 Inv X pins σ (upd H a ob) { s with heap:=h',toks:=t' } :=
 I.write (x:=a) (e:=a) mu (.inl rfl) (fun b q hb z=>(hs.2 b hb).trans z) he new
end
structure M2 (X:Cx)(o:Expr)(m:Str)(apos:Pos)(e f:Expr)(cpos:Pos):Prop where
 base:attributeBase o m X.env (eval o X.env)=eval o X.env
 few:((backTo cpos (starEach [e,f] X.env)).all (fun x=>!x.1)&&(backToKw cpos (keywordEach [] X.env)).all (fun x=>x.1.isSome)
  && decide (([e,f]:List Expr).length+([]:List Keyword).length+(if ([]:List Keyword).isEmpty then 0 else 1)<30))=true
 line:(apos.endLine==cpos.line)=true
 trees:backTo cpos (starEach [e,f] X.env)=[(false,eval e X.env),(false,eval f X.env)]
abbrev Ens:=List (List Int×Addr×Value)
abbrev tiK (P:Program)(w:World):=tupleKind (intKind P w)
theorem QD {w:World}:∀ {ns:List Int} {us:List Value},Vals (ns.map V.int) us->ItemsAre (intKind P w) ns us
 | [],_,h=>by cases h;exact .nil
 | n::ns,_,h=>by
   cases h with
   | cons h t =>
     obtain ⟨t',rfl⟩:=h
     exact .cons (by simp [intKind,Value.isInt]) (QD t)
def VT (K:Fg)(H:Hp)(es:Ens):Prop:=∀ e∈es,SqT K H e.2.1 (e.1.map V.int)
section
variable {X:Cx}{pins:List (Addr×Obj)}{σ:St}{H:Hp}{s:Shared}{a b:Addr}{es:Ens}{ep:Nat}{ns:List Int}
theorem Inv.tkey (I:Inv X pins σ H s)(h:SqT X.K H b (ns.map V.int)):(tiK X.prog X.w).is s.heap ns b:=by
 obtain ⟨its,r,⟨o,h1,h2,n,h3⟩,_⟩:=I.tuple h
 exact ⟨o,its.toArray,n,h1,h2,h3,QD r⟩
theorem Inv.dct (I:Inv X pins σ H s)(h:H a=some (DOb a es ep))(hk:VT X.K H es):((a==sysModules)=false/\es.length<=sizeLine)/\s.heap.DictOfH (tiK X.prog X.w) a es:=by
 obtain ⟨⟨⟨h1,h2,h3⟩,o,ds,e1,e2,e3,e4⟩,_⟩:=I.hok a _ h
 exact ⟨⟨h1,h2⟩,o,ds,ep,e1,e2,e3,e4,fun x hx=>I.tkey (hk x hx),h3⟩
theorem J7m {w:World}{H:Hp}{h:Heap}(h1:(a==sysModules)=false)(h2:es.length<=sizeLine)(h3:(es.map (·.1)).Nodup){o:Obj}{ds:Array DictEntry}(e1:h.get? a=some o)(e2:o.ExactDict)(e3:o.data=.dict ds ep)(e4:ds.toList=es.map Q9u):ObjOk P w H h a (DOb a es ep) :=
 ⟨⟨⟨h1,h2,h3⟩,o,ds,e1,e2,e3,e4⟩,⟨o,e1⟩,fun g1 g2 ⟨q,o,ds,f1,f2⟩ k=>⟨q,o,ds,k o f1,f2⟩⟩
theorem NV (es:Ens)(k:List Int)(b:Addr)(v:Value):(storedH es k b v).length<=es.length+1:=by
 unfold storedH
 split
 · rw [L7];omega
 · simp
def Q1p (K:Fg):V->V->V->Hp->(Hp->Prop)->Prop:=fun o i v H Q=>∃ a b es ep ns,o=.ref a/\i=.ref b/\H a=some (DOb a es ep)/\VT K H es/\SqT K H b (ns.map V.int)/\es.length<sizeLine/\∀ u ep',RelV v u->Q (upd H a (DOb a (storedH es ns b u) ep'))
theorem J8i (K:Fg)(hK:X.K=K)(hu:X.A.units+64<cLine):Q7c X (Q1p K):=by
 subst hK
 intro pins s σ H o i v ov iv u Q I ro ri rv h
 obtain ⟨a,b,es,ep,ns,rfl,rfl,hd,hk,hb,hl,q⟩:=h
 cases ro;cases ri
 obtain ⟨⟨h1,h2⟩,dd⟩:=I.dct hd hk
 refine wpAny_setItem_heap (hsz:=h2) (tupleKind_room_in1 (by omega)) (I.tkey hb) dd fun h' dd' hs=>?_
 obtain ⟨o,ds,ep',e1,e2,e3,e4,_,e5⟩:=dd'
 exact ⟨_,Q0v I (by rw [hd];exact True.intro) hs ⟨o,e1⟩ (J7m h1 (M7 (NV es ns b u) hl) e5 e1 e2 e3 e4),q u ep' rv⟩
def Q7r:TE:=fun _ H Q=>∀ p,H p=none->Q (.ref p) (upd H p (DOb p [] 0))
theorem J8y {pos:Pos}:PE X (.Dict [] [] pos) Q7r:=fun pins s σ H Q I h =>
 wpAny_Dict_empty ⟨.ref s.heap.objs.size,_,I.laid (a:=s.heap.objs.size) (o:=DOb s.heap.objs.size [] 0) (t':=s.toks) (fun _ _ q=>B1 _ q) (B6 _) (J7m (beq_eq_false_iff_ne.mpr (B0c (R9 I.big))) (W1 _) List.nodup_nil (L8 _ rfl) ⟨rfl,rfl,rfl⟩ rfl rfl),rfl,h _ (I.hok.fresh (B6 _))⟩
def Q3e (K:Fg)(td ty tx:TE):TE:=fun σ H Q=>td σ H fun x H1=>∃ a es ep,x=.ref a/\H1 a=some (DOb a es ep)/\VT K H1 es/\ty σ H1 fun y H2=>tx σ H2 fun z H3=>∃ b ns,y=.ref b/\H3 a=some (DOb a es ep)/\VT K H3 es/\SqT K H3 b (ns.map V.int) /\
 (atKey es ns=none->Q z H3)/\∀ p,atKey es ns=some p->∃ v,RelV v p.2/\Q v H3
theorem J4l {o e f:Expr}{apos cpos:Pos}{td ty tx:TE}(hu:X.A.units+1<cLine)(ho:PE X o td)(he:PE X e ty)(hf:PE X f tx)(m:M2 X o "get" apos e f cpos):PE X (.Call (.Attribute o "get" apos) [e,f] [] cpos) (Q3e X.K td ty tx):=by
 intro pins s σ H Q I h
 refine wpAny_Call_method m.base m.few m.line PySem.F.plainAttrs_dict PySem.F.slot_dict_get PySem.F.type_dict_get (thn (ho pins s σ H _ I h) fun u s1 hx=>?_)
 obtain ⟨x,H1,I1,rx,a,es,ep,rfl,hd,hk,q1⟩:=hx
 cases rx
 obtain ⟨_,dd1⟩:=I1.dct hd hk
 refine ⟨dd1.typeIs,dictOfH_noDict dd1,?_⟩
 rw [m.trees]
 refine Calls.callWith_builtin rfl (Calls.evalArgs_plain (Calls.spliced_cons (thn (he pins s1 σ H1 _ I1 q1) fun iv s2 hy=>?_)))
 obtain ⟨y,H2,I2,ry,q2⟩:=hy
 refine Calls.spliced_cons (thn (hf pins s2 σ H2 _ I2 q2) fun fv s3 hz=>Calls.spliced_nil ?_)
 obtain ⟨z,H3,I3,rz,b,ns,rfl,hd3,hk3,hb,qn,qs⟩:=hz
 cases ry
 obtain ⟨⟨h1,h2⟩,dd⟩:=I3.dct hd3 hk3
 refine call_meetsIn PySem.F.slot_dict_get dd.typeIs PySem.F.entry_dict_get (PySem.F.args_dict_get_3 _ _ _) (meetsH_dict_get_default (tiK X.prog X.w) a b h1 fv) ⟨tupleKind_room_in1 hu,ns,es,I3.tkey hb,dd,?_⟩
 cases hat:atKey es ns with
 | none=>exact ⟨z,H3,I3.tok _,rz,qn hat⟩
 | some p=>obtain ⟨v,rv,qv⟩:=qs p hat;exact ⟨v,H3,I3.tok _,rv,qv⟩
end
def CF:List (List Int)->List D->List Int->Option D
 | k::ks,x::xs,n=>if k=n then some x else CF ks xs n
 | _,_,_=>none
theorem OQ {e:List Int×Addr×Value}{es:Ens}{n:List Int}:atKey (e::es) n=if e.1=n then some e.2 else atKey es n:=by
 unfold atKey
 rw [List.find?_cons]
 by_cases z:e.1=n
 · simp [z]
 · simp [z]
theorem QH {H:Hp}:∀ {es:Ens} {ks:List (List Int)} {vs:List V} {xs:List D} (n:List Int),es.map (·.1)=ks->Vals vs (es.map (·.2.2))->Reps K M H xs vs ->
 match CF ks xs n with|some d=>∃ p v,atKey es n=some p/\RelV v p.2/\Rep K M H d v|none=>atKey es n=none
 | [],ks,vs,xs,n,e,hv,r=>by
   subst e
   unfold CF;rfl
 | e::es,ks,vs,[],n,ek,hv,r=>by
   rw [show vs=[] from r] at hv
   cases hv
 | e::es,ks,vs,x::xs,n,ek,hv,r=>by
   subst ek
   obtain ⟨v,vs,rfl,rx,rr⟩:=r
   rw [M5] at hv
   cases hv with
   | cons h1 h2 =>
   have ih:=QH (ks:=es.map (·.1)) (xs:=xs) n rfl h2 rr
   rw [OQ,M5]
   unfold CF
   by_cases z:e.1=n
   · rw [if_pos z,if_pos z]
     exact ⟨e.2,v,rfl,h1,rx⟩
   · rw [if_neg z,if_neg z]
     exact ih
theorem DctE.keys {H:Hp}{es:Ens}{ks:List (List Int)}{vs:List V}(h:DctE K M H es ks vs):VT K H es:=fun e m=>(h.2.1 e m).sq
theorem VG (elt:Expr)(g1:Comprehension)(target iter:Expr)(ifs:List Expr)(scope:Scope)(pos:Pos)(it acc:Value)(env:Env) :
 compTurn (.ListComp elt [g1,⟨target,iter,ifs,0⟩] scope pos) 1 it acc env=(do
  standAt iter.pos
  match <- pyNext it with
  | none=>pure (.done .next)
  | some v =>
    letOwnedTupleGo target it v
    assign target env v
    let mut ok:=true
    for c in ifs do
     if ok then ok <- isTrue c env (eval c env)
    if ok then
     (do let _ <- call (.builtin "list.append") [acc,<- eval elt env])
    again (.compLoop (.ListComp elt [g1,⟨target,iter,ifs,0⟩] scope pos) 1 it acc env)):=by rfl
theorem SD (elt target iter target' iter':Expr)(ifs:List Expr)(scope:Scope)(pos:Pos)(it acc:Value)(env:Env) :
 compTurn (.ListComp elt [⟨target,iter,[],0⟩,⟨target',iter',ifs,0⟩] scope pos) 0 it acc env=(do
  standAt iter.pos
  match <- pyNext it with
  | none=>pure (.done .next)
  | some v =>
    letOwnedTupleGo target it v
    assign target env v
    let mut ok:=true
    for c in ([]:List Expr) do
     if ok then ok <- isTrue c env (eval c env)
    if ok then
     let x <- eval iter' env
     standAt iter'.pos
     let x <- foldedSetIterable iter' env x
     let _ <- runOwn (.compStart (.ListComp elt [⟨target,iter,[],0⟩,⟨target',iter',ifs,0⟩] scope pos) 1 (<- holding [x] (pyIter x)) acc env) env
    again (.compLoop (.ListComp elt [⟨target,iter,[],0⟩,⟨target',iter',ifs,0⟩] scope pos) 0 it acc env)):=by rfl
theorem VH {prog:Program}{w:World}{A:Around}{R:Result->Shared->Prop}{s:Shared}{elt target iter:Expr}{g1:Comprehension}{ifs:List Expr}{scope:Scope}{pos:Pos}{it acc:Value}{env:Env}(J:Nat->Shared->Prop)
 (turn:∀ n s,J n s->wpAny (model prog w) A (pyNext it) (fun r s₁=>match r with
  | none=>R (.ok .next) s₁
  | some v=>wpAny (model prog w) A (letOwnedTupleGo target it v) (fun _ s₁'=>wpAny (model prog w) A (assign target env v) (fun _ s₂=>wpAny (model prog w) A (J3g ifs env) (fun ok s₃ =>
   if ok=true then wpAny (model prog w) A (eval elt env) (fun x s₄=>wpAny (model prog w) A (call (.builtin "list.append") [acc,x]) (fun _ s₅=>∃ m,m<n/\J m s₅) (notedBy (model prog w) A env fun e s'=>R (.error e) s') s₄)
    (notedBy (model prog w) A env fun e s'=>R (.error e) s') s₃
   else ∃ m,m<n/\J m s₃) (notedBy (model prog w) A env fun e s'=>R (.error e) s') s₂) (notedBy (model prog w) A env fun e s'=>R (.error e) s') s₁') (notedBy (model prog w) A env fun e s'=>R (.error e) s') s₁)
   (notedBy (model prog w) A env fun e s'=>R (.error e) s') s) (n:Nat) (h:J n s) :
 codeAny (model prog w) A (.compLoop (.ListComp elt [g1,⟨target,iter,ifs,0⟩] scope pos) 1 it acc env) R s:=by
 refine codeAny_loop rfl J (fun n s hJ=>?_) n h
 show wpAny _ _ (Sem.onRaise (compTurn (.ListComp elt [g1,⟨target,iter,ifs,0⟩] scope pos) 1 it acc env) fun x=>do noteFrame x env;theTreesLotGoes x) _ _ _
 refine wpAny_noted ?_
 rw [VG]
 refine B0 (D6 (B0 (thn (turn n s hJ) fun r s₁ h₁=>?_)))
 cases r with
 | none=>exact B5 h₁
 | some v =>
   refine B0 (thn h₁ fun _ s₁' h₁'=>B0 (thn h₁' fun _ s₂ h₂=>B0 (thn h₂ fun ok s₃ h₃=>?_)))
   cases ok with
   | true=>exact B0 (B0 (thn h₃ fun x s₄ h₄=>B0 (thn h₄ fun _ s₅ h₅=>B5 (B5 ⟨rfl,h₅⟩))))
   | false=>exact B5 ⟨rfl,h₃⟩
theorem SE {prog:Program}{w:World}{A:Around}{R:Result->Shared->Prop}{s:Shared}{elt target iter:Expr}{g1:Comprehension}{ifs:List Expr}{scope:Scope}{pos:Pos}{it acc:Value}{env:Env}
 (h0:codeAny (model prog w) A (.compLoop (.ListComp elt [g1,⟨target,iter,ifs,0⟩] scope pos) 1 it acc env) R s)
 (h:wpAny (model prog w) A (pyIter it) (fun it' s'=>codeAny (model prog w) A (.compLoop (.ListComp elt [g1,⟨target,iter,ifs,0⟩] scope pos) 1 it' acc env) R s')
  (notedBy (model prog w) A env fun x s'=>R (.error x) s') s) :
 codeAny (model prog w) A (.compStart (.ListComp elt [g1,⟨target,iter,ifs,0⟩] scope pos) 1 it acc env) R s:=by
 refine codeAny_of_tree ?_
 show wpAny _ _ ((compStart (.ListComp elt [g1,⟨target,iter,ifs,0⟩] scope pos) 1 it acc env).onRaise (fun x=>do noteFrame x env;standAt theWindowsPlace)) _ _ s
 refine wpAny_notedAt ?_
 unfold compStart
 show wpAny _ _ (ask >>= _) _ _ s
 refine B0 (wpAny_askSetting (wpAny_ite ?_))
 split
 · first
    | exact B0 (B5 (B5 (And.intro rfl h0)))
    | exact B5 (And.intro rfl h0)
 · first
    | exact B0 (B1t (B0 (D6 (B0 (U7 h (fun it' s' h'=>B5 (And.intro rfl h')) fun _ _ x=>x)))))
    | (refine B0 (B1t ?_);show wpAny _ _ (standAt iter.pos >>= _) _ _ s;exact B0 (D6 (B0 (U7 h (fun it' s' h'=>B5 (And.intro rfl h')) fun _ _ x=>x))))
theorem SF {prog:Program}{w:World}{A:Around}{R:Result->Shared->Prop}{s:Shared}{elt target iter target' iter':Expr}{ifs:List Expr}{scope:Scope}{pos:Pos}{it acc:Value}{env:Env}(J:Nat->Shared->Prop)
 (hs:∀ x,foldedSetIterable iter' env x=pure x)
 (turn:∀ n s,J n s->wpAny (model prog w) A (pyNext it) (fun r s₁=>match r with
  | none=>R (.ok .next) s₁
  | some v=>wpAny (model prog w) A (letOwnedTupleGo target it v) (fun _ s₁'=>wpAny (model prog w) A (assign target env v) (fun _ s₂=>wpAny (model prog w) A (eval iter' env) (fun x s₃=>wpAny (model prog w) A (pyIter x) (fun it' s₄ =>
   codeAny (model prog w) A (.compStart (.ListComp elt [⟨target,iter,[],0⟩,⟨target',iter',ifs,0⟩] scope pos) 1 it' acc env) (fun r s'=>r=.ok .next/\∃ m,m<n/\J m s') s₄)
    (fun _ _=>False) s₃) (fun _ _=>False) s₂) (fun _ _=>False) s₁') (fun _ _=>False) s₁)
   (fun _ _=>False) s) (n:Nat) (h:J n s) :
 codeAny (model prog w) A (.compLoop (.ListComp elt [⟨target,iter,[],0⟩,⟨target',iter',ifs,0⟩] scope pos) 0 it acc env) R s:=by
 refine codeAny_loop rfl J (fun n s hJ=>?_) n h
 show wpAny _ _ (Sem.onRaise (compTurn (.ListComp elt [⟨target,iter,[],0⟩,⟨target',iter',ifs,0⟩] scope pos) 0 it acc env) fun x=>do noteFrame x env;theTreesLotGoes x) _ _ _
 refine wpAny_noted ?_
 rw [SD]
 refine B0 (D6 (B0 (U7 (turn n s hJ) (fun r s₁ h₁=>?_) fun _ _ z=>False.elim z)))
 cases r with
 | none=>exact B5 h₁
 | some v =>
   refine B0 (U7 h₁ (fun _ s₁' h₁'=>B0 (U7 h₁' (fun _ s₂ h₂=>B0 (wpAny_tests_nil ?_)) fun _ _ z=>False.elim z)) fun _ _ z=>False.elim z)
   refine B0 (U7 h₂ (fun x s₃ h₃=>?_) fun _ _ z=>False.elim z)
   refine B0 (D6 (B0 (wpAny_of_eq (hs x) (B0 (E6 (U7 h₃ (fun it' s₄ h₄=>?_) fun _ _ z=>False.elim z))))))
   refine B0 (wpAny_runOwn (codeAny_mono h₄ fun r s' q=>?_))
   obtain ⟨rfl,q⟩:=q
   exact B5 ⟨rfl,q⟩
def QE:Nat->List (Option Nat)->Bool
 | _,[]=>true
 | n,none::m=>QE (n+1) m
 | n,some i::m=>(i==n)&&QE (n+1) m
theorem IM:∀ {m:List (Option Nat)} {n:Nat},QE n m=true->∀ j i:Nat,m[j]?=some (some i)->i=n+j
 | [],_,_,j,i,e=>by simp at e
 | none::m,n,h,0,i,e=>by simp at e
 | none::m,n,h,j+1,i,e=>by
   have:=IM (n:=n+1) h j i (by simpa using e)
   omega
 | some a::m,n,h,j,i,e=>by
   unfold QE at h
   rw [L1,B1d] at h
   cases j with
   | zero=>simp at e;omega
   | succ j =>
     have:=IM h.2 j i (by simpa using e)
     omega
def FV:List (Option Nat)->List (Option Nat)->Bool
 | [],[]=>true
 | none::m,_::n=>FV m n
 | some _::m,some _::n=>FV m n
 | _,_=>false
theorem IV:∀ {m n:List (Option Nat)},FV m n=true->m.length=n.length
 | [],[],_=>rfl
 | none::m,_::n,h=>B0b Nat.succ (IV (m:=m) (n:=n) (by unfold FV at h;exact h))
 | some _::m,some _::n,h=>B0b Nat.succ (IV (m:=m) (n:=n) (by unfold FV at h;exact h))
 | [],_::_,h=>by cases h
 | none::_,[],h=>by cases h
 | some _::_,[],h=>by cases h
 | some _::_,none::_,h=>by cases h
theorem IW:∀ {m n:List (Option Nat)},FV m n=true->∀ j i:Nat,m[j]?=some (some i)->∃ i',n[j]?=some (some i')
 | [],[],_,j,i,e=>by simp at e
 | none::m,_::n,h,0,i,e=>by simp at e
 | none::m,_::n,h,j+1,i,e=>by
   obtain ⟨i',q⟩:=IW (m:=m) (n:=n) (by unfold FV at h;exact h) j i (by simpa using e)
   exact ⟨i',by simpa using q⟩
 | some _::m,some b::n,h,0,i,e=>⟨b,rfl⟩
 | some _::m,some _::n,h,j+1,i,e=>by
   obtain ⟨i',q⟩:=IW (m:=m) (n:=n) (by unfold FV at h;exact h) j i (by simpa using e)
   exact ⟨i',by simpa using q⟩
 | [],_::_,h,_,_,_=>by cases h
 | none::_,[],h,_,_,_=>by cases h
 | some _::_,[],h,_,_,_=>by cases h
 | some _::_,none::_,h,_,_,_=>by cases h
theorem ON {σ:St}{map:List (Option Nat)}{j:Nat}{v:V}(e:(capt σ map)[j]?=some (some v)):∃ i,map[j]?=some (some i)/\σ[i]?=some (some v):=by
 unfold capt at e
 rw [M9] at e
 cases hm:map[j]? with
 | none=>rw [hm] at e;cases e
 | some o =>
   rw [hm] at e
   cases o with
   | none=>simp at e
   | some i =>
     refine ⟨i,rfl,?_⟩
     have e':(σ[i]?).join=some v:=by simpa using e
     cases q:σ[i]? with
     | none=>rw [q] at e';cases e'
     | some o'=>rw [q] at e';exact B0b some e'
theorem Q1h {σ:St}{map:List (Option Nat)}{j i:Nat}{v:V}(hm:map[j]?=some (some i))(e:σ[i]?=some (some v)):(capt σ map)[j]?=some (some v):=by
 unfold capt
 rw [M9,hm]
 simp [e]
structure DOk (X:Cx)(P0:List (Addr×Obj))(D:Addr):Prop where
 loc:D≠X.env.locals
 fs:D∉X.fs
 cell:∀ x c,X.env.cells.lookup x=some c->c≠D
 sz:X.s₀.heap.objs.size<=D
 pn:∀ p∈X.pn++P0,p.1≠D
abbrev PF (its:List Value)(k:Nat):Obj:={ cls:=.type "list",data:=.seq (List.toArray its) k }
theorem J1z {X:Cx}{P0:List (Addr×Obj)}{σ:St}{map:List (Option Nat)}{H1:Hp}{s:Shared}{D:Addr}{acc0:List V}{its0:List Value}{k0:Nat}{tg elt iter:Expr}{g1:Comprehension}{ifs:List Expr}{scope:Scope}{pos:Pos}{fp:List Addr}{it:Addr}{tn:Nat->Heap->Prop}{J:It}{g:TG}{tt:TT}{te:TE}{W:Nat->Nat->List V->Hp->Prop}{m0:Nat}{Fin:List V->Hp->Prop}
 (calm:X.calm=true) (d:DOk X P0 D) (I:Inv X P0 (capt σ map) H1 s) (hD:H1 D=none) (oD:s.heap.get? D=some (PF its0 k0)) (rv:Vals acc0 its0)
 (T:Turn X.prog X.w X.K tg J fp it tn) (st:tn 0 s.heap) (hf:∀ b∈fp,HC X P0 H1 b) (nD:∀ b∈fp,b≠D)
 (pg:PG X tg g) (pif:PIf X ifs tt) (pel:PE X elt te) (nx:X.xe=fun _ _=>False) (keep:IF g map) (w0:W 0 m0 acc0 H1) (ht:MF J g tt te (capt σ map) Fin W) :
 codeAny (model X.prog X.w) X.A (.compLoop (.ListComp elt [g1,⟨tg,iter,ifs,0⟩] scope pos) 1 (.ref it) (.ref D) X.env) (fun r s'=>r=.ok .next/\∃ acc its k H',Inv X P0 (capt σ map) H' s'/\H' D=none/\s'.heap.get? D=some (PF its k)/\Vals acc its/\Fin acc H') s:=by
 refine VH (fun n s'=>∃ i acc H' its k,Inv X P0 (capt σ map) H' s'/\tn i s'.heap/\(∀ b∈fp,H' b=none)/\H' D=none/\s'.heap.get? D=some (PF its k)/\Vals acc its/\W i n acc H') ?_ m0 ⟨0,acc0,H1,its0,k0,I,st,fun b hb=>(hf b hb).1,hD,oD,rv,w0⟩
 rintro n s5 ⟨i,acc,H5,its,k,I5,st5,fr5,hD5,oD5,rv5,w5⟩
 have pinD:Inv X ((D,PF its k)::P0) (capt σ map) H5 s5:=I5.pins_of fun p hp=>by
  rcases B7.mp hp with e|e
  · subst e;exact ⟨oD5,hD5,d.loc,d.fs,fun v z=>by cases z⟩
  · exact I5.pin p (B3 _ e)
 have f4:∀ {H':Hp},(∀ b∈fp,H' b=none)->∀ b∈fp,HC X ((D,PF its k)::P0) H' b:=fun {H'} hn b hb=>by
  obtain ⟨_,f1,f2,f3,f4,f5⟩:=hf b hb
  refine ⟨hn b hb,f1,f2,f3,f4,fun p hp=>?_⟩
  rcases U0.mp hp with z|z
  · exact f5 p (R7 _ z)
  · rcases B7.mp z with e|e
    · rw [e];exact (nD b hb).symm
    · exact f5 p (B3 _ e)
 have err:∀ {Z:Prop} e s',X.xe e s'->Z:=fun {Z} e s' z=>by rw [nx] at z;exact z.elim
 rcases ht i n acc H5 w5 with ⟨stop,hsz,fin⟩|⟨go,hsz,NN,hNN,step⟩
 · refine thn (T.done X rfl rfl rfl calm i _ s5 (capt σ map) H5 _ pinD (f4 fr5) st5 stop) fun r s6 ⟨hr,I6⟩=>?_
   subst hr
   have pD:=I6.pin (D,PF its k) (B3 _ B8)
   exact ⟨rfl,acc,its,k,H5,I6.pins_of (fun p hp=>I6.pin p (B3 _ (L6 _ hp))),pD.2.1,pD.1,rv5,fin⟩
 · refine thn (T.item X rfl rfl rfl calm i _ s5 (capt σ map) H5 _ pinD (f4 fr5) st5 go) fun r s6 ⟨u,hr,h6⟩=>?_
   subst hr
   refine thn h6 fun _ s7 ⟨x,H7,I7,r7,y7,st7,fr7⟩=>?_
   have I7':=I7.pinned (f4 fr7) (T.obj _ _ st7)
   have stp:=keep _ _ _ _ (step x H7 y7)
   refine U7 (pg _ s7 (capt σ map) H7 x u _ I7' r7 stp) (fun _ s8 ⟨σ8,H8,I8,⟨kl,k8⟩,q8⟩=>?_) fun e s' z=>err e s' z
   refine U7 (pif _ s8 σ8 H8 _ I8 q8) (fun b s9 ⟨H9,I9,q9⟩=>?_) fun e s' z=>err e s' z
   have wk:∀ {σa:St} {Ha:Hp} {sa:Shared},σa=σ8->Inv X (((D,PF its k)::P0)++GT fp s7.heap) σa Ha sa ->
    Inv X P0 (capt σ map) Ha sa/\tn (i+1) sa.heap/\(∀ b∈fp,Ha b=none)/\Ha D=none/\sa.heap.get? D=some (PF its k):=fun {σa Ha sa} ea Ia=>by
    subst ea
    refine ⟨(Ia.pins_of (pins':=P0) fun p hp=>Ia.pin p (B3 _ (R7 _ (L6 _ hp)))).weak kl.symm fun j v e=>?_,T.keep _ _ _ st7 fun b hb o e=>(Ia.pin (b,o) (B3 _ (B3 _ (BM hb e)))).1,fun b hb=>?_,?_,?_⟩
    · obtain ⟨i',hm,_⟩:=ON e
      rw [k8 j i' hm];exact e
    · obtain ⟨o,e,d⟩:=T.obj _ _ st7 b hb
      exact (Ia.pin (b,o) (B3 _ (B3 _ (BM hb e)))).2.1
    · exact (Ia.pin (D,PF its k) (B3 _ (R7 _ B8))).2.1
    · exact (Ia.pin (D,PF its k) (B3 _ (R7 _ B8))).1
   cases b with
   | false =>
     rw [if_neg B9] at q9 ⊢
     obtain ⟨m',hm',w9⟩:=hNN _ _ q9
     obtain ⟨a1,a2,a3,a4,a5⟩:=wk rfl I9
     exact ⟨m',hm',i+1,acc,H9,its,k,a1,a2,a3,a4,a5,rv5,w9⟩
   | true =>
     rw [if_pos rfl] at q9 ⊢
     refine U7 (pel _ s9 σ8 H9 _ I9 q9) (fun v s10 ⟨y,H10,I10,r10,q10⟩=>?_) fun e s' z=>err e s' z
     obtain ⟨m',hm',w10⟩:=hNN _ _ q10
     obtain ⟨a1,a2,a3,a4,a5⟩:=wk rfl I10
     have hl:=rv5.length
     refine wpAny_list_append_plain (items:=List.toArray its) ⟨k,a5⟩ (fun h11 pl11 sb11=>?_) (by simp only [L9];omega)
     obtain ⟨k',e11⟩:=pl11
     refine ⟨m',hm',i+1,acc++[y],H10,its++[v],k',a1.turned (t':=s10.toks) (it:=D) (fun b o hb e=>(sb11.2 b hb).trans e) a4 d.loc (.inr d.sz) d.cell d.pn,T.keep _ _ _ a2 fun b hb o e=>(sb11.2 b (nD b hb)).trans e,a3,a4,?_,rv5.append (.cons r10 .nil),w10⟩
     rw [e11,List.push_toArray]
structure Blk2 (X:Cx)(N':List Str)(scope:Scope)(map mp2:List (Option Nat))(tg tg2 iter2 elt:Expr)(ifs:List Expr)(g:TG)(wi2:TI)(g2:TG)(tt:TT)(te:TE):Prop where
 calm:X.calm=true
 kind:scope.kind=.function
 loc:∀ x∈scope.names,x.2=.local->scope.names.lookup x.1=some .local
 free:(scope.names.all fun p=>!(p.2==NameKind.free)||(X.env.kindOf p.1==some .cell||X.env.kindOf p.1==some .free))=true
 cap:CapOk X scope map N'
 keep:IF g map
 keep2:IF g2 mp2
 ids:QE 0 mp2=true
 sub:FV map mp2=true
 fold:∀ env x,foldedSetIterable iter2 env x=pure x
 run:∀ cells C fp s H,PG (Q3 X N' scope cells C fp s H).nox tg g/\PI (Q3 X N' scope cells C fp s H).nox tg2 iter2 wi2/\PG (Q3 X N' scope cells C fp s H).nox tg2 g2/\PIf (Q3 X N' scope cells C fp s H).nox ifs tt/\PE (Q3 X N' scope cells C fp s H).nox elt te
def SQ (J:It)(g:TG)(mp2:List (Option Nat))(wi2:TI)(g2:TG)(tt:TT)(te:TE)(σc:St)(Fin:List V->Hp->Prop)(W:Nat->Nat->List V->Hp->Prop):Prop :=
 ∀ i m acc H2,W i m acc H2->(J.stop i H2/\acc.length<=sizeLine/\Fin acc H2) \/
  (J.go i H2/\∃ N:List V->Hp->Prop,(∀ acc' H',N acc' H'->∃ m',m'<m/\W (i+1) m' acc' H')/\∀ x H3,J.yld i H2 x H3->g x σc H3 fun σ4 H4=>wi2 σ4 H4 fun J2 H5=>∃ W2:Nat->Nat->List V->Hp->Prop,(∃ m,W2 0 m acc H5)/\MF J2 g2 tt te (capt σ4 mp2) N W2)
section
variable {X:Cx}{elt iter tg tg2 iter2:Expr}{ifs:List Expr}{scope:Scope}{pos:Pos}{N':List Str}{map mp2:List (Option Nat)}{wi wi2:TI}{g g2:TG}{tt:TT}{te:TE}
theorem Blk2.one (B:Blk2 X N' scope map mp2 tg tg2 iter2 elt ifs g wi2 g2 tt te):Blk X N' scope map tg elt ifs (fun _ _ _ _=>False) (fun _ _ _=>False) (fun _ _ _=>False) :=
 ⟨B.calm,B.kind,B.loc,B.free,B.cap,fun _ _ _ _ z=>z.elim,fun _ _ _ _ _ _=>⟨fun _ _ _ _ _ _ _ _ _ z=>z.elim,fun _ _ _ _ _ _ z=>z.elim,fun _ _ _ _ _ _ z=>z.elim⟩⟩
theorem VP {pins:List (Addr×Obj)}{σ:St}{H1:Hp}{s2:Shared}{cl:List (Str×Addr)}{fp:List Addr}{it:Addr}{tn:Nat->Heap->Prop}{J:It}{E:Value->Shared->Prop}(I:Inv X pins σ H1 s2)(B:Blk2 X N' scope map mp2 tg tg2 iter2 elt ifs g wi2 g2 tt te)
 (hsub:∀ x c,cl.lookup x=some c->X.env.cells.lookup x=some c) (hhas:∀ x,(x,NameKind.free)∈scope.names->(cl.lookup x).isSome=true)
 (T:Turn X.prog X.w X.K tg J fp it tn) (st:tn 0 s2.heap) (hf:∀ b∈fp,HC X pins H1 b) {Fin:List V->Hp->Prop} {W:Nat->Nat->List V->Hp->Prop} {m0:Nat} (w0:W 0 m0 [] H1) (ht:SQ J g mp2 wi2 g2 tt te (capt σ map) Fin W)
 {RR:Value->Addr->Result->Shared->Prop}
 (hOk:∀ D C acc H' s' m,Inv X pins σ (upd H' D (.lst acc)) s'->H' D=none->s'.heap.Ns C m->upd H' D (.lst acc) C=none->C≠X.env.locals->X.s₀.heap.objs.size<=C->(∀ x c,X.env.cells.lookup x=some c->c≠C)->(∀ p∈X.pn++pins,p.1≠C)->Fin acc H'->RR (.ref D) C (.ok .next) s') :
 wpAny (model X.prog X.w) X.A (newList []) (fun acc s3=>wpAny (model X.prog X.w) X.A (newFunctionEnv scope X.env.globals cl [] X.env.qual none .none (some X.env)) (fun cenv s4 =>
  codeAny (model X.prog X.w) X.A (.compStart (.ListComp elt [⟨tg,iter,[],0⟩,⟨tg2,iter2,ifs,0⟩] scope pos) 0 (.ref it) acc { cenv with scope:=relabel scope X.env }) (RR acc cenv.locals) s4) E s3) E s2:=by
 have fo:∀ b∈fp,∃ o,s2.heap.get? b=some o:=fun b hb=>by obtain ⟨o,e,_⟩:=T.obj 0 _ st b hb;exact ⟨o,e⟩
 refine W9 ?_
 generalize hH2:s2.heap.push { cls:=.type "list",dict:=none,data:=.seq ([]:List Value).toArray }=H2
 have szD:H2.objs.size=s2.heap.objs.size+1:=by rw [<- hH2,E7]
 have kD:∀ b o,s2.heap.get? b=some o->H2.get? b=some o:=fun b o e=>hH2▸B1 _ e
 simp only [newFunctionEnv,Option.isSome_some,if_true]
 refine B0 (wpAny_alloc ?_)
 refine B0 (wpAny_layCells _ (fun name kind cells=>by cases hkc:kind==NameKind.cell<;>simp [hkc]) _ _ _ _ ?_)
 dsimp only
 generalize hH3:H2.push { cls:=.type "dict",dict:=none,data:=.dict #[] }=h3
 have sz3:h3.objs.size=H2.objs.size+1:=by rw [<- hH3,E7]
 have kC:∀ b o,H2.get? b=some o->h3.get? b=some o:=fun b o e=>hH3▸B1 _ e
 have nsC:h3.Ns H2.objs.size fun _=>none:=hH3▸Heap.Ns.new H2 (.type "dict")
 refine B0 (B5 (B5 ?_))
 show codeAny _ _ (.compStart (.ListComp elt [⟨tg,iter,[],0⟩,⟨tg2,iter2,ifs,0⟩] scope pos) 0 (.ref it) (.ref s2.heap.objs.size) (compEnvC scope (cellsFrom h3.objs.size scope.names cl) H2.objs.size X.env)) _ _
 generalize hX':(Q3 X N' scope (cellsFrom h3.objs.size scope.names cl) H2.objs.size fp s2 H1).nox=X'
 have I4:Inv X' [] (capt σ map) H1 { s2 with heap:=pushCells h3 scope.names }:=hX'▸(J0g I B.one.m hsub hhas hf fo H2.objs.size h3 (by rw [szD];exact Nat.le_succ _) (fun b o e=>kC b o (kD b o e)) (by rw [sz3];exact W0 _) nsC s2.toks).wish _
 obtain ⟨pg,pi2,pg2,pif,pel⟩:=B.run (cellsFrom h3.objs.size scope.names cl) H2.objs.size fp s2 H1
 rw [hX'] at pg pi2 pg2 pif pel
 have eprog:X'.prog=X.prog:=by rw [<- hX'];rfl
 have ew:X'.w=X.w:=by rw [<- hX'];rfl
 have eK:X'.K=X.K:=by rw [<- hX'];rfl
 have eA:X'.A=X.A:=by rw [<- hX'];rfl
 have ecalm:X'.calm=true:=by rw [<- hX'];exact B.calm
 have eenv:X'.env=compEnvC scope (cellsFrom h3.objs.size scope.names cl) H2.objs.size X.env:=by rw [<- hX'];rfl
 have exe:X'.xe=fun _ _=>False:=by rw [<- hX']
 have es0:X'.s₀=s2:=by rw [<- hX'];rfl
 have eH0:X'.H₀=H1:=by rw [<- hX'];rfl
 have eex:X'.ex=fp:=by rw [<- hX'];rfl
 have efs:X'.fs=frs X.stack:=by rw [<- hX'];rfl
 have epn:X'.pn=[]:=by rw [<- hX'];rfl
 have eL:X'.env.locals=H2.objs.size:=by rw [eenv];rfl
 generalize hDd:s2.heap.objs.size=D at *
 have fD:∀ b∈fp,b≠D:=fun b hb=>by obtain ⟨o,e⟩:=fo b hb;exact R9 (hDd▸B2 e)
 have nfsD:D∉X'.fs:=fun hb=>by
  rw [efs] at hb
  have h1:=I.stkSub D hb
  rcases B7.mp h1 with z|z
  · have:=I.lt;rw [hDd,<- z] at this;exact L5 _ this
  · exact I.nofs (by rw [hDd];exact B6 _) z
 have ncD:∀ x c,X'.env.cells.lookup x=some c->c≠D:=fun x c e z=>by
  rw [eenv] at e
  rcases VL _ _ _ x c e with q|q
  · obtain ⟨v,o,ho,_⟩:=I.cell x c (hsub x c q)
    have:=B2 ho
    rw [hDd,z] at this
    exact L5 _ this
  · rw [z,sz3,szD] at q
    exact absurd (L3 (B2d (W0 D)) q) (L5 _)
 have f4:∀ {H':Hp} {pl:List (Addr×Obj)},(∀ b∈fp,H' b=none)->(∀ p∈pl,p.1=D)->∀ b∈fp,HC X' pl H' b:=fun {H' pl} hn hpl b hb=>by
  have q:=hf b hb
  refine ⟨hn b hb,?_,?_,.inl (by rw [eex];exact hb),fun x c e=>?_,fun p hp=>?_⟩
  · rw [eL]
    obtain ⟨o,e⟩:=fo b hb
    have:=B2 e
    rw [hDd] at this
    intro z
    rw [z,szD] at this
    exact absurd (E3 this) (L5 _)
  · have:=I4.ok.exfs b (by rw [eex];exact hb)
    exact this
  · exact (I4.ok.exf b (by rw [eex];exact hb)).2 x c e
  · rw [epn] at hp
    have hp:p∈pl:=by simpa using hp
    rw [hpl p hp]
    exact (fD b hb).symm
 have noCell:∀ {its:Array Value} {n:Nat} (v:Option Value),({ cls:=.type "list",data:=.seq its n }:Obj).data≠.cell v:=fun v z=>by cases z
 have hD4:(pushCells h3 scope.names).get? D=some { cls:=.type "list",data:=.seq ([]:List Value).toArray 0 }:=B0g _ _ _ _ (kC _ _ (by rw [<- hH2,<- hDd];exact L8 _ rfl))
 have loop:codeAny (model X.prog X.w) X.A (.compLoop (.ListComp elt [⟨tg,iter,[],0⟩,⟨tg2,iter2,ifs,0⟩] scope pos) 0 (.ref it) (.ref D) (compEnvC scope (cellsFrom h3.objs.size scope.names cl) H2.objs.size X.env)) (RR (.ref D) H2.objs.size) { s2 with heap:=pushCells h3 scope.names }:=by
  refine SF (fun n s'=>∃ i acc H' its k,Inv X' [] (capt σ map) H' s'/\tn i s'.heap/\(∀ b∈fp,H' b=none)/\H' D=none/\s'.heap.get? D=some { cls:=.type "list",data:=.seq (List.toArray its) k }/\Vals acc its/\W i n acc H') (B.fold _) ?_ m0
   ⟨0,[],H1,[],0,I4,T.keep _ _ _ st fun b hb o e=>B0g _ _ _ _ (kC _ _ (kD _ _ e)),fun b hb=>(hf b hb).1,I.hok.fresh (by rw [hDd];exact B6 _),hD4,.nil,w0⟩
  rintro n s5 ⟨i,acc,H5,its,k,I5,st5,fr5,hD5,oD5,rv5,w5⟩
  have pinD:Inv X' [(D,{ cls:=.type "list",data:=.seq (List.toArray its) k })] (capt σ map) H5 s5:=I5.pins_of fun p hp=>by
   have e:p=(D,{ cls:=.type "list",data:=.seq (List.toArray its) k }):=by simpa using hp
   subst e
   refine ⟨oD5,hD5,?_,nfsD,fun v=>noCell v⟩
   rw [eL,szD]
   exact R9 (W0 _)
  have plD:∀ p∈[(D,({ cls:=.type "list",data:=.seq (List.toArray its) k }:Obj))],p.1=D:=fun p hp=>by
   have e:p=(D,{ cls:=.type "list",data:=.seq (List.toArray its) k }):=by simpa using hp
   rw [e]
  have err:∀ {Z:Prop} e s',X'.xe e s'->Z:=fun {Z} e s' z=>by rw [exe] at z;exact z.elim
  rcases ht i n acc H5 w5 with ⟨stop,hsz,fin⟩|⟨go,NN,hNN,step⟩
  · have dn:=T.done X' eprog ew eK ecalm i _ s5 (capt σ map) H5 (fun _ _=>False) pinD (f4 fr5 plD) st5 stop
    rw [eA] at dn
    refine thn dn fun r s6 ⟨hr,I6⟩=>?_
    subst hr
    obtain ⟨oD6,hD6,_⟩:=I6.pin (D,_) (by rw [epn];exact B8)
    obtain ⟨m,nsm,_⟩:=I6.loc
    rw [eL] at nsm
    have un:=I6.base
    rw [efs,eex,eH0,es0] at un
    have hok:=I6.hok
    rw [eprog,ew] at hok
    have os6:=I6.os
    rw [es0] at os6
    have fC:H5 H2.objs.size=none:=by rw [<- eL];exact I6.free
    have nDC:H2.objs.size≠D:=by rw [szD];exact B0r (W0 _)
    refine hOk D H2.objs.size acc H5 s6 m (I.call' (ch:=fp) os6 ?_ ?_ I6.bare fun b hb=>?_) hD5 nsm (by rw [Q9 nDC];exact fC) ?_ ?_ ?_ ?_ fin
    · refine ⟨un.keep,un.slot,fun b o e n hx=>?_,un.there,fun b xs e=>?_,fun b o u e=>?_,fun b ps e=>?_⟩
      · rw [Q9 (R9 (hDd▸B2 e))]
        exact un.free b o e n hx
      · have:=un.tups b xs e
        rw [Q9 (V2 this hD5)]
        exact this
      · have:=un.frzs b o u e
        rw [Q9 (V2 this hD5)]
        exact this
      · obtain ⟨more,this⟩:=un.tbls b ps e
        exact ⟨more,by rw [Q9 (V2 this hD5)];exact this⟩
    · intro b o e
      by_cases hb:b=D
      · subst hb
        rw [Y5] at e
        cases e
        exact ⟨hsz,its,k,rv5,oD6⟩
      · rw [Q9 hb] at e
        exact (hok b o e).stay (fun _ _ _ q=>q) (fun c q=>by rw [Q9 (V2 q hD5)];exact q) fun c xs q=>by rw [Q9 (V2 q hD5)];exact q
    · obtain ⟨f0,f1,f2,f3,f4',f5⟩:=hf b hb
      exact ⟨f3,f1,f4',f5⟩
    · have:=I.lt
      rw [hDd] at this
      intro z
      rw [<- z,szD] at this
      exact absurd (E3 this) (L5 _)
    · have:=I.sz
      rw [hDd] at this
      omega
    · intro x c e z
      obtain ⟨v,o,ho,_⟩:=I.cell x c e
      have:=B2 ho
      rw [hDd,z,szD] at this
      exact absurd (E3 this) (L5 _)
    · intro p hp z
      have:=B2 (I.pin p hp).1
      rw [hDd,z,szD] at this
      exact absurd (E3 this) (L5 _)
  · have im:=T.item X' eprog ew eK ecalm i _ s5 (capt σ map) H5 (fun _ _=>False) pinD (f4 fr5 plD) st5 go
    rw [eA] at im
    refine thn im fun r s6 ⟨u,hr,h6⟩=>?_
    subst hr
    refine thn h6 fun _ s7 ⟨x,H7,I7,r7,y7,st7,fr7⟩=>?_
    have I7':=I7.pinned (f4 fr7 plD) (T.obj _ _ st7)
    have stp:=B.keep _ _ _ _ (step x H7 y7)
    have pgx:=pg _ s7 (capt σ map) H7 x u _ I7' r7 stp
    rw [eprog,ew,eA,eenv] at pgx
    refine U7 pgx (fun _ s8 ⟨σ8,H8,I8,⟨kl,k8⟩,q8⟩=>?_) fun e s' z=>err e s' z
    have pix:=pi2 _ s8 σ8 H8 _ I8 q8
    rw [eprog,ew,eA,eenv] at pix
    refine U7 pix (fun v s9 h9=>U7 h9 (fun itv s10 h10=>?_) fun e s' z=>err e s' z) fun e s' z=>err e s' z
    obtain ⟨it2,fp2,tn2,J2,H10,e,I10,T2,st10,f10,W2,⟨m2,w10⟩,tr2⟩:=h10
    subst e
    have pD10:=I10.pin (D,{ cls:=.type "list",data:=.seq (List.toArray its) k }) (B3 _ (R7 _ B8))
    have dk:DOk X' (GT fp s7.heap) D:=⟨by rw [eL,szD];exact R9 (W0 _),nfsD,ncD,by rw [es0,hDd];exact B6 _,fun p hp=>by
     rw [epn] at hp
     exact fD p.1 (QA (by simpa using hp)).1⟩
    have len8:(capt σ8 mp2).length=σ8.length:=by
     have h1:=IV B.sub
     have h2:(capt σ map).length=map.length:=by unfold capt;rw [L7]
     have h3:(capt σ8 mp2).length=mp2.length:=by unfold capt;rw [L7]
     omega
    have I11:Inv X' (GT fp s7.heap) (capt σ8 mp2) H10 s10:=(I10.pins_of (pins':=GT fp s7.heap) fun p hp=>I10.pin p (B3 _ (B3 _ hp))).weak len8 fun j v e=>by
     obtain ⟨i',hm,e'⟩:=ON e
     have:i'=j:=by have:=IM B.ids j i' hm;omega
     rw [<- this];exact e'
    have run:=J1z (g1:=⟨tg,iter,[],0⟩) (iter:=iter2) (scope:=scope) (pos:=pos) (X:=X') (σ:=σ8) (map:=mp2) (by rw [ecalm]) dk I11 pD10.2.1 pD10.1 rv5 T2 st10 (fun b hb=>by
     obtain ⟨z0,z1,z2,z3,z4,z5⟩:=f10 b hb
     exact ⟨z0,z1,z2,z3,z4,fun p hp=>(U0.mp hp).elim (fun q=>z5 p (R7 _ q)) fun q=>z5 p (B3 _ (B3 _ q))⟩) (fun b hb=>by
     obtain ⟨z0,z1,z2,z3,z4,z5⟩:=f10 b hb
     exact (z5 (D,{ cls:=.type "list",data:=.seq (List.toArray its) k }) (B3 _ (R7 _ B8))).symm) pg2 pif pel exe B.keep2 w10 tr2
    rw [eprog,ew,eA,eenv] at run
    have run':=codeAny_mono (R':=fun r s'=>r=.ok .next/\∃ m,m<n/\∃ i acc H' its k,Inv X' [] (capt σ map) H' s'/\tn i s'.heap/\(∀ b∈fp,H' b=none)/\H' D=none/\s'.heap.get? D=some { cls:=.type "list",data:=.seq (List.toArray its) k }/\Vals acc its/\W i m acc H') run fun r s' q=>by
     obtain ⟨rfl,acc',its',k',H',I',hD',oD',rv',nn⟩:=q
     obtain ⟨m',hm',w'⟩:=hNN _ _ nn
     refine ⟨rfl,m',hm',i+1,acc',H',its',k',(I'.pins_of (pins':=[]) fun p hp=>absurd hp (by simp)).weak (by rw [len8,kl]) fun j v e=>?_,T.keep _ _ _ st7 fun b hb o e=>(I'.pin (b,o) (B3 _ (BM hb e))).1,fun b hb=>?_,hD',oD',rv',w'⟩
     · obtain ⟨i',hm,_⟩:=ON e
       obtain ⟨i2,hm2⟩:=IW B.sub j i' hm
       have:i2=j:=by have:=IM B.ids j i2 hm2;omega
       subst this
       exact Q1h hm2 (by rw [k8 _ i' hm];exact e)
     · obtain ⟨o,e,d⟩:=T.obj _ _ st7 b hb
       exact (I'.pin (b,o) (B3 _ (BM hb e))).2.1
    have sf:=fun Q E=>T2.self X'.A 0 s10 Q E st10
    rw [eprog,ew,eA] at sf
    exact SE run' (sf _ _ run')
 exact codeAny_compStart_list loop (T.self _ 0 _ _ _ (T.keep _ _ _ st fun b hb o e=>B0g _ _ _ _ (kC _ _ (kD _ _ e))) loop)
theorem Blk2.clos {pins:List (Addr×Obj)}{σ:St}{H:Hp}{s:Shared}(B:Blk2 X N' scope map mp2 tg tg2 iter2 elt ifs g wi2 g2 tt te)(I:Inv X pins σ H s) :
 ∃ cl,closureFor scope X.env=pure cl/\(∀ x c,cl.lookup x=some c->X.env.cells.lookup x=some c)/\∀ x,(x,NameKind.free)∈scope.names->(cl.lookup x).isSome=true:=B.one.clos I
def Q3f (wi:TI)(map mp2:List (Option Nat))(g:TG)(wi2:TI)(g2:TG)(tt:TT)(te:TE):TE:=fun σ H Q=>wi σ H fun J H1=>∃ W:Nat->Nat->List V->Hp->Prop,(∃ m,W 0 m [] H1) /\
 SQ J g mp2 wi2 g2 tt te (capt σ map) (fun acc H'=>∀ D,H' D=none->Q (.ref D) (upd H' D (.lst acc))) W
theorem J4m (B:Blk2 X N' scope map mp2 tg tg2 iter2 elt ifs g wi2 g2 tt te)(hi:PI X tg iter wi)(hs:∀ x,foldedSetIterable iter X.env x=pure x:=by intro _;rfl):PE X (.ListComp elt [⟨tg,iter,[],0⟩,⟨tg2,iter2,ifs,0⟩] scope pos) (Q3f wi map mp2 g wi2 g2 tt te):=by
 intro pins s σ H Q I h
 obtain ⟨cl,hcl,hsub,hhas⟩:=B.clos I
 rw [eval_ListComp]
 refine B1g (use:=none) rfl hs hcl B.kind B.loc (thn (hi pins s σ H _ I h) fun v s1 h1=>thn h1 fun itv s2 h2=>?_)
 obtain ⟨it,fp,tn,J,H2,e,I2,T,st2,f2,W,⟨m0,w0⟩,turn⟩:=h2
 subst e
 refine VP (RR:=fun acc C=>compPost (model X.prog X.w) X.A X.xe none (EP X pins σ Q) acc C) I2 B hsub hhas T st2 f2 w0 turn fun D C acc H' s' m I' hD nsm fC c1 c2 c3 c4 fin=>?_
 refine ⟨m,nsm,fun h' sb=>⟨.ref D,_,?_,rfl,fin D hD⟩⟩
 exact I'.turned (t':=s'.toks) (fun b o hb e=>(sb.2 b hb).trans e) fC c1 (.inr c2) c3 c4
def J0y (i:Nat)(wi:TI)(map mp2:List (Option Nat))(g:TG)(wi2:TI)(g2:TG)(tt:TT)(te:TE):TS:=fun D σ H=>wi σ H fun J H1=>∃ W:Nat->Nat->List V->Hp->Prop,(∃ m,W 0 m [] H1) /\
 SQ J g mp2 wi2 g2 tt te (capt σ map) (fun acc H'=>∀ d,H' d=none->D.nx (σ.set i (some (.ref d))) (upd H' d (.lst acc))) W
theorem TY {i:Nat}{y:Str}{py spos:Pos}(hN:X.N.Nodup)(hiN:X.N[i]?=some y)(hy:Loc X.env.scope y)(B:Blk2 X N' scope map mp2 tg tg2 iter2 elt ifs g wi2 g2 tt te)(hi:PI X tg iter wi)
 (hsw:swapsWith (.ListComp elt [⟨tg,iter,[],0⟩,⟨tg2,iter2,ifs,0⟩] scope pos) (some (.Name y py)) spos.line X.env=pure true:=by rfl) (hfn:X.fn y=true\/X.env.scope.names.lookup y=some .local:=by first|exact .inl rfl|exact .inr rfl)
 (hs:∀ x,foldedSetIterable iter X.env x=pure x:=by intro _;rfl):PS X (.Assign [.Name y py] (.ListComp elt [⟨tg,iter,[],0⟩,⟨tg2,iter2,ifs,0⟩] scope pos) spos) (J0y i wi map mp2 g wi2 g2 tt te):=by
 intro pins s σ H D I h
 obtain ⟨cl,hcl,hsub,hhas⟩:=B.clos I
 rw [exec_Assign_Name_used _ _ _ _ hsw]
 refine B0 (D6 (B0 ?_))
 show wpAny _ _ (do let _ <- comprehension (.ListComp elt [⟨tg,iter,[],0⟩,⟨tg2,iter2,ifs,0⟩] scope pos) scope X.env _ (newList []) false (eval iter X.env) (some (assign (.Name y py) X.env))) _ _ _
 refine B0 (thn (B1g (use:=some (assign (.Name y py) X.env)) (Q:=fun _ s'=>SP X pins D .next s') rfl hs hcl B.kind B.loc (thn (hi pins s σ H _ I h) fun v s1 h1=>thn h1 fun itv s2 h2=>?_)) fun _ s' hq=>B5 (B5 hq))
 obtain ⟨it,fp,tn,J,H2,e,I2,T,st2,f2,W,⟨m0,w0⟩,turn⟩:=h2
 subst e
 refine VP (RR:=fun acc C=>compPost (model X.prog X.w) X.A X.xe (some (assign (.Name y py) X.env)) (fun _ s'=>SP X pins D .next s') acc C) I2 B hsub hhas T st2 f2 w0 turn fun d C acc H' s' m I' hD nsm fC c1 c2 c3 c4 fin=>?_
 refine wpAny_assign_Name (KU I' hN hiN hy (v:=.ref d) rfl (fun s'' I'' ⟨a,sb,ha⟩=>?_) hfn)
 have hCa:C≠a:=by
  rcases ha with z|z
  · rw [z];exact c1
  · exact (c3 y a z).symm
 refine ⟨m,nsm.sameBut sb hCa,fun h' sb'=>⟨_,_,?_,fin d hD⟩⟩
 exact I''.turned (t':=s''.toks) (fun b o hb e=>(sb'.2 b hb).trans e) fC c1 (.inr c2) c3 c4
end
def okA (acc:List V):Prop:=(∃ ns:List Int,acc=ns.map V.int)/\acc.length<=2000
inductive compG (gd:D->Ev->(Ev->Prop)->Prop)(dt:DT)(de:DE)(ρc:Ev)(items acc0:List D)(P:List D->Prop):Prop
 | mk (I:Nat->List D->Prop) (h0:I 0 acc0) (hs:∀ (i:Nat) x acc,items[i]?=some x->I i acc->gd x ρc fun ρ1=>dt ρ1 fun c=>IfP c (de ρ1 fun y=>plain y=true/\I (i+1) (acc++[y])) (I (i+1) acc)) (hd:∀ acc,I items.length acc->P acc):compG gd dt de ρc items acc0 P
inductive compI2 (gd:D->Ev->(Ev->Prop)->Prop)(mp2:List (Option Nat))(di2:DA)(gd2:D->Ev->(Ev->Prop)->Prop)(dt:DT)(de:DE)(ρc:Ev)(items:List D)(P:List D->Prop):Prop
 | mk (I:Nat->List D->Prop) (h0:I 0 []) (hs:∀ (i:Nat) x acc,items[i]?=some x->I i acc->gd x ρc fun ρ1=>di2 ρ1 fun ys=>ys.length<=1000/\compG gd2 dt de (IB ρ1 mp2) ys acc (I (i+1))) (hd:∀ acc,I items.length acc->P acc):compI2 gd mp2 di2 gd2 dt de ρc items P
def Q6d (map mp2:List (Option Nat))(gd:D->Ev->(Ev->Prop)->Prop)(di:DA)(gd2:D->Ev->(Ev->Prop)->Prop)(di2:DA)(dt:DT)(de:DE):DE:=fun ρ P=>di ρ fun items=>items.length<=1000/\compI2 gd mp2 di2 gd2 dt de (IB ρ map) items fun acc=>P (.lst acc)
def Q0x (own:Bool)(i:Nat)(map mp2:List (Option Nat))(gd:D->Ev->(Ev->Prop)->Prop)(di:DA)(gd2:D->Ev->(Ev->Prop)->Prop)(di2:DA)(dt:DT)(de:DE):DS:=fun F ρ=>di ρ fun items=>items.length<=1000/\compI2 gd mp2 di2 gd2 dt de (IB ρ map) items fun acc=>F.nx (ρ.set i (some (if own then .own acc else .lst acc)))
theorem leM:2000000<=sizeLine:=by rw [B1w];decide
theorem VE {W:Wd}{pn:List (D×V)}{M:Addr->Prop}{b:Option Addr}{H:Hp}{σ:St}{ρ:Ev}{J:It}{need:List (D×V)}{items ds0:List D}{acc0:List V}{g:TG}{gd:D->Ev->(Ev->Prop)->Prop}{dt:DT}{de:DE}{P:List D->Prop}{Fin:List V->Hp->Prop}
 (hG:GD W g gd) (st:Sta W pn M b H σ ρ) (hp:items.all plain=true) (hI:JR W J need items) (hn:∀ q∈need,RepX W M b H q.1 q.2) (r0:Reps W.K M H ds0 acc0) (hl:acc0.length+items.length<=2000000) (h:compG gd dt de ρ items ds0 P)
 (fin:∀ ds acc H',P ds->Reps W.K M H' ds acc->acc.length<=acc0.length+items.length->Kp b H H'->okB W.B b H'->Fin acc H'):∃ Wf:Nat->Nat->List V->Hp->Prop,(∃ m,Wf 0 m acc0 H)/\MF J g (dnT W dt) (dn W de) σ Fin Wf:=by
 obtain ⟨I,i0,istep,idone⟩:=h
 refine ⟨fun i m acc H2=>m=items.length - i/\i<=items.length/\acc.length<=acc0.length+i/\Kp b H H2/\okB W.B b H2/\∃ ds,Reps W.K M H2 ds acc/\I i ds,⟨items.length,by simp,W1 _,B6 _,Kp.refl _ _,st.ok,ds0,r0,i0⟩,?_⟩
 rintro i m acc H2 ⟨rfl,hi,ha,k2,o2,ds,r,q⟩
 have st2:=st.step k2 o2
 obtain ⟨hgo,hstop⟩:=hI M b H2 st2.toHs fun q hq=>(hn q hq).step st.bagM k2
 by_cases hlt:i<items.length
 · have ei:items[i]?=some items[i]:=L0 hlt
   replace q:=istep i _ ds ei q
   refine .inr ⟨(hgo i _ ei).1,by have:=leM;omega,fun acc' H'=>acc'.length<=acc0.length+(i+1)/\Kp b H H'/\okB W.B b H'/\∃ ds,Reps W.K M H' ds acc'/\I (i+1) ds,fun acc' H' n=>⟨items.length - (i+1),by omega,rfl,hlt,n⟩,fun x H3 y=>?_⟩
   obtain ⟨S3,rx⟩:=(hgo i _ ei).2 x H3 y
   have o3:okB W.B b H3:=fun p e=>W.B.st p H2 H3 (o2 p e) fun o e'=>S3 p o e'
   have k3:Kp b H2 H3:=Kp.same S3
   have st3:=st2.step k3 o3
   refine hG pn M b H3 σ ρ items[i] x _ _ st3 rx (T8.mp hp _ (E2 hlt)) q fun ρ1 σ1 h1 st4 _=>?_
   refine ⟨pn,M,b,ρ1,_,st4,h1,fun c H5 h5 k5 o5=>?_⟩
   cases h5 with
   | t e h5 =>
     rw [if_pos e]
     refine ⟨pn,M,b,ρ1,_,st4.step k5 o5,h5,fun y v H6 h6 ry k6 o6=>?_⟩
     have kk:=((k3.trans k5).trans k6)
     refine ⟨by simp;omega,k2.trans kk,o6,ds++[y],Reps.append (Reps.keep (fun c o n e=>kk c o (fun z=>n (st.bagM c z)) e) _ _ r) ⟨v,[],rfl,ry.rep h6.1,rfl⟩,h6.2⟩
   | f e h5 =>
     rw [if_neg (by rw [e];exact B9)]
     have kk:=k3.trans k5
     exact ⟨by omega,k2.trans kk,o5,ds,Reps.keep (fun c o n e=>kk c o (fun z=>n (st.bagM c z)) e) _ _ r,h5⟩
 · have e:i=items.length:=by omega
   subst e
   exact .inl ⟨hstop _ (B6 _),by have:=leM;omega,fin ds acc H2 (idone _ q) r ha k2 o2⟩
theorem ME {W:Wd}{pn:List (D×V)}{M:Addr->Prop}{b:Option Addr}{H:Hp}{σ:St}{ρ:Ev}{J:It}{need:List (D×V)}{items:List D}{g g2:TG}{gd gd2:D->Ev->(Ev->Prop)->Prop}{mp2:List (Option Nat)}{di2:DA}{dt:DT}{de:DE}{P:List D->Prop}{Fin:List V->Hp->Prop}
 (hG:GD W g gd) (hG2:GD W g2 gd2) (st:Sta W pn M b H σ ρ) (hp:items.all plain=true) (hI:JR W J need items) (hn:∀ q∈need,RepX W M b H q.1 q.2) (hl:items.length<=1000) (h:compI2 gd mp2 di2 gd2 dt de ρ items P)
 (fin:∀ ds acc H',P ds->Reps W.K M H' ds acc->acc.length<=sizeLine->Kp b H H'->okB W.B b H'->Fin acc H'):∃ Wf:Nat->Nat->List V->Hp->Prop,(∃ m,Wf 0 m [] H)/\SQ J g mp2 (dnI W false di2) g2 (dnT W dt) (dn W de) σ Fin Wf:=by
 obtain ⟨I,i0,istep,idone⟩:=h
 refine ⟨fun i m acc H2=>m=items.length - i/\i<=items.length/\acc.length<=1000*i/\Kp b H H2/\okB W.B b H2/\∃ ds,Reps W.K M H2 ds acc/\I i ds,⟨items.length,by simp,W1 _,B6 _,Kp.refl _ _,st.ok,[],rfl,i0⟩,?_⟩
 rintro i m acc H2 ⟨rfl,hi,ha,k2,o2,ds,r,q⟩
 have st2:=st.step k2 o2
 obtain ⟨hgo,hstop⟩:=hI M b H2 st2.toHs fun q hq=>(hn q hq).step st.bagM k2
 by_cases hlt:i<items.length
 · have ei:items[i]?=some items[i]:=L0 hlt
   replace q:=istep i _ ds ei q
   refine .inr ⟨(hgo i _ ei).1,fun acc' H'=>acc'.length<=1000*(i+1)/\Kp b H H'/\okB W.B b H'/\∃ ds,Reps W.K M H' ds acc'/\I (i+1) ds,fun acc' H' n=>⟨items.length - (i+1),by omega,rfl,hlt,n⟩,fun x H3 y=>?_⟩
   obtain ⟨S3,rx⟩:=(hgo i _ ei).2 x H3 y
   have o3:okB W.B b H3:=fun p e=>W.B.st p H2 H3 (o2 p e) fun o e'=>S3 p o e'
   have k3:Kp b H2 H3:=Kp.same S3
   have st3:=st2.step k3 o3
   refine hG pn M b H3 σ ρ items[i] x _ _ st3 rx (T8.mp hp _ (E2 hlt)) q fun ρ1 σ1 h1 st4 _=>?_
   refine ⟨pn,M,b,ρ1,_,st4,h1,fun ys J2 need2 H5 hys hp2 hI2 hn2 k5 o5=>?_⟩
   have st5:=(st4.step k5 o5).capt mp2
   have kk:=k3.trans k5
   have hy:=hys.1
   exact VE hG2 st5 hp2 hI2 (fun q hq=>(hn2 q hq).1) (Reps.keep (fun c o n e=>kk c o (fun z=>n (st.bagM c z)) e) _ _ r) (by omega) hys.2 fun ds acc H' hP r hl' k o=>⟨by omega,(k2.trans kk).trans k,o,ds,r,hP⟩
 · have e:i=items.length:=by omega
   subst e
   exact .inl ⟨hstop _ (B6 _),by have:=leM;omega,fin ds acc H2 (idone _ q) r (by have:=leM;omega) k2 o2⟩
section
variable {X:Cx}{W:Wd}{elt iter tg tg2 iter2:Expr}{ifs:List Expr}{scope:Scope}{pos:Pos}{N':List Str}{map mp2:List (Option Nat)}{g g2:TG}{gd gd2:D->Ev->(Ev->Prop)->Prop}{di di2:DA}{dt:DT}{de:DE}
theorem IL (hG:GD W g gd)(hG2:GD W g2 gd2)(B:Blk2 X N' scope map mp2 tg tg2 iter2 elt ifs g (dnI W false di2) g2 (dnT W dt) (dn W de))(hi:JI X W false tg iter di)(hs:∀ x,foldedSetIterable iter X.env x=pure x:=by intro _;rfl):JE X W (.ListComp elt [⟨tg,iter,[],0⟩,⟨tg2,iter2,ifs,0⟩] scope pos) (Q6d map mp2 gd di gd2 di2 dt de):=⟨(J4m B hi.h hs).mono fun σ H Q hh=>hh.elim fun pn M b ρ P st h k=>by
 refine ⟨pn,M,b,ρ,_,st,h,fun items J need H1 hx hp hI hn k1 o1=>?_⟩
 have st1:=st.step k1 o1
 refine ME hG hG2 (st1.capt map) hp hI (fun q hq=>(hn q hq).1) hx.1 hx.2 fun ds acc H' hP r hl k2 o2 D hD=>?_
 exact k _ _ _ hP (EL (st1.step k2 o2).toHs r hD) ((k1.trans k2).trans (Kp.upd hD)) ((st1.step k2 o2).okU hD)⟩
theorem XO (own:Bool){i:Nat}{y:Str}{py spos:Pos}(hN:X.N.Nodup)(hiN:X.N[i]?=some y)(hy:Loc X.env.scope y)(hG:GD W g gd)(hG2:GD W g2 gd2)(B:Blk2 X N' scope map mp2 tg tg2 iter2 elt ifs g (dnI W false di2) g2 (dnT W dt) (dn W de))(hi:JI X W false tg iter di)
 (hsw:swapsWith (.ListComp elt [⟨tg,iter,[],0⟩,⟨tg2,iter2,ifs,0⟩] scope pos) (some (.Name y py)) spos.line X.env=pure true:=by rfl) (hfn:X.fn y=true\/X.env.scope.names.lookup y=some .local:=by first|exact .inl rfl|exact .inr rfl)
 (hs:∀ x,foldedSetIterable iter X.env x=pure x:=by intro _;rfl):JS X W (.Assign [.Name y py] (.ListComp elt [⟨tg,iter,[],0⟩,⟨tg2,iter2,ifs,0⟩] scope pos) spos) (Q0x own i map mp2 gd di gd2 di2 dt de):=⟨(TY hN hiN hy B hi.h hsw hfn hs).mono fun E σ H hh=>hh.elim fun pn M b ρ F s l h=>by
 refine ⟨pn,M,b,ρ,_,s.toSta,h,fun items J need H1 hx hp hI hn k1 o1=>?_⟩
 have s1:=s.step k1 o1
 refine ME hG hG2 (s1.toSta.capt map) hp hI (fun q hq=>(hn q hq).1) hx.1 hx.2 fun ds acc H' hP r hl k2 o2 q hq=>?_
 have s2:=s1.step k2 o2
 cases own
 · have s3:=(s2.step (Kp.upd (o:=.lst acc) hq) (s2.toHs.okU hq))
   exact l.nx _ _ _ _ _ (s3.of (s3.toSta.set i (EL s2.toHs r hq)) (IJ rfl)) hP
 · exact l.nx _ _ _ _ _ (s2.newOwn i r hq) hP⟩
theorem VO (calm:X.calm=true) (kind:scope.kind=.function) (loc:∀ x∈scope.names,x.2=.local->scope.names.lookup x.1=some .local) (free:(scope.names.all fun p=>!(p.2==NameKind.free)||(X.env.kindOf p.1==some .cell||X.env.kindOf p.1==some .free))=true) (cap:CapOk X scope map N') (keep:IF g map) (keep2:IF g2 mp2) (ids:QE 0 mp2=true) (sub:FV map mp2=true)
 (run:∀ cells C fp s H,PG (Q3 X N' scope cells C fp s H).nox tg g/\JI (Q3 X N' scope cells C fp s H).nox W false tg2 iter2 di2/\PG (Q3 X N' scope cells C fp s H).nox tg2 g2/\JIf (Q3 X N' scope cells C fp s H).nox W ifs dt/\JE (Q3 X N' scope cells C fp s H).nox W elt de)
 (fold:∀ env x,foldedSetIterable iter2 env x=pure x:=by intro _ _;rfl):Blk2 X N' scope map mp2 tg tg2 iter2 elt ifs g (dnI W false di2) g2 (dnT W dt) (dn W de) :=
 ⟨calm,kind,loc,free,cap,keep,keep2,ids,sub,fold,fun cells C fp s H=>by
  obtain ⟨a,b,c,d,e⟩:=run cells C fp s H
  exact ⟨a,b.h,c,d.h,e.h⟩⟩
end
def Q1y (acc:List D):Prop:=(∃ ns:List Int,acc=ns.map D.int)/\acc.length<=2000
theorem LI {H:Hp}:∀ {ns:List Int} {vs:List V},Reps K M H (ns.map D.int) vs->vs=ns.map V.int
 | [],vs,h=>h
 | n::ns,vs,h=>by
   obtain ⟨v,r,rfl,h1,h2⟩:=h
   cases (show _=_ from h1)
   rw [LI h2]
   rfl
theorem Q1y.ok {H:Hp}{ds:List D}{vs:List V}(h:Q1y ds)(r:Reps K M H ds vs):okA vs:=by
 obtain ⟨⟨ns,rfl⟩,hl⟩:=h
 have e:=LI r
 exact ⟨⟨ns,e⟩,by rw [e,L7];rwa [L7] at hl⟩
abbrev Om:=Nat->Prop
def OJ (p:Addr)(H:Hp):Nat:=match H p with|some (.lst [_,_,.int st])=>st.toNat|_=>0
def cnt (b:Option Addr)(H:Hp):Nat:=match b with|none=>0|some p=>OJ p H
theorem EB {B:BagT} {H H':Hp}(o:okB B b H)(k:Kp none H H'):cnt b H'=cnt b H:=by
 cases b with
 | none=>rfl
 | some p =>
   obtain ⟨u,e⟩:=B.dm p H (o p rfl)
   have e':=k p u (by intro z;cases z) e
   show OJ p H'=OJ p H
   unfold OJ
   rw [e,e']
theorem OW {H H':Hp}(k:Kp none H H'):Kp b H H':=fun c o _ e=>k c o (by intro z;cases z) e
theorem NR {B:BagT}{H:Hp}:okB B none H:=fun p e=>by cases e
theorem HX {B:BagT} {H H':Hp}(o:okB B b H)(k:Kp none H H'):okB B b H':=fun p e=>B.st p H H' (o p e) fun u z=>k p u (by intro y;cases y) z
abbrev DE3:=Ev->(D->Om)->Om
abbrev DT3:=Ev->(Bool->Om)->Om
abbrev DA3:=Ev->(List D->Om)->Om
def cn (W:Wd)(d:DE3):TE:=fun σ H Q=>∃ pn M b ρ P,Sta W pn M b H σ ρ/\d ρ P (cnt b H)/\∀ x v H',P x (cnt b H')->RepX W M b H' x v->Kp b H H'->okB W.B b H'->Q v H'
def cnT (W:Wd)(d:DT3):TT:=fun σ H Q=>∃ pn M b ρ P,Sta W pn M b H σ ρ/\d ρ P (cnt b H)/\∀ x H',P x (cnt b H')->Kp b H H'->okB W.B b H'->Q x H'
def cnA (W:Wd)(d:DA3):TA:=fun σ H Q=>∃ pn M b ρ P,Sta W pn M b H σ ρ/\d ρ P (cnt b H)/\∀ xs vs H',P xs (cnt b H')->RepXs W M b H' xs vs->Kp b H H'->okB W.B b H'->Q vs H'
def cnI (W:Wd)(fz:Bool)(di:DA3):TI:=fun σ H R=>∃ pn M b ρ P,Sta W pn M b H σ ρ/\di ρ P (cnt b H)/\∀ items J need H',P items (cnt b H')->items.all plain=true->JR W J need items->(∀ q∈need,RepX W M b H' q.1 q.2/\(fz=true->plain q.1=true))->Kp b H H'->okB W.B b H'->R J H'
theorem cn.elim {W:Wd}{d:DE3}{σ:St}{H:Hp}{Q:VK}{R:Prop}(h:cn W d σ H Q)(f:∀ pn M b ρ P,Sta W pn M b H σ ρ->d ρ P (cnt b H)->(∀ x v H',P x (cnt b H')->RepX W M b H' x v->Kp b H H'->okB W.B b H'->Q v H')->R):R:=by
 obtain ⟨pn,M,b,ρ,P,st,h,k⟩:=h
 exact f pn M b ρ P st h k
theorem cnT.elim {W:Wd}{d:DT3}{σ:St}{H:Hp}{Q:Bool->Hp->Prop}{R:Prop}(h:cnT W d σ H Q)(f:∀ pn M b ρ P,Sta W pn M b H σ ρ->d ρ P (cnt b H)->(∀ x H',P x (cnt b H')->Kp b H H'->okB W.B b H'->Q x H')->R):R:=by
 obtain ⟨pn,M,b,ρ,P,st,h,k⟩:=h
 exact f pn M b ρ P st h k
theorem cnA.elim {W:Wd}{d:DA3}{σ:St}{H:Hp}{Q:List V->Hp->Prop}{R:Prop}(h:cnA W d σ H Q)(f:∀ pn M b ρ P,Sta W pn M b H σ ρ->d ρ P (cnt b H)->(∀ xs vs H',P xs (cnt b H')->RepXs W M b H' xs vs->Kp b H H'->okB W.B b H'->Q vs H')->R):R:=by
 obtain ⟨pn,M,b,ρ,P,st,h,k⟩:=h
 exact f pn M b ρ P st h k
theorem cnI.elim {W:Wd}{fz:Bool}{d:DA3}{σ:St}{H:Hp}{R:It->Hp->Prop}{Z:Prop}(h:cnI W fz d σ H R)(f:∀ pn M b ρ P,Sta W pn M b H σ ρ->d ρ P (cnt b H)->(∀ items J need H',P items (cnt b H')->items.all plain=true->JR W J need items->(∀ q∈need,RepX W M b H' q.1 q.2/\(fz=true->plain q.1=true))->Kp b H H'->okB W.B b H'->R J H')->Z):Z:=by
 obtain ⟨pn,M,b,ρ,P,st,h,k⟩:=h
 exact f pn M b ρ P st h k
structure CJE (X:Cx)(W:Wd)(e:Expr)(d:DE3):Prop where
 h:PE X e (cn W d)
structure CJT (X:Cx)(W:Wd)(e:Expr)(d:DT3):Prop where
 h:PT X e (cnT W d)
structure CJA (X:Cx)(W:Wd)(es:List Expr)(d:DA3):Prop where
 h:PA X es (cnA W d)
structure CJIf (X:Cx)(W:Wd)(es:List Expr)(d:DT3):Prop where
 h:PIf X es (cnT W d)
structure CJI (X:Cx)(W:Wd)(fz:Bool)(tg l:Expr)(d:DA3):Prop where
 h:PI X tg l (cnI W fz d)
def noH (b:Option Addr)(H0:Hp):Hp:=fun c=>if b=some c then none else H0 c
abbrev Wn (W:Wd)(H0:Hp):Wd:=⟨W.K,W.B,H0,W.M0,none⟩
theorem UL {H0:Hp}{c:Addr}(h:H0 c=none):noH b H0 c=none:=by unfold noH;split<;>first|rfl|exact h
theorem ZF {W:Wd}{pn:List (D×V)} {H:Hp}{σ:St}{ρ:Ev}(s:Sta W pn M b H σ ρ):Sta (Wn W (noH b W.H0)) [] M none H σ (EY ρ):=by
 refine ⟨⟨NR,fun p e=>(by cases e),s.dom,s.m0⟩,fun c o _ e=>?_,.inl rfl,fun i d e=>?_,by simp [EY,s.len],fun q hq=>(by cases hq)⟩
 · have e:noH b W.H0 c=some o:=e
   unfold noH at e
   split at e
   · cases e
   · rename_i nb
     refine s.kp c o (fun z=>?_) e
     rcases s.new with q|⟨q,_⟩
     · exact nb (q.trans z)
     · rw [q] at z;cases z
 · obtain ⟨e1,nb⟩:=LS e
   obtain ⟨v,e2,r⟩:=s.env i d e1
   refine ⟨v,e2,?_⟩
   cases d
   case own xs =>
    obtain ⟨a,vs,rfl,m1,m2,m3,m4,hh,r'⟩:=r
    exact ⟨a,vs,rfl,m1,(by intro z;cases z),UL m3,m4,hh,r'⟩
   case bag=>exact absurd rfl nb
   case frg f _=>exact ⟨fun c m=>⟨(r.1 c m).1,(by intro z;cases z),UL (r.1 c m).2.2.1,(r.1 c m).2.2.2⟩,r.2⟩
   all_goals exact r
theorem J3s {W W':Wd}(hK:W'.K=W.K) {b b':Option Addr}{H:Hp}{d:D}{v:V}(h:RepX W' M b H d v)(p:plain d=true):RepX W M b' H d v:=by
 have:=h.rep p
 rw [hK] at this
 exact Rep.x (W:=W) this
section
variable {X:Cx}{W:Wd}{e b l tg:Expr}{es:List Expr}{pos p:Pos}{fz:Bool}
def cP (d:DE):DE3:=fun ρ P n=>d (EY ρ) fun x=>plain x=true/\P x n
def cPT (d:DT):DT3:=fun ρ P n=>d (EY ρ) fun x=>P x n
def cPA (d:DA):DA3:=fun ρ P n=>d (EY ρ) fun xs=>xs.all plain=true/\P xs n
def cPI (d:DA):DA3:=fun ρ P n=>d (EY ρ) fun xs=>P xs n
theorem Y7 {d:DE}(h:∀ H0,JE X (Wn W H0) e d):CJE X W e (cP d):=⟨fun pins s σ H Q I hh=>hh.elim fun pn M b ρ P st hd k=>by
 refine (h (noH b W.H0)).h pins s σ H Q I ⟨[],M,none,EY ρ,_,(ZF st),hd,fun x v H' hx rx k' o'=>?_⟩
 exact k x v H' (by rw [EB st.ok k'];exact hx.2) (J3s (W:=W) (W':=Wn W (noH b W.H0)) rfl rx hx.1) (OW k') (HX st.ok k')⟩
theorem GF {d:DT}(h:∀ H0,JT X (Wn W H0) e d):CJT X W e (cPT d):=⟨fun pins s σ H Q I hh=>hh.elim fun pn M b ρ P st hd k=>by
 refine (h (noH b W.H0)).h pins s σ H Q I ⟨[],M,none,EY ρ,_,(ZF st),hd,fun x H' hx k' o'=>?_⟩
 exact k x H' (by rw [EB st.ok k'];exact hx) (OW k') (HX st.ok k')⟩
theorem xsW {W W':Wd}(hK:W'.K=W.K) {b b':Option Addr}{H:Hp}:∀ (ds:List D) (vs:List V),RepXs W' M b H ds vs->ds.all L2.plain=true->RepXs W M b' H ds vs
 | [],_,h,_=>h
 | d::ds,vs,h,q=>by
   obtain ⟨v,r,e,h1,h2⟩:=h
   simp only [B0o,L1] at q
   refine ⟨v,r,e,?_,xsW hK ds r h2 q.2⟩
   have:=h1.rep q.1
   rw [hK] at this
   exact Rep.x (W:=W) this
theorem J6t {d:DA}(h:∀ H0,JA X (Wn W H0) es d):CJA X W es (cPA d):=⟨fun pos pins s σ H Q I hh=>hh.elim fun pn M b ρ P st hd k=>by
 refine (h (noH b W.H0)).h pos pins s σ H Q I ⟨[],M,none,EY ρ,_,(ZF st),hd,fun xs vs H' hx rx k' o'=>?_⟩
 exact k xs vs H' (by rw [EB st.ok k'];exact hx.2) (xsW (W:=W) (W':=Wn W (noH b W.H0)) (b':=b) rfl _ _ rx hx.1) (OW k') (HX st.ok k')⟩
theorem J9z {W:Wd}{H0:Hp}{J:It}{need:List (D×V)}{items:List D}(hI:JR (Wn W H0) J need items)(hn:∀ q∈need,plain q.1=true)(hp:items.all plain=true):JR W J need items:=fun M b H hs hq=>by
 obtain ⟨h1,h2⟩:=hI M none H ⟨NR,fun p e=>(by cases e),hs.dom,hs.m0⟩ fun q hq'=>J3s (W:=Wn W H0) (W':=W) rfl (hq q hq') (hn q hq')
 refine ⟨fun i d e=>⟨(h1 i d e).1,fun x H3 y=>⟨((h1 i d e).2 x H3 y).1,?_⟩⟩,h2⟩
 have r:=((h1 i d e).2 x H3 y).2
 exact J3s (W:=W) (W':=Wn W H0) rfl r (T8.mp hp d (R6 e))
theorem OL {d:DA}(h:∀ H0,JI X (Wn W H0) true tg l d):CJI X W fz tg l (cPI d):=⟨fun pins s σ H R I hh=>hh.elim fun pn M b ρ P st hd k=>by
 refine (h (noH b W.H0)).h pins s σ H R I ⟨[],M,none,EY ρ,_,(ZF st),hd,fun items J need H' hx hp hI hn k' o'=>?_⟩
 exact k items J need H' (by rw [EB st.ok k'];exact hx) hp (J9z hI (fun q hq=>(hn q hq).2 rfl) hp) (fun q hq=>⟨J3s (W:=W) (W':=Wn W (noH b W.H0)) rfl (hn q hq).1 ((hn q hq).2 rfl),fun _=>(hn q hq).2 rfl⟩) (OW k') (HX st.ok k')⟩
end
def noB:D->Bool
 | .bag=>false
 | _=>true
theorem RepX.nob {W:Wd} {H:Hp}{d:D}{v:V}(h:RepX W M b H d v)(p:noB d=true):RepX W M none H d v:=by
 cases d
 case own xs =>
  obtain ⟨a,vs,e,m1,m2,m3,m4,hh,r⟩:=h
  exact ⟨a,vs,e,m1,(by intro z;cases z),m3,m4,hh,r⟩
 case bag=>cases p
 case frg f _=>exact ⟨fun c m=>⟨(h.1 c m).1,(by intro z;cases z),(h.1 c m).2.2⟩,h.2⟩
 all_goals exact h
theorem Hs.nob {W:Wd} {H:Hp}(s:Hs W M b H):Hs W M none H:=⟨NR,fun p e=>(by cases e),s.dom,s.m0⟩
section
variable {X:Cx}{W:Wd}{e a b c tg:Expr}{es:List Expr}{pos p:Pos}{d da db:DE3}{dA:DA3}{x:Str}{k:Nat}{ps:List Str}
def Q9w (i:Nat):DE3:=fun ρ P n=>match ρ[i]? with|some (some d)=>P d n|_=>False
theorem cjv (i:Nat) {x:Str} {pos:Pos} (hN:X.N[i]?=some x:=by rfl) (hv:Vis X.env.scope x:=by first|exact Or.inl rfl|exact Or.inr (Or.inl rfl)|exact Or.inr (Or.inr rfl)) (hd:(x==("__debug__" : Str))=false:=by decide)
 (hcd:(x==("__classdict__" : Str))=false:=by decide):CJE X W (.Name x pos) (Q9w i):=⟨(RM hN hv hd hcd).mono fun σ H Q hh=>hh.elim fun pn M b ρ P st h k=>by
 unfold Q9w at h
 split at h
 case h_1 d e =>
  obtain ⟨v,e1,r⟩:=st.env i d e
  exact ⟨v,e1,k d v H h r (Kp.refl _ _) st.ok⟩
 case h_2=>exact h.elim⟩
def cOp (o:D->D->(D->Prop)->Prop)(da db:DE3):DE3:=fun ρ P=>da ρ fun x=>db ρ fun y n=>(noB x&&noB y)=true/\o x y fun z=>plain z=true/\P z n
theorem J3d {r:R2}{o:D->D->(D->Prop)->Prop}(hd:OpD W r o):∀ σ H Q,cn W (cOp o da db) σ H Q->tOp r (cn W da) (cn W db) σ H Q:=by
 intro σ H Q hh
 refine hh.elim fun pn M b ρ P st h k=>?_
 refine ⟨pn,M,b,ρ,_,st,h,fun x v H1 hx rx k1 o1=>?_⟩
 refine ⟨pn,M,b,ρ,_,st.step k1 o1,hx,fun y u H2 hy ry k2 o2=>?_⟩
 have st2:=(st.step k1 o1).step k2 o2
 obtain ⟨n1,n2⟩:=(L1 _ _).mp hy.1
 exact hd M none H2 x y v u _ Q st2.toHs.nob ((rx.step st.bagM k2).nob n1) (ry.nob n2) hy.2 fun z w H' hz rz k3 o3=>k z w H' (by rw [EB o2 k3];exact hz.2) (J3s (W:=W) (W':=W) rfl rz hz.1) ((k1.trans k2).trans (OW k3)) (HX o2 k3)
theorem Q6i {op:Operator}{r:R2}{o:D->D->(D->Prop)->Prop}(ho:OpR X (binaryOp op) r)(hd:OpD W r o)(ha:CJE X W a da)(hb:CJE X W b db):CJE X W (.BinOp a op b pos) (cOp o da db):=⟨(AE ho ha.h hb.h).mono (J3d hd)⟩
theorem OM {r:R2}{o:D->D->(D->Prop)->Prop}(hr:IxR X r)(hd:OpD W r o)(ha:CJE X W a da)(hb:CJE X W b db)(hs:MT b):CJE X W (.Subscript a b pos) (cOp o da db):=⟨(HS hr ha.h hb.h hs).mono (J3d hd)⟩
def Q9z:DA3:=fun _ P=>P []
def Q6n (da:DE3)(dr:DA3):DA3:=fun ρ P=>da ρ fun x=>dr ρ fun xs=>P (x::xs)
theorem CL:CJA X W [] Q9z:=⟨ES.mono fun σ H Q hh=>hh.elim fun pn M b ρ P st h k=>k [] [] H h rfl (Kp.refl _ _) st.ok⟩
theorem Z2 {dr:DA3}(ha:CJE X W e da)(hr:CJA X W es dr)(hs:starEach (e::es) X.env=(false,eval e X.env)::starEach es X.env:=by rfl):CJA X W (e::es) (Q6n da dr):=⟨(BC ha.h hr.h hs).mono fun σ H Q hh=>hh.elim fun pn M b ρ P st h k=>by
 refine ⟨pn,M,b,ρ,_,st,h,fun x v H1 hx rx k1 o1=>?_⟩
 refine ⟨pn,M,b,ρ,_,st.step k1 o1,hx,fun xs vs H2 hy ry k2 o2=>?_⟩
 exact k _ _ H2 hy ⟨v,vs,rfl,rx.step st.bagM k2,ry⟩ (k1.trans k2) o2⟩
theorem ZX {B:BagT}{b:Option Addr}{H:Hp}{q:Addr}{o:HO}(ok:okB B b H)(h:H q=none):cnt b (upd H q o)=cnt b H:=EB ok (Kp.upd h)
abbrev VW:=List D->(D->Om)->Om
def BW (K:Fg)(B:BagT)(S:VW):Sp:=fun vs H Q E=>∃ (M:Addr->Prop) (b:Option Addr) (ds:List D) (P:D->Om),S ds P (cnt b H)/\RepAs K M b H ds vs/\okB B b H/\(∀ p,b=some p->M p)/\(∀ c,M c->∃ o,H c=some o) /\
 (∀ d v H',P d (cnt b H')->Rep K M H' d v->Kp b H H'->okB B b H'->Q v H')
def Q9x (S:VW)(dA:DA3):DE3:=fun ρ P=>dA ρ fun ds n=>ds.all Z6=true/\S ds P n
theorem DG {S:VW}(G:Callee X.prog X.w X.K X.mg X.base CX0 x k ps (BW W.K W.B S))(hr:Room k X.A)(hg:Gl X x)(ha:CJA X W (e::es) dA)(hdb:(x==("__debug__" : Str))=false:=by decide) (he:starEach (e::es) X.env=(false,eval e X.env)::starEach es X.env:=by rfl) (hpl:(backTo pos (starEach es X.env)).any (·.1)=false:=by rfl) :
 CJE X W (.Call (.Name x p) (e::es) [] pos) (Q9x S dA):=⟨(WV G hr hg ha.h hdb he hpl).mono fun σ H Q hh=>hh.elim fun pn M b ρ P st h k=>by
 refine ⟨pn,M,b,ρ,_,st,h,fun xs vs H1 hx rx k1 o1=>?_⟩
 have st1:=st.step k1 o1
 refine ⟨M,b,xs,P,hx.2,?_,o1,st.bagM,st1.dom,fun d v H' hd rd k2 o2=>k d v H' hd rd.x (k1.trans k2) o2⟩
 rw [U9];exact rx.args _ _ hx.1⟩
variable {r:List V->Hp->VK->Prop}{o:List D->(D->Prop)->Prop}
def Q6k:DT3:=fun _ P=>P true
theorem VJ:CJIf X W [] Q6k:=⟨fun pins s σ H Q I hh=>hh.elim fun pn M b ρ P st h k=>YX pins s σ H Q I (k true H h (Kp.refl _ _) st.ok)⟩
inductive compI3 (gd:D->Ev->(Ev->Prop)->Prop)(dt:DT3)(de:DE3)(ρc:Ev)(items:List D)(P:List D->Om)(n0:Nat):Prop
 | mk (I:Nat->List D->Om) (h0:I 0 [] n0) (hs:∀ (i:Nat) x acc n,items[i]?=some x->I i acc n->gd x ρc fun ρ1=>dt ρ1 (fun c n1=>IfP c (de ρ1 (fun y n2=>plain y=true/\I (i+1) (acc++[y]) n2) n1) (I (i+1) acc n1)) n) (hd:∀ acc n,I items.length acc n->P acc n):compI3 gd dt de ρc items P n0
def MQ (gd:D->Ev->(Ev->Prop)->Prop)(dt:DT3)(de:DE3)(ρc:Ev):List D->List D->(List D->Om)->Om
 | [],acc,P=>P acc
 | x::xs,acc,P=>fun n=>gd x ρc fun ρ1=>dt ρ1 (fun c n1=>IfP c (de ρ1 (fun y n2=>plain y=true/\MQ gd dt de ρc xs (acc++[y]) P n2) n1) (MQ gd dt de ρc xs acc P n1)) n
theorem J2l {gd:D->Ev->(Ev->Prop)->Prop}{dt:DT3}{de:DE3}{ρc:Ev}{items:List D}{P:List D->Om}{n0:Nat}(h:MQ gd dt de ρc items [] P n0):compI3 gd dt de ρc items P n0:=by
 refine ⟨fun i acc n=>MQ gd dt de ρc (items.drop i) acc P n,h,fun i x acc n e q=>?_,fun acc n q=>?_⟩
 · obtain ⟨hlt,rfl⟩:=M1.mp e
   try dsimp only at q
   rw [B0w hlt] at q
   exact q
 · (try dsimp only at q);rw [List.drop_length] at q;exact q
theorem Q2l {N':List Str} {scope:Scope} {map:List (Option Nat)} {elt:Expr} {ifs:List Expr} {g:TG} {dt:DT3} {de:DE3} (calm:X.calm=true) (kind:scope.kind=.function) (loc:∀ x∈scope.names,x.2=.local->scope.names.lookup x.1=some .local) (free:(scope.names.all fun p=>!(p.2==NameKind.free)||(X.env.kindOf p.1==some .cell||X.env.kindOf p.1==some .free))=true) (cap:CapOk X scope map N') (keep:IF g map)
 (run:∀ cells C fp s H,PG (Q3 X N' scope cells C fp s H) tg g/\CJIf (Q3 X N' scope cells C fp s H) W ifs dt/\CJE (Q3 X N' scope cells C fp s H) W elt de):Blk X N' scope map tg elt ifs g (cnT W dt) (cn W de) :=
 ⟨calm,kind,loc,free,cap,keep,fun cells C fp s H _=>⟨(run cells C fp s H).1,(run cells C fp s H).2.1.h,(run cells C fp s H).2.2.h⟩⟩
theorem VF {pn:List (D×V)}{M:Addr->Prop}{b:Option Addr}{H:Hp}{σ:St}{ρ:Ev}{J:It}{need:List (D×V)}{items:List D}{g:TG}{gd:D->Ev->(Ev->Prop)->Prop}{dt:DT3}{de:DE3}{P:List D->Om}{Fin:List V->Hp->Prop}
 (hG:GD W g gd) (st:Sta W pn M b H σ ρ) (hp:items.all plain=true) (hI:JR W J need items) (hn:∀ q∈need,RepX W M b H q.1 q.2) (hl:items.length<=1000) (h:compI3 gd dt de ρ items P (cnt b H))
 (fin:∀ ds acc H',P ds (cnt b H')->Reps W.K M H' ds acc->acc.length<=sizeLine->Kp b H H'->okB W.B b H'->Fin acc H'):∃ Wf:Nat->Nat->List V->Hp->Prop,(∃ m,Wf 0 m [] H)/\MF J g (cnT W dt) (cn W de) σ Fin Wf:=by
 obtain ⟨I,i0,istep,idone⟩:=h
 refine ⟨fun i m acc H2=>m=items.length - i/\i<=items.length/\acc.length<=i/\Kp b H H2/\okB W.B b H2/\∃ ds,Reps W.K M H2 ds acc/\I i ds (cnt b H2),⟨items.length,by simp,W1 _,B6 _,Kp.refl _ _,st.ok,[],rfl,i0⟩,?_⟩
 rintro i m acc H2 ⟨rfl,hi,ha,k2,o2,ds,r,q⟩
 have st2:=st.step k2 o2
 obtain ⟨hgo,hstop⟩:=hI M b H2 st2.toHs fun q hq=>(hn q hq).step st.bagM k2
 by_cases hlt:i<items.length
 · have ei:items[i]?=some items[i]:=L0 hlt
   replace q:=istep i _ ds _ ei q
   refine .inr ⟨(hgo i _ ei).1,by have:=AZ;omega,fun acc' H'=>acc'.length<=i+1/\Kp b H H'/\okB W.B b H'/\∃ ds,Reps W.K M H' ds acc'/\I (i+1) ds (cnt b H'),fun acc' H' n=>⟨items.length - (i+1),by omega,rfl,hlt,n⟩,fun x H3 y=>?_⟩
   obtain ⟨S3,rx⟩:=(hgo i _ ei).2 x H3 y
   have o3:okB W.B b H3:=fun p e=>W.B.st p H2 H3 (o2 p e) fun o e'=>S3 p o e'
   have k3:Kp b H2 H3:=Kp.same S3
   have c3:cnt b H3=cnt b H2:=EB o2 (Kp.same S3)
   have st3:=st2.step k3 o3
   rw [<- c3] at q
   refine hG pn M b H3 σ ρ items[i] x _ _ st3 rx (T8.mp hp _ (E2 hlt)) q fun ρ1 σ1 h1 st4 _=>?_
   refine ⟨pn,M,b,ρ1,_,st4,h1,fun c H5 h5 k5 o5=>?_⟩
   cases h5 with
   | t e h5 =>
     rw [if_pos e]
     refine ⟨pn,M,b,ρ1,_,st4.step k5 o5,h5,fun y v H6 h6 ry k6 o6=>?_⟩
     have kk:=((k3.trans k5).trans k6)
     refine ⟨by simp;omega,k2.trans kk,o6,ds++[y],Reps.append (Reps.keep (fun c o n e=>kk c o (fun z=>n (st.bagM c z)) e) _ _ r) ⟨v,[],rfl,ry.rep h6.1,rfl⟩,h6.2⟩
   | f e h5 =>
     rw [if_neg (by rw [e];exact B9)]
     have kk:=k3.trans k5
     exact ⟨by omega,k2.trans kk,o5,ds,Reps.keep (fun c o n e=>kk c o (fun z=>n (st.bagM c z)) e) _ _ r,h5⟩
 · have e:i=items.length:=by omega
   subst e
   exact .inl ⟨hstop _ (B6 _),by have:=AZ;omega,fin ds acc H2 (idone _ _ q) r (by have:=AZ;omega) k2 o2⟩
end
structure DEnds3 where
 nx:Ev->Om
 rt:D->Om
 bk:Ev->Om:=fun _ _=>False
 ct:Ev->Om:=fun _ _=>False
 ro:List D->Om:=fun _ _=>False
abbrev DS3:=DEnds3->Ev->Om
structure Link3 (W:Wd)(pn:List (D×V))(E:Ends)(F:DEnds3):Prop where
 nx:∀ M b ρ σ H,StS W pn M b H σ ρ->F.nx ρ (cnt b H)->E.nx σ H
 rt:∀ d v H n,F.rt d n->(∀ p,W.b0=some p->n=cnt W.b0 H)->Rep W.K W.M0 H d v->Kp W.b0 W.H0 H->okB W.B W.b0 H->E.rt v H
 bk:∀ M b ρ σ H,StS W pn M b H σ ρ->F.bk ρ (cnt b H)->E.bk σ H
 ct:∀ M b ρ σ H,StS W pn M b H σ ρ->F.ct ρ (cnt b H)->E.ct σ H
 ro:∀ xs a vs H n,F.ro xs n->(∀ p,W.b0=some p->n=cnt W.b0 H)->W.H0 a=none->¬ W.M0 a->H a=some (.lst vs)->Reps W.K W.M0 H xs vs->Kp W.b0 W.H0 H->okB W.B W.b0 H->E.rt (.ref a) H
def sn3 (W:Wd)(d:DS3):TS:=fun E σ H=>∃ pn M b ρ F,StS W pn M b H σ ρ/\Link3 W pn E F/\d F ρ (cnt b H)
theorem sn3.elim {W:Wd}{d:DS3}{E:Ends}{σ:St}{H:Hp}{Z:Prop}(h:sn3 W d E σ H)(f:∀ pn M b ρ F,StS W pn M b H σ ρ->Link3 W pn E F->d F ρ (cnt b H)->Z):Z:=by
 obtain ⟨pn,M,b,ρ,F,s,l,h⟩:=h
 exact f pn M b ρ F s l h
structure CJS (X:Cx)(W:Wd)(st:Stmt)(d:DS3):Prop where
 h:PS X st (sn3 W d)
structure CJSs (X:Cx)(W:Wd)(st:List Stmt)(d:DS3):Prop where
 h:PSs X st (sn3 W d)
theorem Sta.cnt0 {W:Wd}{pn:List (D×V)} {H:Hp}{σ:St}{ρ:Ev}(s:Sta W pn M b H σ ρ):∀ p,W.b0=some p->cnt b H=cnt W.b0 H:=fun p e=>by
 rcases s.new with q|⟨q,_⟩
 · rw [q]
 · rw [q] at e;cases e
section
variable {X:Cx}{W:Wd}{e a b c tg iter l:Expr}{es:List Expr}{pos p:Pos}{d db de:DE3}{dA di:DA3}{dt:DT3}{st:Stmt}{rest sts:List Stmt}{d1 d2:DS3}{t:TS}
def Q6m:DS3:=fun F ρ=>F.nx ρ
def V1i (d1 d2:DS3):DS3:=fun F ρ=>d1 { F with nx:=d2 F } ρ
theorem GG:CJSs X W [] Q6m:=⟨MO.mono fun E σ H hh=>hh.elim fun pn M b ρ F s l h=>l.nx _ _ _ _ _ s h⟩
theorem CH (h:CJS X W st d1):CJSs X W [st] d1:=⟨EK h.h⟩
theorem AB (h1:CJS X W st d1)(h2:CJSs X W rest d2):CJSs X W (st::rest) (V1i d1 d2):=⟨(AJ h1.h h2.h).mono fun E σ H hh=>hh.elim fun pn M b ρ F s l h=>⟨pn,M,b,ρ,{ F with nx:=d2 F },s,⟨fun M b ρ σ H s' h'=>⟨pn,M,b,ρ,F,s',l,h'⟩,l.rt,l.bk,l.ct,l.ro⟩,h⟩⟩
def Q9y (de:DE3):DS3:=fun F ρ=>de ρ fun x n=>match x with|.own xs=>F.rt (.lst xs) n|.bag=>False|.frg _ _=>False|x=>F.rt x n
theorem FT (he:CJE X W e de):CJS X W (.Return (some e) pos) (Q9y de):=⟨(GS he.h).mono fun E σ H hh=>hh.elim fun pn M b ρ F s l h=>by
 refine ⟨pn,M,b,ρ,_,s.toSta,h,fun x v H' hx rx k o=>?_⟩
 have s':=s.toSta.step k o
 cases x
 case own xs =>
  obtain ⟨a,vs,rfl,m,n,n0,m0,hh,r⟩:=rx
  exact l.rt _ _ H' _ hx s'.cnt0 ⟨a,vs,rfl,⟨m0,hh⟩,Reps.avoid (fun c m=>.inl (s'.m0 c m)) _ _ r⟩ s'.kp s'.ok0
 case bag=>exact hx.elim
 case frg=>exact hx.elim
 all_goals exact l.rt _ _ H' _ hx s'.cnt0 (YS s'.toHs (RepX.rep rx rfl)) s'.kp s'.ok0⟩
def V0a (dt:DT3)(d1 d2:DS3):DS3:=fun F ρ=>dt ρ fun c n=>IfP c (d1 F ρ n) (d2 F ρ n)
theorem LU {s1 s2:List Stmt}(hc:CJT X W c dt)(ha:CJSs X W s1 d1)(hb:CJSs X W s2 d2):CJS X W (.If c s1 s2 pos) (V0a dt d1 d2):=⟨(YU hc.h ha.h hb.h).mono fun E σ H hh=>hh.elim fun pn M b ρ F s l h=>by
 refine ⟨pn,M,b,ρ,_,s.toSta,h,fun x H' hx k o=>?_⟩
 cases hx with
 | t e hx=>rw [if_pos e];exact ⟨pn,M,b,ρ,F,s.step k o,l,hx⟩
 | f e hx=>rw [if_neg (by rw [e];exact B9)];exact ⟨pn,M,b,ρ,F,s.step k o,l,hx⟩⟩
def Q2o (de:DE3)(gd:D->Ev->(Ev->Prop)->Prop):DS3:=fun F ρ=>de ρ fun x n=>plain x=true/\gd x ρ fun ρ'=>F.nx ρ' n
theorem Q1d {g:TG}{gd:D->Ev->(Ev->Prop)->Prop}(hG:GD W g gd):∀ E σ H,sn3 W (Q2o de gd) E σ H->J8e (cn W de) g E σ H:=fun E σ H hh=>hh.elim fun pn M b ρ F s l h=>by
 refine ⟨pn,M,b,ρ,_,s.toSta,h,fun x v H' hx rx k o=>?_⟩
 exact hG pn M b H' σ ρ x v E.nx _ (s.toSta.step k o) rx hx.1 hx.2 fun ρ' σ' hp st' ho=>l.nx _ _ _ _ _ (s.of st' ho) hp
theorem FS {i:Nat} {x:Str} {pos':Pos} (hN:X.N.Nodup) (hi:X.N[i]?=some x) (hx:Loc X.env.scope x) (he:CJE X W e de) (hs:swapsWith e (some (.Name x pos')) pos.line X.env=pure false:=by rfl) (hf:X.fn x=true\/X.env.scope.names.lookup x=some .local:=by first|exact .inl rfl|exact .inr rfl|assumption) :
 CJS X W (.Assign [.Name x pos'] e pos) (Q2o de (gdN i)):=⟨(DM hN hi hx he.h hs hf).mono (Q1d (V8 i))⟩
def Q6l (own:Bool)(i:Nat)(map:List (Option Nat))(gd:D->Ev->(Ev->Prop)->Prop)(di:DA3)(dt:DT3)(de:DE3):DS3:=fun F ρ=>di ρ fun items n=>items.length<=1000/\compI3 gd dt de (IB ρ map) items (fun acc=>F.nx (ρ.set i (some (if own then .own acc else .lst acc)))) n
theorem VI {elt iter tg:Expr}{ifs:List Expr}{scope:Scope}{N':List Str}{map:List (Option Nat)}{g:TG}{gd:D->Ev->(Ev->Prop)->Prop}(own:Bool){i:Nat}{y:Str}{py spos:Pos}(hN:X.N.Nodup)(hiN:X.N[i]?=some y)(hy:Loc X.env.scope y)(hG:GD W g gd)(B:Blk X N' scope map tg elt ifs g (cnT W dt) (cn W de))(hi:CJI X W false tg iter di)
 (hsw:swapsWith (.ListComp elt [⟨tg,iter,ifs,0⟩] scope pos) (some (.Name y py)) spos.line X.env=pure true:=by rfl) (hfn:X.fn y=true\/X.env.scope.names.lookup y=some .local:=by first|exact .inl rfl|exact .inr rfl)
 (hs:∀ x,foldedSetIterable iter X.env x=pure x:=by intro _;rfl):CJS X W (.Assign [.Name y py] (.ListComp elt [⟨tg,iter,ifs,0⟩] scope pos) spos) (Q6l own i map gd di dt de):=⟨(NI hN hiN hy B hi.h hsw hfn hs).mono fun E σ H hh=>hh.elim fun pn M b ρ F s l h=>by
 refine ⟨pn,M,b,ρ,_,s.toSta,h,fun items J need H1 hx hp hI hn k1 o1=>?_⟩
 have s1:=s.step k1 o1
 refine VF hG (s1.toSta.capt map) hp hI (fun q hq=>(hn q hq).1) hx.1 hx.2 fun ds acc H' hP r hl k2 o2 q hq=>?_
 have s2:=s1.step k2 o2
 cases own
 · have s3:=(s2.step (Kp.upd (o:=.lst acc) hq) (s2.toHs.okU hq))
   exact l.nx _ _ _ _ _ (s3.of (s3.toSta.set i (EL s2.toHs r hq)) (IJ rfl)) (by rw [ZX o2 hq];exact hP)
 · exact l.nx _ _ _ _ _ (s2.newOwn i r hq) (by rw [ZX o2 hq];exact hP)⟩
inductive forI3 (gd:D->Ev->(Ev->Prop)->Prop)(db:DS3)(F:DEnds3)(items:List D)(ρ:Ev)(n0:Nat):Prop
 | mk (I:Nat->Ev->Om) (h0:I 0 ρ n0) (hs:∀ (i:Nat) x ρ n,items[i]?=some x->I i ρ n->gd x ρ fun ρ1=>db { F with nx:=I (i+1),ct:=I (i+1),bk:=F.nx } ρ1 n) (hd:∀ ρ n,I items.length ρ n->F.nx ρ n):forI3 gd db F items ρ n0
def Q2n (gd:D->Ev->(Ev->Prop)->Prop)(di:DA3)(db:DS3):DS3:=fun F ρ=>di ρ fun items n=>forI3 gd db F items ρ n
theorem Q1c {g:TG}{gd:D->Ev->(Ev->Prop)->Prop}{db:DS3}(hG:GD W g gd):∀ E σ H,sn3 W (Q2n gd di db) E σ H->Q3d (cnI W true di) g (sn3 W db) E σ H:=fun E σ H hh=>hh.elim fun pn M b ρ F s l h=>by
 refine ⟨pn,M,b,ρ,_,s.toSta,h,fun items J need H1 hx hp hI hn k1 o1=>?_⟩
 have s1:=s.step k1 o1
 have pins:∀ q∈need++pn,PinR W M b H1 q.1 q.2:=fun q hq=>(U0.mp hq).elim (fun z=>(hn q z).1.pin ((hn q z).2 rfl)) fun z=>s1.pin q z
 obtain ⟨I,i0,istep,idone⟩:=hx
 refine ⟨fun i m σ H=>m=items.length - i/\i<=items.length/\∃ M b ρ,StS W (need++pn) M b H σ ρ/\I i ρ (cnt b H),⟨items.length,by simp,W1 _,M,b,ρ,⟨s1.toSta.pins pins,s1.dj,fun ys a hq=>(U0.mp hq).elim (fun z=>by have:=(hn _ z).2 rfl;cases this) fun z=>s1.lj ys a z⟩,i0⟩,?_⟩
 rintro i m σ2 H2 ⟨rfl,hi,M2,b2,ρ2,s2,q⟩
 have unp:∀ {M b ρ σ H},StS W (need++pn) M b H σ ρ->StS W pn M b H σ ρ:=fun s=>⟨s.toSta.pins fun q hq=>s.pin q (B3 _ hq),s.dj,fun ys a hq=>s.lj ys a (B3 _ hq)⟩
 obtain ⟨hgo,hstop⟩:=hI M2 b2 H2 s2.toHs fun q hq=>(s2.pin q (R7 _ hq)).x
 by_cases hlt:i<items.length
 · have ei:items[i]?=some items[i]:=L0 hlt
   replace q:=istep i _ ρ2 _ ei q
   refine .inr ⟨(hgo i _ ei).1,fun σ' H'=>∃ M b ρ,StS W (need++pn) M b H' σ' ρ/\I (i+1) ρ (cnt b H'),fun σ' H' n=>⟨items.length - (i+1),by omega,rfl,hlt,n⟩,fun x H3 y=>?_⟩
   obtain ⟨S3,rx⟩:=(hgo i _ ei).2 x H3 y
   have o3:okB W.B b2 H3:=fun p e=>W.B.st p H2 H3 (s2.ok p e) fun o e'=>S3 p o e'
   have c3:cnt b2 H3=cnt b2 H2:=EB s2.ok (Kp.same S3)
   rw [<- c3] at q
   have s3:=s2.step (Kp.same S3) o3
   refine hG (need++pn) M2 b2 H3 σ2 ρ2 items[i] x _ _ s3.toSta rx (T8.mp hp _ (E2 hlt)) q fun ρ1 σ1 h1 st4 ho=>?_
   exact ⟨need++pn,M2,b2,ρ1,{ F with nx:=I (i+1),ct:=I (i+1),bk:=F.nx },s3.of st4 ho,⟨fun M b ρ σ H s' h'=>⟨M,b,ρ,s',h'⟩,l.rt,fun M b ρ σ H s' h'=>l.nx _ _ _ _ _ (unp s') h',fun M b ρ σ H s' h'=>⟨M,b,ρ,s',h'⟩,l.ro⟩,h1⟩
 · have e:i=items.length:=by omega
   subst e
   exact .inl ⟨hstop _ (B6 _),l.nx _ _ _ _ _ (unp s2) (idone _ _ q)⟩
theorem ZZ {g:TG}{gd:D->Ev->(Ev->Prop)->Prop}{db:DS3}{body:List Stmt}(hG:GD W g gd)(hp:PassesOwn (model X.prog X.w) X.A X.env X.xe)(hc:X.calm=true)(hi:CJI X W true tg iter di)(hg:PG X tg g)(hb:CJSs X W body db)
 (hs:∀ x,foldedSetIterable iter X.env x=pure x:=by intro _;rfl):CJS X W (.For tg iter body [] pos) (Q2n gd di db):=⟨(J4c hp hc hi.h hg hb.h hs).mono (Q1c hG)⟩
def Q2m (i:Nat)(d:DS3):DS3:=fun F ρ n=>match ρ[i]? with|some (some (.own xs))=>d F (ρ.set i (some (.lst xs))) n|_=>False
theorem J6s (i:Nat)(h:CJSs X W sts d1):CJSs X W sts (Q2m i d1):=⟨h.h.mono fun E σ H hh=>hh.elim fun pn M b ρ F s l h=>by
 unfold Q2m at h
 split at h
 case h_2=>exact h.elim
 case h_1 xs e =>
  obtain ⟨v,e1,a,us,rfl,m1,m2,m3,m4,hh,r⟩:=s.env i _ e
  have st:Sta W pn (fun c=>M c/\c≠a) b H σ (ρ.set i none):=by
   refine Sta.avoid (M:=M) ⟨s.toHs,s.kp,s.new,fun j d e'=>?_,by simp [s.len],s.pin⟩ (fun c m=>m.1) (fun p z=>⟨s.bagM p z,fun y=>m2 (by rw [<- y];exact z)⟩) (fun c m=>⟨s.m0 c m,fun y=>m4 (by rw [<- y];exact m)⟩) (fun j d' v' c' e' e2 mm=>?_) fun ys a' hq=>⟨by
    obtain ⟨a2,us2,ev,n1,_⟩:=(s.pin _ hq)
    cases ev;exact n1,fun y=>s.lk ys a' hq i xs e (by rw [y];exact e1)⟩
   · by_cases z:i=j
     · subst z;rw [R8] at e';simp at e'
     · rw [L4 z] at e';exact s.env j d e'
   · by_cases z:i=j
     · subst z;rw [R8] at e';simp at e'
     · rw [L4 z] at e'
       obtain ⟨v3,e3,r3⟩:=s.env j _ e'
       rw [e2] at e3;cases e3
       exact ⟨(r3.mine mm).1,fun y=>z (s.dj i j _ _ _ _ a e e' e1 e2 rfl (by rw [<- y];exact mm))⟩
  have st2:=st.set (x:=.lst xs) (v:=.ref a) i ⟨a,us,rfl,⟨fun m=>m.2 rfl,hh⟩,Reps.avoid (fun c m=>.inl m.1) _ _ r⟩
  have eσ:σ.set i (some (.ref a))=σ:=by
   apply List.ext_getElem?
   intro n
   by_cases z:i=n
   · subst z;rw [R8,e1];simp;exact (M1.mp e1).1
   · rw [L4 z]
  rw [eσ,List.set_set] at st2
  refine ⟨pn,_,b,_,F,s.of st2 fun j ys hm e'=>?_,l,h⟩
  by_cases z:i=j
  · subst z;rw [R8] at e';simp at e';rw [<- e'.2] at hm;cases hm
  · rw [L4 z] at e';exact ⟨e',rfl⟩⟩
def SO (K:Fg)(B:BagT)(pre:List D->Prop):Sp:=fun vs H Q _=>∃ (M:Addr->Prop) (b:Option Addr) (ds:List D),RepAs K M b H ds vs/\pre ds/\∀ p H1,H p=none->Same H H1->B.ok p H1->OJ p H1=0->Q (.ref p) H1
def V0b (i:Nat)(pre:List D->Prop)(dA:DA3):DS3:=fun F ρ=>dA ρ fun ds _=>ds.all Z6=true/\pre ds/\F.nx ((EY ρ).set i (some .bag)) 0
theorem Q1f {spos:Pos}{x f:Str}{k:Nat}{ps:List Str}{pre:List D->Prop}{i:Nat}{pos':Pos}(hb0:W.b0=none)(hN:X.N.Nodup)(hi:X.N[i]?=some x)(hx:Loc X.env.scope x)(G:Callee X.prog X.w X.K X.mg X.base CX0 f k ps (SO W.K W.B pre))(hr:Room k X.A)(hg:Gl X f)(ha:CJA X W (e::es) dA)
 (hdb:(f==("__debug__" : Str))=false:=by decide) (he:starEach (e::es) X.env=(false,eval e X.env)::starEach es X.env:=by rfl) (hpl:(backTo pos (starEach es X.env)).any (·.1)=false:=by rfl)
 (hs:swapsWith (.Call (.Name f p) (e::es) [] pos) (some (.Name x pos')) spos.line X.env=pure false:=by rfl) (hf:X.fn x=true\/X.env.scope.names.lookup x=some .local:=by first|exact .inl rfl|exact .inr rfl|assumption) :
 CJS X W (.Assign [.Name x pos'] (.Call (.Name f p) (e::es) [] pos) spos) (V0b i pre dA):=⟨(DM hN hi hx (WV G hr hg ha.h hdb he hpl) hs hf).mono fun E σ H hh=>hh.elim fun pn M b ρ F s l h=>by
 refine ⟨pn,M,b,ρ,_,s.toSta,h,fun ds vs H' hx rx k o=>?_⟩
 have s1:=s.step k o
 refine ⟨M,b,ds,by rw [U9];exact rx.args _ _ hx.1,hx.2.1,fun q H1 hq S ok c0=>?_⟩
 have rep:∀ d v,Rep W.K M H' d v->Rep W.K (fun c=>M c\/c=q) H1 d v:=fun d v r=>Rep.keep (fun c o _ e=>S c o e) _ _ (Rep.avoid (fun c hc=>hc.imp id fun z=>by rw [z];exact hq) _ _ r)
 have reps:∀ d v,Reps W.K M H' d v->Reps W.K (fun c=>M c\/c=q) H1 d v:=fun d v r=>Reps.keep (fun c o _ e=>S c o e) _ _ (Reps.avoid (fun c hc=>hc.imp id fun z=>by rw [z];exact hq) _ _ r)
 have h0:W.H0 q=none:=by
  cases z:W.H0 q with
  | none=>rfl
  | some o =>
    have:=s1.kp q o (by rw [hb0];intro y;cases y) z
    rw [hq] at this;cases this
 have st1:Sta W pn (fun c=>M c\/c=q) (some q) H1 σ (EY ρ):=by
  refine ⟨⟨fun p e=>by cases e;exact ok,fun p e=>by cases e;exact .inr rfl,fun c hc=>?_,fun c m=>.inl (s1.m0 c m)⟩,fun c o n e=>S c o (s1.kp c o n e),.inr ⟨hb0,fun p e=>by cases e;exact h0⟩,fun j d e=>?_,by simp [EY,s.len],fun q' hq'=>(s1.pin q' hq').to rep reps fun xs a vs _ _ m n hh=>⟨.inl m,(fun z=>by cases z;rw [hq] at hh;cases hh),S _ _ hh⟩⟩
  · rcases hc with hc|hc
    · obtain ⟨o,e⟩:=s1.dom c hc;exact ⟨o,S c o e⟩
    · rw [hc];exact W.B.dm q H1 ok
  · obtain ⟨e1,nb⟩:=LS e
    obtain ⟨v,e2,r⟩:=s1.env j d e1
    refine ⟨v,e2,?_⟩
    cases d
    case own xs =>
     obtain ⟨a,us,rfl,m1,m2,m3,m4,hh,r'⟩:=r
     have nq:some q≠some a:=fun z=>by
      cases z
      rw [hq] at hh
      cases hh
     exact ⟨a,us,rfl,.inl m1,nq,m3,m4,S _ _ hh,reps _ _ r'⟩
    case bag=>exact absurd rfl nb
    case frg f _=>exact RepX.move r (fun c _ m n=>⟨.inl m,fun z=>by cases z;exact s1.toHs.new hq m⟩) (fun c o _ e=>S c o e) fun c hc=>hc.imp id fun z=>by rw [z];exact hq
    all_goals exact rep _ _ r
 refine l.nx _ _ _ _ _ (s1.of (st1.set (x:=.bag) (v:=.ref q) i ⟨q,rfl,rfl⟩) fun j xs hm e=>?_) (by show F.nx _ (OJ q H1);rw [c0];exact hx.2.2)
 by_cases z:i=j
 · subst z
   rw [R8] at e
   simp at e
   rw [<- e.2] at hm;cases hm
 · rw [L4 z] at e
   exact ⟨(LS e).1,by rw [L4 z]⟩⟩
end
theorem J5w {B:BagT} {N:List Str}{ds:List D}{vs:List V}{H:Hp}{Q:VK}{P:D->Om}{d:DS3}(hr:RepAs K M b H ds vs)(ho:okB B b H)(hb:∀ p,b=some p->M p)(hd:∀ c,M c->∃ o,H c=some o)(hq:∀ d v H' n,P d n->(∀ p,b=some p->n=cnt b H')->Rep K M H' d v->Kp b H H'->okB B b H'->Q v H')
 (h:d { nx:=fun _=>P .non,rt:=P } (BE N ds) (cnt b H)):sn3 ⟨K,B,H,M,b⟩ d { nx:=fun _ H'=>Q .non H',rt:=Q } (EO N vs) H :=
 ⟨[],M,b,BE N ds,{ nx:=fun _=>P .non,rt:=P },J5x hr ho hb hd,⟨fun M b ρ σ H s h=>hq .non .non _ _ h s.cnt0 rfl s.kp s.ok0,fun d v H n h c r k o=>hq d v H n h c r k o,fun _ _ _ _ _ _ h=>h.elim,fun _ _ _ _ _ _ h=>h.elim,fun _ _ _ _ _ h=>h.elim⟩,h⟩
theorem BW.len {B:BagT}{S:VW}{m:Nat}(h:∀ ds P n,S ds P n->ds.length=m):∀ vs H Q E,BW K B S vs H Q E->vs.length=m:=fun vs H Q E ⟨M,b,ds,P,hS,hr,_⟩=>by rw [hr.length];exact h _ _ _ hS
theorem Fun.okC {P:Program}{w:World} {mg:Str->Option Value}{base:Heap}{x qual:Str}{st:Stmt}{f:Addr} {N ps:List Str}{k:Nat}{B:BagT}{Sd:VW}(F:Fun K x qual st f fd)(S:FnScope N ps (J6 st))(len:∀ ds PP n,Sd ds PP n->ds.length=ps.length/\D.bag∈ds)
 (hbody:∀ (cdv:Value) (A:Around) (outer:List Env) (s:Shared) (H:Hp) (E:XK) (M:Addr->Prop) (bg:Option Addr) (ds:List D) (PP:D->Om) (n:Nat),Room k (A.deeper (envOfC qual (J6 st) s.heap.objs.size f cdv))->Sd ds PP n ->
  ∃ d,CJSs (BQ CX0 P w K mg base N qual (J6 st) f cdv A outer s H E).nox ⟨K,B,H,M,bg⟩ (CB st) d/\d { nx:=fun _=>PP .non,rt:=PP } (BE N ds) n):FnOk P w K mg base CX0 (k+1) f fd ps (BW K B Sd) :=
 F.ok S (BW.len fun ds PP n h=>(len ds PP n h).1) fun cdv A outer s H vs Q E hr h=>by
  obtain ⟨M,bg,ds,PP,hS,hR,ho,hb,hd,hq⟩:=h
  obtain ⟨d,J,q⟩:=hbody cdv A outer s H E M bg ds PP _ hr hS
  have hbg:∃ p,bg=some p:=by
   have hm:=(len ds PP _ hS).2
   obtain ⟨i,hi,ei⟩:=List.getElem_of_mem hm
   obtain ⟨v,_,r⟩:=hR.get (i:=i) (d:=.bag) (by rw [L0 hi,ei])
   obtain ⟨p,e,_⟩:=r
   exact ⟨p,e⟩
  obtain ⟨p,ep⟩:=hbg
  exact ⟨_,J.h,J5w hR ho hb hd (fun d v H' n hP hc r k o=>hq d v H' (by rw [<- hc p ep];exact hP) r k o) q⟩
theorem Fun.okLC {P:Program}{w:World} {mg:Str->Option Value}{base:Heap}{x qual:Str}{st:Stmt}{f:Addr} {N:List Str}{p:Str}{k:Nat}(B:BagT)(F:Fun K x qual st f fd)(S:FnScope N [p] (J6 st))
 (hbody:∀ (cdv:Value) (A:Around) (outer:List Env) (s:Shared) (H:Hp) (E:XK) (ns:List Int),Room k (A.deeper (envOfC qual (J6 st) s.heap.objs.size f cdv))->ns.length<=63 ->
  ∃ d,CJSs (BQ CX0 P w K mg base N qual (J6 st) f cdv A outer s H E).nox ⟨K,B,H,fun _=>False,none⟩ (CB st) d/\d { nx:=fun _ _=>D.non=.bl true,rt:=fun d _=>d=.bl true } (BE N [.scr ns]) 0) :
 FnOk P w K mg base CX0 (k+1) f fd [p] (fun vs H Q _=>∃ (a:Addr) (ns:List Int),vs=[.ref a]/\SqL K H a (ns.map V.int)/\ns.length<=63/\∀ H',Q (.bl true) H') :=
 F.ok S (fun vs H Q E h=>by obtain ⟨a,ns,rfl,_⟩:=h;rfl) fun cdv A outer s H vs Q E hr h=>by
  obtain ⟨a,ns,rfl,hS,hlen,k⟩:=h
  have hR:RepAs K (fun _=>False) none H [.scr ns] [.ref a]:=⟨.ref a,[],rfl,⟨a,rfl,hS.imp (fun q=>⟨id,q⟩) id⟩,rfl⟩
  obtain ⟨d,J,q⟩:=hbody cdv A outer s H E ns hr hlen
  exact ⟨_,J.h,J5w (P:=fun d _=>d=.bl true) hR (fun p e=>by cases e) (fun p e=>by cases e) (fun c m=>m.elim) (fun d v H' n hd _ r _ _=>by cases hd;cases (show _=_ from r);exact k H') q⟩
abbrev V0j:=List D->(List D->Om)->Om
def UQ (K:Fg)(B:BagT)(S:V0j):Sp:=fun vs H Q E=>∃ (M:Addr->Prop) (b:Option Addr) (ds:List D) (P:List D->Om),S ds P (cnt b H)/\RepAs K M b H ds vs/\okB B b H/\(∀ p,b=some p->M p)/\(∀ c,M c->∃ o,H c=some o) /\
 (∀ xs a us H',P xs (cnt b H')->H a=none->H' a=some (.lst us)->Reps K M H' xs us->Kp b H H'->okB B b H'->Q (.ref a) H')
theorem UQ.len {B:BagT}{S:V0j}{m:Nat}(h:∀ ds P n,S ds P n->ds.length=m):∀ vs H Q E,UQ K B S vs H Q E->vs.length=m:=fun vs H Q E ⟨M,b,ds,P,hS,hr,_⟩=>by rw [hr.length];exact h _ _ _ hS
section
variable {X:Cx}{W:Wd}{tg a b:Expr}{pos p:Pos}{dA:DA3}{fz:Bool}
def J6v (dA:DA3):DA3:=fun ρ P=>dA ρ fun xs n=>match xs with
 | [.int i]=>(-(2 ^ 62)<=i/\i<2 ^ 62)/\P (CC 0 i.toNat) n
 | _=>False
theorem XW (hg:Gl X "range") (hm:X.mg "range" = none) (ha:CJA X W [a] dA) (hs:starEach [a] X.env=[(false,eval a X.env)]:=by rfl):CJI X W fz tg (.Call (.Name "range" p) [a] [] pos) (J6v dA):=⟨(PX hg hm ha.h hs).mono fun σ H R hh=>hh.elim fun pn M b ρ P st h k=>by
 refine ⟨pn,M,b,ρ,_,st,h,fun xs vs H1 hx rx k1 o1=>?_⟩
 match xs,hx with
 | [.int i],hx =>
   obtain ⟨v1,r1,rfl,e1,rfl⟩:=rx
   cases (show _=_ from e1)
   exact ⟨i,rfl,hx.1.1,hx.1.2,k _ _ _ H1 hx.2 (GR _ _) NY (fun q hq=>by cases hq) k1 o1⟩⟩
end
section
variable {X:Cx}{W:Wd}{k:Nat}
def iOr (d1 d2:DA):DA:=fun ρ P=>d1 ρ P\/d2 ρ P
theorem Q4p {fz:Bool}{tg l:Expr}{d1 d2:DA}(h1:JI X W fz tg l d1)(h2:JI X W fz tg l d2):JI X W fz tg l (iOr d1 d2):=⟨fun pins s σ H R I hh=>hh.elim fun pn M b ρ P st h k=>h.elim (fun q=>h1.h pins s σ H R I ⟨pn,M,b,ρ,P,st,q,k⟩) (fun q=>h2.h pins s σ H R I ⟨pn,M,b,ρ,P,st,q,k⟩)⟩
end
def RowsR (K:Fg)(M:Addr->Prop)(H:Hp):List Addr->List (List D)->Prop
 | [],rows=>rows=[]
 | r::rs,rows=>∃ row rest us,rows=row::rest/\H r=some (.lst us)/\Reps K M H row us/\RowsR K M H rs rest
section
variable {K:Fg}{M:Addr->Prop}{H H':Hp}
theorem RowsR.keep:∀ (rs:List Addr) (rows:List (List D)),(∀ c o,(¬ M c\/c∈rs)->H c=some o->H' c=some o)->RowsR K M H rs rows->RowsR K M H' rs rows
 | [],_,_,h=>h
 | r::rs,rows,k,h=>by
   obtain ⟨row,rest,us,e,h1,h2,h3⟩:=h
   exact ⟨row,rest,us,e,k _ _ (.inr (B8 ..)) h1,Reps.keep (fun c o n e=>k c o (.inl n) e) _ _ h2,RowsR.keep rs rest (fun c o q e=>k c o (q.imp id (L6 _)) e) h3⟩
theorem RowsR.length:∀ {rs:List Addr} {rows:List (List D)},RowsR K M H rs rows->rows.length=rs.length
 | [],_,h=>by rw [show _=[] from h];rfl
 | r::rs,rows,h=>by
   obtain ⟨row,rest,us,rfl,h1,h2,h3⟩:=h
   simp [RowsR.length h3]
theorem RowsR.lst:∀ {rs:List Addr} {rows:List (List D)},RowsR K M H rs rows->∀ r∈rs,∃ us,H r=some (.lst us)
 | [],_,_,r,m=>by cases m
 | r::rs,rows,h,r',m=>by
   obtain ⟨row,rest,us,rfl,h1,h2,h3⟩:=h
   rcases B7.mp m with z|z
   · rw [z];exact ⟨us,h1⟩
   · exact RowsR.lst h3 r' z
theorem RowsR.at:∀ {rs:List Addr} {rows:List (List D)} {k:Nat} {r:Addr},RowsR K M H rs rows->rs[k]?=some r->∃ row us,rows[k]?=some row/\H r=some (.lst us)/\Reps K M H row us
 | [],_,_,_,_,e=>by simp at e
 | _::rs,rows,0,r,h,e=>by
   obtain ⟨row,rest,us,rfl,h1,h2,h3⟩:=h
   simp at e;subst e
   exact ⟨row,us,rfl,h1,h2⟩
 | _::rs,rows,k+1,r,h,e=>by
   obtain ⟨row,rest,us,rfl,h1,h2,h3⟩:=h
   obtain ⟨row',us',e1,e2⟩:=RowsR.at (k:=k) h3 (by simpa using e)
   exact ⟨row',us',by simpa using e1,e2⟩
theorem RowsR.set:∀ {rs:List Addr} {rows:List (List D)} {k:Nat} {r:Addr} {row:List D} {us:List V},rs.Nodup->(∀ c∈rs,M c)->RowsR K M H rs rows->rs[k]?=some r->Reps K M H row us->RowsR K M (upd H r (.lst us)) rs (rows.set k row)
 | [],_,_,_,_,_,_,_,_,e,_=>by simp at e
 | r0::rs,rows,0,r,row,us,nd,hm,h,e,hr=>by
   obtain ⟨row0,rest,us0,rfl,h1,h2,h3⟩:=h
   simp at e;subst e
   have kk:∀ c o,¬ M c->H c=some o->upd H r0 (.lst us) c=some o:=fun c o n q=>by rw [Q9 (fun z=>n (by rw [z];exact hm r0 (B8 ..)))];exact q
   refine ⟨row,rest,us,rfl,Y5,Reps.keep kk _ _ hr,RowsR.keep rs rest (fun c o q e=>?_) h3⟩
   rcases q with q|q
   · exact kk c o q e
   · rw [Q9 (fun z=>(E5.mp nd).1 (by rw [<- z];exact q))];exact e
 | r0::rs,rows,k+1,r,row,us,nd,hm,h,e,hr=>by
   obtain ⟨row0,rest,us0,rfl,h1,h2,h3⟩:=h
   have er:rs[k]?=some r:=by simpa using e
   have ne:r0≠r:=fun z=>(E5.mp nd).1 (by rw [z];exact R6 er)
   have kk:∀ c o,¬ M c->H c=some o->upd H r (.lst us) c=some o:=fun c o n q=>by rw [Q9 (fun z=>n (by rw [z];exact hm r (L6 _ (R6 er))))];exact q
   exact ⟨row0,rest.set k row,us0,rfl,by rw [Q9 ne];exact h1,Reps.keep kk _ _ h2,RowsR.set (E5.mp nd).2 (fun c m=>hm c (L6 _ m)) h3 er hr⟩
end
theorem StS.setFrg {W:Wd}{pn:List (D×V)} {H:Hp}{σ:St}{ρ:Ev}{f f':Frg}{d d':D}{v:V}{a:Addr}{o:HO}(s:StS W pn M b H σ ρ)(i:Nat)(e:ρ[i]?=some (some (.frg f d)))(ev:σ[i]?=some (some v))(ha:a∈f.ads)(hads:∀ c,c∈f'.ads->c∈f.ads)(r:RepX W M b (upd H a o) (.frg f' d') v) :
 StS W pn M b (upd H a o) σ (ρ.set i (some (.frg f' d'))):=by
 obtain ⟨v0,e1,r0⟩:=s.env i _ e
 rw [ev] at e1;cases e1
 obtain ⟨m1,m2,m3,m4⟩:=r0.1 a ha
 have kk:∀ c u,¬ M c->H c=some u->upd H a o c=some u:=fun c u n q=>by rw [Q9 (show c≠a from fun z=>n (by rw [z];exact m1))];exact q
 have kb:∀ c u,c≠a->H c=some u->upd H a o c=some u:=fun c u n q=>by rw [Q9 n];exact q
 refine s.of2 ⟨⟨fun q z=>W.B.st q H _ (s.ok q z) fun u h=>kb q u (fun w=>m2 (w▸z)) h,s.bagM,fun c hc=>?_,s.m0⟩,fun c u n q=>kb c u (fun z=>by rw [z,m3] at q;cases q) (s.kp c u n q),s.new,fun j d2 e'=>?_,by simp [s.len],fun q hq=>(s.pin q hq).to (fun _ _ r=>Rep.keep kk _ _ r) (fun _ _ r=>Reps.keep kk _ _ r) fun zs a2 us ed ev2 m n hh2=>⟨m,n,kb _ _ (fun y=>s.lj zs a2 (by rw [<- ed,<- ev2];exact hq) i _ _ e ev (show a2∈f.ads by rw [y];exact ha)) hh2⟩⟩ (fun _ _ q=>q) fun j d2 v2 c e' e2 m=>?_
 · by_cases z:c=a
   · rw [z];exact ⟨_,Y5⟩
   · obtain ⟨u,q⟩:=s.dom c hc;exact ⟨u,kb c u z q⟩
 · by_cases z:i=j
   · subst z
     rw [R8] at e'
     simp at e'
     obtain ⟨hl,rfl⟩:=e'
     exact ⟨v,ev,r⟩
   · rw [L4 z] at e'
     obtain ⟨w,e1,r1⟩:=s.env j d2 e'
     refine ⟨w,e1,?_⟩
     have na:¬ HF d2 w a:=fun y=>z (s.dj i j _ _ _ _ a e e' ev e1 ha y)
     cases d2
     case own zs =>
      obtain ⟨a2,us2,rfl,n1,n2,n3,n4,hh2,r2⟩:=r1
      exact ⟨a2,us2,rfl,n1,n2,n3,n4,kb _ _ (fun y=>na (by rw [y];rfl)) hh2,Reps.keep kk _ _ r2⟩
     case bag=>exact r1
     case frg f2 _=>exact RepX.move r1 (fun c _ m n=>⟨m,n⟩) (fun c u q h=>kb c u (fun y=>q.elim (fun n=>n (by rw [y];exact m1)) (fun n=>na (by show a∈f2.ads;rw [<- y];exact n))) h) fun c m=>.inl m
     all_goals exact Rep.keep kk _ _ r1
 · by_cases z:i=j
   · subst z
     rw [R8] at e'
     simp at e'
     obtain ⟨_,rfl⟩:=e'
     exact ⟨_,e,e2,hads c m⟩
   · rw [L4 z] at e'
     exact ⟨d2,e',e2,m⟩
theorem RepX.grow {W:Wd}{M M':Addr->Prop} {H H':Hp}{d:D}{v:V}(hM:∀ c,M' c->M c\/H c=none)(sub:∀ c,M c->M' c)(hb:∀ p,b=some p->M p)(kp:Kp b H H')(r:RepX W M b H d v):RepX W M' b H' d v:=by
 have kk:∀ c o,¬ M' c->H c=some o->H' c=some o:=fun c o n e=>kp c o (fun z=>n (sub c (hb c z))) e
 cases d
 case own ys =>
  obtain ⟨a,us,rfl,m1,m2,m3,m4,hha,r'⟩:=r
  exact ⟨a,us,rfl,sub a m1,m2,m3,m4,kp _ _ m2 hha,Reps.keep kk _ _ (Reps.avoid hM _ _ r')⟩
 case bag=>exact r
 case frg f _=>exact RepX.move r (fun c _ m n=>⟨sub c m,n⟩) (fun c o q e=>q.elim (fun n=>kk c o n e) fun m=>kp c o (r.1 c m).2.1 e) hM
 all_goals exact Rep.keep kk _ _ (Rep.avoid hM _ _ r)
theorem Sta.grow {W:Wd}{pn:List (D×V)}{M M':Addr->Prop} {H H':Hp}{σ:St}{ρ:Ev}(s:Sta W pn M b H σ ρ)(hM:∀ c,M' c->M c\/H c=none)(sub:∀ c,M c->M' c)(kp:Kp b H H')(ok:okB W.B b H')(dom:∀ c,M' c->∃ o,H' c=some o):Sta W pn M' b H' σ ρ:=by
 have kk:∀ c o,¬ M' c->H c=some o->H' c=some o:=fun c o n e=>kp c o (fun z=>n (sub c (s.bagM c z))) e
 refine ⟨⟨ok,fun q e=>sub q (s.bagM q e),dom,fun c m=>sub c (s.m0 c m)⟩,(s.step kp ok).kp,s.new,fun j d e=>?_,s.len,fun q hq=>(s.pin q hq).to (fun _ _ r=>Rep.keep kk _ _ (Rep.avoid hM _ _ r)) (fun _ _ r=>Reps.keep kk _ _ (Reps.avoid hM _ _ r)) fun xs a vs _ _ m n hh'=>⟨sub a m,n,kp _ _ n hh'⟩⟩
 obtain ⟨w,e1,r1⟩:=s.env j d e
 exact ⟨w,e1,r1.grow hM sub s.bagM kp⟩
def dnF (W:Wd)(d:DA):TE:=fun σ H Q=>∃ pn M b ρ P,Sta W pn M b H σ ρ/\d ρ P/\∀ xs vs p H',P xs->H p=none->H' p=some (.lst vs)->Reps W.K (fun c=>M c\/c=p) H' xs vs->Kp b H H'->okB W.B b H'->Q (.ref p) H'
structure JF (X:Cx)(W:Wd)(e:Expr)(d:DA):Prop where
 h:PE X e (dnF W d)
theorem J7z {B:BagT} {H H':Hp}{p:Addr}(k:Kp b H H')(o:okB B b H')(h:H' p=none):H p=none:=by
 cases q:H p with
 | none=>rfl
 | some u =>
   by_cases z:b=some p
   · obtain ⟨w,e⟩:=B.dm p H' (o p z)
     rw [h] at e;cases e
   · have:=k p u z q
     rw [h] at this;cases this
theorem RowsR.append {H:Hp}{p:Addr}{row:List D}{us:List V}(hp:H p=some (.lst us))(hr:Reps K M H row us):∀ {rs:List Addr} {rows:List (List D)},RowsR K M H rs rows->RowsR K M H (rs++[p]) (rows++[row])
 | [],rows,h=>by rw [show rows=[] from h];exact ⟨row,[],us,rfl,hp,hr,rfl⟩
 | r::rs,rows,h=>by
   obtain ⟨row0,rest,us0,rfl,h1,h2,h3⟩:=h
   exact ⟨row0,rest++[row],us0,rfl,h1,h2,RowsR.append hp hr h3⟩
abbrev DSG:=List D->(List (List D)->Prop)->(Addr->Prop)->Prop
structure GNew (K:Fg)(M:Addr->Prop)(H H':Hp)(a:Addr)(rs:List Addr)(rows:List (List D)):Prop where
 a0:H a=none
 r0:∀ r∈rs,H r=none
 nd:(a::rs).Nodup
 ha:H' a=some (.lst (rs.map V.ref))
 hr:RowsR K (fun c=>M c\/c∈a::rs) H' rs rows
def ZJ (K:Fg)(B:BagT)(S:DSG):Sp:=fun vs H Q E=>∃ (M:Addr->Prop) (b:Option Addr) (ds:List D) (P:List (List D)->Prop) (Ed:Addr->Prop),S ds P Ed/\RepAs K M b H ds vs/\okB B b H/\(∀ p,b=some p->M p)/\(∀ c,M c->∃ o,H c=some o) /\
 (∀ rows a rs H',P rows->GNew K M H H' a rs rows->Kp b H H'->okB B b H'->Q (.ref a) H')/\∀ C H',Ed C->Kp b H H'->okB B b H'->E (.ref C) none H'
theorem ZJ.len {B:BagT}{S:DSG}{n:Nat}(h:∀ ds P Ed,S ds P Ed->ds.length=n):∀ vs H Q E,ZJ K B S vs H Q E->vs.length=n:=fun vs H Q E ⟨M,b,ds,P,Ed,hS,hr,_⟩=>by rw [hr.length];exact h _ _ _ hS
section
variable {X:Cx}{W:Wd}{e b c l:Expr}{p:Pos}
theorem StS.thaw {pn:List (D×V)} {b:Option Addr}{H:Hp}{σ:St}{ρ:Ev}{i:Nat}{f:Frg}{d:D}(s:StS W pn M b H σ ρ)(e:ρ[i]?=some (some (.frg f d))):StS W pn (fun c=>M c/\c∉f.ads) b H σ (ρ.set i (some d)):=by
 obtain ⟨v,e1,r⟩:=s.env i _ e
 have pd:plain d=true:=by
  have:=r.2.2
  cases d<;>first|rfl|exact this.elim
 have st:Sta W pn (fun c=>M c/\c∉f.ads) b H σ (ρ.set i none):=by
  refine Sta.avoid (M:=M) ⟨s.toHs,s.kp,s.new,fun j d' e'=>?_,by simp [s.len],s.pin⟩ (fun c m=>m.1) (fun p z=>⟨s.bagM p z,fun y=>(r.1 p y).2.1 z⟩) (fun c m=>⟨s.m0 c m,fun y=>(r.1 c y).2.2.2 m⟩) (fun j d' v' c' e' e2 mm=>?_) fun ys a' hq=>⟨by
   obtain ⟨a2,us2,ev,n1,_⟩:=(s.pin _ hq)
   cases ev;exact n1,fun y=>s.lj ys a' hq i _ _ e e1 y⟩
  · by_cases z:i=j
    · subst z;rw [R8] at e';simp at e'
    · rw [L4 z] at e';exact s.env j d' e'
  · by_cases z:i=j
    · subst z;rw [R8] at e';simp at e'
    · rw [L4 z] at e'
      obtain ⟨v3,e3,r3⟩:=s.env j _ e'
      rw [e2] at e3;cases e3
      exact ⟨(r3.mine mm).1,fun y=>z (s.dj i j _ _ _ _ c' e e' e1 e2 y mm)⟩
 have st2:=st.set (x:=d) (v:=v) i (Rep.x r.2.2)
 rw [J3o e1,List.set_set] at st2
 refine s.of st2 fun j d' hm e'=>?_
 by_cases z:i=j
 · subst z
   rw [R8] at e'
   simp at e'
   rw [<- e'.2] at hm
   cases d<;>first|(cases hm;done)|(cases pd;done)
 · rw [L4 z] at e';exact ⟨e',rfl⟩
def J6j (i:Nat)(d:DS):DS:=fun F ρ=>match ρ[i]? with|some (some (.frg _ x))=>d F (ρ.set i (some x))|_=>False
theorem J1t {sts:List Stmt}{d:DS}(i:Nat)(h:JSs X W sts d):JSs X W sts (J6j i d):=⟨h.h.mono fun E σ H hh=>hh.elim fun pn M b ρ F s l q=>by
 unfold J6j at q
 split at q
 case h_2=>exact q.elim
 case h_1 f x e=>exact ⟨pn,_,b,_,F,s.thaw e,l,q⟩⟩
end
theorem YA {B:BagT}{H0:Hp}{M0:Addr->Prop}{b0:Option Addr}:EH ⟨K,B,H0,M0,b0⟩ (fun xs H Q=>∃ y c t b,xs=[y,.ty c]/\(TyOf K H y t\/∃ a vs,y=.ref a/\KTp K a vs/\t=.type "tuple")/\PySem.W.kitOne K t (.type c)=some b/\Q (.bl b) H) (Q4g K):=AD (W:=⟨K,B,H0,M0,b0⟩)
def dF (K:Fg)(d:D):Frg where
 ads:=[]
 R:=fun M H v=>(∃ a,v=.ref a)/\Rep K M H d v
 keep:=fun M H H' v k h=>⟨h.1,Rep.keep (fun c o n e=>k c o (.inl n) e) _ _ h.2⟩
 avoid:=fun M M' H v k h=>⟨h.1,Rep.avoid k _ _ h.2⟩
 ref:=fun M H v h=>h.1
 nt:=fun M H v h c m=>by cases m
structure PNew (K:Fg)(M:Addr->Prop)(H H':Hp)(f:Frg)(d:D)(v:V):Prop where
 new:∀ c∈f.ads,H c=none
 R:f.R (fun c=>M c\/c∈f.ads) H' v
 rep:Rep K M H' d v
abbrev V0i:=List D->(Frg->D->Om)->Om
def UP (K:Fg)(B:BagT)(S:V0i):Sp:=fun vs H Q E=>∃ (M:Addr->Prop) (b:Option Addr) (ds:List D) (P:Frg->D->Om),S ds P (cnt b H)/\RepAs K M b H ds vs/\okB B b H/\(∀ p,b=some p->M p)/\(∀ c,M c->∃ o,H c=some o) /\
 (∀ f d v H',P f d (cnt b H')->PNew K M H H' f d v->Kp b H H'->okB B b H'->Q v H')
theorem UP.len {B:BagT}{S:V0i}{m:Nat}(h:∀ ds P n,S ds P n->ds.length=m):∀ vs H Q E,UP K B S vs H Q E->vs.length=m:=fun vs H Q E ⟨M,b,ds,P,hS,hr,_⟩=>by rw [hr.length];exact h _ _ _ hS
def NX:PyData->Option (List PyData)
 | .list ps=>some ps
 | .tuple ps=>some ps
 | _=>none
def Q8a (K:Fg)(neg:Bool):R2:=fun x y H Q=>∃ M dx dy p q ps,J2v K M H dx x/\J2v K M H dy y/\Z0 dx=some p/\Z0 dy=some q/\NX q=some ps/\min (PyData.depthAll ps) p.depth<=60/\Q (.bl ((ps.any fun y=>PyData.eqv y p)!=neg)) H
theorem Q4k {ps:List PyData}{q:PyData}(h:q.canLay0=true)(e:NX q=some ps):PyData.canLayAll0 ps=true:=by
 cases q<;>simp [NX] at e
 all_goals
  subst e
  unfold PyData.canLay0 at h
  exact h
theorem WX {X:Cx}(K:Fg)(hK:X.K=K)(hu:X.A.units+64<cLine):OpR X (compareOp .In) (Q8a K false):=by
 subst hK
 intro pins s σ H x y v u Q I rx ry h
 obtain ⟨M,dx,dy,p,q,ps,r1,r2,e1,e2,e3,hd,hq⟩:=h
 obtain ⟨as,a1⟩:=DL I r1 rx e1
 obtain ⟨bs,a2⟩:=DL I r2 ry e2
 have l2:=Q4k (Z0.lay _ _ e2) e3
 cases q<;>simp [NX] at e3
 case list qs=>subst e3;exact SeqAt.in_list_reads a2 a1 l2 (Z0.lay _ _ e1) (by omega) ⟨.bl _,H,I,rfl,by simpa using hq⟩
 case tuple qs=>subst e3;exact SeqAt.in_tuple_reads a2 a1 l2 (Z0.lay _ _ e1) (by omega) ⟨.bl _,H,I,rfl,by simpa using hq⟩
inductive InG (neg:Bool)(x y:D)(P:D->Prop):Prop
 | mk (p q:PyData) (ps:List PyData) (e1:Z0 x=some p) (e2:Z0 y=some q) (e3:NX q=some ps) (hd:min (PyData.depthAll ps) p.depth<=60) (h:P (.bl ((ps.any fun y=>PyData.eqv y p)!=neg))):InG neg x y P
def V0x (neg:Bool):D->D->(D->Prop)->Prop:=fun x y P=>InG neg x y P
theorem XG {W:Wd}{neg:Bool}:OpD W (Q8a W.K neg) (V0x neg):=by
 intro M b H x y v u P Q hs rx ry ho k
 obtain ⟨p,q,ps,e1,e2,e3,hd,hp⟩:=ho
 exact ⟨M,x,y,p,q,ps,rx.g e1,ry.g e2,e1,e2,e3,hd,k _ _ H hp (show _=_ from rfl) (Kp.refl _ _) hs.ok⟩
theorem OR (ns:List Int)(n:Int):((ns.map PyData.int).any fun y=>PyData.eqv y (.int n))=decide (n∈ns):=by
 induction ns with
 | nil=>rfl
 | cons m ns ih =>
   rw [M5,List.any_cons,ih]
   have:PyData.eqv (.int m) (.int n)=decide (m=n):=by simp only [PyData.eqv];rfl
   rw [this]
   by_cases z:m=n
   · simp [z]
   · have:¬ n=m:=fun y=>z y.symm
     simp [z,this]
theorem HR:∀ ns:List Int,BK (ns.map D.int)=some (ns.map PyData.int)
 | []=>rfl
 | n::ns=>by rw [M5];unfold BK;rw [HR ns];rfl
theorem UV {neg:Bool}{n:Int}{ns:List Int}{y:D}{P:D->Prop}(e:y=.tup (ns.map D.int)\/y=.lst (ns.map D.int)\/y=.own (ns.map D.int))(h:P (.bl (decide (n∈ns)!=neg))):InG neg (.int n) y P:=by
 have hd:min (PyData.depthAll (ns.map PyData.int)) (PyData.int n).depth<=60:=M7 (Nat.min_le_right _ _) (by show 0<=60;omega)
 rcases e with rfl|rfl|rfl
 · exact ⟨.int n,.tuple (ns.map .int),ns.map .int,rfl,by unfold Z0;rw [HR];rfl,rfl,hd,by rw [OR];exact h⟩
 · exact ⟨.int n,.list (ns.map .int),ns.map .int,rfl,by unfold Z0;rw [HR];rfl,rfl,hd,by rw [OR];exact h⟩
 · exact ⟨.int n,.list (ns.map .int),ns.map .int,rfl,by unfold Z0;rw [HR];rfl,rfl,hd,by rw [OR];exact h⟩
structure Pc where
 (a:Addr) (f:Frg) (d:D)
abbrev Pc.g (p:Pc):D:=.frg p.f p.d
def Pc.at (p:Pc):Prop:=∀ M H v,p.f.R M H v->v=.ref p.a
structure RepP (K:Fg)(M:Addr->Prop)(b:Option Addr)(H:Hp)(p:Pc):Prop where
 at':p.at
 ow:∀ c∈p.f.ads,M c/\b≠some c
 r:p.f.R M H (.ref p.a)
 d:Rep K (fun c=>M c/\c∉p.f.ads) H p.d (.ref p.a)
def V0c (ps:List Pc):List Addr:=ps.flatMap fun p=>p.f.ads
def J5a (ps ps':List Pc):Prop:=ps'.map (fun p=>(p.a,p.f.ads))=ps.map fun p=>(p.a,p.f.ads)
theorem J5a.get {ps ps':List Pc}{i:Nat}{p':Pc}(h:J5a ps ps')(e:ps'[i]?=some p'):∃ p,ps[i]?=some p/\p'.a=p.a/\p'.f.ads=p.f.ads:=by
 have q:=B0b (fun l=>l[i]?) h
 simp only [M9,e,Option.map_some] at q
 obtain ⟨p,e1,e2⟩:=M6.mp q.symm
 simp only [Prod.mk.injEq] at e2
 exact ⟨p,e1,e2.1.symm,e2.2.symm⟩
def Q9d (ps:List Pc):Prop:=∀ (i j:Nat) p q c,ps[i]?=some p->ps[j]?=some q->c∈p.f.ads->c∈q.f.ads->i=j
def KpA (A:List Addr)(b:Option Addr)(H H':Hp):Prop:=∀ c o,c∉A->b≠some c->H c=some o->H' c=some o
abbrev DSU:=List Pc->List D->(List Pc->D->Prop)->Prop
def ZH (K:Fg)(B:BagT)(S:DSU):Sp:=fun vs H Q E=>∃ (M:Addr->Prop) (b:Option Addr) (ps:List Pc) (ds:List D) (P:List Pc->D->Prop) (dvs:List V),vs=ps.map (fun p=>.ref p.a)++dvs/\S ps ds P/\(∀ p∈ps,RepP K M b H p)/\Q9d ps/\RepAs K M b H ds dvs/\okB B b H/\(∀ p,b=some p->M p)/\(∀ c,M c->∃ o,H c=some o) /\
 ∀ ps' r v H',P ps' r->J5a ps ps'->(∀ p∈ps',RepP K M b H' p)->Rep K M H' r v->KpA (V0c ps) b H H'->okB B b H'->Q v H'
theorem ZH.len {B:BagT}{S:DSU}{n:Nat}(h:∀ ps ds P,S ps ds P->ps.length+ds.length=n):∀ vs H Q E,ZH K B S vs H Q E->vs.length=n:=fun vs H Q E ⟨M,b,ps,ds,P,dvs,e,hS,_,_,hr,_⟩=>by
 rw [e,T1,L7,hr.length];exact h _ _ _ hS
section
variable {W:Wd}{pn:List (D×V)}{M:Addr->Prop}{b:Option Addr}{H:Hp}{σ:St}{ρ:Ev}{js:List Nat}{ps:List Pc}
def Q2b (js:List Nat)(ps:List Pc)(ρ:Ev):Prop:=js.length=ps.length/\∀ (k:Nat) p,ps[k]?=some p->p.at/\∃ j,js[k]?=some j/\ρ[j]?=some (some p.g)
theorem Q2b.ads (s:StS W pn M b H σ ρ)(h:Q2b js ps ρ){c:Addr}(m:c∈V0c ps):∃ (k j:Nat) (p:Pc),ps[k]?=some p/\js[k]?=some j/\ρ[j]?=some (some p.g)/\c∈p.f.ads/\σ[j]?=some (some (.ref p.a))/\RepX W M b H p.g (.ref p.a):=by
 obtain ⟨p,mp,mc⟩:=B2m.mp m
 obtain ⟨k,ek⟩:=B2t mp
 obtain ⟨pa,j,ej,er⟩:=h.2 k p ek
 obtain ⟨v,ev,r⟩:=s.env j _ er
 have hv:=pa _ _ _ r.2.1
 subst hv
 exact ⟨k,j,p,ek,ej,er,mc,ev,r⟩
end
def V1g (K:Fg)(a:Addr)(t:Tg)(ks:List (List Int))(xs:List D)(M:Addr->Prop)(H:Hp)(v:V):Prop:=v=.ref a/\∃ vs:List V,H a=some (DOb a t.1 t.2)/\DctE K M H t.1 ks vs/\Reps K M H xs vs
def Q9j (K:Fg)(a:Addr)(t:Tg)(ks:List (List Int))(xs:List D):Frg where
 ads:=[a]
 R:=V1g K a t ks xs
 keep:=fun M H H' v k ⟨e,vs,h,hE,r⟩=>⟨e,vs,k a _ (.inr (B8 ..)) h,hE.keep fun c o n q=>k c o (.inl n) q,Reps.keep (fun c o n q=>k c o (.inl n) q) _ _ r⟩
 avoid:=fun M M' H v k ⟨e,vs,h,hE,r⟩=>⟨e,vs,h,hE.avoid k,Reps.avoid k _ _ r⟩
 ref:=fun M H v h=>⟨a,h.1⟩
 nt:=fun M H v ⟨e,vs,h,hE,r⟩ c m=>by
  rw [T5.mp m]
  exact ⟨_,h,fun vs z=>by cases z⟩
abbrev dcg (K:Fg)(a:Addr)(t:Tg)(ks:List (List Int))(xs:List D):D:=.frg (Q9j K a t ks xs) (.dct t ks xs)
section
variable {W:Wd}{M:Addr->Prop}{b:Option Addr}{H:Hp}{a:Addr}{ks:List (List Int)}{xs:List D}{t:Tg}{vs:List V}
theorem ZV (ow:M a/\b≠some a/\W.H0 a=none/\¬ W.M0 a)(h:H a=some (DOb a t.1 t.2))(hE:DctE W.K M H t.1 ks vs)(r:Reps W.K M H xs vs):RepX W M b H (dcg W.K a t ks xs) (.ref a) :=
 ⟨fun c m=>by rw [T5.mp m];exact ow,⟨rfl,vs,h,hE,r⟩,a,vs,rfl,⟨fun z=>z.2 (B8 ..),h,hE.avoid fun c m=>.inl m.1⟩,Reps.avoid (fun c m=>.inl m.1) _ _ r⟩
theorem XV {v:V}(r:RepX W M b H (dcg W.K a t ks xs) v):v=.ref a/\(M a/\b≠some a/\W.H0 a=none/\¬ W.M0 a)/\∃ vs,H a=some (DOb a t.1 t.2)/\DctE W.K M H t.1 ks vs/\Reps W.K M H xs vs:=by
 obtain ⟨ow,⟨e,q⟩,_⟩:=r
 exact ⟨e,ow a (B8 ..),q⟩
def asD (K:Fg)(d:D)(t:Tg)(ks:List (List Int))(xs:List D):Prop:=d=.dct t ks xs\/∃ a,d=dcg K a t ks xs
theorem asD.rep {d:D}{v:V}(h:asD W.K d t ks xs)(r:RepX W M b H d v):∃ a vs,v=.ref a/\H a=some (DOb a t.1 t.2)/\DctE W.K M H t.1 ks vs/\Reps W.K M H xs vs:=by
 rcases h with rfl|⟨a,rfl⟩
 · obtain ⟨a,vs,e,⟨_,h,hE⟩,rr⟩:=r
   exact ⟨a,vs,e,h,hE,rr⟩
 · obtain ⟨e,_,vs,h,hE,rr⟩:=XV r
   exact ⟨a,vs,e,h,hE,rr⟩
end
def LJ:List (List Int)->List D->List Int->D->List D
 | k::ks,x::xs,n,z=>(if k=n then z else x)::LJ ks xs n z
 | _,xs,_,_=>xs
def FY (ks:List (List Int))(xs:List D)(n:List Int)(z:D):List (List Int)×List D:=if n∈ks then (ks,LJ ks xs n z) else (ks++[n],xs++[z])
theorem TR {n:List Int}{z:D}:∀ (ks:List (List Int)) (xs:List D),(LJ ks xs n z).length=xs.length
 | [],xs=>by unfold LJ;rfl
 | k::ks,[]=>by unfold LJ;rfl
 | k::ks,x::xs=>by unfold LJ;simp [TR ks xs]
theorem J3x {n:List Int}{z:D}(ks:List (List Int))(xs:List D)(h:ks.length=xs.length):(FY ks xs n z).1.length=(FY ks xs n z).2.length:=by
 unfold FY
 split
 · rw [TR];exact h
 · simp [h]
theorem PV {n:List Int}{z:D}(ks:List (List Int))(xs:List D):(FY ks xs n z).1=if n∈ks then ks else ks++[n]:=by
 unfold FY
 split<;>rfl
theorem WR {n:List Int}{z:D}{ks:List (List Int)}{xs:List D}(h:ks.Nodup):(FY ks xs n z).1.Nodup:=by
 rw [PV]
 split
 · exact h
 · rename_i q
   exact List.nodup_append.mpr ⟨h,E5.mpr ⟨(fun m=>by cases m),List.nodup_nil⟩,fun a ha b hb e=>q (by rw [T5.mp hb] at e;rw [<- e];exact ha)⟩
theorem QI {m n:List Int}{z:D}:∀ {ks:List (List Int)} {xs:List D},ks.length=xs.length->n∉ks->CF (ks++[n]) (xs++[z]) m=if n=m then some z else CF ks xs m
 | [],[],_,_=>by simp [CF]
 | [],_::_,h,_=>by simp at h
 | _::_,[],h,_=>by simp at h
 | k::ks,x::xs,h,nm=>by
   rw [B7,not_or] at nm
   have ih:=QI (m:=m) (z:=z) (ks:=ks) (xs:=xs) (by simpa using h) nm.2
   rw [B2n,B2n]
   unfold CF
   rw [ih]
   by_cases e:k=m
   · have:¬ n=m:=fun y=>nm.1 (by rw [y,e])
     simp [e,this]
   · simp [e]
theorem OE {m n:List Int}{z:D}:∀ {ks:List (List Int)} {xs:List D},ks.length=xs.length->CF ks (LJ ks xs n z) m=if n=m/\n∈ks then some z else CF ks xs m
 | [],[],_=>by simp [CF,LJ]
 | [],_::_,h=>by simp at h
 | _::_,[],h=>by simp at h
 | k::ks,x::xs,h=>by
   have ih:=OE (m:=m) (n:=n) (z:=z) (ks:=ks) (xs:=xs) (by simpa using h)
   unfold LJ CF
   rw [ih]
   by_cases e:k=m
   · subst e
     by_cases y:k=n
     · subst y;simp
     · have y2:¬ n=k:=fun q=>y q.symm
       simp [y,y2]
   · rw [if_neg e,if_neg e]
     by_cases y:n=m
     · subst y
       have:¬ n=k:=fun q=>e q.symm
       simp [this]
     · simp [y]
theorem J1f {n m:List Int}{z:D}(ks:List (List Int))(xs:List D)(h:ks.length=xs.length):CF (FY ks xs n z).1 (FY ks xs n z).2 m=if n=m then some z else CF ks xs m:=by
 unfold FY
 by_cases q:n∈ks
 · rw [if_pos q]
   show CF ks (LJ ks xs n z) m=_
   rw [OE h]
   by_cases e:n=m
   · simp [e,e▸q]
   · simp [e]
 · rw [if_neg q]
   exact QI h q
section
variable {K:Fg}{M:Addr->Prop}{H:Hp}{n:List Int}{z:D}{v:V}{u:Value}{b:Addr}
theorem LW:∀ {es:Ens},(atKey es n).isSome=true↔n∈es.map (·.1)
 | []=>by simp [atKey]
 | e::es=>by
   rw [OQ,M5,B7]
   by_cases q:e.1=n
   · simp [q]
   · rw [if_neg q,LW]
     exact ⟨.inr,fun y=>y.elim (fun w=>absurd w.symm q) id⟩
theorem TX:∀ (es:Ens),(es.map (putAt n u)).map (·.1)=es.map (·.1)
 | []=>rfl
 | e::es=>by
   rw [M5,M5,M5,TX es]
   congr 1
   unfold putAt
   split<;>rfl
theorem YT:∀ (es:Ens),(es.map (putAt n u)).map (fun e=>(e.1,e.2.1))=es.map fun e=>(e.1,e.2.1)
 | []=>rfl
 | e::es=>by
   rw [M5,M5,M5,YT es]
   congr 1
   unfold putAt
   split<;>rfl
theorem TW (rv:RelV v u)(rz:Rep K M H z v):∀ {es:Ens} {vs:List V} {xs:List D},Vals vs (es.map (·.2.2))->Reps K M H xs vs->∃ vs',Vals vs' ((es.map (putAt n u)).map (·.2.2))/\Reps K M H (LJ (es.map (·.1)) xs n z) vs'
 | [],vs,xs,hv,r=>by
   cases hv
   rw [B1h]
   unfold LJ
   exact ⟨[],.nil,r⟩
 | e::es,vs,[],hv,r=>by
   rw [show vs=[] from r] at hv
   cases hv
 | e::es,_,x::xs,hv,r=>by
   obtain ⟨v0,vs,rfl,rx,rr⟩:=r
   rw [M5] at hv
   cases hv with
   | cons h1 h2 =>
   obtain ⟨vs',i1,i2⟩:=TW rv rz h2 rr
   rw [M5,M5,M5]
   unfold LJ
   by_cases q:e.1=n
   · refine ⟨v::vs',.cons ?_ i1,v,vs',rfl,?_,i2⟩
     · unfold putAt;rw [if_pos q];exact rv
     · rw [if_pos q];exact rz
   · refine ⟨v0::vs',.cons ?_ i1,v0,vs',rfl,?_,i2⟩
     · unfold putAt;rw [if_neg q];exact h1
     · rw [if_neg q];exact rx
theorem J8o {es:Ens}{ks:List (List Int)}{vs:List V}{xs:List D}(hb:TpA K M H b (n.map V.int))(rv:RelV v u)(rz:Rep K M H z v)(hE:DctE K M H es ks vs)(r:Reps K M H xs vs):∃ vs',DctE K M H (storedH es n b u) (FY ks xs n z).1 vs'/\Reps K M H (FY ks xs n z).2 vs':=by
 obtain ⟨e1,e2,e3⟩:=hE
 subst e1
 unfold storedH FY
 by_cases q:n∈es.map (·.1)
 · rw [if_pos (LW.mpr q),if_pos q]
   obtain ⟨vs',i1,i2⟩:=TW (n:=n) rv rz e3 r
   refine ⟨vs',⟨TX es,fun e m=>?_,i1⟩,i2⟩
   have:(e.1,e.2.1)∈es.map fun e=>(e.1,e.2.1):=by rw [<- YT (n:=n) (u:=u) es];exact E8.mpr ⟨e,m,rfl⟩
   obtain ⟨e',m',q'⟩:=E8.mp this
   have h:=e2 e' m'
   injection q' with q1 q2
   rw [q1,q2] at h
   exact h
 · rw [if_neg (fun y=>q (LW.mp y)),if_neg q]
   refine ⟨vs++[v],⟨by simp,fun e m=>?_,?_⟩,Reps.append r ⟨v,[],rfl,rz,rfl⟩⟩
   · rcases U0.mp m with y|y
     · exact e2 e y
     · rw [T5.mp y];exact hb
   · rw [D7]
     exact Paired.snoc e3 rv
end
section
variable {X:Cx}{W:Wd}{pos:Pos}
def Q5z (K:Fg)(i:Nat):DS:=fun F ρ=>∀ a t,F.nx (ρ.set i (some (dcg K a t [] [])))
theorem J1u {i:Nat}{y:Str}{py dpos:Pos}(hN:X.N.Nodup)(hiN:X.N[i]?=some y)(hy:Loc X.env.scope y)
 (hs:swapsWith (.Dict [] [] dpos) (some (.Name y py)) pos.line X.env=pure false:=by rfl) (hf:X.fn y=true\/X.env.scope.names.lookup y=some .local:=by first|exact .inl rfl|exact .inr rfl|assumption) :
 JS X W (.Assign [.Name y py] (.Dict [] [] dpos) pos) (Q5z W.K i):=⟨(DM hN hiN hy J8y hs hf).mono fun E σ H hh=>hh.elim fun pn M b ρ F s l h=>by
 intro p hp
 have ok:=s.toHs.okU (o:=DOb p [] 0) hp
 have t:Sta W pn (fun c=>M c\/c=p) b (upd H p (DOb p [] 0)) σ ρ:=s.toSta.grow (fun c z=>z.imp id fun y=>by rw [y];exact hp) (fun c z=>.inl z) (Kp.upd hp) ok fun c z=>z.elim ((s.toSta.step (Kp.upd hp) ok).dom c) fun y=>by rw [y];exact ⟨_,Y5⟩
 refine l.nx _ _ _ _ _ (s.add i (t.set (x:=dcg W.K p ([],0) [] []) (v:=.ref p) i (ZV ⟨.inr rfl,fun z=>?_,s.toSta.fresh0 hp⟩ Y5 ⟨rfl,(fun _ m=>by cases m),.nil⟩ rfl)) fun c m=>?_) (h p ([],0))
 · obtain ⟨o,e⟩:=W.B.dm p H (s.ok p z)
   rw [hp] at e;cases e
 · have:c=p:=T5.mp m
   rw [this];exact s.toHs.new hp⟩
def Q9n (K:Fg)(i:Nat)(de dk:DE):DS:=fun F ρ=>∃ (a:Addr) (t:Tg) (ks:List (List Int)) (xs:List D),ρ[i]?=some (some (dcg K a t ks xs))/\de ρ fun z=>plain z=true/\dk ρ fun y=>∃ ns:List Int,y=.tup (ns.map D.int)/\ks.length<1000/\∀ t',F.nx (ρ.set i (some (dcg K a t' (FY ks xs ns z).1 (FY ks xs ns z).2)))
theorem J5e {i:Nat}{tg e:Expr}{de dk:DE}(hK:X.K=W.K)(he:JE X W e de)(hg:PG X tg (Q8w (J0x i) (dn W dk) (Q1p X.K)))(hs:swapsWithSole [tg] e pos.line X.env=pure false:=by rfl)(hw:swappedStores [tg] e X.env=pure none:=by rfl)
 (h1:(assignEach [tg] X.env).map (·.2)=[assign tg X.env]:=by rfl):JS X W (.Assign [tg] e pos) (Q9n W.K i de dk):=⟨(RJ he.h hg hs hw h1).mono fun E σ H hh=>hh.elim fun pn M b ρ F s l q=>by
 rw [hK]
 obtain ⟨a,t,ks,xs,e1,q⟩:=q
 obtain ⟨v0,ev,rg⟩:=s.env i _ e1
 obtain ⟨rfl,_,_⟩:=XV rg
 refine ⟨pn,M,b,ρ,_,s.toSta,q,fun z v H1 hz rz k1 o1=>?_⟩
 have s1:=s.step k1 o1
 refine ⟨.ref a,ev,pn,M,b,ρ,_,s1.toSta,hz.2,fun y u H2 hy ry k2 o2=>?_⟩
 obtain ⟨ns,rfl,hl,hnx⟩:=hy
 have s2:=s1.step k2 o2
 obtain ⟨v2,ev2,rg2⟩:=s2.env i _ e1
 obtain ⟨rfl,ow,vs,hd,hE,rr⟩:=XV rg2
 obtain ⟨bk,us,rfl,hb,rks⟩:=(show Rep W.K M H2 (.tup (ns.map D.int)) u from ry)
 cases rks.ints
 have hes:t.1.length=ks.length:=by rw [<- hE.1];simp
 refine ⟨a,bk,t.1,t.2,ns,rfl,rfl,hd,hE.keys,hb.sq,by rw [hes];exact L3 hl AZ,fun uu ep' ru=>?_⟩
 have rz2:=((rz.step s.bagM k2).rep hz.1)
 obtain ⟨vs',hE',rr'⟩:=J8o (n:=ns) hb ru rz2 hE rr
 have kk:∀ c o,¬ M c->H2 c=some o->upd H2 a (DOb a (storedH t.1 ns bk uu) ep') c=some o:=fun c o n q=>by rw [Q9 (fun z=>n (by rw [z];exact ow.1))];exact q
 exact l.nx _ _ _ _ _ (s2.setFrg (f':=Q9j W.K a (storedH t.1 ns bk uu,ep') (FY ks xs ns z).1 (FY ks xs ns z).2) (d':=.dct (storedH t.1 ns bk uu,ep') (FY ks xs ns z).1 (FY ks xs ns z).2) i e1 ev2 (B8 ..) (fun c m=>m) (ZV ow Y5 (hE'.keep kk) (Reps.keep kk _ _ rr'))) (hnx _)⟩
end
def RawD (h:Heap)(d:Addr)(ds:Array DictEntry)(ep:Nat):Prop:=∃ o:Obj,h.get? d=some o/\o.ExactDict/\o.data=.dict ds ep
section
variable {X:Cx}{W:Wd}{e f:Expr}{dk df:DE}
theorem J8c {H:Hp}{ns:List Int}{v:V}(r:RepX W M b H (.tup (ns.map D.int)) v):∃ c,v=.ref c/\SqT W.K H c (ns.map V.int):=by
 obtain ⟨c,us,rfl,hb,rks⟩:=(show Rep W.K M H (.tup (ns.map D.int)) v from r)
 cases rks.ints
 exact ⟨c,rfl,hb.sq⟩
def Q9t (K:Fg)(i:Nat)(dk df:DE):DE:=fun ρ P=>∃ x t ks xs,ρ[i]?=some (some x)/\asD K x t ks xs/\dk ρ fun y=>∃ ns,y=.tup (ns.map D.int)/\df ρ fun z=>P ((CF ks xs ns).getD z)
theorem US {i:Nat}{x:Str}{npos apos cpos:Pos}(hK:X.K=W.K)(hu:X.A.units+64<cLine)(hk:JE X W e dk)(hf:JE X W f df)(hN:X.N[i]?=some x)(hv:Vis X.env.scope x)(m:M2 X (.Name x npos) "get" apos e f cpos) (hd:(x==("__debug__" : Str))=false:=by decide)
 (hcd:(x==("__classdict__" : Str))=false:=by decide):JE X W (.Call (.Attribute (.Name x npos) "get" apos) [e,f] [] cpos) (Q9t W.K i dk df) :=
 ⟨(J4l (by omega) (RM hN hv hd hcd) hk.h hf.h m).mono fun σ H Q hh=>hh.elim fun pn M b ρ P st h k=>by
   rw [hK]
   obtain ⟨x,t,ks,xs,ex,hA,h⟩:=h
   obtain ⟨v,ev,rx⟩:=st.env i _ ex
   obtain ⟨a,vs,rfl,hd,hE,rr⟩:=hA.rep rx
   refine ⟨.ref a,ev,a,t.1,t.2,rfl,hd,hE.keys,pn,M,b,ρ,_,st,h,fun y vy H1 hy ry k1 o1=>?_⟩
   obtain ⟨ns,rfl,hy⟩:=hy
   have st1:=st.step k1 o1
   refine ⟨pn,M,b,ρ,_,st1,hy,fun z u H3 hz rz k3 o3=>?_⟩
   have kk:=k1.trans k3
   have rx3:=rx.step st.bagM kk
   obtain ⟨a',vs3,e3,hd3,hE3,rr3⟩:=hA.rep rx3
   cases e3
   have ry3:=ry.step st.bagM k3
   obtain ⟨c,rfl,hc⟩:=J8c ry3
   have q:=QH ns hE3.1 hE3.2.2 rr3
   refine ⟨c,ns,rfl,hd3,hE3.keys,hc,fun hn=>?_,fun p hs=>?_⟩
   · cases ef:CF ks xs ns with
     | none=>rw [ef] at hz;exact k _ _ H3 hz rz kk o3
     | some d=>rw [ef] at q;obtain ⟨p,v,e1,_⟩:=q;rw [hn] at e1;cases e1
   · cases ef:CF ks xs ns with
     | none=>rw [ef] at q;rw [show atKey t.1 ns=none from q] at hs;cases hs
     | some d =>
       rw [ef] at q hz
       obtain ⟨p',v,e1,rv,r1⟩:=q
       rw [hs] at e1;cases e1
       exact ⟨v,rv,k _ _ H3 hz r1.x kk o3⟩⟩
end
section
theorem RawD.at {h h':Heap}{d:Addr}{ds:Array DictEntry}{ep:Nat}(x:RawD h d ds ep)(k:∀ o,h.get? d=some o->h'.get? d=some o):RawD h' d ds ep:=let ⟨o,e,q⟩:=x;⟨o,k o e,q⟩
end
abbrev DST:=List D->(List (List D)->Int->Prop)->(Addr->Prop)->Prop
structure TNew (K:Fg)(M:Addr->Prop)(H H':Hp)(p a:Addr)(rs:List Addr)(rows:List (List D))(n:Int):Prop extends GNew K M H H' a rs rows where
 p0:H p=none
 hp:H' p=some (.tup [.ref a,.int n])
def ZI (K:Fg)(B:BagT)(S:DST):Sp:=fun vs H Q E=>∃ (M:Addr->Prop) (b:Option Addr) (ds:List D) (P:List (List D)->Int->Prop) (Ed:Addr->Prop),S ds P Ed/\RepAs K M b H ds vs/\okB B b H/\(∀ p,b=some p->M p)/\(∀ c,M c->∃ o,H c=some o) /\
 (∀ rows n p a rs H',P rows n->TNew K M H H' p a rs rows n->Kp b H H'->okB B b H'->Q (.ref p) H')/\∀ C H',Ed C->Kp b H H'->okB B b H'->E (.ref C) none H'
theorem ZI.len {B:BagT}{S:DST}{n:Nat}(h:∀ ds P Ed,S ds P Ed->ds.length=n):∀ vs H Q E,ZI K B S vs H Q E->vs.length=n:=fun vs H Q E ⟨M,b,ds,P,Ed,hS,hr,_⟩=>by rw [hr.length];exact h _ _ _ hS
theorem PL:∀ {as:List Addr} {us:List Value},Vals (as.map V.ref) us->us=as.map Value.ref
 | [],us,r=>by cases r;rfl
 | a::as,us,r=>by
   cases r with
   | cons r1 r2 =>
     cases r1
     rw [PL r2]
     rfl
theorem PU:∀ as:List Addr,Vals (as.map V.ref) (as.map Value.ref)
 | []=>.nil
 | a::as=>.cons rfl (PU as)
theorem KM:∀ {ns:List Int} {us:List Value},Vals (ns.map V.int) us->IntsAre us ns
 | [],us,r=>by cases r;exact .nil
 | n::ns,us,r=>by
   cases r with
   | cons r1 r2 =>
     obtain ⟨t,rfl⟩:=r1
     exact .cons n t (KM r2)
section
variable {prog:Program}{w:World}{A:Around}{E:Value->Shared->Prop}{s:Shared}
theorem TH {l:Addr}{vs:List Value}{m:Nat}{rows:Value->List Int}{Q:Value->Shared->Prop}(il:s.heap.IsList l vs.toArray)
 (ht:∀ v∈vs,TupZ s.heap v (rows v)) (hm:∀ v∈vs,(rows v).length=m/\∀ z∈rows v,BR z) (m0:0<m) (h64:vs.length<64)
 (h:∀ (out:Array Value) (L:Addr) (e:Nat) h',out.toList.Perm vs->out.toList.Pairwise (fun x y=>CV 0 (rows x)<=CV 0 (rows y))->h'.get? L=some (seqObj "list" out e)->s.heap.objs.size<=L->(∀ b o,s.heap.get? b=some o->h'.get? b=some o)->Q (.ref L) { s with heap:=h' }) :
 wpAny (model prog w) A (call (.builtin "sorted") [.ref l]) Q E s:=by
 refine Calls.call_function_entry kind_sorted plain_sorted entry_sorted (args_sorted1 _) ?_
 unfold Builtin.«sorted»
 refine B0 (m:=checkCount "sorted" 1 1 _) (B5 ?_)
 refine B0 (collect_list il ?_ (by rw [B1w];omega))
 refine B0 (wpAny_newList ?_)
 have z1:((s.heap.push (seqObj "list" #[] 0)).update s.heap.objs.size (Obj.mapSeq (·++vs.toArray))).objs.size=s.heap.objs.size+1:=by
  rw [Heap.size_update,size_push']
 generalize hH:(s.heap.push (seqObj "list" #[] 0)).update s.heap.objs.size (Obj.mapSeq (·++vs.toArray))=H1 at z1
 have k1:∀ b o,s.heap.get? b=some o->H1.get? b=some o:=fun b o e=>by
  have hlt:b<s.heap.objs.size:=B2 e
  rw [<- hH,B2h _ _ _ _ (R9 hlt),Heap.get?_push_ne _ _ _ (R9 hlt)]
  exact e
 have g2:(H1.push (seqObj "list" vs.toArray 0)).get? H1.objs.size=some (seqObj "list" vs.toArray 0):=L8 _ rfl
 have t2:∀ v∈vs,TupZ (H1.push (seqObj "list" vs.toArray 0)) v (rows v):=fun v hv=>by
  obtain ⟨a,o,xs,n,e,g,c,d,i⟩:=ht v hv
  exact ⟨a,o,xs,n,e,B1 _ (k1 a o g),c,d,i⟩
 refine B0 (E6 (B1c (s:={ s with heap:=H1.push (seqObj "list" vs.toArray 0) }) slot_list_sort ⟨_,g2,rfl⟩ entry_list_sort (NT g2 t2 hm m0 h64 fun out a1 a2=>⟨_,rfl,?_⟩) (args_list_sort _)))
 refine B5 ⟨_,rfl,?_⟩
 show Q (.ref H1.objs.size) { s with heap:=sortedHeap (H1.push (seqObj "list" vs.toArray 0)) H1.objs.size vs out }
 unfold sortedHeap
 obtain ⟨e1,q1⟩:∃ e1,((H1.push (seqObj "list" vs.toArray 0)).update H1.objs.size (Obj.mapSeq fun _=>#[])).get? H1.objs.size=some (seqObj "list" #[] e1):=⟨_,get?_update_seq g2 (fun _=>#[])⟩
 have q2:=B1 (seqObj "list" #[] 0) (B1 (seqObj "tuple" vs.toArray 0) q1)
 obtain ⟨e3,q3⟩:∃ e3,(((((H1.push (seqObj "list" vs.toArray 0)).update H1.objs.size (Obj.mapSeq fun _=>#[])).push (seqObj "tuple" vs.toArray 0)).push (seqObj "list" #[] 0)).update H1.objs.size (Obj.mapSeq fun _=>out)).get? H1.objs.size=some (seqObj "list" out e3):=⟨_,get?_update_seq q2 (fun _=>out)⟩
 refine h out H1.objs.size e3 _ a1 a2 q3 (by omega) fun b q e=>?_
 have bl:=B2 e
 have nb:b≠H1.objs.size:=by
  intro z
  rw [z,z1] at bl
  exact L5 _ (E3 bl)
 rw [B2h _ _ _ _ nb]
 refine B1 _ (B1 _ ?_)
 rw [B2h _ _ _ _ nb]
 exact B1 _ (k1 b q e)
end
section
variable {X:Cx}
theorem SK (K:Fg)(hK:X.K=K)(hc:X.calm=true):BD X (.builtin "sorted") (fun xs H Q=>∃ (D:Addr) (ps:List (Addr×List Int)) (m:Nat),xs=[.ref D]/\SqL K H D (ps.map fun p=>V.ref p.1)/\(∀ p∈ps,SqT K H p.1 (p.2.map V.int)/\p.2.length=m/\∀ z∈p.2,BR z)/\0<m/\ps.length<64 /\
 ∀ (p:Addr) (qs:List (Addr×List Int)),H p=none->qs.Perm ps->qs.Pairwise (fun x y=>CV 0 x.2<=CV 0 y.2)->Q (.ref p) (upd H p (.lst (qs.map fun q=>V.ref q.1)))):=by
 subst hK
 intro pins s σ H xs us Q I r h
 obtain ⟨D,ps,m,rfl,hD,hr,m0,h64,q⟩:=h
 obtain ⟨u,rfl,rx⟩:=HD r
 cases rx
 obtain ⟨its,rv,pl,hz⟩:=I.list hD
 rw [show (ps.map fun p=>V.ref p.1)=(ps.map (·.1)).map V.ref by rw [B0f];rfl] at rv
 have e:=PL rv
 subst e
 have hl:=pl.isList
 let row:Addr->List Int:=fun a=>match ps.find? (fun p=>p.1==a) with|some p=>p.2|none=>[]
 have rw_:∀ p∈ps,row p.1=p.2:=fun p hp=>by
  show (match ps.find? (fun q=>q.1==p.1) with|some p=>p.2|none=>[])=p.2
  cases f:ps.find? (fun q=>q.1==p.1) with
  | none=>exact absurd (List.find?_eq_none.mp f p hp) (by simp)
  | some p' =>
    have m1:=List.mem_of_find?_eq_some f
    have m2:p'.1=p.1:=by simpa using List.find?_some f
    have h1:=(hr p' m1).1
    rw [m2] at h1
    have:=I.tuple_inj h1 (hr p hp).1
    exact (List.map_inj_right (fun x y e=>by cases e;rfl)).mp this
 refine TH (rows:=fun v=>match v with|.ref a=>row a|_=>[]) hl (fun v hv=>?_) (fun v hv=>?_) m0 (by rw [L7,L7];exact h64) fun out L ep h' a1 a2 g zL k=>?_
 · obtain ⟨a,ha,rfl⟩:=E8.mp hv
   obtain ⟨p,hp,rfl⟩:=E8.mp ha
   obtain ⟨its,rv,⟨o,g,c,n,d⟩,_⟩:=I.tuple (hr p hp).1
   exact ⟨p.1,o,its.toArray,n,rfl,g,c,d,by show IntsAre _ (row p.1);rw [rw_ p hp];exact KM rv⟩
 · obtain ⟨a,ha,rfl⟩:=E8.mp hv
   obtain ⟨p,hp,rfl⟩:=E8.mp ha
   show (row p.1).length=m/\∀ z∈row p.1,BR z
   rw [rw_ p hp]
   exact (hr p hp).2
 · obtain ⟨bs,eb⟩:∃ bs:List Addr,out.toList=bs.map Value.ref:=by
    have:∀ l:List Value,(∀ v∈l,∃ a,v=Value.ref a)->∃ bs:List Addr,l=bs.map Value.ref:=by
     intro l
     induction l with
     | nil=>exact fun _=>⟨[],rfl⟩
     | cons v l ih =>
       intro h
       obtain ⟨a,rfl⟩:=h v (B8 ..)
       obtain ⟨bs,rfl⟩:=ih fun v hv=>h v (L6 _ hv)
       exact ⟨a::bs,rfl⟩
    refine this _ fun v hv=>?_
    obtain ⟨a,_,e⟩:=E8.mp (a1.mem_iff.mp hv)
    exact ⟨a,e.symm⟩
   have pb:bs.Perm (ps.map (·.1)):=by
    have:=a1
    rw [eb] at this
    have:=this.map (fun v=>match v with|Value.ref a=>a|_=>0)
    rw [B0f,B0f] at this
    simpa [Function.comp_def] using this
   have hL:H L=none:=I.hok.fresh zL
   have eq:(bs.map fun a=>(a,row a)).map (fun q=>V.ref q.1)=bs.map V.ref:=by
    rw [B0f];rfl
   have pq:(bs.map fun a=>(a,row a)).Perm ps:=by
    have:=pb.map fun a=>(a,row a)
    rw [B0f] at this
    have e:ps.map ((fun a=>(a,row a))∘fun x=>x.1)=ps:=by
     conv=>rhs;rw [<- List.map_id ps]
     exact List.map_congr_left fun p hp=>by show (p.1,row p.1)=p;rw [rw_ p hp]
    rwa [e] at this
   have J:=I.laid (a:=L) (o:=.lst (bs.map V.ref)) (t':=s.toks) (h':=h') k zL ⟨by rw [L7,pb.length_eq,L7,B1w];omega,out.toList,ep,by rw [eb];exact PU bs,by simpa using g⟩
   have fin:=q L (bs.map fun a=>(a,row a)) hL pq (by
    rw [eb,B2e] at a2
    rw [B2e]
    exact a2)
   rw [eq] at fin
   exact ⟨.ref L,_,J,rfl,fin⟩
end
def DK (r:List Int):D:=.tup (r.map D.int)
theorem PR {H:Hp}:∀ {rows:List (List Int)} {vs:List V},Reps K M H (rows.map DK) vs->∃ ps:List (Addr×List Int),vs=ps.map (fun p=>V.ref p.1)/\rows=ps.map (·.2)/\∀ p∈ps,Rep K M H (DK p.2) (.ref p.1)
 | [],vs,h=>⟨[],h,rfl,fun p hp=>by simp at hp⟩
 | r::rows,vs,h=>by
   obtain ⟨v,rest,rfl,h1,h2⟩:=h
   obtain ⟨ps,rfl,hl,hr⟩:=PR h2
   obtain ⟨a,us,rfl,h3⟩:=(show ∃ a us,v=V.ref a/\TpA K M H a us/\Reps K M H _ us from h1)
   refine ⟨(a,r)::ps,rfl,by rw [M5,<- hl],fun p hp=>?_⟩
   rcases B7.mp hp with rfl|hp
   · exact h1
   · exact hr p hp
theorem PQ {H:Hp}:∀ {qs:List (Addr×List Int)},(∀ q∈qs,Rep K M H (DK q.2) (.ref q.1))->Reps K M H ((qs.map (·.2)).map DK) (qs.map fun q=>V.ref q.1)
 | [],_=>rfl
 | q::qs,h=>⟨.ref q.1,qs.map fun q=>V.ref q.1,rfl,h q (B8 ..),PQ fun x hx=>h x (L6 _ hx)⟩
theorem WO {H:Hp}{r:List Int}{a:Addr}(h:Rep K M H (DK r) (.ref a)):SqT K H a (r.map V.int):=by
 obtain ⟨a',us,e,h1,h2⟩:=(show ∃ a' us,V.ref a=V.ref a'/\TpA K M H a' us/\Reps K M H (r.map D.int) us from h)
 cases e
 rw [LI h2] at h1
 exact h1.sq
def Q7w (xs:List D)(P:List D->Prop):Prop:=∃ (rows:List (List Int)) (m:Nat),xs=rows.map DK/\0<m/\rows.length<64/\(∀ r∈rows,r.length=m/\∀ z∈r,BR z)/\∀ rows':List (List Int),rows'.Perm rows->rows'.Pairwise (fun x y=>CV 0 x<=CV 0 y)->P (rows'.map DK)
section
variable {X:Cx}{W:Wd}{a e:Expr}{dA:DA}
def J3t (K:Fg):List V->Hp->VK->Prop:=fun xs H Q=>∃ (D:Addr) (ps:List (Addr×List Int)) (m:Nat),xs=[.ref D]/\SqL K H D (ps.map fun p=>V.ref p.1)/\(∀ p∈ps,SqT K H p.1 (p.2.map V.int)/\p.2.length=m/\∀ z∈p.2,BR z)/\0<m/\ps.length<64 /\
 ∀ (p:Addr) (qs:List (Addr×List Int)),H p=none->qs.Perm ps->qs.Pairwise (fun x y=>CV 0 x.2<=CV 0 y.2)->Q (.ref p) (upd H p (.lst (qs.map fun q=>V.ref q.1)))
theorem YB (K:Fg)(hK:X.K=K)(hc:X.calm=true):BD X (.builtin "sorted") (J3t K):=SK K hK hc
def Q9m (da:DA):DA:=fun ρ P=>da ρ fun xs=>match xs with
 | [x]=>(asL x).elim False fun ys=>Q7w ys P
 | _=>False
theorem J1v {lpos npos:Pos}(ha:JA X W [a] dA)(h:PE X (.Call (.Name "sorted" npos) [a] [] lpos) (tCB (J3t W.K) (dnA W dA))):JF X W (.Call (.Name "sorted" npos) [a] [] lpos) (Q9m dA):=⟨h.mono fun σ H Q hh=>by
 obtain ⟨pn,M,b,ρ,P,st,h,k⟩:=hh
 refine ⟨pn,M,b,ρ,_,st,h,fun xs vs H1 hx rx k1 o1=>?_⟩
 match xs,hx with
 | [x],hx =>
   obtain ⟨v,rfl,r⟩:=rx1 rx
   cases e1:asL x with
   | none=>simp only [e1] at hx;exact hx.elim
   | some ys =>
     simp only [e1] at hx
     obtain ⟨rows,m,rfl,m0,h64,hb,hP⟩:=hx
     obtain ⟨a1,us,rfl,h1,r1⟩:=asL.rep r e1
     obtain ⟨ps,rfl,rfl,hr⟩:=PR r1
     refine ⟨a1,ps,m,rfl,SqL.of h1,fun p hp=>⟨WO (hr p hp),hb _ (E8.mpr ⟨p,hp,rfl⟩)⟩,m0,by rw [L7] at h64;exact h64,fun p qs hp pq so=>?_⟩
     have rq:Reps W.K M H1 ((qs.map (·.2)).map DK) (qs.map fun q=>V.ref q.1):=PQ fun q hq=>hr q (pq.mem_iff.mp hq)
     exact k _ _ p _ (hP (qs.map (·.2)) (pq.map _) (by rw [B2e];exact so)) (J7z k1 o1 hp) Y5 (Reps.keep (fun c o _ e=>Same.upd hp c o e) _ _ (Reps.avoid (fun c z=>z.imp id fun y=>by rw [y];exact hp) _ _ rq)) (k1.trans (Kp.upd hp)) ((st.step k1 o1).toHs.okU hp)⟩
def Q9r (dF:DA):DE:=fun ρ P=>dF ρ fun xs=>P (.lst xs)
theorem J9w (h:JF X W e dA):JE X W e (Q9r dA):=⟨h.h.mono fun σ H Q hh=>by
 obtain ⟨pn,M,b,ρ,P,st,h,k⟩:=hh
 refine ⟨pn,M,b,ρ,_,st,h,fun xs vs p H' hx n1 e1 r1 k1 o1=>?_⟩
 exact k _ _ H' hx ⟨p,vs,rfl,⟨st.toHs.new n1,e1⟩,Reps.avoid (fun c m=>.inl (.inl m)) _ _ r1⟩ k1 o1⟩
end
section
variable {d:Addr}{ds:Array DictEntry}{ep:Nat}
theorem RawD.frame {h h':Heap}(x:RawD h d ds ep)(k:∀ o,h.get? d=some o->h'.get? d=some o):RawD h' d ds ep:=by
 obtain ⟨o,e,q⟩:=x
 exact ⟨o,k o e,q⟩
end
def asc (z:Str):Prop:=∀ c∈z.cps.toList,c<128
section
variable {X:Cx}
theorem J2p (K:Fg)(hK:X.K=K)(hc:X.calm=true):BD X (.builtin "min") (fun xs H Q=>∃ (p:Addr) (ns:List Int),xs=[.ref p]/\SqT K H p (ns.map V.int)/\0<ns.length/\∀ M:Int,M∈ns->(∀ a∈ns,M<=a)->Q (.int M) H):=by
 subst hK
 intro pins s σ H xs us Q I r h
 obtain ⟨p,ns,rfl,hq,hn,q⟩:=h
 obtain ⟨u,rfl,rx⟩:=HD r
 cases rx
 obtain ⟨its,rv,pl,hz⟩:=I.tuple hq
 obtain ⟨ps,e1,e2⟩:=GZ rv
 subst e1
 have hlen:ps.length=ns.length:=by rw [<- e2,L7]
 have hl:s.heap.IsTuple p _:=pl
 rw [<- DQ] at hl
 refine XI (xs:=ps.toArray) (I.ok.hd hc) hl (by simp;omega) fun v h' tk hv k=>?_
 obtain ⟨t,e⟩:=intItems_at hv
 obtain ⟨b1,b2⟩:=argBest_lt (numAt ps.toArray) (ps.toArray.size - 1)
 subst e
 refine ⟨.int _,H,I.kept k,⟨t,rfl⟩,q _ ?_ ?_⟩
 · rw [DW,e2]
   have hj:argBest (fun i j=>decide (numAt ps.toArray i<numAt ps.toArray j)) (ps.toArray.size - 1)<ns.length:=by
    have:ps.toArray.size=ns.length:=by simp [hlen]
    omega
   rw [L0 hj]
   exact E2 hj
 · intro a ha
   obtain ⟨j,hj,rfl⟩:=List.mem_iff_getElem.mp ha
   have:=b2 j (by simp;omega)
   rw [DW ps j,e2,L0 hj] at this
   exact this
end
abbrev V0h:=List D->(Frg->D->Prop)->(Addr->Prop)->Prop
def UO (K:Fg)(B:BagT)(S:V0h):Sp:=fun vs H Q E=>∃ (M:Addr->Prop) (b:Option Addr) (ds:List D) (P:Frg->D->Prop) (Ed:Addr->Prop),S ds P Ed/\RepAs K M b H ds vs/\okB B b H/\(∀ p,b=some p->M p)/\(∀ c,M c->∃ o,H c=some o) /\
 (∀ f d v H',P f d->PNew K M H H' f d v->Kp b H H'->okB B b H'->Q v H')/\∀ C H',Ed C->Kp b H H'->okB B b H'->E (.ref C) none H'
theorem UO.len {B:BagT}{S:V0h}{n:Nat}(h:∀ ds P Ed,S ds P Ed->ds.length=n):∀ vs H Q E,UO K B S vs H Q E->vs.length=n:=fun vs H Q E ⟨M,b,ds,P,Ed,hS,hr,_⟩=>by rw [hr.length];exact h _ _ _ hS
section
variable {W:Wd}{b c:Expr}{p:Pos}{k:Nat}
structure TpAt (W:Wd)(M:Addr->Prop)(b:Option Addr)(H:Hp)(v:V)(p:Addr)(rs:List Addr)(rows:List (List D)):Prop where
 ev:v=.ref p
 np:¬ M p
 hp:H p=some (.tup (rs.map V.ref))
 ho:∀ c∈rs,M c/\b≠some c/\W.H0 c=none/\¬ W.M0 c
 nd:rs.Nodup
 hr:RowsR W.K M H rs rows
theorem TpAt.get {b:Option Addr}{H:Hp}{v:V}{p:Addr}{rs:List Addr}{rows:List (List D)}{k:Nat}{row:List D}(t:TpAt W M b H v p rs rows)(er:rows[k]?=some row):∃ r us,rs[k]?=some r/\H r=some (.lst us)/\Reps W.K M H row us:=by
 have hk:k<rs.length:=by rw [<- t.hr.length];exact (M1.mp er).1
 obtain ⟨row',us,er',hh,rr⟩:=t.hr.at (L0 hk)
 rw [er] at er';cases er'
 exact ⟨_,us,L0 hk,hh,rr⟩
end
mutual
def wD:D->Nat
 | .non=>4
 | .bl _=>5
 | .int _=>1921
 | .str x=>(reprText x).length
 | .tup xs=>wDs xs+3
 | .lst xs=>wDs xs+3
 | _=>0
def wDs:List D->Nat
 | []=>0
 | d::ds=>wD d+2+wDs ds
end
mutual
def Y1:D->Bool
 | .non=>true
 | .bl _=>true
 | .int i=>decide (i.natAbs.log2<1920)
 | .str x=>PyData.strOk x
 | .tup xs=>EU xs
 | .lst xs=>EU xs
 | _=>false
def EU:List D->Bool
 | []=>true
 | d::ds=>Y1 d&&EU ds
end
mutual
theorem Q1o:∀ (d:D) (p:PyData),Y1 d=true->Z0 d=some p->p.showable=true/\p.shown.length<=wD d
 | .non,p,_,e=>by cases e;exact ⟨rfl,by unfold wD;decide⟩
 | .bl b,p,_,e=>by cases e;exact ⟨by unfold PyData.showable;rfl,by unfold wD;cases b<;>decide⟩
 | .int i,p,h,e=>by
   cases e
   have h:i.natAbs.log2<1920:=by unfold Y1 at h;exact T7 h
   refine ⟨by unfold PyData.showable;exact T4 h,?_⟩
   unfold wD PyData.shown
   rw [PySem.ofString_length]
   exact int_text_length_le (k:=1920) (by decide) h
 | .str x,p,h,e=>by
   unfold Z0 at e
   split at e
   · cases e
     exact ⟨by unfold PyData.showable;rfl,by unfold wD PyData.shown;exact B6 _⟩
   · cases e
 | .tup xs,p,h,e=>by
   unfold Z0 at e
   obtain ⟨ps,e2,rfl⟩:=M6.mp e
   obtain ⟨h1,h2⟩:=WN xs ps (by unfold Y1 at h;exact h) e2
   refine ⟨by unfold PyData.showable;exact h1,?_⟩
   unfold wD PyData.shown
   have:=tupleText_len_le (PyData.shownAll ps)
   omega
 | .lst xs,p,h,e=>by
   unfold Z0 at e
   obtain ⟨ps,e2,rfl⟩:=M6.mp e
   obtain ⟨h1,h2⟩:=WN xs ps (by unfold Y1 at h;exact h) e2
   refine ⟨by unfold PyData.showable;exact h1,?_⟩
   unfold wD PyData.shown
   have:=listText_len_le (PyData.shownAll ps)
   omega
 | .own _,p,h,e=>by unfold Y1 at h;cases h
 | .ty _,p,h,e=>by unfold Y1 at h;cases h
 | .adr _,p,h,e=>by unfold Y1 at h;cases h
 | .bag,p,h,e=>by unfold Y1 at h;cases h
 | .frg _ _,p,h,e=>by unfold Y1 at h;cases h
 | .scr _,p,h,e=>by unfold Y1 at h;cases h
 | .dct _ _ _,p,h,e=>by unfold Y1 at h;cases h
theorem WN:∀ (ds:List D) (ps:List PyData),EU ds=true->BK ds=some ps->PyData.showableAll ps=true/\((PyData.shownAll ps).map (·.length)).sum+2*(PyData.shownAll ps).length<=wDs ds
 | [],ps,_,e=>by cases e;exact ⟨rfl,by unfold wDs PyData.shownAll;exact B6 _⟩
 | d::ds,ps,h,e=>by
   unfold BK at e
   obtain ⟨p,e1,e⟩:=B1e.mp e
   obtain ⟨qs,e2,rfl⟩:=M6.mp e
   unfold EU at h
   obtain ⟨h1,h2⟩:=(L1 _ _).mp h
   obtain ⟨a1,a2⟩:=Q1o d p h1 e1
   obtain ⟨b1,b2⟩:=WN ds qs h2 e2
   refine ⟨by unfold PyData.showableAll;rw [a1,b1];rfl,?_⟩
   unfold wDs PyData.shownAll
   simp only [M5,List.sum_cons,W5]
   omega
end
def Q1q (K:Fg):List V->Hp->VK->Prop:=fun xs H Q=>∃ M d v p,xs=[v]/\Rep K M H d v/\Z0 d=some p/\p.depth<=60/\p.showable=true/\p.shown.length<=sizeLine/\Q (.str p.shown) H
theorem QM {X:Cx}(K:Fg)(hK:X.K=K)(hg:X.A.guards=some [])(hu:X.A.units+64<cLine):BD X (.builtin "repr") (Q1q K):=by
 subst hK
 intro pins s σ H xs us Q I r h
 obtain ⟨M,d,v,p,rfl,hr,e,hd,hs,hl,q⟩:=h
 obtain ⟨u,rfl,r1⟩:=HD r
 obtain ⟨as,ra⟩:=II I d v u p hr r1 e
 have hn:=PyData.hasDict_of_canLay p (Z0.lay d p e)
 have hsm:=PyData.noDict_hsm (as:=as) hn
 cases ra with
 | none=>exact PySem.P.repr_of_none ⟨.str _,H,I.tok _,⟨_,rfl⟩,q⟩
 | bool b =>
   refine PySem.P.repr_of_bool ⟨.str _,H,I.tok _,⟨_,rfl⟩,?_⟩
   exact q
 | int i t =>
   refine PySem.P.repr_of_int (by unfold PyData.showable at hs;exact T7 hs) ⟨.str _,H,I.tok _,⟨_,rfl⟩,?_⟩
   unfold PyData.shown at q;exact q
 | str x t =>
   refine PySem.P.repr_of_str ⟨.str _,H,I.tok _,⟨_,rfl⟩,?_⟩ (by unfold PyData.shown at hl;exact hl)
   unfold PyData.shown at q;exact q
 | list h1 h2 h3 h4=>exact repr_of_reads' (.list h1 h2 h3 h4) hs hsm hg (by omega) (fun _ _ z=>z) (fun h' u tk k=>⟨.str _,H,I.kept k,⟨_,rfl⟩,q⟩) hl
 | tuple h1 h2 h3 h4=>exact repr_of_reads' (.tuple h1 h2 h3 h4) hs hsm hg (by omega) (fun _ _ z=>z) (fun h' u tk k=>⟨.str _,H,I.kept k,⟨_,rfl⟩,q⟩) hl
 | dict h1 h2 h3 h4 h5=>simp [PyData.hasDict] at hn
def rpS (d:D):Str:=((Z0 d).map PyData.shown).getD Str.empty
inductive RpP (d:D)(P:D->Prop):Prop
 | mk (h:Y2 60 d=true) (h2:Y1 d=true) (h3:wD d<=10000000) (hp:P (.str (rpS d))):RpP d P
def Q8k:List D->(D->Prop)->Prop
 | [d],P=>RpP d P
 | _,_=>False
theorem J4s {W:Wd} {H:Hp}{d:D}{v:V}(h:Y1 d=true)(r:RepX W M b H d v):Rep W.K M H d v:=by
 cases d<;>first|exact r|(unfold Y1 at h;cases h)
theorem J0a {W:Wd}:EH W (Q1q W.K) Q8k:=by
 intro M b H xs vs P Q hs rx ho k
 match xs,ho with
 | [d],ho =>
   obtain ⟨v,rfl,r⟩:=rx1 rx
   obtain ⟨h,h2,h3,hp⟩:=ho
   obtain ⟨p,e,hd,_⟩:=KP 60 d h
   obtain ⟨s1,s2⟩:=Q1o d p h2 e
   refine ⟨M,d,v,p,rfl,J4s h2 r,e,hd,s1,M7 s2 (M7 h3 (by decide)),?_⟩
   have es:rpS d=p.shown:=by unfold rpS;rw [e];rfl
   exact k (.str p.shown) (.str p.shown) H (es▸hp) (show _=_ from rfl) (Kp.refl _ _) hs.ok
theorem J0d:bootBuiltins "repr" = some (.builtin "repr"):=by decide +kernel
def Q1m (N:List Str)(K:Fg)(Ba:Addr)(tb:XK->TS)(th:Addr->TS):TS:=fun D σ H=>∃ E:XK,tb E D σ H/\∀ C H' x,E (.ref C) none H'->H' x=none->PySem.W.subIn K (.ref C) (.ref Ba)=some true /\
 th x D (List.replicate N.length none) (upd H' x (ExcO x C))
theorem J8q {X:Cx}{body:List Stmt}{B:Str}{np hpos pos:Pos}{b₀:Stmt}{suite:List Stmt}{tb:XK->TS}{th:Addr->TS}{Ba:Addr}(K:Fg)(hK:X.K=K)(hst:X.stack=X.env::X.outer)(hfr:X.env.frame=some X.env.locals)(hg:Gl X B)(hm:X.mg B=some (.ref Ba))(F:XBase K Ba)
 (hb:∀ (xe:Value->Shared->Prop) (pn:List (Addr×Obj)) (E:XK),FE (CX1 X.prog X.w X.base) (X.re xe pn) E->PSs (X.re xe pn) body (tb E)) (hs:∀ x,PSs (X.marked x) (b₀::suite) (th x)) (hd:(B==("__debug__" : Str))=false:=by decide) :
 PS X (.Try body [.ExceptHandler (some (.Name B np)) none (b₀::suite) hpos] [] [] pos) (Q1m X.N K Ba tb th):=by
 intro pins s σ H D I ⟨E,hbody,hcatch⟩
 subst hK
 refine wpAny_Try_except ?_
 have hp:FE (CX1 X.prog X.w X.base) (X.re (fun e s'=>∃ σ0 H0 s0,Inv X pins σ0 H0 s0/\CX1 X.prog X.w X.base X.stack H0 s0 E e s') (X.pn++pins)) E:=fun pins' σ' H1 s1 e s' I1 h=>⟨σ',H1,s1,I1.unre,h⟩
 refine U7 (hb _ _ E hp [] s σ H D (I.re _) hbody) (fun f s1 q=>?_) (fun e s1 hx=>?_)
 · cases f with
   | next=>obtain ⟨σ',H',I',q⟩:=q;exact B2b ⟨σ',H',I'.unre,q⟩
   | brk=>obtain ⟨σ',H',I',q⟩:=q;exact ⟨σ',H',I'.unre,q⟩
   | cont=>obtain ⟨σ',H',I',q⟩:=q;exact ⟨σ',H',I'.unre,q⟩
   | ret u=>obtain ⟨v,σ',H',I',r,q⟩:=q;exact ⟨v,σ',H',I'.unre,r,q⟩
 obtain ⟨σ0,H0,s0,I0,x,C,H2,rfl,os,bare,U,hok,⟨hx0,hb0,hg0,ox,vs,T0,oT,ts',x1,xc,xn,xd,v1,v2,tx,hT0,bT0,gT0,t1,t2,t3⟩,q⟩:=hx
 obtain ⟨cB,hth⟩:=hcatch C H2 x q hx0
 have I2:Inv X pins σ0 H2 s1:=I0.raised os bare U hok
 have hfrm:X.A.frames=some (X.env::X.outer):=by rw [<- hst];exact I2.ok.frames
 have hstk:s1.heap.FunFrames X.base (X.env::X.outer):=by rw [<- hst];exact I2.stack
 refine J1m (base:=X.base) hfrm hstk hfr x1 xd v1 t1 t2 t3 tx fun h2 T g=>?_
 have hfs:(X.env::X.outer).filterMap (·.frame)=frs X.stack:=by rw [hst];rfl
 rw [hfs] at g
 have ne1:∀ b o,s0.heap.get? b=some o->b≠x/\b≠T0:=fun b o eb=>⟨fun z=>(by rw [z,hg0] at eb;cases eb),fun z=>(by rw [z,gT0] at eb;cases eb)⟩
 have nTo:∀ b o,s1.heap.get? b=some o->b≠T:=fun b o eb z=>by
  have h1:=B2 eb
  rw [z] at h1
  exact absurd (L3 h1 g.new) (L5 _)
 have tH:H2 T=none:=by
  cases z:H2 T with
  | none=>rfl
  | some o =>
    obtain ⟨ob,eo⟩:=(hok T o z).ex
    exact absurd rfl (nTo T ob eo)
 have hTx:T≠x:=fun z=>nTo x ox x1 z.symm
 have dx:=B0e xd (·.setIfInBounds 1 (Value.ref T))
 obtain ⟨oT',tv,g1,g2,g3⟩:=g.tr
 have mk:∀ h3:Heap,(∀ b o,b≠T->h2.get? b=some o->h3.get? b=some o)->Inv X pins σ0 (upd H2 x (ExcO x C)) { s1 with heap:=h3 }:=fun h3 k3=>by
  have nT0:∀ b o,s0.heap.get? b=some o->b≠T:=fun b o eb=>by
   obtain ⟨o',e'⟩:=U.there b o eb (by simp)
   exact nTo b o' e'
  have xg:h3.get? x=some (ox.mapFields (·.setIfInBounds 1 (Value.ref T))):=k3 _ _ (B0c hTx) g.exc
  have hok3:HOk X.prog X.w (upd H2 x (ExcO x C)) h3:=fun b o eb=>by
   by_cases hbx:b=x
   · subst hbx
     rw [Y5] at eb
     cases eb
     refine ExcO.ok xg ((Obj.cls_mapFields ..).trans xc) ((QJ ..).trans xn) dx ?_
     rw [Array.getElem?_setIfInBounds_ne (by decide)]
     exact v2
   · rw [Q9 hbx] at eb
     refine (hok b o eb).stay (fun c v hc ev=>k3 c v (nTo c v ev) (g.keep c v (fun hb=>?_) (fun z=>?_) (fun z=>?_) ev)) (fun c z=>?_) fun c xs z=>?_
     · have:=I2.stkFree c hb
       rcases hc with y|y
       · rw [y,eb] at this;cases this
       · rw [y] at this;cases this
     · rcases hc with y|y
       · exact hbx (y▸z)
       · rw [z,hx0] at y;cases y
     · have z:c=T0:=by simpa using z
       rcases hc with y|y
       · rw [<- y,z,hT0] at eb;cases eb
       · rw [z,hT0] at y;cases y
     · rw [Q9 (V2 z hx0)];exact z
     · rw [Q9 (V2 z hx0)];exact z
  refine I0.raised (s':={ s1 with heap:=h3 }) os bare ⟨fun b o eb n hb hx=>?_,fun b o eb n hb hx=>?_,fun b o eb n hx=>?_,fun b o eb hx=>?_,fun b xs e=>?_,fun b o u e=>?_,fun b ps e=>?_⟩ hok3
  · exact k3 b o (nT0 b o eb) (g.keep b o hb (ne1 b o eb).1 (by simpa using (ne1 b o eb).2) (U.keep b o eb n hb hx))
  · obtain ⟨z,e4⟩:=U.slot b o eb n hb hx
    obtain ⟨z',e5⟩:=g.slot b _ hb e4
    exact ⟨z',k3 b _ (nT0 b o eb) e5⟩
  · rw [Q9 (ne1 b o eb).1]
    exact U.free b o eb n hx
  · obtain ⟨o',e4⟩:=U.there b o eb hx
    by_cases hb:b∈frs X.stack
    · obtain ⟨z,e5⟩:=g.slot b o' hb e4
      exact ⟨_,k3 b _ (nT0 b o eb) e5⟩
    · exact ⟨o',k3 b _ (nT0 b o eb) (g.keep b o' hb (ne1 b o eb).1 (by simpa using (ne1 b o eb).2) e4)⟩
  · have:=U.tups b xs e
    rw [Q9 (V2 this hx0)];exact this
  · have:=U.frzs b o u e
    rw [Q9 (V2 this hx0)];exact this
  · obtain ⟨more,this⟩:=U.tbls b ps e
    exact ⟨more,by rw [Q9 (V2 this hx0)];exact this⟩
 have I3:=mk h2 fun _ _ _ e=>e
 obtain ⟨o3,hI3⟩:=I3.instAt (x:=x) (C:=C) Y5
 refine wpAny_handleBy_cons (codeAny_handlers_test (MP (X:=X.marked x) (I3.marked x) hg hm ?_ hd)) (by intro z;cases z)
 refine Q0f I3.kIn hI3 F.cls F.typ F.exc cB ?_
 show codeAny _ _ (.handlers (.ref x) [.ExceptHandler none none (b₀::suite) hpos] X.env) _ _
 refine codeAny_handlers_suite ?_
 unfold setFlight
 refine B0 (U6 g.exc dx (x:=.ref T) (by have:=(U8.mp v1).1;simp [this]) ?_);rw [if_pos (show (Value.ref T != Value.none)=true from by simp)]
 refine B0y g1 g2 (U8.mp g3).1 ?_
 have I4:=(mk _ fun b o hb e=>(U3 h2 (Obj.mapFields (·.setIfInBounds 3 Value.none)) (B0c hb)).trans e).marked x
 have I5:Inv (X.marked x) pins (List.replicate X.N.length none) _ _:=I4.weak (σ':=List.replicate X.N.length none) (by rw [List.length_replicate];exact I4.len.symm) fun j v e=>by
  rw [List.getElem?_replicate] at e
  split at e<;>cases e
 refine U7 (hs x pins _ _ _ _ I5 hth) (fun f s6 q6=>?_) fun _ _ z=>False.elim z
 cases f with
 | next=>obtain ⟨σ',H',I',q⟩:=q6;exact ⟨_,_,I'.unmarked I.ok,q⟩
 | brk=>obtain ⟨σ',H',I',q⟩:=q6;exact ⟨_,_,I'.unmarked I.ok,q⟩
 | cont=>obtain ⟨σ',H',I',q⟩:=q6;exact ⟨_,_,I'.unmarked I.ok,q⟩
 | ret u=>obtain ⟨v,σ',H',I',r,q⟩:=q6;exact ⟨v,_,_,I'.unmarked I.ok,r,q⟩
end L2
namespace PySem.MeetsSeq
open AutoSeq1 (wpAny_loadPart')
end PySem.MeetsSeq
namespace L2
open PySem PySem.Spec PyProof.Rows
section
variable {X:Cx}{W:Wd}{st:Stmt}
def HDN (W:Wd)(N:List Str)(K:Fg)(Ba:Addr)(th:Addr->TS)(hd:Addr->DEnds->Prop):Prop:=∀ C x H' E F pn,Link W pn E F->hd C F->Kp W.b0 W.H0 H'->okB W.B W.b0 H'->H' x=none->PySem.W.subIn K (.ref C) (.ref Ba)=some true/\th x E (List.replicate N.length none) (upd H' x (ExcO x C))
theorem J5d {N:List Str} {Ba:Addr}{th:Addr->TS}{hd:Addr->DEnds->Prop}{db:DS}(Ed:Addr->Prop)(hHD:HDN W N K Ba th hd)(h:PS X st (Q1m N K Ba (fun E D σ H=>IG W E Ed/\sn W db D σ H) th)):JS X W st (V1h db Ed hd):=⟨h.mono fun E σ H hh=>hh.elim fun pn M b ρ F s l q=>by
 refine ⟨fun Cv _ H'=>∃ C,Cv=.ref C/\Ed C/\Kp W.b0 W.H0 H'/\okB W.B W.b0 H',⟨fun C H' e k o=>⟨C,rfl,e,k,o⟩,pn,M,b,ρ,F,s,l,q.1⟩,fun C H' x hC hx=>?_⟩
 obtain ⟨C',e,hE,k,o⟩:=hC
 cases e
 exact hHD C x H' E F pn l (q.2 C hE) k o hx⟩
end
end L2
namespace K
open PySem PySem.Spec PyProof.Rows L2
local macro_rules | `(tactic| walk_at "o") => `(tactic| first | exact Or.inl rfl | exact Or.inr rfl)
local macro_rules | `(tactic| walk_at "v") => `(tactic| first | exact Or.inl rfl | exact Or.inr (Or.inl rfl) | exact Or.inr (Or.inr rfl))
local macro_rules | `(tactic| walk_at "bg") => `(tactic| first | assumption | exact Bag.same (by walk_at "bg") (Same.upd (by assumption)) | exact Bag.same (by walk_at "bg") (by assumption))
local macro_rules | `(tactic| walk_at "hp") => `(tactic| first | assumption | exact Y5 | (refine Same.get (Same.upd (by assumption)) ?_; walk_at "hp") | (refine Same.get (by assumption) ?_; walk_at "hp") | (refine Keep.tup (by assumption) (by walk_at "bg") ?_; (walk_at "hp")))
local macro_rules | `(tactic| walk_at "sm") => `(tactic| first | exact Same.refl _ | assumption | (refine Same.trans ?_ (Same.upd (by assumption)); walk_at "sm") | (refine Same.trans ?_ (by assumption); walk_at "sm"))
local macro_rules | `(tactic| walk_at "kp") => `(tactic| first | exact Keep.refl _ _ | assumption | (refine Keep.trans ?_ (Same.keep (Same.upd (by assumption))); walk_at "kp") | (refine Keep.trans ?_ (by assumption); walk_at "kp") | (refine Keep.trans ?_ (Same.keep (by assumption)); walk_at "kp"))
local macro_rules | `(tactic| walk_at "bd") => `(tactic| first | assumption | exact Bd.mul (by walk_at "bd") (by walk_at "bd") | exact Bd.add (by walk_at "bd") (by walk_at "bd") | exact Bd.sub (by walk_at "bd") (by walk_at "bd") | exact Bd.neg (by walk_at "bd") | exact Bd.num _ (by decide))
local macro_rules | `(tactic| walk_at "rd1") => `(tactic| first | refine ⟨_,_,rfl,rfl,?_⟩ | refine ⟨_,rfl,?_⟩ | (refine' ⟨_,?xs,_,?vv,rfl,rfl,SqT.of ?ia,?ib,?_⟩; (case ia => walk_at "hp"); (case ib => rfl)) | refine And.intro (CMulB.right (Bd.num _ (by decide))) ?_ | (refine' rd_mul ?m1 ?m2 ?m3 ?_; (case m1 => walk_at "bd"); (case m2 => walk_at "bd"); (case m3 => first | decide | omega)) | refine ⟨rfl,?_⟩)
local macro_rules | `(tactic| walk_at "rd") => `(tactic| repeat (walk_at "rd1"))
local macro_rules | `(tactic| walk_at "al") => `(tactic| (refine ⟨(M7 (M3 rfl) AZ),?_⟩; intro p en))
local macro_rules | `(tactic| walk_at "w") => `(tactic| (conv => whnf))
local macro_rules | `(tactic| walk_at "go1") => `(tactic| first | refine And.intro (by exact rfl) ?_ | refine IfP.t (by exact rfl) ?_ | refine IfP.f (by exact rfl) ?_ | refine And.intro (by exact M3 rfl) ?_ | refine And.intro (by decide) ?_ | refine And.intro (by dsimp only; decide) ?_ | refine And.intro (CMulB.right (Bd.num _ (by decide))) ?_ | refine And.intro (Or.inl ⟨_,_,by walk_at "bd",by walk_at "bd",by first | decide | omega⟩) ?_| refine And.intro ⟨by decide,by decide⟩ ?_)
local macro_rules | `(tactic| walk_at "g") => `(tactic| ((conv => whnf); repeat (walk_at "go1"; (conv => whnf))))
local macro_rules | `(tactic| walk_at "nz") => `(tactic| simp only [BE,M5,B1h,W5,List.length_nil,List.replicate,B2n,List.nil_append,List.set_cons_succ,List.set_cons_zero,IB,List.getElem?_cons_succ,List.getElem?_cons_zero,Option.bind_some,Option.bind_none,Option.join_some,Option.join_none,NA,Nat.reduceAdd,Nat.reduceSub,Int.reduceAdd,Nat.zero_add])
local macro_rules | `(tactic| walk_at "gr") => `(tactic| ((try walk_at "nz"); refine Q0c ?_; walk_at "g"))
local macro_rules | `(tactic| walk_at "gc") => `(tactic| ((try walk_at "nz"); refine J6q ?_; walk_at "g"))
local macro_rules | `(tactic| walk_at "sp") => `(tactic| (refine IfP.of (fun h => ?_) (fun h => ?_) <;> (try simp only [E9,R1,Bool.bne_true,Bool.not_eq_true',decide_eq_false_iff_not,Bool.not_true,Bool.not_false,Bool.not_eq_false',bne_iff_ne,ne_eq,Bool.not_not] at h)))
local macro_rules | `(tactic| walk_at "gr3") => `(tactic| ((try walk_at "nz"); refine for_rec3 ?_; walk_at "g"))
local macro_rules | `(tactic| walk_at "gc3") => `(tactic| ((try walk_at "nz"); refine J2l ?_; walk_at "g"))
def top (i:Nat):Stmt:=PySem.Challenge.pw_onceshade_k69_papers_of_any_thing.main.body.getD i (.Pass ⟨0,0,0,0⟩)
structure Bi (mg:Str->Option Value):Prop where
 abs_:mg "abs" = none
 len_:mg "len" = none
 max_:mg "max" = none
 min_:mg "min" = none
 range_:mg "range" = none
 isinstance_:mg "isinstance" = none
 int_:mg "int" = none
 bool_:mg "bool" = none
 tuple_:mg "tuple" = none
 all_:mg "all" = none
 any_:mg "any" = none
 list_:mg "list" = none
 zip_:mg "zip" = none
 sum_:mg "sum" = none
 enumerate_:mg "enumerate" = none
 sorted_:mg "sorted" = none
 set_:mg "set" = none
 repr_:mg "repr" = none
 str_:mg "str" = none
 LONGEST_:∃ t,mg "LONGEST" = some (.int 16 t)
 MOST_:∃ t,mg "MOST" = some (.int 24 t)
 GREATEST_COORDINATE_:∃ t,mg "GREATEST_COORDINATE" = some (.int 999999 t)
structure Cs where
 ShadeError:Addr
 NoBody:Addr
 NoFlat:Addr
 NoFace:Addr
 NoBoard:Addr
structure Ex (K:Fg)(mg:Str->Option Value)(base:Heap)(c:Cs):Prop where
 g_ShadeError:mg "ShadeError" = some (.ref c.ShadeError)
 g_NoBody:mg "NoBody" = some (.ref c.NoBody)
 g_NoFlat:mg "NoFlat" = some (.ref c.NoFlat)
 g_NoFace:mg "NoFace" = some (.ref c.NoFace)
 g_NoBoard:mg "NoBoard" = some (.ref c.NoBoard)
 o_NoBody:OwnCls "NoBody" c.NoBody bmV "ValueError.__new__" mg base
 x_NoBody:XCls K c.NoBody
 v_NoBody:PySem.W.subIn K (.ref c.NoBody) (.type "ValueError")=some true
 s_NoBody:PySem.W.subIn K (.ref c.NoBody) (.ref c.ShadeError)=some true
 n_NoBody_NoFlat:PySem.W.kin_not K c.NoBody c.NoFlat=true
 n_NoBody_NoFace:PySem.W.kin_not K c.NoBody c.NoFace=true
 n_NoBody_NoBoard:PySem.W.kin_not K c.NoBody c.NoBoard=true
 o_NoFlat:OwnCls "NoFlat" c.NoFlat bmV "ValueError.__new__" mg base
 x_NoFlat:XCls K c.NoFlat
 v_NoFlat:PySem.W.subIn K (.ref c.NoFlat) (.type "ValueError")=some true
 s_NoFlat:PySem.W.subIn K (.ref c.NoFlat) (.ref c.ShadeError)=some true
 n_NoFlat_NoBody:PySem.W.kin_not K c.NoFlat c.NoBody=true
 n_NoFlat_NoFace:PySem.W.kin_not K c.NoFlat c.NoFace=true
 n_NoFlat_NoBoard:PySem.W.kin_not K c.NoFlat c.NoBoard=true
 o_NoFace:OwnCls "NoFace" c.NoFace bmV "ValueError.__new__" mg base
 x_NoFace:XCls K c.NoFace
 v_NoFace:PySem.W.subIn K (.ref c.NoFace) (.type "ValueError")=some true
 s_NoFace:PySem.W.subIn K (.ref c.NoFace) (.ref c.ShadeError)=some true
 n_NoFace_NoBody:PySem.W.kin_not K c.NoFace c.NoBody=true
 n_NoFace_NoFlat:PySem.W.kin_not K c.NoFace c.NoFlat=true
 n_NoFace_NoBoard:PySem.W.kin_not K c.NoFace c.NoBoard=true
 o_NoBoard:OwnCls "NoBoard" c.NoBoard bmV "ValueError.__new__" mg base
 x_NoBoard:XCls K c.NoBoard
 v_NoBoard:PySem.W.subIn K (.ref c.NoBoard) (.type "ValueError")=some true
 s_NoBoard:PySem.W.subIn K (.ref c.NoBoard) (.ref c.ShadeError)=some true
 n_NoBoard_NoBody:PySem.W.kin_not K c.NoBoard c.NoBody=true
 n_NoBoard_NoFlat:PySem.W.kin_not K c.NoBoard c.NoFlat=true
 n_NoBoard_NoFace:PySem.W.kin_not K c.NoBoard c.NoFace=true
 sh:XBase K c.ShadeError
 xb_NoBody:XBase K c.NoBody
 xs_NoBody:PySem.W.subIn K (.ref c.NoBody) (.ref c.NoBody)=some true
def Bag3 (n:Nat)(H:Hp)(p:Addr):Prop:=∃ f m st:Int,H p=some (.lst [.int f,.int m,.int st])/\0<=f/\0<=m/\m<4294967296/\0<=st/\st<=n
theorem Bag3.ne {n:Nat}{H:Hp}{p a:Addr}{xs:List V}(b:Bag3 n H p)(h:H a=some (.tup xs)):a≠p:=by
 obtain ⟨f,m,st,e,_⟩:=b
 exact J4x h e (by intro z;cases z)
abbrev GO:Stmt:=top 63
abbrev xl1:List Str:=["_law_script","_law_k"]
theorem HN:FnScope ["_law_script","_law_k","_law_cell"] xl1 (J6 GO):=⟨rfl,rfl,rfl,by decide +kernel,rfl,by decide +kernel,by decide +kernel⟩
def J3j (K:Fg):Sp:=fun vs H Q _=>∃ (a:Addr) (ns:List Int) (i:Nat),vs=[.ref a,.int i]/\SqL K H a (ns.map V.int)/\i<=1000/\∀ p H',H p=none->Same H H'->Bag3 0 H' p->Q (.ref p) H'
theorem RV {w:World} {f:Addr} (F:Fun K "_law_bag" "_law_bag" GO f fd) (Z:Bi mg) {c:Cs} (Y:Ex K mg base c):FnOk P w K mg base CX0 1 f fd xl1 (J3j K):=by
 refine F.ok HN (fun vs H Q E h=>?_) (fun cdv A outer s H vs Q E hr h=>?_)
 · obtain ⟨a,ns,i,rfl,hS,hi,k⟩:=h
   rfl
 · obtain ⟨a,ns,i,rfl,hS,hi,k⟩:=h
   refine ⟨_,(AJ (DM (i:=2) HN.nd rfl (by walk_at "o") (AE EE (AE Y4 AA (pv 1)) AA))
    (AJ (YU (MN GA (pv 1) (FZ (V3 K (by rfl)) rfl Z.len_ AW (BC (pv 0) ES)) (Q7 _)) (EK (DM (i:=2) HN.nd rfl (by walk_at "o") (HS (EA K (by rfl)) (pv 0) (pv 1) (fun _ _=>rfl)))) MO)
    (EK (GS (RN (BC (AE Y4 (FZ IC rfl Z.abs_ OO (BC (pv 2) ES)) (PY QP rfl Z.int_ YE (BC (ZA Q1t (FZ IC rfl Z.abs_ OO (BC (pv 2) ES)) (AE WW AA AA) (Q7 _)) ES))) (BC (AE EE (AE JH (pv 2) AA) (AE Y4 AA (pv 1))) (BC AA ES)))))))),?_⟩
   have bi:Bd 64 (i:Int):=Bd.of (by omega) (by omega)
   have fin:∀ c:Int,∀ x:Int,0<=x->∀ p,H p=none->Q (.ref p) (upd H p (.lst [.int x,.int (c % 2147483647+31*(i:Int)),.int 0])):=fun c x hx p hp=>by
    have h1:=B1b c (show (2147483647:Int)≠0 by decide)
    have h2:=B0m c (show (0:Int)<2147483647 by decide)
    exact k p _ hp (Same.upd hp) ⟨_,_,_,Y5,hx,by omega,by omega,by decide,by decide⟩
   have hab:∀ c:Int,0<=(if c<0 then -c else c):=fun c=>by split<;>omega
   have body:∀ c:Int,∀ b:Bool,0<=(if c<0 then -c else c)*(if b=true then 1 else 0):=fun c b=>B1j (hab c) (by split<;>decide)
   walk_at "rd"
   refine ⟨_,_,rfl,.inl hS,?_⟩
   walk_at "rd"
   refine Q4r (fun h=>?_) (fun h=>?_)
   · have h:(i:Int)<((ns.map V.int).length:Nat):=Q2g h
     have hi:i<ns.length:=by rw [L7] at h;omega
     walk_at "rd"
     refine ⟨_,_,_,_,rfl,rfl,hS,FU (v:=V.int ns[i]) (by rw [M9,L0 hi];rfl),?_⟩
     walk_at "rd"
     refine ⟨⟨by decide,by decide,by decide⟩,?_⟩
     walk_at "rd"
     refine .inr ⟨_,rfl,?_⟩
     walk_at "rd"
     refine ⟨CMulB.right (Bd.of (by split<;>omega) (by split<;>omega)),?_⟩
     walk_at "rd"
     refine ⟨(by show (0:Int)<2147483647;decide),?_⟩
     walk_at "rd"
     refine ⟨(M7 (M3 rfl) AZ),?_⟩
     exact fin _ _ (body _ _)
   · walk_at "rd"
     refine ⟨⟨by decide,by decide,by decide⟩,?_⟩
     walk_at "rd"
     refine .inr ⟨_,rfl,?_⟩
     walk_at "rd"
     refine ⟨CMulB.right (Bd.of (by split<;>omega) (by split<;>omega)),?_⟩
     walk_at "rd"
     refine ⟨(by show (0:Int)<2147483647;decide),?_⟩
     walk_at "rd"
     refine ⟨(M7 (M3 rfl) AZ),?_⟩
     exact fin _ _ (body _ _)
abbrev CQ:Stmt:=top 64
abbrev xl2:List Str:=["_law_bag_here","_law_many","_law_digit","_law_primes","_law_step","_law_base","_law_found","_law_prime"]
abbrev xl3:List Str:=["_law_bag_here","_law_many"]
theorem AV:FnScope xl2 xl3 (J6 CQ):=⟨rfl,rfl,rfl,by decide +kernel,rfl,by decide +kernel,by decide +kernel⟩
def YK:Sp:=fun vs H Q _=>∃ (p:Addr) (many:Int) (n:Nat),vs=[.ref p,.int many]/\Bag3 n H p/\n<=9000/\0<many/\many<18446744073709551616/\∀ (r:Int) H',0<=r->r<many->Bag3 (n+1) H' p->Keep p H H'->Q (.int r) H'
abbrev xc1 (P:Program) (w:World) (K:Fg) (mg:Str → Option Value) (base:Heap) (f:Addr) (cdv:Value) (A:Around) (outer:List Env) (s:Shared) (H:Hp) (E:XK):Cx:=BQ CX0 P w K mg base xl2 "_law_take" (J6 CQ) f cdv A outer s H E
theorem PD {w:World} {f:Addr} (F:Fun K "_law_take" "_law_take" CQ f fd) (Z:Bi mg) {c:Cs} (Y:Ex K mg base c):FnOk P w K mg base CX0 1 f fd xl3 YK:=by
 refine F.ok AV (fun vs H Q E h=>?_) (fun cdv A outer s H vs Q E hr h=>?_)
 · obtain ⟨p,many,n,rfl,⟨dg,m,st,hp,hf,hm,hm2,h0,h1⟩,hn,mp,mb,k⟩:=h
   rfl
 · obtain ⟨p,many,n,rfl,⟨dg,m,st,hp,hf,hm,hm2,h0,h1⟩,hn,mp,mb,k⟩:=h
   obtain ⟨es1,hes1⟩:∃ es:List Expr,es=List.map (fun c:Int×Nat×Pos=>Expr.Constant (.int c.1) c.2.1 c.2.2) [(2147483647,0,⟨250,19,250,29⟩),(2147483629,0,⟨250,31,250,41⟩),(2147483587,0,⟨250,43,250,53⟩),(2147483579,0,⟨250,55,250,65⟩),(2147483563,0,⟨250,67,250,77⟩),(2147483549,0,⟨250,79,250,89⟩),(2147483543,0,⟨250,91,250,101⟩),(2147483497,0,⟨250,103,250,113⟩),(2147483489,0,⟨250,115,250,125⟩),(2147483477,0,⟨250,127,250,137⟩),(2147483423,0,⟨250,139,250,149⟩),(2147483399,0,⟨250,151,250,161⟩)]:=⟨_,rfl⟩
   have hT1:=DM (X:=(xc1 P w K mg base f cdv A outer s H E).nox) (i:=3) (x:="_law_primes") (pos':=⟨250,4,250,15⟩) (pos:=⟨250,4,250,162⟩) AV.nd rfl (by walk_at "o") (WU (x1:=0) (pos:=⟨250,18,250,162⟩) [(2147483647,0,⟨250,19,250,29⟩),(2147483629,0,⟨250,31,250,41⟩),(2147483587,0,⟨250,43,250,53⟩),(2147483579,0,⟨250,55,250,65⟩),(2147483563,0,⟨250,67,250,77⟩),(2147483549,0,⟨250,79,250,89⟩),(2147483543,0,⟨250,91,250,101⟩),(2147483497,0,⟨250,103,250,113⟩),(2147483489,0,⟨250,115,250,125⟩),(2147483477,0,⟨250,127,250,137⟩),(2147483423,0,⟨250,139,250,149⟩),(2147483399,0,⟨250,151,250,161⟩)] hes1) rfl (.inl rfl)
   generalize hst1:Stmt.Assign [Expr.Name "_law_primes" ⟨250,4,250,15⟩] (Expr.Tuple es1 0 ⟨250,18,250,162⟩) ⟨250,4,250,162⟩=st1 at hT1
   have hR1:=((AJ (RJ (AE EE (HS (EA K (by rfl)) (pv 0) AA (fun _ _=>rfl)) AA) (WT (pv 0) AA TL))
    (AJ (DM (i:=4) AV.nd rfl (by walk_at "o") (HS (EA K (by rfl)) (pv 0) AA (fun _ _=>rfl)))
    (AJ (DM (i:=5) AV.nd rfl (by walk_at "o") (AE EE (AE EE (AE Y4 (HS (EA K (by rfl)) (pv 0) AA (fun _ _=>rfl)) (AE EE (AE Y4 AA (pv 4)) AA)) (AE Y4 (AE Y4 AA (pv 4)) (pv 4))) AA))
    (AJ (DM (i:=6) AV.nd rfl (by walk_at "o") (AE JH (AE WW (pv 5) AA) (HS (RY K (by rfl)) (pv 3) (AE JH (pv 4) AA) (fun _ _=>rfl))))
    (AJ (DM (i:=7) AV.nd rfl (by walk_at "o") (HS (RY K (by rfl)) (pv 3) (AE JH (AE EE (pv 4) AA) AA) (fun _ _=>rfl)))
    (EK (GS (AE JH (AE HU (AE JH (AE Y4 (pv 6) (AE EE (AE HU (pv 6) AA) AA)) (pv 7)) AA) (pv 1))))))))):PSs (xc1 P w K mg base f cdv A outer s H E).nox ((CB CQ).drop 2) _)
   have hV1:=@J3z _ _ _ (AJ hT1 hR1)
   refine ⟨_,(AJ (YU (MN KA (HS (EA K (by rfl)) (pv 0) AA (fun _ _=>rfl)) AA (Q7 _)) (AJ (DM (i:=2) AV.nd rfl (by walk_at "o") (AE JH (HS (EA K (by rfl)) (pv 0) AA (fun _ _=>rfl)) (pv 1)))
    (AJ (RJ (AE HU (HS (EA K (by rfl)) (pv 0) AA (fun _ _=>rfl)) (pv 1)) (WT (pv 0) AA TL))
    (EK (GS (pv 2))))) MO)
    hV1),?_⟩
   have md:∀ x:Int,0<=x % many/\x % many<many:=fun x=>⟨B1b _ (by omega),B0m _ mp⟩
   have bmany:Bd 64 many:=Bd.of (by omega) (by omega)
   walk_at "rd"
   refine ⟨_,_,_,_,rfl,rfl,SqL.of hp,rfl,?_⟩
   walk_at "rd"
   refine Q4r (fun h=>?_) (fun h=>?_)
   · have h:0<dg:=Q2g h
     walk_at "rd"
     refine ⟨_,_,_,_,rfl,rfl,SqL.of hp,rfl,?_⟩
     walk_at "rd"
     refine ⟨mp,?_⟩
     walk_at "rd"
     refine ⟨_,_,_,_,rfl,rfl,SqL.of hp,rfl,?_⟩
     walk_at "rd"
     refine ⟨⟨mp,64,bmany,by decide⟩,?_⟩
     walk_at "rd"
     refine ⟨_,_,_,0,rfl,rfl,hp,rfl,?_⟩
     walk_at "rd"
     exact k _ _ (md dg).1 (md dg).2 ⟨_,_,_,Y5,Int.ediv_nonneg hf (by omega),hm,hm2,h0,by omega⟩ Keep.upd
   · walk_at "rd"
     refine ⟨by rw [<- hst1,hes1];rfl,?_⟩
     walk_at "al"
     rename_i pr npr
     generalize hH1:upd H pr _=H1
     have S1:Same H H1:=by rw [<- hH1];exact Same.upd npr
     have epr:H1 pr=some (HO.tup [.int 2147483647,.int 2147483629,.int 2147483587,.int 2147483579,.int 2147483563,.int 2147483549,.int 2147483543,.int 2147483497,.int 2147483489,.int 2147483477,.int 2147483423,.int 2147483399]):=by rw [<- hH1];exact Y5
     have hp1:=S1 _ _ hp
     have npp:pr≠p:=J4x epr hp1 (by intro z;cases z)
     clear hH1
     walk_at "rd"
     refine ⟨_,_,_,_,rfl,rfl,SqL.of hp1,rfl,?_⟩
     walk_at "rd"
     refine ⟨_,_,_,2,rfl,rfl,hp1,rfl,?_⟩
     generalize hH2:upd H1 p _=H2
     have hp2:H2 p=some (HO.lst [.int dg,.int m,.int (st+1)]):=by rw [<- hH2];exact Y5
     have epr2:H2 pr=some (HO.tup [.int 2147483647,.int 2147483629,.int 2147483587,.int 2147483579,.int 2147483563,.int 2147483549,.int 2147483543,.int 2147483497,.int 2147483489,.int 2147483477,.int 2147483423,.int 2147483399]):=by rw [<- hH2,Q9 npp];exact epr
     have K2:Keep p H H2:=by rw [<- hH2];exact S1.keep.trans Keep.upd
     clear hH2
     have b1:Bd 32 m:=Bd.of (by omega) (by omega)
     have b2:Bd 15 (st+1):=Bd.of (by omega) (by omega)
     walk_at "rd"
     refine ⟨_,_,_,_,rfl,rfl,SqL.of hp2,rfl,?_⟩
     walk_at "rd"
     refine ⟨_,_,_,_,rfl,rfl,SqL.of hp2,rfl,?_⟩
     walk_at "rd"
     have pw:(m*(2*(st+1)+1)+7919*(st+1)*(st+1)+17).natAbs<2 ^ 64:=by
      have q1:0<=m*(2*(st+1)+1)/\m*(2*(st+1)+1)<=4294967296*20000:=⟨B1j hm (by omega),Int.mul_le_mul (by omega) (by omega) (by omega) (by decide)⟩
      have q2:0<=7919*(st+1)*(st+1)/\7919*(st+1)*(st+1)<=7919*10000*10000:=⟨B1j (by omega) (by omega),Int.mul_le_mul (by omega) (by omega) (by omega) (by decide)⟩
      omega
     refine ⟨⟨by decide,by decide,pw⟩,?_⟩
     walk_at "rd"
     refine ⟨(by show (0:Int)<12;decide),?_⟩
     have ixp:∀ j:Int,∃ q:Int,atI [.int 2147483647,.int 2147483629,.int 2147483587,.int 2147483579,.int 2147483563,.int 2147483549,.int 2147483543,.int 2147483497,.int 2147483489,.int 2147483477,.int 2147483423,.int 2147483399] (j % 12)=some (V.int q)/\0<q/\q<=2147483647:=fun j=>by
      obtain ⟨v,ev,mv⟩:=J6x (xs:=[.int 2147483647,.int 2147483629,.int 2147483587,.int 2147483579,.int 2147483563,.int 2147483549,.int 2147483543,.int 2147483497,.int 2147483489,.int 2147483477,.int 2147483423,.int 2147483399]) (i:=j % 12) (B1b _ (by decide)) (B0m _ (by decide))
      simp only [B7,M8,W3] at mv
      rcases mv with e|e|e|e|e|e|e|e|e|e|e|e<;>exact ⟨_,e▸ev,by decide,by decide⟩
     obtain ⟨q1,x1,q10,q11⟩:=ixp (st+1)
     obtain ⟨q2,x2,q20,q21⟩:=ixp (st+1+5)
     refine ⟨_,_,_,_,rfl,rfl,SqT.of epr2,x1,?_⟩
     walk_at "rd"
     refine ⟨q10,?_⟩
     have fb:=B0m ((m*(2*(st+1)+1)+7919*(st+1)*(st+1)+17) ^ (3:Int).toNat) q10
     have f0:=B1b ((m*(2*(st+1)+1)+7919*(st+1)*(st+1)+17) ^ (3:Int).toNat) (show q1≠0 by omega)
     have bfd:Bd 32 ((m*(2*(st+1)+1)+7919*(st+1)*(st+1)+17) ^ (3:Int).toNat % q1):=Bd.of (by omega) (by omega)
     have bfq:Bd 40 ((m*(2*(st+1)+1)+7919*(st+1)*(st+1)+17) ^ (3:Int).toNat % q1 / 4096+5):=Bd.of (by omega) (by omega)
     walk_at "rd"
     refine ⟨(by show (0:Int)<12;decide),?_⟩
     refine ⟨_,_,_,_,rfl,rfl,SqT.of epr2,x2,?_⟩
     walk_at "rd"
     refine ⟨⟨by decide,64,Bd.num _ (by decide),by decide⟩,?_⟩
     walk_at "rd"
     refine ⟨q20,?_⟩
     walk_at "rd"
     refine ⟨⟨by decide,64,Bd.num _ (by decide),by decide⟩,?_⟩
     walk_at "rd"
     refine ⟨mp,?_⟩
     exact k _ _ (md _).1 (md _).2 ⟨_,_,_,hp2,hf,hm,hm2,by omega,by omega⟩ K2
def BT:BagT:=⟨fun p H=>∃ f m st:Int,H p=some (.lst [.int f,.int m,.int st])/\0<=f/\0<=m/\m<4294967296/\0<=st,fun p H H' b k=>by
 obtain ⟨f,m,q,e,r⟩:=b
 exact ⟨f,m,q,k _ e,r⟩,fun p H b=>by
 obtain ⟨f,m,q,e,r⟩:=b
 exact ⟨_,e⟩⟩
theorem J9t {p:Addr}{H H':Hp}(k:Keep p H H'):Kp (some p) H H':=fun c o n e=>k c o (fun z=>n (by rw [z])) e
theorem Bag3.ok {n:Nat}{H:Hp}{p:Addr}(b:Bag3 n H p):BT.ok p H/\OJ p H<=n:=by
 obtain ⟨f,m,st,e,h1,h2,h3,h4,h5⟩:=b
 refine ⟨⟨f,m,st,e,h1,h2,h3,h4⟩,?_⟩
 unfold OJ
 rw [e]
 show st.toNat<=n
 omega
theorem Bag3.of {H:Hp}{p:Addr}(b:BT.ok p H):Bag3 (OJ p H) H p:=by
 obtain ⟨f,m,st,e,h1,h2,h3,h4⟩:=b
 refine ⟨f,m,st,e,h1,h2,h3,h4,?_⟩
 unfold OJ
 rw [e]
 show st<=((st.toNat:Nat):Int)
 omega
def RK:List D->Prop:=fun ds=>∃ (ns:List Int) (i:Nat),ds=[.scr ns,.int i]/\i<=1000
theorem SZ:∀ vs H Q E,(SO K BT RK) vs H Q E->(J3j K) vs H Q E:=by
 rintro vs H Q E ⟨M,b,ds,hr,⟨ns,i,rfl,hi⟩,k⟩
 obtain ⟨v,r,rfl,⟨a,rfl,hS⟩,u,r',rfl,h2,h3⟩:=hr
 cases (show _=_ from h2)
 cases (show _=_ from h3)
 exact ⟨a,ns,i,rfl,hS.imp (·.2) id,hi,fun p H' hp S b=>k p H' hp S b.ok.1 (by have:=b.ok.2;omega)⟩
theorem UH {w:World} {f:Addr} (F:Fun K "_law_bag" "_law_bag" GO f fd) (Z:Bi mg) {c:Cs} (Y:Ex K mg base c):FnOk P w K mg base CX0 1 f fd xl1 (SO K BT RK):=FnOk.imp (RV F Z Y) SZ
def SU:VW:=fun ds P n=>∃ (many:Int),ds=[.bag,.int many]/\n<=9000/\0<many/\many<18446744073709551616/\∀ (r:Int) (n':Nat),0<=r->r<many->n'<=n+1->P (.int r) n'
theorem QX:∀ vs H Q E,(BW K BT SU) vs H Q E->YK vs H Q E:=by
 rintro vs H Q E ⟨M,b,ds,P,⟨many,rfl,hn,h0,h1,hP⟩,⟨v,r,rfl,⟨p,rfl,rfl⟩,u,r',rfl,h2,h3⟩,ho,hb,hd,hq⟩
 cases (show _=_ from h2)
 cases (show _=_ from h3)
 exact ⟨p,many,OJ p H,rfl,Bag3.of (ho p rfl),hn,h0,h1,fun r H' r0 r1 b' k=>hq _ _ H' (hP r _ r0 r1 b'.ok.2) rfl (J9t k) fun q e=>by cases e;exact b'.ok.1⟩
theorem RU {w:World} {f:Addr} (F:Fun K "_law_take" "_law_take" CQ f fd) (Z:Bi mg) {c:Cs} (Y:Ex K mg base c):FnOk P w K mg base CX0 1 f fd xl3 (BW K BT SU):=FnOk.imp (PD F Z Y) QX
def J7e:DSp:=fun ds P _=>∃ a b:Int,ds=[.int a,.int b]/\P (.int (Int.gcd a b))
abbrev BV:Stmt:=top 10
abbrev xl4:List Str:=["one","other"]
theorem FL:FnScope xl4 xl4 (J6 BV):=⟨rfl,rfl,rfl,by decide +kernel,rfl,by decide +kernel,by decide +kernel⟩
def FG:Sp:=fun vs H Q _=>∃ a b:Int,vs=[.int a,.int b]/\Q (.int (Int.gcd a b)) H
theorem JK {w:World} {f:Addr} (F:Fun K "common_divisor" "common_divisor" BV f fd) (Z:Bi mg) {c:Cs} (Y:Ex K mg base c):FnOk P w K mg base CX0 1 f fd xl4 FG:=by
 refine F.ok FL (fun vs H Q E h=>?_) (fun cdv A outer s H vs Q E hr h=>?_)
 · obtain ⟨a,b,rfl,k⟩:=h
   rfl
 · obtain ⟨a,b,rfl,k⟩:=h
   refine ⟨_,(AJ (J4a B0a (MN IT (pv 1) AA (Q7 _)) (EK (Q3q (i:=0) (j:=1) rfl FL.nd rfl rfl (by decide) rfl rfl (BC (pv 1) (BC (AE J9c (pv 0) (pv 1)) ES)) rfl)))
    (EK (GS (FZ IC rfl Z.abs_ OO (BC (pv 0) ES))))),?_⟩
   have ab:∀ x:Int,(if x<0 then -x else x)=(x.natAbs:Int):=fun x=>by split<;>omega
   refine J3b (fun σ H'=>H'=H/\∃ x y:Int,σ=[some (.int x),some (.int y)]/\Int.gcd x y=Int.gcd a b) (fun σ _=>match σ with | [_,some (.int y)]=>y.natAbs|_=>0) ⟨rfl,_,_,rfl,rfl⟩ ?_ ?_
   · rintro σ H' ⟨rfl,x,y,rfl,hg⟩
     walk_at "rd"
     refine Q4r (fun h=>?_) (fun h=>?_)
     · have h:y≠0:=J9m h
       walk_at "rd"
       refine ⟨h,?_⟩
       refine ⟨_,_,rfl,⟨rfl,_,_,rfl,by rw [J5q];exact hg⟩,?_⟩
       show (x.fmod y).natAbs<y.natAbs
       exact Q9b h
     · have h:y=0:=J9n h
       walk_at "rd"
       subst h
       have e:((Int.gcd a b:Nat):Int)=(if x<0 then -x else x):=by rw [<- hg,Int.gcd_zero_right,ab]
       rw [e] at k
       exact k
   · rintro σ H' Q1 Q2 hq ⟨v,e1,e2,k',e4,q⟩
     exact ⟨v,e1,e2,k',e4,hq _ _ q⟩
theorem JX:∀ vs H Q E,(J8 K BT J7e) vs H Q E->FG vs H Q E:=by
 rintro vs H Q E ⟨M,b,ds,P,Ed,⟨x,y,rfl,hP⟩,⟨v,r,rfl,h1,u,r',rfl,h2,h3⟩,ho,hb,hd,hq,hx⟩
 cases (show _=_ from h1)
 cases (show _=_ from h2)
 cases (show _=_ from h3)
 exact ⟨x,y,rfl,hq _ _ H hP rfl (Kp.refl _ _) ho⟩
theorem KE {w:World} {f:Addr} (F:Fun K "common_divisor" "common_divisor" BV f fd) (Z:Bi mg) {c:Cs} (Y:Ex K mg base c):FnOk P w K mg base CX0 1 f fd xl4 (J8 K BT J7e):=FnOk.imp (JK F Z Y) JX
abbrev WM:Stmt:=top 9
abbrev xl5:List Str:=["number"]
theorem J8j:FnScope xl5 xl5 (J6 WM):=⟨rfl,rfl,rfl,by decide +kernel,rfl,by decide +kernel,by decide +kernel⟩
def sgn (n:Int):Int:=if 0<n then 1 else if n<0 then -1 else 0
def OS:DSp:=fun ds P _=>∃ n:Int,ds=[.int n]/\P (.int (sgn n))
theorem J9g {w:World} {f:Addr} (F:Fun K "sign" "sign" WM f fd) (Z:Bi mg) {c:Cs} (Y:Ex K mg base c):FnOk P w K mg base CX0 1 f fd xl5 (J8 K BT OS):=by
 refine F.okD J8j (fun ds PP Ed h=>?_) (fun cdv A outer s H E M bg ds PP Ed hr hS_=>?_)
 · obtain ⟨n,rfl,hP⟩:=h
   rfl
 · obtain ⟨n,rfl,hP⟩:=hS_
   refine ⟨_,(J4 (Y6 (V7 KA AR (jdv 0) J3 (Q7 _)) (J5 (Q4 J3)) V1)
    (J4 (Y6 (V7 GA AR (jdv 0) J3 (Q7 _)) (J5 (Q4 (IK J3))) V1)
    (J5 (Q4 J3)))),?_⟩
   unfold sgn at hP
   walk_at "g"
   walk_at "sp"
   · rename_i h;rw [if_pos h] at hP;exact hP
   · rename_i h
     rw [if_neg h] at hP
     walk_at "g"
     walk_at "sp"
     · rename_i h';rw [if_pos h'] at hP;exact hP
     · rename_i h';rw [if_neg h'] at hP;exact hP
abbrev FX:Stmt:=top 13
theorem ND:FnScope ["a","b","c"] ["a","b","c"] (J6 FX):=⟨rfl,rfl,rfl,by decide +kernel,rfl,by decide +kernel,by decide +kernel⟩
def det (a0 a1 a2 b0 b1 b2 c0 c1 c2:Int):Int:=a0*(b1*c2 - b2*c1) - a1*(b0*c2 - b2*c0)+a2*(b0*c1 - b1*c0)
def J0p:DSp:=fun ds P _=>∃ (a0 a1 a2 b0 b1 b2 c0 c1 c2:Int),ds=[t3 a0 a1 a2,t3 b0 b1 b2,t3 c0 c1 c2]/\(Bd 2000 a0/\Bd 2000 a1/\Bd 2000 a2)/\(Bd 2000 b0/\Bd 2000 b1/\Bd 2000 b2)/\(Bd 2000 c0/\Bd 2000 c1/\Bd 2000 c2)/\P (.int (det a0 a1 a2 b0 b1 b2 c0 c1 c2))
theorem NO {w:World} {f:Addr} (F:Fun K "determinant" "determinant" FX f fd) (Z:Bi mg) {c:Cs} (Y:Ex K mg base c):FnOk P w K mg base CX0 1 f fd ["a","b","c"] (J8 K BT J0p):=by
 refine F.okD ND (fun ds PP Ed h=>?_) (fun cdv A outer s H E M bg ds PP Ed hr hS_=>?_)
 · obtain ⟨a0,a1,a2,b0,b1,b2,c0,c1,c2,rfl,⟨p0,p1,p2⟩,⟨q0,q1,q2⟩,⟨r0,r1,r2⟩,hP⟩:=h
   rfl
 · obtain ⟨a0,a1,a2,b0,b1,b2,c0,c1,c2,rfl,⟨p0,p1,p2⟩,⟨q0,q1,q2⟩,⟨r0,r1,r2⟩,hP⟩:=hS_
   refine ⟨_,(J5 (Q4 (V6 EE EV (V6 ET EV (V6 Y4 DN (Q8 (Q6 K (by rfl)) V4 (jdv 0) J3 (fun _ _=>rfl)) (V6 ET EV (V6 Y4 DN (Q8 (Q6 K (by rfl)) V4 (jdv 1) J3 (fun _ _=>rfl)) (Q8 (Q6 K (by rfl)) V4 (jdv 2) J3 (fun _ _=>rfl))) (V6 Y4 DN (Q8 (Q6 K (by rfl)) V4 (jdv 1) J3 (fun _ _=>rfl)) (Q8 (Q6 K (by rfl)) V4 (jdv 2) J3 (fun _ _=>rfl))))) (V6 Y4 DN (Q8 (Q6 K (by rfl)) V4 (jdv 0) J3 (fun _ _=>rfl)) (V6 ET EV (V6 Y4 DN (Q8 (Q6 K (by rfl)) V4 (jdv 1) J3 (fun _ _=>rfl)) (Q8 (Q6 K (by rfl)) V4 (jdv 2) J3 (fun _ _=>rfl))) (V6 Y4 DN (Q8 (Q6 K (by rfl)) V4 (jdv 1) J3 (fun _ _=>rfl)) (Q8 (Q6 K (by rfl)) V4 (jdv 2) J3 (fun _ _=>rfl)))))) (V6 Y4 DN (Q8 (Q6 K (by rfl)) V4 (jdv 0) J3 (fun _ _=>rfl)) (V6 ET EV (V6 Y4 DN (Q8 (Q6 K (by rfl)) V4 (jdv 1) J3 (fun _ _=>rfl)) (Q8 (Q6 K (by rfl)) V4 (jdv 2) J3 (fun _ _=>rfl))) (V6 Y4 DN (Q8 (Q6 K (by rfl)) V4 (jdv 1) J3 (fun _ _=>rfl)) (Q8 (Q6 K (by rfl)) V4 (jdv 2) J3 (fun _ _=>rfl)))))))),?_⟩
   walk_at "g"
   exact hP
abbrev JB:Stmt:=top 31
theorem TM:FnScope ["a"] ["a"] (J6 JB):=⟨rfl,rfl,rfl,by decide +kernel,rfl,by decide +kernel,by decide +kernel⟩
def JP:DSp:=fun ds P _=>∃ (x y z w:Int),ds=[sp4 x y z w]/\P (t3 x y w)
theorem UC {w:World} {f:Addr} (F:Fun K "on_board" "on_board" JB f fd) (Z:Bi mg) {c:Cs} (Y:Ex K mg base c):FnOk P w K mg base CX0 1 f fd ["a"] (J8 K BT JP):=by
 refine F.okD TM (fun ds PP Ed h=>?_) (fun cdv A outer s H E M bg ds PP Ed hr hS_=>?_)
 · obtain ⟨x,y,z,w,rfl,hP⟩:=h
   rfl
 · obtain ⟨x,y,z,w,rfl,hP⟩:=hS_
   refine ⟨_,(J5 (Q4 (Q5 (J0 (Q8 (Q6 K (by rfl)) V4 (jdv 0) J3 (fun _ _=>rfl)) (J0 (Q8 (Q6 K (by rfl)) V4 (jdv 0) J3 (fun _ _=>rfl)) (J0 (Q8 (Q6 K (by rfl)) V4 (jdv 0) J3 (fun _ _=>rfl)) J1)))))),?_⟩
   walk_at "g"
   exact hP
abbrev CW:Stmt:=top 11
theorem AX:FnScope ["numbers","shared","number"] ["numbers"] (J6 CW):=⟨rfl,rfl,rfl,by decide +kernel,rfl,by decide +kernel,by decide +kernel⟩
def fdD (s:Int):D->D
 | .int x=>.int (x.fdiv s)
 | d=>d
def J7b:DSp:=fun ds P _=>∃ (ns:List Int) (last:Int) (n:Nat),ds=[.tup (ns.map D.int++[.int last])]/\last≠0/\Bd n last/\n<=9000/\ns.length<=10/\P (.tup ((ns.map fun x=>.int (x.fdiv (low ns last)))++[.int (last.fdiv (low ns last))]))
structure C_lowest_terms (P:Program)(w:World)(K:Fg)(mg:Str->Option Value)(base:Heap)(c:Cs):Prop where
 common_divisor_:Callee P w K mg base CX0 "common_divisor" 1 xl4 (J8 K BT J7e)
abbrev xc2 (P:Program) (w:World) (K:Fg) (mg:Str → Option Value) (base:Heap) (f:Addr) (cdv:Value) (A:Around) (outer:List Env) (s:Shared) (H:Hp) (E:XK):Cx:=BQ CX0 P w K mg base ["numbers","shared","number"] "lowest_terms" (J6 CW) f cdv A outer s H E
theorem MI {w:World} {f:Addr} (F:Fun K "lowest_terms" "lowest_terms" CW f fd) (Z:Bi mg) {c:Cs} (Y:Ex K mg base c) (G:C_lowest_terms P w K mg base c):FnOk P w K mg base CX0 2 f fd ["numbers"] (J8 K BT J7b):=by
 refine F.okD AX (fun ds PP Ed h=>?_) (fun cdv A outer s H E M bg ds PP Ed hr hS_=>?_)
 · obtain ⟨ns,last,n,rfl,h0,hbd,hn,hl,hP⟩:=h
   rfl
 · obtain ⟨ns,last,n,rfl,h0,hbd,hn,hl,hP⟩:=hS_
   refine ⟨_,(J4 (Z1 (i:=1) AX.nd rfl (by walk_at "o") J3)
    (J4 (FR (V8 2) B0a rfl (Z7 (by rfl) (jdv 0)) (pg_name (i:=2) AX.nd rfl (by walk_at "o")) (J5 (Z1 (i:=1) AX.nd rfl (by walk_at "o") (Q0 G.common_divisor_ hr.m rfl (J0 (jdv 1) (J0 (jdv 2) J1))))))
    (J4 (Y6 (V7 GA AR (Q8 (Q6 K (by rfl)) V4 (jdv 0) (IK J3) (fun _ _=>rfl)) J3 (Q7 _)) (J5 (Z1 (i:=1) AX.nd rfl (by walk_at "o") (IK (jdv 1)))) V1)
    (J5 (Q4 (EW (DH K (by rfl)) KR rfl Z.tuple_ CI (J0 (AF (X:=(xc2 P w K mg base f cdv A outer s H E).nox) (V8 0) (IR (X:=(xc2 P w K mg base f cdv A outer s H E).nox) (N':=["number","shared"]) (map:=[none,some 1]) (by rfl) (by rfl) (by decide +kernel) (by rfl) ⟨⟨rfl,rfl,rfl,by walk_at "o"⟩,True.intro⟩ (gkeep_name rfl) fun cl0 C0 fp0 s0 H0=>⟨(pg_name (X:=(Q3 (xc2 P w K mg base f cdv A outer s H E).nox ["number","shared"] _ cl0 C0 fp0 s0 H0)) (i:=0) (Z4 ["number","shared"] (by decide +kernel)) rfl (by walk_at "o")),Z8,(V6 (X:=(Q3 (xc2 P w K mg base f cdv A outer s H E).nox ["number","shared"] _ cl0 C0 fp0 s0 H0)) J4p DN (jdv 0) (jdv 1))⟩) (Z7 (by rfl) (jdv 0))) J1))))))),?_⟩
   have getL:∀ (i:Nat) x,(ns.map D.int++[.int last])[i]?=some x->∃ m,x=.int m/\(ns++[last])[i]?=some m:=fun i x e=>by
    have e':(ns.map D.int++[.int last])=(ns++[last]).map D.int:=by simp
    rw [e',M9] at e
    cases q:(ns++[last])[i]? with
    | none=>rw [q] at e;cases e
    | some m=>rw [q] at e;exact ⟨m,(Option.some.inj e).symm,rfl⟩
   walk_at "g"
   refine ⟨fun i ρ=>∃ v,ρ=[some (.tup (ns.map D.int++[.int last])),some (.int (ML ((ns++[last]).take i))),v],⟨none,rfl⟩,fun i x ρ e ⟨v,q⟩=>?_,fun ρ ⟨v,q⟩=>?_⟩
   · obtain ⟨m,rfl,em⟩:=getL i x e
     subst q
     walk_at "g"
     refine ⟨_,_,rfl,?_⟩
     walk_at "g"
     refine ⟨some (.int m),?_⟩
     rw [D4,em,B0j,QF]
     rfl
   · subst q
     have et:(ns++[last]).take (ns.map D.int++[D.int last]).length=ns++[last]:=B0l (by simp)
     rw [et]
     have hg:=IN (ns:=ns) h0
     have hlow:∀ s:Int,s=low ns last->compI (gdN 0) QK (dOp (oI (fun _ j=>j≠0/\∃ n,Bd n j/\n<=9000) Int.fdiv) (J2j 0) (J2j 1)) [none,some (.int s)] (ns.map D.int++[.int last]) (fun acc=>PP (.tup acc)):=fun s es=>by
      refine CG (fdD s) (fun x Q hx q=>?_) (fun x hx=>?_) ?_
      · obtain ⟨i,ei⟩:=B2t hx
        obtain ⟨m,rfl,_⟩:=getL i x ei
        walk_at "w"
        refine ⟨⟨by rw [es];exact J4z h0,n,?_,hn⟩,q⟩
        rw [es]
        exact B0k (Q4i h0) hbd
      · obtain ⟨i,ei⟩:=B2t hx
        obtain ⟨m,rfl,_⟩:=getL i x ei
        rfl
      · rw [D7,B0f,es]
        exact hP
     have hlen:(ns.map D.int++[D.int last]).length<=1000:=by simp;omega
     simp only [VU,J2w,Q6a,J6n,Q6b,Q6c,J2k,gdN,dOp,J2j,dC,dUn,Q4f,J6k,Q6v,J6y,QL,dCB,Q0y,J6o,Q4v,oI,oB0,oIx,J4t,IB,M5,B1h,BE,W5,List.length_nil,List.replicate,B2n,List.nil_append,Nat.reduceAdd,Nat.reduceSub,Nat.zero_add,U9,Option.bind_some,Option.bind_none,Option.join_some,Option.join_none,List.getElem?_cons_succ,List.getElem?_cons_zero,List.set_cons_succ,List.set_cons_zero,B0o,List.all_nil,Z6,L2.plain,B1n,U4,true_and,Q1i,Option.elim_some]
     walk_at "sp"
     · rename_i hlt
       refine ⟨hlen,hlow _ ?_⟩
       unfold low;rw [if_pos hlt]
     · rename_i hlt
       refine ⟨hlen,hlow _ ?_⟩
       unfold low;rw [if_neg hlt]
structure T3 where
 ax:Int
 ay:Int
 az:Int
 aw:Int
 bx:Int
 b_y:Int
 bz:Int
 bw:Int
 cx:Int
 cy:Int
 cz:Int
 cw:Int
structure T3.ok (t:T3)(n:Nat):Prop where
 ax:Bd n t.ax
 ay:Bd n t.ay
 az:Bd n t.az
 aw:Bd n t.aw
 bx:Bd n t.bx
 b_y:Bd n t.b_y
 bz:Bd n t.bz
 bw:Bd n t.bw
 cx:Bd n t.cx
 cy:Bd n t.cy
 cz:Bd n t.cz
 cw:Bd n t.cw
abbrev T3.d (t:T3):D:=.tup [sp4 t.ax t.ay t.az t.aw,sp4 t.bx t.b_y t.bz t.bw,sp4 t.cx t.cy t.cz t.cw]
def T3.tn (t:T3):Int:=det t.ax t.ay t.aw t.bx t.b_y t.bw t.cx t.cy t.cw
def T3.wA (t:T3)(px py:Int):Int:=det t.bx t.b_y t.bw t.cx t.cy t.cw px py 1
def T3.wB (t:T3)(px py:Int):Int:=det t.cx t.cy t.cw t.ax t.ay t.aw px py 1
def T3.wC (t:T3)(px py:Int):Int:=det t.ax t.ay t.aw t.bx t.b_y t.bw px py 1
def T3.top (t:T3)(px py:Int):Int:=t.wA px py*t.az+t.wB px py*t.bz+t.wC px py*t.cz
theorem HB {n:Nat}{a0 a1 a2 b0 b1 b2 c0 c1 c2:Int}(h0:Bd n a0)(h1:Bd n a1)(h2:Bd n a2)(h3:Bd n b0)(h4:Bd n b1)(h5:Bd n b2)(h6:Bd n c0)(h7:Bd n c1)(h8:Bd n c2):Bd (3*n+5) (det a0 a1 a2 b0 b1 b2 c0 c1 c2):=by
 unfold det
 have e1:=Bd.mul h0 (Bd.sub (Bd.mul h4 h8) (Bd.mul h5 h7))
 have e2:=Bd.mul h1 (Bd.sub (Bd.mul h3 h8) (Bd.mul h5 h6))
 have e3:=Bd.mul h2 (Bd.sub (Bd.mul h3 h7) (Bd.mul h4 h6))
 exact (Bd.add (Bd.sub e1 e2) e3).mono (by omega)
theorem bd1 {n:Nat}(h:3<=n):Bd n 1:=(Bd.of (by decide) (by decide):Bd 3 1).mono h
abbrev FW:Stmt:=top 32
abbrev xl6:List Str:=["a","b","dot"]
theorem NB:FnScope xl6 xl6 (J6 FW):=⟨rfl,rfl,rfl,by decide +kernel,rfl,by decide +kernel,by decide +kernel⟩
def MS:DSp:=fun ds P _=>∃ (ax ay az aw bx b_y bz bw px py:Int),ds=[sp4 ax ay az aw,sp4 bx b_y bz bw,t2 px py]/\(Bd 2000 ax/\Bd 2000 ay/\Bd 2000 aw)/\(Bd 2000 bx/\Bd 2000 b_y/\Bd 2000 bw)/\(Bd 2000 px/\Bd 2000 py)/\P (.int (det ax ay aw bx b_y bw px py 1))
structure C_side_number (P:Program)(w:World)(K:Fg)(mg:Str->Option Value)(base:Heap)(c:Cs):Prop where
 determinant_:Callee P w K mg base CX0 "determinant" 1 ["a","b","c"] (J8 K BT J0p)
 on_board_:Callee P w K mg base CX0 "on_board" 1 ["a"] (J8 K BT JP)
theorem NM {w:World} {f:Addr} (F:Fun K "side_number" "side_number" FW f fd) (Z:Bi mg) {c:Cs} (Y:Ex K mg base c) (G:C_side_number P w K mg base c):FnOk P w K mg base CX0 2 f fd xl6 (J8 K BT MS):=by
 refine F.okD NB (fun ds PP Ed h=>?_) (fun cdv A outer s H E M bg ds PP Ed hr hS_=>?_)
 · obtain ⟨ax,ay,az,aw,bx,b_y,bz,bw,px,py,rfl,h1,h2,⟨h3,h4⟩,hP⟩:=h
   rfl
 · obtain ⟨ax,ay,az,aw,bx,b_y,bz,bw,px,py,rfl,h1,h2,⟨h3,h4⟩,hP⟩:=hS_
   refine ⟨_,(J5 (Q4 (Q0 G.determinant_ hr.m rfl (J0 (Q0 G.on_board_ hr.m rfl (J0 (jdv 0) J1)) (J0 (Q0 G.on_board_ hr.m rfl (J0 (jdv 1) J1)) (J0 (Q5 (J0 (Q8 (Q6 K (by rfl)) V4 (jdv 2) J3 (fun _ _=>rfl)) (J0 (Q8 (Q6 K (by rfl)) V4 (jdv 2) J3 (fun _ _=>rfl)) (J0 J3 J1)))) J1)))))),?_⟩
   walk_at "g"
   refine ⟨_,_,_,_,rfl,?_⟩
   walk_at "g"
   refine ⟨_,_,_,_,rfl,?_⟩
   walk_at "g"
   exact ⟨_,_,_,_,_,_,_,_,_,rfl,h1,h2,⟨h3,h4,bd1 (by decide)⟩,hP⟩
abbrev WL:Stmt:=top 38
theorem GI:FnScope ["face","a","b","c"] ["face"] (J6 WL):=⟨rfl,rfl,rfl,by decide +kernel,rfl,by decide +kernel,by decide +kernel⟩
def ST:DSp:=fun ds P _=>∃ (t:T3) (n:Nat),ds=[t.d]/\t.ok n/\n<=2000/\P (.int t.tn)
structure C_turn (P:Program)(w:World)(K:Fg)(mg:Str->Option Value)(base:Heap)(c:Cs):Prop where
 determinant_:Callee P w K mg base CX0 "determinant" 1 ["a","b","c"] (J8 K BT J0p)
 on_board_:Callee P w K mg base CX0 "on_board" 1 ["a"] (J8 K BT JP)
theorem J9f {w:World} {f:Addr} (F:Fun K "turn" "turn" WL f fd) (Z:Bi mg) {c:Cs} (Y:Ex K mg base c) (G:C_turn P w K mg base c):FnOk P w K mg base CX0 2 f fd ["face"] (J8 K BT ST):=by
 refine F.okD GI (fun ds PP Ed h=>?_) (fun cdv A outer s H E M bg ds PP Ed hr hS_=>?_)
 · obtain ⟨t,n,rfl,ok,hn,hP⟩:=h
   rfl
 · obtain ⟨t,n,rfl,ok,hn,hP⟩:=hS_
   refine ⟨_,(J4 (CK (BO [1,2,3]) (jdv 0) (PG.or (AK (n:=3) K (by rfl) (by rfl) (J7 (pg_name (i:=1) GI.nd rfl (by walk_at "o")) (J7 (pg_name (i:=2) GI.nd rfl (by walk_at "o")) (J7 (pg_name (i:=3) GI.nd rfl (by walk_at "o")) V9)))) (AL (n:=3) K (by rfl) (by rfl) (J7 (pg_name (i:=1) GI.nd rfl (by walk_at "o")) (J7 (pg_name (i:=2) GI.nd rfl (by walk_at "o")) (J7 (pg_name (i:=3) GI.nd rfl (by walk_at "o")) V9))))))
    (J5 (Q4 (Q0 G.determinant_ hr.m rfl (J0 (Q0 G.on_board_ hr.m rfl (J0 (jdv 1) J1)) (J0 (Q0 G.on_board_ hr.m rfl (J0 (jdv 2) J1)) (J0 (Q0 G.on_board_ hr.m rfl (J0 (jdv 3) J1)) J1))))))),?_⟩
   walk_at "g"
   refine ⟨_,_,_,_,rfl,?_⟩
   walk_at "g"
   refine ⟨_,_,_,_,rfl,?_⟩
   walk_at "g"
   refine ⟨_,_,_,_,rfl,?_⟩
   walk_at "g"
   exact ⟨_,_,_,_,_,_,_,_,_,rfl,⟨ok.ax.mono hn,ok.ay.mono hn,ok.aw.mono hn⟩,⟨ok.bx.mono hn,ok.b_y.mono hn,ok.bw.mono hn⟩,⟨ok.cx.mono hn,ok.cy.mono hn,ok.cw.mono hn⟩,hP⟩
abbrev KZ:Stmt:=top 43
abbrev xl7:List Str:=["face","dot"]
theorem CM:FnScope ["face","dot","a","b","c"] xl7 (J6 KZ):=⟨rfl,rfl,rfl,by decide +kernel,rfl,by decide +kernel,by decide +kernel⟩
def QV:DSp:=fun ds P _=>∃ (t:T3) (px py:Int) (n:Nat),ds=[t.d,t2 px py]/\t.ok n/\Bd n px/\Bd n py/\n<=2000/\P (t3 (t.wA px py) (t.wB px py) (t.wC px py))
structure C_weights (P:Program)(w:World)(K:Fg)(mg:Str->Option Value)(base:Heap)(c:Cs):Prop where
 side_number_:Callee P w K mg base CX0 "side_number" 2 xl6 (J8 K BT MS)
theorem WY {w:World} {f:Addr} (F:Fun K "weights" "weights" KZ f fd) (Z:Bi mg) {c:Cs} (Y:Ex K mg base c) (G:C_weights P w K mg base c):FnOk P w K mg base CX0 3 f fd xl7 (J8 K BT QV):=by
 refine F.okD CM (fun ds PP Ed h=>?_) (fun cdv A outer s H E M bg ds PP Ed hr hS_=>?_)
 · obtain ⟨t,px,py,n,rfl,ok,hx,hy,hn,hP⟩:=h
   rfl
 · obtain ⟨t,px,py,n,rfl,ok,hx,hy,hn,hP⟩:=hS_
   refine ⟨_,(J4 (CK (BO [2,3,4]) (jdv 0) (PG.or (AK (n:=3) K (by rfl) (by rfl) (J7 (pg_name (i:=2) CM.nd rfl (by walk_at "o")) (J7 (pg_name (i:=3) CM.nd rfl (by walk_at "o")) (J7 (pg_name (i:=4) CM.nd rfl (by walk_at "o")) V9)))) (AL (n:=3) K (by rfl) (by rfl) (J7 (pg_name (i:=2) CM.nd rfl (by walk_at "o")) (J7 (pg_name (i:=3) CM.nd rfl (by walk_at "o")) (J7 (pg_name (i:=4) CM.nd rfl (by walk_at "o")) V9))))))
    (J5 (Q4 (Q5 (J0 (Q0 G.side_number_ hr.m rfl (J0 (jdv 3) (J0 (jdv 4) (J0 (jdv 1) J1)))) (J0 (Q0 G.side_number_ hr.m rfl (J0 (jdv 4) (J0 (jdv 2) (J0 (jdv 1) J1)))) (J0 (Q0 G.side_number_ hr.m rfl (J0 (jdv 2) (J0 (jdv 3) (J0 (jdv 1) J1)))) J1))))))),?_⟩
   walk_at "g"
   refine ⟨_,_,_,_,_,_,_,_,_,_,rfl,⟨ok.bx.mono hn,ok.b_y.mono hn,ok.bw.mono hn⟩,⟨ok.cx.mono hn,ok.cy.mono hn,ok.cw.mono hn⟩,⟨hx.mono hn,hy.mono hn⟩,?_⟩
   walk_at "g"
   refine ⟨_,_,_,_,_,_,_,_,_,_,rfl,⟨ok.cx.mono hn,ok.cy.mono hn,ok.cw.mono hn⟩,⟨ok.ax.mono hn,ok.ay.mono hn,ok.aw.mono hn⟩,⟨hx.mono hn,hy.mono hn⟩,?_⟩
   walk_at "g"
   refine ⟨_,_,_,_,_,_,_,_,_,_,rfl,⟨ok.ax.mono hn,ok.ay.mono hn,ok.aw.mono hn⟩,⟨ok.bx.mono hn,ok.b_y.mono hn,ok.bw.mono hn⟩,⟨hx.mono hn,hy.mono hn⟩,?_⟩
   walk_at "g"
   exact hP
abbrev NF:Stmt:=top 33
theorem J1b:FnScope ["a","b"] ["a","b"] (J6 NF):=⟨rfl,rfl,rfl,by decide +kernel,rfl,by decide +kernel,by decide +kernel⟩
def OV:DSp:=fun ds P _=>∃ (ax ay az aw bx b_y bz bw:Int),ds=[sp4 ax ay az aw,sp4 bx b_y bz bw]/\(Bd 2000 ay/\Bd 2000 aw)/\(Bd 2000 b_y/\Bd 2000 bw)/\P (.int (ay*bw - aw*b_y))
theorem J1k {w:World} {f:Addr} (F:Fun K "growth" "growth" NF f fd) (Z:Bi mg) {c:Cs} (Y:Ex K mg base c):FnOk P w K mg base CX0 1 f fd ["a","b"] (J8 K BT OV):=by
 refine F.okD J1b (fun ds PP Ed h=>?_) (fun cdv A outer s H E M bg ds PP Ed hr hS_=>?_)
 · obtain ⟨ax,ay,az,aw,bx,b_y,bz,bw,rfl,⟨h1,h2⟩,⟨h3,h4⟩,hP⟩:=h
   rfl
 · obtain ⟨ax,ay,az,aw,bx,b_y,bz,bw,rfl,⟨h1,h2⟩,⟨h3,h4⟩,hP⟩:=hS_
   refine ⟨_,(J5 (Q4 (V6 ET EV (V6 Y4 DN (Q8 (Q6 K (by rfl)) V4 (jdv 0) J3 (fun _ _=>rfl)) (Q8 (Q6 K (by rfl)) V4 (jdv 1) J3 (fun _ _=>rfl))) (V6 Y4 DN (Q8 (Q6 K (by rfl)) V4 (jdv 0) J3 (fun _ _=>rfl)) (Q8 (Q6 K (by rfl)) V4 (jdv 1) J3 (fun _ _=>rfl)))))),?_⟩
   walk_at "g"
   exact hP
abbrev ER:Stmt:=top 34
theorem CJ:FnScope ["a","b","dot","number"] xl6 (J6 ER):=⟨rfl,rfl,rfl,by decide +kernel,rfl,by decide +kernel,by decide +kernel⟩
def shd (ax ay aw bx b_y bw px py:Int):Int:=if det ax ay aw bx b_y bw px py 1=0 then (if ay*bw - aw*b_y=0 then aw*bx - ax*bw else ay*bw - aw*b_y) else det ax ay aw bx b_y bw px py 1
def J6z:DSp:=fun ds P _=>∃ (ax ay az aw bx b_y bz bw px py:Int),ds=[sp4 ax ay az aw,sp4 bx b_y bz bw,t2 px py]/\(Bd 2000 ax/\Bd 2000 ay/\Bd 2000 aw)/\(Bd 2000 bx/\Bd 2000 b_y/\Bd 2000 bw)/\(Bd 2000 px/\Bd 2000 py)/\P (.int (sgn (shd ax ay aw bx b_y bw px py)))
structure C_shifted_side (P:Program)(w:World)(K:Fg)(mg:Str->Option Value)(base:Heap)(c:Cs):Prop where
 side_number_:Callee P w K mg base CX0 "side_number" 2 xl6 (J8 K BT MS)
 sign_:Callee P w K mg base CX0 "sign" 1 xl5 (J8 K BT OS)
 growth_:Callee P w K mg base CX0 "growth" 1 ["a","b"] (J8 K BT OV)
theorem MH {w:World} {f:Addr} (F:Fun K "shifted_side" "shifted_side" ER f fd) (Z:Bi mg) {c:Cs} (Y:Ex K mg base c) (G:C_shifted_side P w K mg base c):FnOk P w K mg base CX0 3 f fd xl6 (J8 K BT J6z):=by
 refine F.okD CJ (fun ds PP Ed h=>?_) (fun cdv A outer s H E M bg ds PP Ed hr hS_=>?_)
 · obtain ⟨ax,ay,az,aw,bx,b_y,bz,bw,px,py,rfl,⟨a1,a2,a3⟩,⟨b1,b2,b3⟩,⟨h3,h4⟩,hP⟩:=h
   rfl
 · obtain ⟨ax,ay,az,aw,bx,b_y,bz,bw,px,py,rfl,⟨a1,a2,a3⟩,⟨b1,b2,b3⟩,⟨h3,h4⟩,hP⟩:=hS_
   refine ⟨_,(J4 (Z1 (i:=3) CJ.nd rfl (by walk_at "o") (Q0 G.side_number_ hr.m rfl (J0 (jdv 0) (J0 (jdv 1) (J0 (jdv 2) J1)))))
    (J4 (Y6 (V7 DY BL (jdv 3) J3 (Q7 _)) (J5 (Z1 (i:=3) CJ.nd rfl (by walk_at "o") (Q0 G.growth_ hr.m rfl (J0 (jdv 0) (J0 (jdv 1) J1))))) V1)
    (J4 (Y6 (V7 DY BL (jdv 3) J3 (Q7 _)) (J5 (Z1 (i:=3) CJ.nd rfl (by walk_at "o") (V6 ET EV (V6 Y4 DN (Q8 (Q6 K (by rfl)) V4 (jdv 0) J3 (fun _ _=>rfl)) (Q8 (Q6 K (by rfl)) V4 (jdv 1) J3 (fun _ _=>rfl))) (V6 Y4 DN (Q8 (Q6 K (by rfl)) V4 (jdv 0) J3 (fun _ _=>rfl)) (Q8 (Q6 K (by rfl)) V4 (jdv 1) J3 (fun _ _=>rfl)))))) V1)
    (J5 (Q4 (Q0 G.sign_ hr.m rfl (J0 (jdv 3) J1))))))),?_⟩
   walk_at "g"
   refine ⟨ax,ay,az,aw,bx,b_y,bz,bw,px,py,rfl,⟨a1,a2,a3⟩,⟨b1,b2,b3⟩,⟨h3,h4⟩,?_⟩
   walk_at "g"
   walk_at "sp"
   · rename_i z
     walk_at "g"
     refine ⟨ax,ay,az,aw,bx,b_y,bz,bw,rfl,⟨a2,a3⟩,⟨b2,b3⟩,?_⟩
     walk_at "g"
     walk_at "sp"
     · rename_i z2
       walk_at "g"
       refine ⟨_,rfl,?_⟩
       have e:shd ax ay aw bx b_y bw px py=aw*bx - ax*bw:=by unfold shd;rw [if_pos z,if_pos z2]
       rw [e] at hP
       exact hP
     · rename_i z2
       walk_at "g"
       refine ⟨_,rfl,?_⟩
       have e:shd ax ay aw bx b_y bw px py=ay*bw - aw*b_y:=by unfold shd;rw [if_pos z,if_neg z2]
       rw [e] at hP
       exact hP
   · rename_i z
     walk_at "g"
     refine IfP.f (by simp [z]) ?_
     walk_at "g"
     refine ⟨_,rfl,?_⟩
     have e:shd ax ay aw bx b_y bw px py=det ax ay aw bx b_y bw px py 1:=by unfold shd;rw [if_neg z]
     rw [e] at hP
     exact hP
abbrev LH:Stmt:=top 36
theorem BH:FnScope ["face","dot","a","b","c","first"] xl7 (J6 LH):=⟨rfl,rfl,rfl,by decide +kernel,rfl,by decide +kernel,by decide +kernel⟩
def T3.s1 (t:T3)(px py:Int):Int:=sgn (shd t.ax t.ay t.aw t.bx t.b_y t.bw px py)
def T3.s2 (t:T3)(px py:Int):Int:=sgn (shd t.bx t.b_y t.bw t.cx t.cy t.cw px py)
def T3.s3 (t:T3)(px py:Int):Int:=sgn (shd t.cx t.cy t.cw t.ax t.ay t.aw px py)
def T3.has (t:T3)(px py:Int):Prop:=t.s1 px py≠0/\t.s2 px py=t.s1 px py/\t.s3 px py=t.s1 px py
instance (t:T3) (px py:Int):Decidable (t.has px py):=inferInstanceAs (Decidable (_/\_/\_))
def OU:DSp:=fun ds P _=>∃ (t:T3) (px py:Int) (n:Nat),ds=[t.d,t2 px py]/\t.ok n/\Bd n px/\Bd n py/\n<=2000/\P (.bl (decide (t.has px py)))
structure C_has_dot (P:Program)(w:World)(K:Fg)(mg:Str->Option Value)(base:Heap)(c:Cs):Prop where
 shifted_side_:Callee P w K mg base CX0 "shifted_side" 3 xl6 (J8 K BT J6z)
theorem XF {w:World} {f:Addr} (F:Fun K "has_dot" "has_dot" LH f fd) (Z:Bi mg) {c:Cs} (Y:Ex K mg base c) (G:C_has_dot P w K mg base c):FnOk P w K mg base CX0 4 f fd xl7 (J8 K BT OU):=by
 refine F.okD BH (fun ds PP Ed h=>?_) (fun cdv A outer s H E M bg ds PP Ed hr hS_=>?_)
 · obtain ⟨t,px,py,n,rfl,ok,hx,hy,hn,hP⟩:=h
   rfl
 · obtain ⟨t,px,py,n,rfl,ok,hx,hy,hn,hP⟩:=hS_
   refine ⟨_,(J4 (CK (BO [2,3,4]) (jdv 0) (PG.or (AK (n:=3) K (by rfl) (by rfl) (J7 (pg_name (i:=2) BH.nd rfl (by walk_at "o")) (J7 (pg_name (i:=3) BH.nd rfl (by walk_at "o")) (J7 (pg_name (i:=4) BH.nd rfl (by walk_at "o")) V9)))) (AL (n:=3) K (by rfl) (by rfl) (J7 (pg_name (i:=2) BH.nd rfl (by walk_at "o")) (J7 (pg_name (i:=3) BH.nd rfl (by walk_at "o")) (J7 (pg_name (i:=4) BH.nd rfl (by walk_at "o")) V9))))))
    (J4 (Z1 (i:=5) BH.nd rfl (by walk_at "o") (Q0 G.shifted_side_ hr.m rfl (J0 (jdv 2) (J0 (jdv 3) (J0 (jdv 1) J1)))))
    (J5 (Q4 (AH (Z5 IT GV (jdv 5) J3 (Q7 _)) (AH (Z5 DY BL (Q0 G.shifted_side_ hr.m rfl (J0 (jdv 3) (J0 (jdv 4) (J0 (jdv 1) J1)))) (jdv 5) (Q7 _)) (BZ (Z5 DY BL (Q0 G.shifted_side_ hr.m rfl (J0 (jdv 4) (J0 (jdv 2) (J0 (jdv 1) J1)))) (jdv 5) (Q7 _))))))))),?_⟩
   walk_at "g"
   refine ⟨_,_,_,_,_,_,_,_,_,_,rfl,⟨ok.ax.mono hn,ok.ay.mono hn,ok.aw.mono hn⟩,⟨ok.bx.mono hn,ok.b_y.mono hn,ok.bw.mono hn⟩,⟨hx.mono hn,hy.mono hn⟩,?_⟩
   walk_at "g"
   have key:∀ b:Bool,(b=true↔t.has px py)->PP (.bl b):=fun b h=>by
    rw [show b=decide (t.has px py) from by rw [B0n,h];simp]
    exact hP
   unfold T3.has T3.s1 T3.s2 T3.s3 at key
   walk_at "sp"
   · rename_i h1
     walk_at "g"
     refine ⟨_,_,_,_,_,_,_,_,_,_,rfl,⟨ok.bx.mono hn,ok.b_y.mono hn,ok.bw.mono hn⟩,⟨ok.cx.mono hn,ok.cy.mono hn,ok.cw.mono hn⟩,⟨hx.mono hn,hy.mono hn⟩,?_⟩
     walk_at "g"
     walk_at "sp"
     · rename_i h2
       walk_at "g"
       refine ⟨_,_,_,_,_,_,_,_,_,_,rfl,⟨ok.cx.mono hn,ok.cy.mono hn,ok.cw.mono hn⟩,⟨ok.ax.mono hn,ok.ay.mono hn,ok.aw.mono hn⟩,⟨hx.mono hn,hy.mono hn⟩,?_⟩
       walk_at "g"
       refine key _ ?_
       simp [h1,h2]
     · rename_i h2
       walk_at "g"
       refine key _ ?_
       simp [h2]
   · rename_i h1
     walk_at "g"
     refine key _ ?_
     simp [h1]
abbrev LC:Stmt:=top 15
theorem WI:FnScope xl4 xl4 (J6 LC):=⟨rfl,rfl,rfl,by decide +kernel,rfl,by decide +kernel,by decide +kernel⟩
def J7c:DSp:=fun ds P _=>∃ (a b c e:Int),ds=[t2 a b,t2 c e]/\(Bd 2000 a/\Bd 2000 b)/\(Bd 2000 c/\Bd 2000 e)/\P (.bl (decide (a*e<c*b)))
theorem XB {w:World} {f:Addr} (F:Fun K "is_less" "is_less" LC f fd) (Z:Bi mg) {c:Cs} (Y:Ex K mg base c):FnOk P w K mg base CX0 1 f fd xl4 (J8 K BT J7c):=by
 refine F.okD WI (fun ds PP Ed h=>?_) (fun cdv A outer s H E M bg ds PP Ed hr hS_=>?_)
 · obtain ⟨a,b,c,e,rfl,⟨h1,h2⟩,⟨h3,h4⟩,hP⟩:=h
   rfl
 · obtain ⟨a,b,c,e,rfl,⟨h1,h2⟩,⟨h3,h4⟩,hP⟩:=hS_
   refine ⟨_,(J5 (Q4 (Z5 GA AR (V6 Y4 DN (Q8 (Q6 K (by rfl)) V4 (jdv 0) J3 (fun _ _=>rfl)) (Q8 (Q6 K (by rfl)) V4 (jdv 1) J3 (fun _ _=>rfl))) (V6 Y4 DN (Q8 (Q6 K (by rfl)) V4 (jdv 1) J3 (fun _ _=>rfl)) (Q8 (Q6 K (by rfl)) V4 (jdv 0) J3 (fun _ _=>rfl))) (Q7 _)))),?_⟩
   walk_at "g"
   exact hP
theorem FI {n:Int}(h:0<n):sgn n=1:=by unfold sgn;rw [if_pos h]
theorem FJ {n:Int}(h:n<0):sgn n = -1:=by unfold sgn;rw [if_neg (by omega),if_pos h]
theorem J3m:sgn 0=0:=by decide
theorem TK {n:Int}:sgn n=0↔n=0:=by
 unfold sgn
 by_cases h1:0<n
 · rw [if_pos h1];omega
 · by_cases h2:n<0
   · rw [if_neg h1,if_pos h2];omega
   · rw [if_neg h1,if_neg h2];omega
theorem YO {a:Int}(n:Int)(h:0<a):sgn (a*n)=sgn n:=by
 by_cases h1:0<n
 · rw [FI h1,FI (B0q h h1)]
 · by_cases h2:n<0
   · rw [FJ h2,FJ (W6 h h2)]
   · have:n=0:=by omega
     subst this
     rw [B0t]
theorem J9o {a b M:Int}(h1:(a.natAbs:Int)<=M)(h2:(b.natAbs:Int)<=M) : -(M*M)<=a*b/\a*b<=M*M:=by
 have h3:a.natAbs*b.natAbs<=M.toNat*M.toNat:=Nat.mul_le_mul (by omega) (by omega)
 have h4:(a*b).natAbs=a.natAbs*b.natAbs:=Int.natAbs_mul a b
 have h5:((M.toNat*M.toNat:Nat):Int)=M*M:=by rw [Int.natCast_mul];have:(M.toNat:Int)=M:=(by omega);rw [this]
 omega
theorem J3n {A B C T F:Int}(hT:0<=T)(hF:F=10+8*T)(b1 : -(2*T)<=B)(b2:B<=2*T)(c1 : -(2*T)<=C)(c2:C<=2*T) :
 sgn (F*F*A+F*B+C)=sgn (if A=0 then (if B=0 then C else B) else A):=by
 have F0:0<F:=by omega
 have e1:F*(10+6*T)=F*F - F*(2*T):=by rw [hF];grind
 have e2:10*(10+6*T)<=F*(10+6*T):=Int.mul_le_mul_of_nonneg_right (by omega) (by omega)
 have fb1:F * -(2*T)<=F*B:=W8 b1 (by omega)
 have fb2:F*B<=F*(2*T):=W8 b2 (by omega)
 have e3:F * -(2*T) = -(F*(2*T)):=Int.mul_neg _ _
 have FF:0<F*F:=B0q F0 F0
 by_cases hA:A=0
 · rw [if_pos hA,hA,B0t]
   by_cases hB:B=0
   · rw [if_pos hB,hB,B0t]
     congr 1
     omega
   · rw [if_neg hB]
     by_cases hp:0<B
     · have:F*1<=F*B:=W8 (by omega) (by omega)
       rw [FI hp,FI (by omega)]
     · have:F*B<=F * -1:=W8 (by omega) (by omega)
       have e4:F * -1 = -F:=by omega
       rw [FJ (show B<0 by omega),FJ (by omega)]
 · rw [if_neg hA]
   by_cases hp:0<A
   · have:F*F*1<=F*F*A:=W8 (by omega) (by omega)
     rw [FI hp,FI (by omega)]
   · have:F*F*A<=F*F * -1:=W8 (by omega) (by omega)
     rw [FJ (show A<0 by omega),FJ (by omega)]
theorem QB (ax ay aw bx b_y bw px py pw:Int):(bx*aw - ax*bw)*(py*aw - ay*pw) - (b_y*aw - ay*bw)*(px*aw - ax*pw)=aw*det ax ay aw bx b_y bw px py pw:=by unfold det;grind
theorem J4w (ax ay aw bx b_y bw px py F:Int):det ax ay aw bx b_y bw (px*F*F+F) (py*F*F+1) (F*F)=F*F*det ax ay aw bx b_y bw px py 1+F*(ay*bw - aw*b_y)+(aw*bx - ax*bw):=by unfold det;grind
theorem WP {ax ay az aw bx b_y bz bw px py M:Int}(hw:0<aw)(hM:1<=M)(h:∀ n∈[ax,ay,az,aw,bx,b_y,bz,bw],(n.natAbs:Int)<=M) :
 sgn ((bx*aw - ax*bw)*((py*(10+8*M*M)*(10+8*M*M)+1)*aw - ay*((10+8*M*M)*(10+8*M*M))) - (b_y*aw - ay*bw)*((px*(10+8*M*M)*(10+8*M*M)+(10+8*M*M))*aw - ax*((10+8*M*M)*(10+8*M*M))))=sgn (shd ax ay aw bx b_y bw px py):=by
 rw [QB,YO _ hw,J4w]
 have m1:=J9o (h ay (by simp)) (h bw (by simp))
 have m2:=J9o (h aw (by simp)) (h b_y (by simp))
 have m3:=J9o (h aw (by simp)) (h bx (by simp))
 have m4:=J9o (h ax (by simp)) (h bw (by simp))
 have hT:0<=M*M:=B1j (by omega) (by omega)
 exact J3n (T:=M*M) hT (by rw [Int.mul_assoc]) (by omega) (by omega) (by omega) (by omega)
theorem CP (n:Int):(0<n/\sgn n=1)\/(n=0/\sgn n=0)\/(n<0/\sgn n = -1):=by
 by_cases h:0<n
 · exact .inl ⟨h,FI h⟩
 · by_cases h':n<0
   · exact .inr (.inr ⟨h',FJ h'⟩)
   · have:n=0:=by omega
     subst this
     exact .inr (.inl ⟨rfl,J3m⟩)
structure T3.pos (t:T3):Prop where
 a:0<t.aw
 b:0<t.bw
 c:0<t.cw
def T3.nums (t:T3):List Int:=[t.ax,t.ay,t.az,t.aw,t.bx,t.b_y,t.bz,t.bw,t.cx,t.cy,t.cz,t.cw]
def T3.in (t:T3)(M:Int):Prop:=∀ n∈t.nums,(n.natAbs:Int)<=M
def nX (px M:Int):Int:=px*(10+8*M*M)*(10+8*M*M)+(10+8*M*M)
def nY (py M:Int):Int:=py*(10+8*M*M)*(10+8*M*M)+1
def nW (M:Int):Int:=(10+8*M*M)*(10+8*M*M)
theorem GY {ax ay az aw bx b_y bz bw px py M:Int}(hw:0<aw)(hM:1<=M)(h:∀ n∈[ax,ay,az,aw,bx,b_y,bz,bw],(n.natAbs:Int)<=M):sgn (det ax ay aw bx b_y bw (nX px M) (nY py M) (nW M))=sgn (shd ax ay aw bx b_y bw px py):=by
 have e:=WP (px:=px) (py:=py) hw hM h
 rw [QB,YO _ hw] at e
 exact e
theorem T3.near {t:T3}{px py M:Int}(hp:t.pos)(hM:1<=M)(h:t.in M) :
 sgn (det t.ax t.ay t.aw t.bx t.b_y t.bw (nX px M) (nY py M) (nW M))=t.s1 px py/\sgn (det t.bx t.b_y t.bw t.cx t.cy t.cw (nX px M) (nY py M) (nW M))=t.s2 px py/\sgn (det t.cx t.cy t.cw t.ax t.ay t.aw (nX px M) (nY py M) (nW M))=t.s3 px py:=by
 unfold T3.in T3.nums at h
 refine ⟨GY (az:=t.az) (bz:=t.bz) hp.a hM fun n hn=>h n ?_,GY (az:=t.bz) (bz:=t.cz) hp.b hM fun n hn=>h n ?_,GY (az:=t.cz) (bz:=t.az) hp.c hM fun n hn=>h n ?_⟩
 all_goals
  simp only [B7,M8,W3] at hn ⊢
  rcases hn with e|e|e|e|e|e|e|e<;>simp [e]
theorem T3.sum_det (t:T3)(x y w:Int):t.cw*det t.ax t.ay t.aw t.bx t.b_y t.bw x y w+t.aw*det t.bx t.b_y t.bw t.cx t.cy t.cw x y w+t.bw*det t.cx t.cy t.cw t.ax t.ay t.aw x y w=t.tn*w:=by
 unfold T3.tn det
 grind
theorem T3.has_tn {t:T3}{px py:Int}(hp:t.pos)(h:t.has px py):t.tn≠0:=by
 intro z
 obtain ⟨f,hf⟩:∃ f:Int->Nat,∀ n,f n=n.natAbs:=⟨Int.natAbs,fun _=>rfl⟩
 obtain ⟨M,hM,hin⟩:∃ M:Int,1<=M/\t.in M:=by
  refine ⟨1+f t.ax+f t.ay+f t.az+f t.aw+f t.bx+f t.b_y+f t.bz+f t.bw+f t.cx+f t.cy+f t.cz+f t.cw,by omega,fun n hn=>?_⟩
  unfold T3.nums at hn
  rw [<- hf]
  clear hf z h
  simp only [B7,M8,W3] at hn
  rcases hn with e|e|e|e|e|e|e|e|e|e|e|e<;>rw [e]<;>omega
 obtain ⟨e1,e2,e3⟩:=T3.near (px:=px) (py:=py) hp hM hin
 have s:=t.sum_det (nX px M) (nY py M) (nW M)
 rw [z,Int.zero_mul] at s
 obtain ⟨h1,h2,h3⟩:=h
 rw [<- e1] at h1 h2 h3
 rw [<- e2] at h2
 rw [<- e3] at h3
 have pa:=hp.a
 have pb:=hp.b
 have pc:=hp.c
 generalize det t.ax t.ay t.aw t.bx t.b_y t.bw (nX px M) (nY py M) (nW M)=d1 at *
 generalize det t.bx t.b_y t.bw t.cx t.cy t.cw (nX px M) (nY py M) (nW M)=d2 at *
 generalize det t.cx t.cy t.cw t.ax t.ay t.aw (nX px M) (nY py M) (nW M)=d3 at *
 have c1:=CP d1
 have c2:=CP d2
 have c3:=CP d3
 rcases c1 with ⟨c1,q⟩|⟨c1,q⟩|⟨c1,q⟩
 · have k2:0<d2:=by omega
   have k3:0<d3:=by omega
   have m1:=B0q pc c1
   have m2:=B0q pa k2
   have m3:=B0q pb k3
   omega
 · omega
 · have k2:d2<0:=by omega
   have k3:d3<0:=by omega
   have m1:=W6 pc c1
   have m2:=W6 pa k2
   have m3:=W6 pb k3
   omega
structure R4 where
 x:Int
 y:Int
 z:Int
 w:Int
abbrev R4.d (r:R4):D:=sp4 r.x r.y r.z r.w
structure R4.ok (r:R4)(n:Nat):Prop where
 x:Bd n r.x
 y:Bd n r.y
 z:Bd n r.z
 w:Bd n r.w
theorem R4.ok.mono {r:R4}{m n:Nat}(h:r.ok m)(k:m<=n):r.ok n:=⟨h.x.mono k,h.y.mono k,h.z.mono k,h.w.mono k⟩
structure M4 where
 a:R4
 b:R4
 c:R4
 e:R4
abbrev M4.d (m:M4):D:=.tup [m.a.d,m.b.d,m.c.d,m.e.d]
structure M4.ok (m:M4)(n:Nat):Prop where
 a:m.a.ok n
 b:m.b.ok n
 c:m.c.ok n
 e:m.e.ok n
def dot4 (r s:R4):Int:=r.x*s.x+r.y*s.y+r.z*s.z+r.w*s.w
abbrev BS:Stmt:=top 12
theorem JY:FnScope xl4 xl4 (J6 BS):=⟨rfl,rfl,rfl,by decide +kernel,rfl,by decide +kernel,by decide +kernel⟩
def SV:DSp:=fun ds P _=>(∃ (a b c x y z:Int),ds=[t3 a b c,.lst [.int x,.int y,.int z]]/\(Bd 7000 a/\Bd 7000 b/\Bd 7000 c)/\(Bd 2000 x/\Bd 2000 y/\Bd 2000 z)/\P (.int (a*x+b*y+c*z)))\/∃ (r s:R4) (n:Nat),ds=[r.d,s.d]/\r.ok n/\s.ok n/\n<=4000/\P (.int (dot4 r s))
abbrev xc3 (P:Program) (w:World) (K:Fg) (mg:Str → Option Value) (base:Heap) (f:Addr) (cdv:Value) (A:Around) (outer:List Env) (s:Shared) (H:Hp) (E:XK):Cx:=BQ CX0 P w K mg base xl4 "products_added" (J6 BS) f cdv A outer s H E
abbrev xl8:List Str:=["first","second"]
theorem KB {w:World} {f:Addr} (F:Fun K "products_added" "products_added" BS f fd) (Z:Bi mg) {c:Cs} (Y:Ex K mg base c):FnOk P w K mg base CX0 1 f fd xl4 (J8 K BT SV):=by
 refine F.okD JY (fun ds PP Ed h=>?_) (fun cdv A outer s H E M bg ds PP Ed hr hS_=>?_)
 · rcases h with ⟨a,b,c',x,y,z,rfl,_⟩|⟨r,t,n,rfl,_⟩<;>rfl
 · have hS0x:=hS_
   refine ⟨_,(J5 (Q4 (J9 (J2n K (by rfl) (by rfl)) Q6j rfl Z.sum_ Q6p (J0 (AF (X:=(xc3 P w K mg base f cdv A outer s H E).nox) (BO [0,1]) (IR (X:=(xc3 P w K mg base f cdv A outer s H E).nox) (N':=xl8) (map:=[none,none]) (by rfl) (by rfl) (by decide +kernel) (by rfl) True.intro (gkeep_seq (js:=[0,1]) (by decide)) fun cl0 C0 fp0 s0 H0=>⟨(PG.or (AK (n:=2) K (by rfl) (by rfl) (J7 (pg_name (i:=0) (Z4 xl8 (by decide +kernel)) rfl (by walk_at "o")) (J7 (pg_name (i:=1) (Z4 xl8 (by decide +kernel)) rfl (by walk_at "o")) V9))) (AL (n:=2) K (by rfl) (by rfl) (J7 (pg_name (i:=0) (Z4 xl8 (by decide +kernel)) rfl (by walk_at "o")) (J7 (pg_name (i:=1) (Z4 xl8 (by decide +kernel)) rfl (by walk_at "o")) V9)))),Z8,(V6 (X:=(Q3 (xc3 P w K mg base f cdv A outer s H E).nox xl8 _ cl0 C0 fp0 s0 H0)) Y4 DN (jdv 0) (jdv 1))⟩) (Q4p (ZM (by rfl) true false rfl Z.zip_ (J0 (jdv 0) (J0 (jdv 1) J1)) (YY K (by rfl) true false rfl Z.zip_ (JA.h (J0 (jdv 0) (J0 (jdv 1) J1))))) (ZM (by rfl) true true rfl Z.zip_ (J0 (jdv 0) (J0 (jdv 1) J1)) (YY K (by rfl) true true rfl Z.zip_ (JA.h (J0 (jdv 0) (J0 (jdv 1) J1))))))) J1)))),?_⟩
   rcases hS0x with ⟨a,b,c,x,y,z,rfl,⟨h1,h2,h3⟩,⟨k1,k2,k3⟩,hP⟩|⟨r,t,n,rfl,⟨h1,h2,h3,h4⟩,⟨k1,k2,k3,k4⟩,hn,hP⟩
   · have e:[a*x,b*y,c*z].sum=a*x+b*y+c*z:=by simp only [List.sum_cons,List.sum_nil];omega
     rw [<- e] at hP
     walk_at "g"
     refine Or.inl ?_
     walk_at "g"
     walk_at "gc"
     exact hP
   · have e:[r.x*t.x,r.y*t.y,r.z*t.z,r.w*t.w].sum=dot4 r t:=by simp only [List.sum_cons,List.sum_nil,dot4];omega
     rw [<- e] at hP
     walk_at "g"
     refine Or.inr ?_
     walk_at "g"
     walk_at "gc"
     exact hP
theorem T3.tn_bd {t:T3}{n:Nat}(ok:t.ok n):Bd (3*n+5) t.tn:=HB ok.ax ok.ay ok.aw ok.bx ok.b_y ok.bw ok.cx ok.cy ok.cw
theorem T3.wA_bd {t:T3}{n:Nat}{px py:Int}(ok:t.ok n)(hx:Bd n px)(hy:Bd n py)(h3:3<=n):Bd (3*n+5) (t.wA px py):=HB ok.bx ok.b_y ok.bw ok.cx ok.cy ok.cw hx hy (bd1 h3)
theorem T3.wB_bd {t:T3}{n:Nat}{px py:Int}(ok:t.ok n)(hx:Bd n px)(hy:Bd n py)(h3:3<=n):Bd (3*n+5) (t.wB px py):=HB ok.cx ok.cy ok.cw ok.ax ok.ay ok.aw hx hy (bd1 h3)
theorem T3.wC_bd {t:T3}{n:Nat}{px py:Int}(ok:t.ok n)(hx:Bd n px)(hy:Bd n py)(h3:3<=n):Bd (3*n+5) (t.wC px py):=HB ok.ax ok.ay ok.aw ok.bx ok.b_y ok.bw hx hy (bd1 h3)
theorem T3.top_bd {t:T3}{n:Nat}{px py:Int}(ok:t.ok n)(hx:Bd n px)(hy:Bd n py)(h3:3<=n):Bd (4*n+8) (t.top px py) :=
 (Bd.add (Bd.add (Bd.mul (T3.wA_bd ok hx hy h3) ok.az) (Bd.mul (T3.wB_bd ok hx hy h3) ok.bz)) (Bd.mul (T3.wC_bd ok hx hy h3) ok.cz)).mono (by omega)
theorem sgn_bd (n:Int):Bd 3 (sgn n):=by
 unfold sgn
 split
 · exact Bd.of (by decide) (by decide)
 · split<;>exact Bd.of (by decide) (by decide)
abbrev IS (i:Int):Int:=if i<0 then -i else i
theorem Q1k {n:Nat}{i:Int}(h:Bd n i):Bd n (IS i):=by
 unfold IS
 split
 · exact h.neg
 · exact h
theorem J0j {i:Int}(h:i≠0):IS i≠0:=by unfold IS;split<;>omega
abbrev BB:Stmt:=top 44
theorem CN:FnScope ["face","dot","whole","top"] xl7 (J6 BB):=⟨rfl,rfl,rfl,by decide +kernel,rfl,by decide +kernel,by decide +kernel⟩
def Q6y (c:Cs):DSp:=fun ds P Ed=>∃ (t:T3) (px py:Int) (n:Nat),ds=[t.d,t2 px py]/\t.ok n/\Bd n px/\Bd n py/\3<=n/\n<=1000/\(t.tn=0->Ed c.NoFace)/\(t.tn≠0->P (t2 (t.top px py*sgn t.tn) (IS t.tn)))
structure C_unreduced_depth (P:Program)(w:World)(K:Fg)(mg:Str->Option Value)(base:Heap)(c:Cs):Prop where
 turn_:Callee P w K mg base CX0 "turn" 2 ["face"] (J8 K BT ST)
 products_added_:Callee P w K mg base CX0 "products_added" 1 xl4 (J8 K BT SV)
 weights_:Callee P w K mg base CX0 "weights" 3 xl7 (J8 K BT QV)
 sign_:Callee P w K mg base CX0 "sign" 1 xl5 (J8 K BT OS)
abbrev xc4 (P:Program) (w:World) (K:Fg) (mg:Str → Option Value) (base:Heap) (f:Addr) (cdv:Value) (A:Around) (outer:List Env) (s:Shared) (H:Hp) (E:XK):Cx:=BQ (CX1 P w base) P w K mg base ["face","dot","whole","top"] "unreduced_depth" (J6 BB) f cdv A outer s H E
theorem JJ {w:World} {f:Addr} (F:Fun K "unreduced_depth" "unreduced_depth" BB f fd) (Z:Bi mg) {c:Cs} (Y:Ex K mg base c) (G:C_unreduced_depth P w K mg base c):FnOk P w K mg base (CX1 P w base) 4 f fd xl7 (J8 K BT (Q6y c)):=by
 refine F.okDX CN (fun ds PP Ed h=>?_) (fun cdv A outer s H E M bg ds PP Ed hr hE hS_=>?_)
 · obtain ⟨t,px,py,n,rfl,ok,hx,hy,h3,hn,h0,h1⟩:=h
   rfl
 · obtain ⟨t,px,py,n,rfl,ok,hx,hy,h3,hn,h0,h1⟩:=hS_
   refine ⟨_,(J4 (Z1 (i:=2) CN.nd rfl (by walk_at "o") (Q0 G.turn_ hr.m rfl (J0 (jdv 0) J1)))
    (J4 (Y6 (V7 DY BL (jdv 2) J3 (Q7 _)) (J5 (CT hE (CS Y.o_NoFace rfl))) V1)
    (J4 (Z1 (i:=3) CN.nd rfl (by walk_at "o") (Q0 G.products_added_ hr.m rfl (J0 (Q0 G.weights_ hr.m rfl (J0 (jdv 0) (J0 (jdv 1) J1))) (J0 (AF (X:=(xc4 P w K mg base f cdv A outer s H E)) (V8 0) (IR (X:=(xc4 P w K mg base f cdv A outer s H E)) (N':=["corner"]) (map:=[none]) (by rfl) (by rfl) (by decide +kernel) (by rfl) True.intro (gkeep_name rfl) fun cl0 C0 fp0 s0 H0=>⟨(pg_name (X:=(Q3 (xc4 P w K mg base f cdv A outer s H E) ["corner"] _ cl0 C0 fp0 s0 H0)) (i:=0) (Z4 ["corner"] (by decide +kernel)) rfl (by walk_at "o")),Z8,(Q8 (X:=(Q3 (xc4 P w K mg base f cdv A outer s H E) ["corner"] _ cl0 C0 fp0 s0 H0)) (Q6 K (by rfl)) V4 (jdv 0) J3 (fun _ _=>rfl))⟩) (Z7 (by rfl) (jdv 0))) J1))))
    (J5 (Q4 (Q5 (J0 (V6 Y4 DN (jdv 3) (Q0 G.sign_ hr.m rfl (J0 (jdv 2) J1))) (J0 (J9 IC J6u rfl Z.abs_ OO (J0 (jdv 2) J1)) J1)))))))),?_⟩
   walk_at "g"
   refine ⟨t,n,rfl,ok,by omega,?_⟩
   walk_at "g"
   walk_at "sp"
   · rename_i z
     exact h0 z
   · rename_i z
     walk_at "g"
     refine ⟨t,px,py,n,rfl,ok,hx,hy,by omega,?_⟩
     walk_at "g"
     walk_at "gc"
     have m:=M7 (show 3*n+5<=3005 by omega) (by decide:3005<=7000)
     refine Or.inl ⟨_,_,_,_,_,_,rfl,⟨(T3.wA_bd ok hx hy h3).mono m,(T3.wB_bd ok hx hy h3).mono m,(T3.wC_bd ok hx hy h3).mono m⟩,⟨ok.az.mono (by omega),ok.bz.mono (by omega),ok.cz.mono (by omega)⟩,?_⟩
     walk_at "g"
     refine ⟨_,rfl,?_⟩
     walk_at "g"
     refine And.intro (Or.inl ⟨_,_,T3.top_bd ok hx hy h3,sgn_bd _,by omega⟩) ?_
     walk_at "g"
     exact h1 z
def MV (px py:Int)(i:Nat)(t:T3)(st:Option (Nat×Int×Int)):Option (Nat×Int×Int) :=
 if t.has px py then (match st with
  | none=>some (i,t.top px py*sgn t.tn,IS t.tn)
  | some (j,a,b)=>if t.top px py*sgn t.tn*b<a*IS t.tn then some (i,t.top px py*sgn t.tn,IS t.tn) else some (j,a,b)) else st
def seenN (ts:List T3)(px py:Int):Nat->Option (Nat×Int×Int)
 | 0=>none
 | i+1=>match ts[i]? with
   | some t=>MV px py i t (seenN ts px py i)
   | none=>seenN ts px py i
def YQ:Option (Nat×Int×Int)->D
 | none=>.non
 | some (i,_,_)=>.int i
def Q4j:Option (Nat×Int×Int)->D
 | none=>.non
 | some (_,a,b)=>t2 a b
def V1m:Option (Nat×Int×Int)->Prop
 | none=>True
 | some (_,a,b)=>Bd 1100 a/\Bd 1100 b
theorem J2d {ts:List T3}{i:Nat}{x:D}(h:(HG (ts.map T3.d))[i]?=some x):∃ t,ts[i]?=some t/\x=.tup [.int i,t.d]:=by
 unfold HG at h
 rw [List.getElem?_mapIdx,M9] at h
 cases e:ts[i]? with
 | none=>rw [e] at h;cases h
 | some t=>rw [e] at h;exact ⟨t,rfl,(Option.some.inj h).symm⟩
theorem OH {t:T3}{px py:Int}(ok:t.ok 260)(hx:Bd 260 px)(hy:Bd 260 py):Bd 1100 (t.top px py*sgn t.tn)/\Bd 1100 (IS t.tn):=⟨(Bd.mul (T3.top_bd ok hx hy (by decide)) (sgn_bd _)).mono (by decide),(Q1k (T3.tn_bd ok)).mono (by decide)⟩
theorem WG {ts:List T3}{px py:Int}{i:Nat}{t:T3}(e:ts[i]?=some t):seenN ts px py (i+1)=MV px py i t (seenN ts px py i):=by
 show (match ts[i]? with|some t=>MV px py i t (seenN ts px py i)|none=>seenN ts px py i)=_
 rw [e]
abbrev LA:Stmt:=top 45
theorem AQ:FnScope ["faces","dot","seen","least","number","face","depth"] ["faces","dot"] (J6 LA):=⟨rfl,rfl,rfl,by decide +kernel,rfl,by decide +kernel,by decide +kernel⟩
def J7a:DSp:=fun ds P _=>∃ (ts:List T3) (px py:Int),ds=[.lst (ts.map T3.d),t2 px py]/\(∀ t∈ts,t.ok 260/\t.pos)/\ts.length<=500/\Bd 260 px/\Bd 260 py/\P (YQ (seenN ts px py ts.length))
structure C_seen_at (P:Program)(w:World)(K:Fg)(mg:Str->Option Value)(base:Heap)(c:Cs):Prop where
 has_dot_:Callee P w K mg base CX0 "has_dot" 4 xl7 (J8 K BT OU)
 unreduced_depth_:Callee P w K mg base (CX1 P w base) "unreduced_depth" 4 xl7 (J8 K BT (Q6y c))
 is_less_:Callee P w K mg base CX0 "is_less" 1 xl4 (J8 K BT J7c)
theorem WZ {w:World} {f:Addr} (F:Fun K "seen_at" "seen_at" LA f fd) (Z:Bi mg) {c:Cs} (Y:Ex K mg base c) (G:C_seen_at P w K mg base c):FnOk P w K mg base CX0 5 f fd ["faces","dot"] (J8 K BT J7a):=by
 refine F.okD AQ (fun ds PP Ed h=>?_) (fun cdv A outer s H E M bg ds PP Ed hr hS_=>?_)
 · obtain ⟨ts,px,py,rfl,hts,hl,hx,hy,hP⟩:=h
   rfl
 · obtain ⟨ts,px,py,rfl,hts,hl,hx,hy,hP⟩:=hS_
   refine ⟨_,(J4 (Z1 (i:=2) AQ.nd rfl (by walk_at "o") KJ)
    (J4 (Z1 (i:=3) AQ.nd rfl (by walk_at "o") KJ)
    (J4 (FR (BO [4,5]) B0a rfl (J5j (by rfl) (J0 (jdv 0) J1) (J8w K (by rfl) rfl Z.enumerate_ (JA.h (J0 (jdv 0) J1)))) (PG.or (AK (n:=2) K (by rfl) (by rfl) (J7 (pg_name (i:=4) AQ.nd rfl (by walk_at "o")) (J7 (pg_name (i:=5) AQ.nd rfl (by walk_at "o")) V9))) (AL (n:=2) K (by rfl) (by rfl) (J7 (pg_name (i:=4) AQ.nd rfl (by walk_at "o")) (J7 (pg_name (i:=5) AQ.nd rfl (by walk_at "o")) V9)))) (J5 (Y6 (V0 (by rfl) (Q0 G.has_dot_ hr.m rfl (J0 (jdv 5) (J0 (jdv 1) J1))) (fun _=>rfl)) (J4 (Z1 (i:=6) AQ.nd rfl (by walk_at "o") (DZ LR NJ G.unreduced_depth_ hr.m rfl (J0 (jdv 5) (J0 (jdv 1) J1))))
    (J5 (Y6 (DP (V7 Q4a Q4d (jdv 2) KJ (Q7 _)) (BX (V0 (by rfl) (Q0 G.is_less_ hr.m rfl (J0 (jdv 6) (J0 (jdv 3) J1))) (fun _=>rfl)))) (J4 (Z1 (i:=2) AQ.nd rfl (by walk_at "o") (jdv 4))
    (J5 (Z1 (i:=3) AQ.nd rfl (by walk_at "o") (jdv 6)))) V1))) V1)))
    (J5 (Q4 (jdv 2)))))),?_⟩
   walk_at "g"
   refine ⟨fun i ρ=>∃ v4 v5 v6,ρ=[some (.lst (ts.map T3.d)),some (t2 px py),some (YQ (seenN ts px py i)),some (Q4j (seenN ts px py i)),v4,v5,v6]/\V1m (seenN ts px py i),⟨_,_,_,rfl,trivial⟩,?_,?_⟩
   · rintro i x ρ e ⟨v4,v5,v6,rfl,hst⟩
     obtain ⟨t,et,rfl⟩:=J2d e
     obtain ⟨ok,pos⟩:=hts t (R6 et)
     have hd:=OH ok hx hy
     have es:=WG (px:=px) (py:=py) et
     generalize hst':seenN ts px py i=st at hst es ⊢
     walk_at "g"
     refine ⟨t,px,py,260,rfl,ok,hx,hy,by decide,?_⟩
     by_cases hh:t.has px py
     · refine IfP.t (by simp [hh]) ?_
       walk_at "g"
       refine ⟨t,px,py,260,rfl,ok,hx,hy,by decide,by decide,fun z=>absurd z (T3.has_tn pos hh),fun _=>?_⟩
       match st,hst,es with
       | none,hst,es =>
         have es:seenN ts px py (i+1)=some (i,t.top px py*sgn t.tn,IS t.tn):=by rw [es];unfold MV;rw [if_pos hh]
         walk_at "g"
         rw [es]
         exact ⟨_,_,_,rfl,hd⟩
       | some (j,a,b),hst,es =>
         obtain ⟨ba,bb⟩:=hst
         obtain ⟨d1,d2⟩:=hd
         walk_at "g"
         refine ⟨_,_,_,_,rfl,⟨d1.mono (by decide),d2.mono (by decide)⟩,⟨ba.mono (by decide),bb.mono (by decide)⟩,?_⟩
         by_cases hlt:t.top px py*sgn t.tn*b<a*IS t.tn
         · have es:seenN ts px py (i+1)=some (i,t.top px py*sgn t.tn,IS t.tn):=by rw [es];unfold MV;rw [if_pos hh];simp only [if_pos hlt]
           refine IfP.t (by simp [hlt]) ?_
           walk_at "g"
           rw [es]
           exact ⟨_,_,_,rfl,⟨d1,d2⟩⟩
         · have es:seenN ts px py (i+1)=some (j,a,b):=by rw [es];unfold MV;rw [if_pos hh];simp only [if_neg hlt]
           refine IfP.f (by simp [hlt]) ?_
           walk_at "g"
           rw [es]
           exact ⟨_,_,_,rfl,⟨ba,bb⟩⟩
     · have es:seenN ts px py (i+1)=st:=by rw [es];unfold MV;rw [if_neg hh]
       refine IfP.f (by simp [hh]) ?_
       walk_at "g"
       rw [es]
       exact ⟨_,_,_,rfl,hst⟩
   · rintro ρ ⟨v4,v5,v6,rfl,hst⟩
     walk_at "g"
     have el:(HG (ts.map T3.d)).length=ts.length:=by simp [HG]
     rw [el]
     generalize seenN ts px py ts.length=st at hP ⊢
     rcases st with _|⟨i,a,b⟩<;>exact hP
theorem Z3 {d:D}(h:Y1 d=true):Z6 d=true:=by cases d<;>first|rfl|(unfold Y1 at h;cases h)
theorem okRp_pl {d:D}(h:Y1 d=true):plain d=true:=by cases d<;>first|rfl|(unfold Y1 at h;cases h)
theorem LL:∀ {ds:List D},EU ds=true->∀ d∈ds,Y1 d=true
 | d::ds,h,e,m=>by
   unfold EU at h
   obtain ⟨h1,h2⟩:=(L1 _ _).mp h
   rcases B7.mp m with rfl|m
   · exact h1
   · exact LL h2 e m
theorem GB {xs:List D}(h:Y1 (.tup xs)=true):∀ d∈xs,Y1 d=true:=LL (by unfold Y1 at h;exact h)
theorem KF {xs:List D}(h:Y1 (.lst xs)=true):∀ d∈xs,Y1 d=true:=LL (by unfold Y1 at h;exact h)
theorem J9s {α:Type}{xs:List α}(h:xs.length=2):∃ a b,xs=[a,b]:=match xs,h with | [a,b],_=>⟨a,b,rfl⟩
theorem J9r {α:Type}{xs:List α}(h:xs.length=3):∃ a b c,xs=[a,b,c]:=match xs,h with | [a,b,c],_=>⟨a,b,c,rfl⟩
def whD:D->Bool
 | .int _=>true
 | _=>false
def wtD (n:Nat):D->Bool
 | .tup xs=>decide (xs.length=n)&&xs.all whD
 | _=>false
theorem EI {d:D}(h:whD d=true):∃ i,d=.int i:=by cases d<;>first|exact ⟨_,rfl⟩|cases h
theorem wt3 {d:D}(h:wtD 3 d=true):∃ x y z:Int,d=.tup [.int x,.int y,.int z]:=by
 cases d<;>try (simp [wtD] at h;done)
 rename_i xs
 obtain ⟨h1,h2⟩:=(L1 _ _).mp h
 obtain ⟨a,b,c,rfl⟩:=J9r (T7 h1)
 have hw:=T8.mp h2
 obtain ⟨x,rfl⟩:=EI (hw a (by simp))
 obtain ⟨y,rfl⟩:=EI (hw b (by simp))
 obtain ⟨z,rfl⟩:=EI (hw c (by simp))
 exact ⟨x,y,z,rfl⟩
abbrev JD:Stmt:=top 7
abbrev xl9:List Str:=["thing"]
theorem TN:FnScope xl9 xl9 (J6 JD):=⟨rfl,rfl,rfl,by decide +kernel,rfl,by decide +kernel,by decide +kernel⟩
def SS:DSp:=fun ds P _=>∃ d,ds=[d]/\Y1 d=true/\P (.bl (whD d))
theorem UE {w:World} {f:Addr} (F:Fun K "is_whole" "is_whole" JD f fd) (Z:Bi mg) {c:Cs} (Y:Ex K mg base c):FnOk P w K mg base CX0 1 f fd xl9 (J8 K BT SS):=by
 refine F.okD TN (fun ds PP Ed h=>?_) (fun cdv A outer s H E M bg ds PP Ed hr hS_=>?_)
 · obtain ⟨d,rfl,hd,hP⟩:=h
   rfl
 · obtain ⟨d,rfl,hd,hP⟩:=hS_
   refine ⟨_,(J5 (Q4 (AH (J9 (Y9 K (by rfl)) AD rfl Z.isinstance_ Y0 (J0 (jdv 0) (J0 (AO rfl Z.int_ YE) J1))) (BZ (J9v (J9 (Y9 K (by rfl)) AD rfl Z.isinstance_ Y0 (J0 (jdv 0) (J0 (AO rfl Z.bool_ J0e) J1)))))))),?_⟩
   cases d<;>(try (simp [Y1] at hd;done))
   all_goals first
    | (walk_at "g";refine ⟨false,by rfl,?_⟩;walk_at "g";exact hP)
    | (walk_at "g";refine ⟨true,by rfl,?_⟩;walk_at "g";refine ⟨true,by rfl,?_⟩;walk_at "g";exact hP)
    | (walk_at "g";refine ⟨true,by rfl,?_⟩;walk_at "g";refine ⟨false,by rfl,?_⟩;walk_at "g";exact hP)
abbrev BU:Stmt:=top 8
abbrev HJ:List Str:=["thing","many"]
theorem JZ:FnScope HJ HJ (J6 BU):=⟨rfl,rfl,rfl,by decide +kernel,rfl,by decide +kernel,by decide +kernel⟩
def IE:DSp:=fun ds P _=>∃ (d:D) (n:Nat),ds=[d,.int n]/\Y1 d=true/\n<=100/\P (.bl (wtD n d))
structure C_is_whole_tuple (P:Program)(w:World)(K:Fg)(mg:Str->Option Value)(base:Heap)(c:Cs):Prop where
 is_whole_:Callee P w K mg base CX0 "is_whole" 1 xl9 (J8 K BT SS)
abbrev xc5 (P:Program) (w:World) (K:Fg) (mg:Str → Option Value) (base:Heap) (f:Addr) (cdv:Value) (A:Around) (outer:List Env) (s:Shared) (H:Hp) (E:XK):Cx:=BQ CX0 P w K mg base HJ "is_whole_tuple" (J6 BU) f cdv A outer s H E
theorem KC {w:World} {f:Addr} (F:Fun K "is_whole_tuple" "is_whole_tuple" BU f fd) (Z:Bi mg) {c:Cs} (Y:Ex K mg base c) (G:C_is_whole_tuple P w K mg base c):FnOk P w K mg base CX0 2 f fd HJ (J8 K BT IE):=by
 refine F.okD JZ (fun ds PP Ed h=>?_) (fun cdv A outer s H E M bg ds PP Ed hr hS_=>?_)
 · obtain ⟨d,n,rfl,hd,hn1,hP⟩:=h
   rfl
 · obtain ⟨d,n,rfl,hd,hn1,hP⟩:=hS_
   refine ⟨_,(J5 (Q4 (AH (J9 (Y9 K (by rfl)) AD rfl Z.isinstance_ Y0 (J0 (jdv 0) (J0 (AO rfl Z.tuple_ CI) J1))) (AH (Z5 DY BL (J9 (V3 K (by rfl)) BA rfl Z.len_ AW (J0 (jdv 0) J1)) (jdv 1) (Q7 _)) (BZ (J9 (AU K (by rfl) (by rfl)) EG rfl Z.all_ EZ (J0 (AF (X:=(xc5 P w K mg base f cdv A outer s H E).nox) (V8 0) (IR (X:=(xc5 P w K mg base f cdv A outer s H E).nox) (N':=["part"]) (map:=[none]) (by rfl) (by rfl) (by decide +kernel) (by rfl) True.intro (gkeep_name rfl) fun cl0 C0 fp0 s0 H0=>⟨(pg_name (X:=(Q3 (xc5 P w K mg base f cdv A outer s H E).nox ["part"] _ cl0 C0 fp0 s0 H0)) (i:=0) (Z4 ["part"] (by decide +kernel)) rfl (by walk_at "o")),Z8,(Q0 (X:=(Q3 (xc5 P w K mg base f cdv A outer s H E).nox ["part"] _ cl0 C0 fp0 s0 H0)) G.is_whole_ hr.m rfl (J0 (jdv 0) J1))⟩) (Z7 (by rfl) (jdv 0))) J1))))))),?_⟩
   by_cases ht:∃ xs,d=.tup xs
   · obtain ⟨xs,rfl⟩:=ht
     have ha:=GB hd
     have key:∀ b:Bool,b=wtD n (.tup xs)->PP (.bl b):=fun b h=>by rw [h];exact hP
     walk_at "g"
     refine ⟨true,by rfl,?_⟩
     walk_at "g"
     walk_at "sp"
     · rename_i hn
       walk_at "g"
       refine And.intro (by omega) ?_
       refine CG (fun x=>.bl (whD x)) (fun x Q hx q=>?_) (fun _ _=>rfl) ?_
       · have t:=ha x hx
         walk_at "g"
         exact ⟨by show (Z6 x&&true)=true;rw [Z3 t];rfl,x,rfl,t,q⟩
       · have eb:HH (xs.map fun x=>D.bl (whD x))=some (xs.map whD):=by
          have:=QQ (xs.map whD)
          rw [B0f] at this
          exact this
         walk_at "g"
         rw [eb]
         walk_at "g"
         refine key _ ?_
         show _=(decide (xs.length=n)&&xs.all whD)
         rw [T4 (by omega)]
         simp [B2r]
     · rename_i hn
       walk_at "g"
       refine key _ ?_
       show _=(decide (xs.length=n)&&xs.all whD)
       rw [R5 (by omega)]
       simp
   · have ew:wtD n d=false:=by
      cases d<;>first|rfl|exact absurd ⟨_,rfl⟩ ht
     rw [ew] at hP
     cases d<;>(try (exact absurd ⟨_,rfl⟩ ht))<;>(try (simp [Y1] at hd;done))
     all_goals
      walk_at "g"
      refine ⟨false,by rfl,?_⟩
      walk_at "g"
      exact hP
abbrev FM:Stmt:=top 23
theorem RE:FnScope xl9 xl9 (J6 FM):=⟨rfl,rfl,rfl,by decide +kernel,rfl,by decide +kernel,by decide +kernel⟩
def in6 (a:Int):Bool:=decide (-1000000<a/\a<1000000)
def PH:D->Bool
 | .tup [.int a,.int b,.int c]=>in6 a&&(in6 b&&in6 c)
 | _=>false
theorem Q1e {d:D}(h:wtD 3 d=false):PH d=false:=by
 unfold PH
 split
 · cases h
 · rfl
theorem RZ (a:Int):decide ((if a<0 then -a else a)<=999999)=in6 a:=by
 unfold in6
 by_cases h:a<0
 · rw [if_pos h];exact B0i.mpr ⟨fun _=>⟨by omega,by omega⟩,fun _=>by omega⟩
 · rw [if_neg h];exact B0i.mpr ⟨fun _=>⟨by omega,by omega⟩,fun _=>by omega⟩
def J7i:DSp:=fun ds P _=>∃ d:D,ds=[d]/\Y1 d=true/\P (.bl (PH d))
structure C_is_corner (P:Program)(w:World)(K:Fg)(mg:Str->Option Value)(base:Heap)(c:Cs):Prop where
 is_whole_tuple_:Callee P w K mg base CX0 "is_whole_tuple" 2 HJ (J8 K BT IE)
abbrev xc6 (P:Program) (w:World) (K:Fg) (mg:Str → Option Value) (base:Heap) (f:Addr) (cdv:Value) (A:Around) (outer:List Env) (s:Shared) (H:Hp) (E:XK):Cx:=BQ CX0 P w K mg base xl9 "is_corner" (J6 FM) f cdv A outer s H E
theorem RP {w:World} {f:Addr} (F:Fun K "is_corner" "is_corner" FM f fd) (Z:Bi mg) {c:Cs} (Y:Ex K mg base c) (G:C_is_corner P w K mg base c):FnOk P w K mg base CX0 3 f fd xl9 (J8 K BT J7i):=by
 refine F.okD RE (fun ds PP Ed h=>?_) (fun cdv A outer s H E M bg ds PP Ed hr hS_=>?_)
 · obtain ⟨d,rfl,hd,hP⟩:=h
   rfl
 · obtain ⟨d,rfl,hd,hP⟩:=hS_
   refine ⟨_,(J5 (Q4 (AH (Q0 G.is_whole_tuple_ hr.m rfl (J0 (jdv 0) (J0 J3 J1))) (BZ (J9 (AU K (by rfl) (by rfl)) EG rfl Z.all_ EZ (J0 (AF (X:=(xc6 P w K mg base f cdv A outer s H E).nox) (V8 0) (IR (X:=(xc6 P w K mg base f cdv A outer s H E).nox) (N':=xl5) (map:=[none]) (by rfl) (by rfl) (by decide +kernel) (by rfl) True.intro (gkeep_name rfl) fun cl0 C0 fp0 s0 H0=>⟨(pg_name (X:=(Q3 (xc6 P w K mg base f cdv A outer s H E).nox xl5 _ cl0 C0 fp0 s0 H0)) (i:=0) (Z4 xl5 (by decide +kernel)) rfl (by walk_at "o")),Z8,(Z5 (X:=(Q3 (xc6 P w K mg base f cdv A outer s H E).nox xl5 _ cl0 C0 fp0 s0 H0)) NK AR (J9 IC J6u rfl Z.abs_ OO (J0 (jdv 0) J1)) (CA rfl Z.GREATEST_COORDINATE_) (Q7 _))⟩) (Z7 (by rfl) (jdv 0))) J1)))))),?_⟩
   walk_at "g"
   refine ⟨by show (Z6 d&&true)=true;rw [Z3 hd];rfl,d,3,rfl,hd,by decide,?_⟩
   cases hw:wtD 3 d
   · rw [Q1e hw] at hP
     walk_at "g"
     exact hP
   · obtain ⟨x,y,z,rfl⟩:=wt3 hw
     walk_at "g"
     walk_at "gc"
     have hP:PP (.bl (in6 x&&(in6 y&&in6 z))):=hP
     rw [<- RZ,<- RZ,<- RZ,<- B1n (decide ((if z<0 then -z else z)<=999999))] at hP
     exact hP
abbrev LF:Stmt:=top 24
theorem CO:FnScope ["thing","many","i","j","k"] HJ (J6 LF):=⟨rfl,rfl,rfl,by decide +kernel,rfl,by decide +kernel,by decide +kernel⟩
def UY (a b c n:Int):Bool:=decide (a≠b/\b≠c/\c≠a/\(0<=a/\0<=b/\0<=c)/\a<n/\b<n/\c<n)
def JM (n:Int):D->Bool
 | .tup [.int a,.int b,.int c]=>UY a b c n
 | _=>false
theorem Q0e {d:D}{n:Int}(h:wtD 3 d=false):JM n d=false:=by
 unfold JM
 split
 · cases h
 · rfl
def J7f:DSp:=fun ds P _=>∃ (d:D) (n:Int),ds=[d,.int n]/\Y1 d=true/\P (.bl (JM n d))
structure C_is_face (P:Program)(w:World)(K:Fg)(mg:Str->Option Value)(base:Heap)(c:Cs):Prop where
 is_whole_tuple_:Callee P w K mg base CX0 "is_whole_tuple" 2 HJ (J8 K BT IE)
theorem XD {w:World} {f:Addr} (F:Fun K "is_face" "is_face" LF f fd) (Z:Bi mg) {c:Cs} (Y:Ex K mg base c) (G:C_is_face P w K mg base c):FnOk P w K mg base CX0 3 f fd HJ (J8 K BT J7f):=by
 refine F.okD CO (fun ds PP Ed h=>?_) (fun cdv A outer s H E M bg ds PP Ed hr hS_=>?_)
 · obtain ⟨d,n,rfl,hd,hP⟩:=h
   rfl
 · obtain ⟨d,n,rfl,hd,hP⟩:=hS_
   refine ⟨_,(J4 (Y6 (Y8 (V0 (by rfl) (Q0 G.is_whole_tuple_ hr.m rfl (J0 (jdv 0) (J0 J3 J1))) (fun _=>rfl))) (J5 (Q4 AT)) V1)
    (J4 (CK (BO [2,3,4]) (jdv 0) (PG.or (AK (n:=3) K (by rfl) (by rfl) (J7 (pg_name (i:=2) CO.nd rfl (by walk_at "o")) (J7 (pg_name (i:=3) CO.nd rfl (by walk_at "o")) (J7 (pg_name (i:=4) CO.nd rfl (by walk_at "o")) V9)))) (AL (n:=3) K (by rfl) (by rfl) (J7 (pg_name (i:=2) CO.nd rfl (by walk_at "o")) (J7 (pg_name (i:=3) CO.nd rfl (by walk_at "o")) (J7 (pg_name (i:=4) CO.nd rfl (by walk_at "o")) V9))))))
    (J5 (Q4 (AH (Z5 IT GV (jdv 2) (jdv 3) (Q7 _)) (AH (Z5 IT GV (jdv 3) (jdv 4) (Q7 _)) (AH (Z5 IT GV (jdv 4) (jdv 2) (Q7 _)) (AH (Z5 Q1t AR (J9 (J2p K (by rfl) (by rfl)) J0b rfl Z.min_ YC (J0 (jdv 0) J1)) J3 (Q7 _)) (BZ (Z5 GA AR (J9 (J2q K (by rfl) (by rfl)) J0b rfl Z.max_ YD (J0 (jdv 0) J1)) (jdv 1) (Q7 _))))))))))),?_⟩
   walk_at "g"
   refine ⟨by show (Z6 d&&true)=true;rw [Z3 hd];rfl,d,3,rfl,hd,by decide,?_⟩
   cases hw:wtD 3 d
   · rw [Q0e hw] at hP
     walk_at "g"
     exact hP
   · obtain ⟨a,b,c,rfl⟩:=wt3 hw
     have hP:PP (.bl (UY a b c n)):=hP
     have hf:(¬ (a≠b/\b≠c/\c≠a/\(0<=a/\0<=b/\0<=c)/\a<n/\b<n/\c<n))->PP (.bl false):=fun q=>by
      unfold UY at hP
      rw [R5 q] at hP
      exact hP
     walk_at "g"
     by_cases e1:a=b
     · refine IfP.f (by rw [T4 e1];rfl) ?_
       exact hf fun q=>q.1 e1
     refine IfP.t (by rw [R5 e1];rfl) ?_
     walk_at "g"
     by_cases e2:b=c
     · refine IfP.f (by rw [T4 e2];rfl) ?_
       exact hf fun q=>q.2.1 e2
     refine IfP.t (by rw [R5 e2];rfl) ?_
     walk_at "g"
     by_cases e3:c=a
     · refine IfP.f (by rw [T4 e3];rfl) ?_
       exact hf fun q=>q.2.2.1 e3
     refine IfP.t (by rw [R5 e3];rfl) ?_
     walk_at "g"
     intro m hm hle
     have hm0:m=a\/m=b\/m=c:=by simpa using hm
     have la:=hle a (by simp)
     have lb:=hle b (by simp)
     have lc:=hle c (by simp)
     walk_at "g"
     by_cases e4:0<=m
     · refine IfP.t (T4 e4) ?_
       walk_at "g"
       intro M hM hge
       have hM0:M=a\/M=b\/M=c:=by simpa using hM
       have ga:=hge a (by simp)
       have gb:=hge b (by simp)
       have gc:=hge c (by simp)
       walk_at "g"
       have:UY a b c n=decide (M<n):=by
        unfold UY
        exact B0i.mpr ⟨fun q=>by omega,fun q=>⟨e1,e2,e3,⟨by omega,by omega,by omega⟩,by omega,by omega,by omega⟩⟩
       rw [this] at hP
       exact hP
     · refine IfP.f (R5 e4) ?_
       exact hf fun q=>e4 (by omega)
abbrev EJ:Stmt:=top 25
theorem CD:FnScope ["thing","corners","faces"] xl9 (J6 EJ):=⟨rfl,rfl,rfl,by decide +kernel,rfl,by decide +kernel,by decide +kernel⟩
def OP (cs fs:List D):Bool:=decide (1<=cs.length)&&(decide (cs.length<=24)&&(cs.all PH&&(decide (fs.length<=24)&&fs.all (JM cs.length))))
def FA:D->Bool
 | .tup [.lst cs,.lst fs]=>OP cs fs
 | _=>false
theorem FC (f:D->Bool)(xs:List D):HH (xs.map fun x=>D.bl (f x))=some (xs.map f):=by
 have:=QQ (xs.map f)
 rw [B0f] at this
 exact this
theorem FD (f:D->Bool)(xs:List D):(xs.map f).all id=xs.all f:=by rw [B2r];rfl
def Q2s (c:Cs):DSp:=fun ds P Ed=>∃ d:D,ds=[d]/\Y1 d=true/\(FA d=false->Ed c.NoBody)/\(FA d=true->P .non)
structure C_check_body (P:Program)(w:World)(K:Fg)(mg:Str->Option Value)(base:Heap)(c:Cs):Prop where
 is_corner_:Callee P w K mg base CX0 "is_corner" 3 xl9 (J8 K BT J7i)
 is_face_:Callee P w K mg base CX0 "is_face" 3 HJ (J8 K BT J7f)
abbrev xc7 (P:Program) (w:World) (K:Fg) (mg:Str → Option Value) (base:Heap) (f:Addr) (cdv:Value) (A:Around) (outer:List Env) (s:Shared) (H:Hp) (E:XK):Cx:=BQ (CX1 P w base) P w K mg base ["thing","corners","faces"] "check_body" (J6 EJ) f cdv A outer s H E
theorem PC {w:World} {f:Addr} (F:Fun K "check_body" "check_body" EJ f fd) (Z:Bi mg) {c:Cs} (Y:Ex K mg base c) (G:C_check_body P w K mg base c):FnOk P w K mg base (CX1 P w base) 4 f fd xl9 (J8 K BT (Q2s c)):=by
 refine F.okDX CD (fun ds PP Ed h=>?_) (fun cdv A outer s H E M bg ds PP Ed hr hE hS_=>?_)
 · obtain ⟨d,rfl,hd,h0,h1⟩:=h
   rfl
 · obtain ⟨d,rfl,hd,h0,h1⟩:=hS_
   refine ⟨_,(J4 (Y6 (DP (Y8 (V0 (by rfl) (J9 (Y9 K (by rfl)) AD rfl Z.isinstance_ Y0 (J0 (jdv 0) (J0 (AO rfl Z.tuple_ CI) J1))) (fun _=>rfl))) (BX (V7 IT GV (J9 (V3 K (by rfl)) BA rfl Z.len_ AW (J0 (jdv 0) J1)) J3 (Q7 _)))) (J5 (CT hE (CS Y.o_NoBody rfl))) V1)
    (J4 (CK (BO [1,2]) (jdv 0) (PG.or (AK (n:=2) K (by rfl) (by rfl) (J7 (pg_name (i:=1) CD.nd rfl (by walk_at "o")) (J7 (pg_name (i:=2) CD.nd rfl (by walk_at "o")) V9))) (AL (n:=2) K (by rfl) (by rfl) (J7 (pg_name (i:=1) CD.nd rfl (by walk_at "o")) (J7 (pg_name (i:=2) CD.nd rfl (by walk_at "o")) V9)))))
    (J4 (Y6 (DP (Y8 (V0 (by rfl) (J9 (Y9 K (by rfl)) AD rfl Z.isinstance_ Y0 (J0 (jdv 1) (J0 (AO rfl Z.list_ MR) J1))) (fun _=>rfl))) (RX (V7 GA AR (J9 (V3 K (by rfl)) BA rfl Z.len_ AW (J0 (jdv 1) J1)) J3 (Q7 _)) (BX (V7 KA AR (J9 (V3 K (by rfl)) BA rfl Z.len_ AW (J0 (jdv 1) J1)) (CA rfl Z.MOST_) (Q7 _))))) (J5 (CT hE (CS Y.o_NoBody rfl))) V1)
    (J4 (Y6 (Y8 (V0 (by rfl) (J9 (AU K (by rfl) (by rfl)) EG rfl Z.all_ EZ (J0 (AF (X:=(xc7 P w K mg base f cdv A outer s H E)) (V8 0) (IR (X:=(xc7 P w K mg base f cdv A outer s H E)) (N':=["corner"]) (map:=[none]) (by rfl) (by rfl) (by decide +kernel) (by rfl) True.intro (gkeep_name rfl) fun cl0 C0 fp0 s0 H0=>⟨(pg_name (X:=(Q3 (xc7 P w K mg base f cdv A outer s H E) ["corner"] _ cl0 C0 fp0 s0 H0)) (i:=0) (Z4 ["corner"] (by decide +kernel)) rfl (by walk_at "o")),Z8,(Q0 (X:=(Q3 (xc7 P w K mg base f cdv A outer s H E) ["corner"] _ cl0 C0 fp0 s0 H0)) G.is_corner_ hr.m rfl (J0 (jdv 0) J1))⟩) (Z7 (by rfl) (jdv 1))) J1)) (fun _=>rfl))) (J5 (CT hE (CS Y.o_NoBody rfl))) V1)
    (J4 (Y6 (DP (Y8 (V0 (by rfl) (J9 (Y9 K (by rfl)) AD rfl Z.isinstance_ Y0 (J0 (jdv 2) (J0 (AO rfl Z.list_ MR) J1))) (fun _=>rfl))) (BX (V7 KA AR (J9 (V3 K (by rfl)) BA rfl Z.len_ AW (J0 (jdv 2) J1)) (CA rfl Z.MOST_) (Q7 _)))) (J5 (CT hE (CS Y.o_NoBody rfl))) V1)
    (J5 (Y6 (Y8 (V0 (by rfl) (J9 (AU K (by rfl) (by rfl)) EG rfl Z.all_ EZ (J0 (AF (X:=(xc7 P w K mg base f cdv A outer s H E)) (V8 0) (IR (X:=(xc7 P w K mg base f cdv A outer s H E)) (N':=["face","corners"]) (map:=[none,some 1]) (by rfl) (by rfl) (by decide +kernel) (by rfl) ⟨⟨rfl,rfl,rfl,by walk_at "o"⟩,True.intro⟩ (gkeep_name rfl) fun cl0 C0 fp0 s0 H0=>⟨(pg_name (X:=(Q3 (xc7 P w K mg base f cdv A outer s H E) ["face","corners"] _ cl0 C0 fp0 s0 H0)) (i:=0) (Z4 ["face","corners"] (by decide +kernel)) rfl (by walk_at "o")),Z8,(Q0 (X:=(Q3 (xc7 P w K mg base f cdv A outer s H E) ["face","corners"] _ cl0 C0 fp0 s0 H0)) G.is_face_ hr.m rfl (J0 (jdv 0) (J0 (J9 (V3 K (by rfl)) BA rfl Z.len_ AW (J0 (jdv 1) J1)) J1)))⟩) (Z7 (by rfl) (jdv 2))) J1)) (fun _=>rfl))) (J5 (CT hE (CS Y.o_NoBody rfl))) V1))))))),?_⟩
   by_cases ht:∃ xs,d=.tup xs
   case neg =>
    have e0:=h0 (by cases d<;>first|rfl|exact absurd ⟨_,rfl⟩ ht)
    cases d<;>(try (exact absurd ⟨_,rfl⟩ ht))<;>(try (simp [Y1] at hd;done))
    all_goals
     walk_at "g"
     refine ⟨false,by rfl,?_⟩
     walk_at "g"
     exact e0
   obtain ⟨xs,rfl⟩:=ht
   have ha:=GB hd
   by_cases l2:xs.length=2
   case neg =>
    have e0:=h0 (by unfold FA;split<;>first|rfl|(rename_i e;cases e;exact absurd rfl l2))
    walk_at "g"
    refine ⟨true,by rfl,?_⟩
    walk_at "g"
    refine IfP.t (by simp;omega) ?_
    walk_at "g"
    exact e0
   obtain ⟨a,b,rfl⟩:=J9s l2
   have oa:=ha a (by simp)
   have ob:=ha b (by simp)
   clear ha l2 hd
   by_cases hta:∃ cs,a=.lst cs
   case neg =>
    have e0:=h0 (by unfold FA;split<;>first|rfl|(rename_i e;cases e;exact absurd ⟨_,rfl⟩ hta))
    cases a<;>(try (exact absurd ⟨_,rfl⟩ hta))<;>(try (simp [Y1] at oa;done))
    all_goals
     walk_at "g"
     refine ⟨true,by rfl,?_⟩
     walk_at "g"
     refine ⟨false,by rfl,?_⟩
     walk_at "g"
     exact e0
   obtain ⟨cs,rfl⟩:=hta
   have oc:=KF oa
   have key:∀ fs,b=.lst fs->FA (.tup [.lst cs,b])=OP cs fs:=fun fs e=>by rw [e];rfl
   have bad:(decide (1<=cs.length)&&(decide (cs.length<=24)&&cs.all PH))=false->Ed c.NoBody:=fun e=>h0 (by
    unfold FA
    split
    · rename_i z
      cases z
      unfold OP
      rw [<- Bool.and_assoc (decide (_<=24)),<- Bool.and_assoc,e]
      rfl
    · rfl)
   walk_at "g"
   refine ⟨true,by rfl,?_⟩
   walk_at "g"
   refine ⟨true,by rfl,?_⟩
   walk_at "g"
   by_cases l0:cs.length<1
   · refine IfP.t (by simp;omega) ?_
     walk_at "g"
     exact bad (by rw [R5 (by omega)];rfl)
   refine IfP.f (by simp;omega) ?_
   walk_at "g"
   by_cases l1:cs.length<=24
   case neg =>
    refine IfP.t (by simp;omega) ?_
    walk_at "g"
    exact bad (by rw [R5 l1,B2v,B2w])
   refine IfP.f (by simp;omega) ?_
   walk_at "g"
   refine And.intro (by omega) ?_
   refine L2.CG (fun x=>.bl (PH x)) (fun x Q hx hQ=>?_) (fun x hx=>rfl) ?_
   · walk_at "g"
     exact ⟨by show (Z6 x&&true)=true;rw [Z3 (oc x hx)];rfl,x,rfl,oc x hx,hQ⟩
   walk_at "g"
   rw [FC PH]
   walk_at "g"
   cases l3:cs.all PH
   · refine IfP.t (by show (!(cs.map PH).all id)=true;rw [FD,l3];rfl) ?_
     walk_at "g"
     exact bad (by rw [l3,B2w,B2w])
   refine IfP.f (by show (!(cs.map PH).all id)=false;rw [FD,l3];rfl) ?_
   by_cases htb:∃ fs,b=.lst fs
   case neg =>
    have e0:=h0 (by unfold FA;split<;>first|rfl|(rename_i e;cases e;exact absurd ⟨_,rfl⟩ htb))
    cases b<;>(try (exact absurd ⟨_,rfl⟩ htb))<;>(try (simp [Y1] at ob;done))
    all_goals
     walk_at "g"
     refine ⟨false,by rfl,?_⟩
     walk_at "g"
     exact e0
   obtain ⟨fs,rfl⟩:=htb
   have of:=KF ob
   have kb:=key fs rfl
   unfold OP at kb
   rw [T4 (by omega:1<=cs.length),T4 l1,l3,U4,U4,U4] at kb
   rw [kb] at h0 h1
   walk_at "g"
   refine ⟨true,by rfl,?_⟩
   walk_at "g"
   by_cases l4:fs.length<=24
   case neg =>
    refine IfP.t (by simp;omega) ?_
    walk_at "g"
    exact h0 (by rw [R5 l4];rfl)
   refine IfP.f (by simp;omega) ?_
   walk_at "g"
   refine And.intro (by omega) ?_
   refine L2.CG (fun x=>.bl (JM cs.length x)) (fun x Q hx hQ=>?_) (fun x hx=>rfl) ?_
   · walk_at "g"
     exact ⟨by show (Z6 x&&true)=true;rw [Z3 (of x hx)];rfl,x,cs.length,rfl,of x hx,hQ⟩
   walk_at "g"
   rw [FC (JM cs.length)]
   walk_at "g"
   cases l5:fs.all (JM cs.length)
   · refine IfP.t (by show (!(fs.map (JM cs.length)).all id)=true;rw [FD,l5];rfl) ?_
     walk_at "g"
     exact h0 (by rw [l5,B2w])
   refine IfP.f (by show (!(fs.map (JM cs.length)).all id)=false;rw [FD,l5];rfl) ?_
   walk_at "g"
   exact h1 (by rw [T4 l4,l5];rfl)
theorem EqG.mk2 {a b x y:Int}{neg:Bool}{P:D->Prop}(h:P (.bl ((decide (a=x)&&decide (b=y))!=neg))):EqG neg (t2 a b) (t2 x y) P:=by
 refine ⟨_,_,rfl,rfl,M3 rfl,?_⟩
 have:PyData.eqv (.tuple [.int a,.int b]) (.tuple [.int x,.int y])=(decide (a=x)&&decide (b=y)):=by
  simp only [PyData.eqv,PyData.eqvAll,B1n]
  rfl
 show P (.bl (PyData.eqv (.tuple [.int a,.int b]) (.tuple [.int x,.int y])!=neg))
 rw [this]
 exact h
theorem EqG.mk4 {a b c e x y z w:Int}{neg:Bool}{P:D->Prop}(h:P (.bl ((decide (a=x)&&(decide (b=y)&&(decide (c=z)&&decide (e=w))))!=neg))):EqG neg (sp4 a b c e) (sp4 x y z w) P:=by
 refine ⟨_,_,rfl,rfl,M3 rfl,?_⟩
 have:PyData.eqv (.tuple [.int a,.int b,.int c,.int e]) (.tuple [.int x,.int y,.int z,.int w])=(decide (a=x)&&(decide (b=y)&&(decide (c=z)&&decide (e=w)))):=by
  simp only [PyData.eqv,PyData.eqvAll,B1n]
  rfl
 show P (.bl (PyData.eqv (.tuple [.int a,.int b,.int c,.int e]) (.tuple [.int x,.int y,.int z,.int w])!=neg))
 rw [this]
 exact h
theorem J9i {i:Int}(h:Y1 (.int i)=true):Bd 1920 i:=by
 have h:decide (i.natAbs.log2<1920)=true:=by unfold Y1 at h;exact h
 have h:=T7 h
 by_cases z:i.natAbs=0
 · show i.natAbs<2 ^ 1920;rw [z];exact Nat.two_pow_pos _
 · exact (B1p z).mp h
theorem V1a {α:Type}{xs:List α}(h:xs.length=4):∃ a b c d,xs=[a,b,c,d]:=match xs,h with | [a,b,c,d],_=>⟨a,b,c,d,rfl⟩
theorem wt4 {d:D}(h:wtD 4 d=true):∃ x y z w:Int,d=.tup [.int x,.int y,.int z,.int w]:=by
 cases d<;>try (simp [wtD] at h;done)
 rename_i xs
 obtain ⟨h1,h2⟩:=(L1 _ _).mp h
 obtain ⟨a,b,c,e,rfl⟩:=V1a (T7 h1)
 have hw:=T8.mp h2
 obtain ⟨x,rfl⟩:=EI (hw a (by simp))
 obtain ⟨y,rfl⟩:=EI (hw b (by simp))
 obtain ⟨z,rfl⟩:=EI (hw c (by simp))
 obtain ⟨w,rfl⟩:=EI (hw e (by simp))
 exact ⟨x,y,z,w,rfl⟩
theorem wt2 {d:D}(h:wtD 2 d=true):∃ x y:Int,d=.tup [.int x,.int y]:=by
 cases d<;>try (simp [wtD] at h;done)
 rename_i xs
 obtain ⟨h1,h2⟩:=(L1 _ _).mp h
 obtain ⟨a,b,rfl⟩:=J9s (T7 h1)
 have hw:=T8.mp h2
 obtain ⟨x,rfl⟩:=EI (hw a (by simp))
 obtain ⟨y,rfl⟩:=EI (hw b (by simp))
 exact ⟨x,y,rfl⟩
def spI (x y z w:Int):Bool:=decide (0<w/\Nat.gcd (Int.gcd x y) (Int.gcd z w)=1)
def spB:D->Bool
 | .tup [.int x,.int y,.int z,.int w]=>spI x y z w
 | _=>false
theorem Q3h {d:D}(h:wtD 4 d=false):spB d=false:=by
 unfold spB
 split
 · cases h
 · rfl
theorem J4y {x y z w:Int}(h:0<w):(decide (x.fdiv (low [x,y,z] w)=x)&&(decide (y.fdiv (low [x,y,z] w)=y)&&(decide (z.fdiv (low [x,y,z] w)=z)&&decide (w.fdiv (low [x,y,z] w)=w))))=spI x y z w:=by
 have hw:w≠0:=by omega
 rw [B0n]
 unfold spI
 simp only [L1,E9]
 constructor
 · rintro ⟨e1,e2,e3,e4⟩
   obtain ⟨a,b,c,d,h1,h2,h3,h4,_,hg,_⟩:=UM (x:=x) (y:=y) (z:=z) hw
   rw [<- h1,<- h2,<- h3,<- h4,e1,e2,e3,e4] at hg
   exact ⟨h,hg⟩
 · rintro ⟨_,hg⟩
   have ha:=UN x y z w
   have hp:=(ZG (ns:=[x,y,z]) hw).2 h
   have e:low [x,y,z] w=1:=by omega
   rw [e]
   exact ⟨Int.fdiv_one ..,Int.fdiv_one ..,Int.fdiv_one ..,Int.fdiv_one ..⟩
abbrev LB:Stmt:=top 30
theorem WH:FnScope xl9 xl9 (J6 LB):=⟨rfl,rfl,rfl,by decide +kernel,rfl,by decide +kernel,by decide +kernel⟩
def VR:DSp:=fun ds P _=>∃ d:D,ds=[d]/\Y1 d=true/\P (.bl (spB d))
structure C_is_spot (P:Program)(w:World)(K:Fg)(mg:Str->Option Value)(base:Heap)(c:Cs):Prop where
 is_whole_tuple_:Callee P w K mg base CX0 "is_whole_tuple" 2 HJ (J8 K BT IE)
 lowest_terms_:Callee P w K mg base CX0 "lowest_terms" 2 ["numbers"] (J8 K BT J7b)
theorem XA {w:World} {f:Addr} (F:Fun K "is_spot" "is_spot" LB f fd) (Z:Bi mg) {c:Cs} (Y:Ex K mg base c) (G:C_is_spot P w K mg base c):FnOk P w K mg base CX0 3 f fd xl9 (J8 K BT VR):=by
 refine F.okD WH (fun ds PP Ed h=>?_) (fun cdv A outer s H E M bg ds PP Ed hr hS_=>?_)
 · obtain ⟨d,rfl,hd,hP⟩:=h
   rfl
 · obtain ⟨d,rfl,hd,hP⟩:=hS_
   refine ⟨_,(J5 (Q4 (AH (Q0 G.is_whole_tuple_ hr.m rfl (J0 (jdv 0) (J0 J3 J1))) (AH (Z5 KA AR (Q8 (Q6 K (by rfl)) V4 (jdv 0) J3 (fun _ _=>rfl)) J3 (Q7 _)) (BZ (Z5 (HV K (by rfl) hr.units) GW (Q0 G.lowest_terms_ hr.m rfl (J0 (jdv 0) J1)) (jdv 0) (Q7 _))))))),?_⟩
   walk_at "g"
   refine ⟨by show (Z6 d&&true)=true;rw [Z3 hd];rfl,d,4,rfl,hd,by decide,?_⟩
   cases hw:wtD 4 d
   · rw [Q3h hw] at hP
     walk_at "g"
     exact hP
   · obtain ⟨x,y,z,w',rfl⟩:=wt4 hw
     have bw:Bd 1920 w':=J9i (GB hd _ (by simp))
     have hP:PP (.bl (spI x y z w')):=hP
     walk_at "g"
     by_cases h0:0<w'
     case neg =>
      refine IfP.f (by simpa using h0) ?_
      walk_at "g"
      have:spI x y z w'=false:=R5 fun q=>h0 q.1
      rw [this] at hP
      exact hP
     refine IfP.t (by simpa using h0) ?_
     walk_at "g"
     refine ⟨[x,y,z],w',1920,rfl,by omega,bw,by decide,by show 3<=10;decide,?_⟩
     walk_at "g"
     refine EqG.mk4 ?_
     walk_at "g"
     rw [R1,J4y h0]
     exact hP
def l3B:D->Bool
 | .tup xs=>decide (xs.length=3)
 | _=>false
def itD:D->List D
 | .tup xs=>xs
 | _=>[]
def faB (d:D):Bool:=l3B d&&(itD d).all spB
def afB:D->Bool
 | .lst fs=>fs.all faB
 | _=>false
theorem J5c {d:D}(h:l3B d=true):∃ a b c,d=.tup [a,b,c]:=by
 cases d<;>try (simp [l3B] at h;done)
 obtain ⟨a,b,c,rfl⟩:=J9r (T7 (show decide (_=3)=true from h))
 exact ⟨a,b,c,rfl⟩
theorem J0i {α:Type}(p q:α->Bool):∀ xs:List α,xs.all (fun x=>p x&&q x)=(xs.all p&&xs.all q)
 | []=>rfl
 | x::xs=>by
   simp only [B0o,J0i p q xs]
   cases p x<;>cases q x<;>cases xs.all p<;>rfl
abbrev FP:Stmt:=top 52
theorem RG:FnScope xl9 xl9 (J6 FP):=⟨rfl,rfl,rfl,by decide +kernel,rfl,by decide +kernel,by decide +kernel⟩
def JQ:DSp:=fun ds P _=>∃ d:D,ds=[d]/\Y1 d=true/\(∀ xs,d=.lst xs->xs.length<=300)/\P (.bl (afB d))
structure C_are_faces (P:Program)(w:World)(K:Fg)(mg:Str->Option Value)(base:Heap)(c:Cs):Prop where
 is_spot_:Callee P w K mg base CX0 "is_spot" 3 xl9 (J8 K BT VR)
abbrev xc8 (P:Program) (w:World) (K:Fg) (mg:Str → Option Value) (base:Heap) (f:Addr) (cdv:Value) (A:Around) (outer:List Env) (s:Shared) (H:Hp) (E:XK):Cx:=BQ CX0 P w K mg base xl9 "are_faces" (J6 FP) f cdv A outer s H E
abbrev VZ:List Str:=["face","corner"]
theorem RT {w:World} {f:Addr} (F:Fun K "are_faces" "are_faces" FP f fd) (Z:Bi mg) {c:Cs} (Y:Ex K mg base c) (G:C_are_faces P w K mg base c):FnOk P w K mg base CX0 4 f fd xl9 (J8 K BT JQ):=by
 refine F.okD RG (fun ds PP Ed h=>?_) (fun cdv A outer s H E M bg ds PP Ed hr hS_=>?_)
 · obtain ⟨d,rfl,hd,h300,hP⟩:=h
   rfl
 · obtain ⟨d,rfl,hd,h300,hP⟩:=hS_
   refine ⟨_,(J4 (Y6 (DP (Y8 (V0 (by rfl) (J9 (Y9 K (by rfl)) AD rfl Z.isinstance_ Y0 (J0 (jdv 0) (J0 (AO rfl Z.list_ MR) J1))) (fun _=>rfl))) (BX (Y8 (V0 (by rfl) (J9 (AU K (by rfl) (by rfl)) EG rfl Z.all_ EZ (J0 (AF (X:=(xc8 P w K mg base f cdv A outer s H E).nox) (V8 0) (IR (X:=(xc8 P w K mg base f cdv A outer s H E).nox) (N':=["face"]) (map:=[none]) (by rfl) (by rfl) (by decide +kernel) (by rfl) True.intro (gkeep_name rfl) fun cl0 C0 fp0 s0 H0=>⟨(pg_name (X:=(Q3 (xc8 P w K mg base f cdv A outer s H E).nox ["face"] _ cl0 C0 fp0 s0 H0)) (i:=0) (Z4 ["face"] (by decide +kernel)) rfl (by walk_at "o")),Z8,(AH (X:=(Q3 (xc8 P w K mg base f cdv A outer s H E).nox ["face"] _ cl0 C0 fp0 s0 H0)) (J9 (Y9 K (by rfl)) AD rfl Z.isinstance_ Y0 (J0 (jdv 0) (J0 (AO rfl Z.tuple_ CI) J1))) (BZ (Z5 DY BL (J9 (V3 K (by rfl)) BA rfl Z.len_ AW (J0 (jdv 0) J1)) J3 (Q7 _))))⟩) (Z7 (by rfl) (jdv 0))) J1)) (fun _=>rfl))))) (J5 (Q4 AT)) V1)
    (J5 (Q4 (J9 (AU K (by rfl) (by rfl)) EG rfl Z.all_ EZ (J0 (IL (X:=(xc8 P w K mg base f cdv A outer s H E).nox) (V8 0) (V8 1) (VO (X:=(xc8 P w K mg base f cdv A outer s H E).nox) (N':=VZ) (map:=[none,none]) (mp2:=[some 0,none]) (by rfl) (by rfl) (by decide +kernel) (by rfl) True.intro (gkeep_name rfl) (gkeep_name rfl) rfl rfl fun cl0 C0 fp0 s0 H0=>⟨(pg_name (X:=(Q3 (xc8 P w K mg base f cdv A outer s H E).nox VZ _ cl0 C0 fp0 s0 H0).nox) (i:=0) (Z4 VZ (by decide +kernel)) rfl (by walk_at "o")),(Z7 (X:=(Q3 (xc8 P w K mg base f cdv A outer s H E).nox VZ _ cl0 C0 fp0 s0 H0).nox) (by rfl) (jdv 0)),(pg_name (X:=(Q3 (xc8 P w K mg base f cdv A outer s H E).nox VZ _ cl0 C0 fp0 s0 H0).nox) (i:=1) (Z4 VZ (by decide +kernel)) rfl (by walk_at "o")),Z8,(Q0 (X:=(Q3 (xc8 P w K mg base f cdv A outer s H E).nox VZ _ cl0 C0 fp0 s0 H0).nox) G.is_spot_ hr.m rfl (J0 (jdv 1) J1))⟩) (Z7 (by rfl) (jdv 0))) J1))))),?_⟩
   by_cases ht:∃ xs,d=.lst xs
   case neg =>
    have e0:PP (.bl false):=by
     cases d<;>first|exact hP|exact absurd ⟨_,rfl⟩ ht
    clear hP h300
    cases d<;>(try (exact absurd ⟨_,rfl⟩ ht))<;>(try (simp [Y1] at hd;done))
    all_goals
     walk_at "g"
     refine ⟨false,by rfl,?_⟩
     walk_at "g"
     exact e0
   obtain ⟨fs,rfl⟩:=ht
   have hl:=h300 fs rfl
   clear h300
   have ha:=KF hd
   have hP:PP (.bl (fs.all faB)):=hP
   rw [show fs.all faB=(fs.all l3B&&fs.all fun d=>(itD d).all spB) from J0i ..] at hP
   walk_at "g"
   refine ⟨true,by rfl,?_⟩
   walk_at "g"
   refine And.intro (by omega) ?_
   refine CG (fun x=>.bl (l3B x)) (fun x Q hx hQ=>?_) (fun _ _=>rfl) ?_
   · have ox:=ha x hx
     clear hx
     cases x<;>(try (simp [Y1] at ox;done))
     case tup xs =>
      walk_at "g"
      refine ⟨true,by rfl,?_⟩
      walk_at "g"
      rw [show (decide ((xs.length:Int)=3)!=false)=l3B (.tup xs) by rw [R1];exact B0i.mpr (by omega)]
      exact hQ
     all_goals
      walk_at "g"
      refine ⟨false,by rfl,?_⟩
      walk_at "g"
      exact hQ
   walk_at "g"
   rw [FC l3B]
   walk_at "g"
   cases hb:fs.all l3B
   · refine IfP.t (by show (!(fs.map l3B).all id)=true;rw [FD,hb];rfl) ?_
     walk_at "g"
     rw [hb] at hP
     exact hP
   refine IfP.f (by show (!(fs.map l3B).all id)=false;rw [FD,hb];rfl) ?_
   rw [hb,U4] at hP
   have h3:=T8.mp hb
   walk_at "g"
   refine And.intro (by omega) ?_
   refine ⟨fun i acc=>acc=((fs.take i).flatMap itD).map fun x=>.bl (spB x),rfl,?_,?_⟩
   · rintro i x acc e rfl
     obtain ⟨a,b,c,rfl⟩:=J5c (h3 x (R6 e))
     have hf:=GB (ha _ (R6 e))
     have oa:=hf a (by simp)
     have ob:=hf b (by simp)
     have oc:=hf c (by simp)
     rw [D4,e,B0j,B0h,D7]
     clear e
     generalize ((fs.take i).flatMap itD).map (fun x=>D.bl (spB x))=acc0
     walk_at "g"
     refine ⟨fun j acc=>acc=acc0++([a,b,c].take j).map fun x=>.bl (spB x),by rw [List.take_zero,B1h,U9],?_,?_⟩
     · rintro j y acc e rfl
       have oy:Y1 y=true:=hf y (R6 e)
       rw [D4,e,B0j,D7,<- B2f]
       clear e
       generalize acc0++([a,b,c].take j).map (fun x=>D.bl (spB x))=acc1
       walk_at "g"
       refine ⟨by show (Z6 y&&true)=true;rw [Z3 oy];rfl,y,rfl,oy,?_⟩
       exact ⟨rfl,rfl⟩
     · rintro acc rfl
       rfl
   · rintro acc rfl
     rw [B2l]
     walk_at "g"
     rw [FC spB]
     walk_at "g"
     show PP (.bl (((fs.flatMap itD).map spB).all id))
     rw [FD]
     have:(fs.flatMap itD).all spB=fs.all fun d=>(itD d).all spB:=List.all_flatMap ..
     rw [this]
     exact hP
mutual
def smD:D->Bool
 | .int i=>decide (i.natAbs<2 ^ 250)
 | .tup xs=>RA xs
 | .lst xs=>RA xs
 | _=>true
def RA:List D->Bool
 | []=>true
 | d::ds=>smD d&&RA ds
end
theorem MX:∀ {ds:List D},RA ds=true->∀ d∈ds,smD d=true
 | d::ds,h,e,m=>by
   unfold RA at h
   obtain ⟨h1,h2⟩:=(L1 _ _).mp h
   rcases B7.mp m with rfl|m
   · exact h1
   · exact MX h2 e m
theorem FH {xs:List D}(h:smD (.tup xs)=true):∀ d∈xs,smD d=true:=MX (by unfold smD at h;exact h)
theorem YM {xs:List D}(h:smD (.lst xs)=true):∀ d∈xs,smD d=true:=MX (by unfold smD at h;exact h)
theorem RB {i:Int}(h:smD (.int i)=true):Bd 250 i:=by
 have h:decide (i.natAbs<2 ^ 250)=true:=by unfold smD at h;exact h
 show i.natAbs<2 ^ 250
 exact T7 h
theorem YL {ds:List D}(h:∀ d∈ds,smD d=true):RA ds=true:=by
 induction ds with
 | nil=>unfold RA;rfl
 | cons d ds ih=>unfold RA;rw [h d (by simp),ih fun e m=>h e (by simp [m])];rfl
def t3of:D->T3
 | .tup [.tup [.int a,.int b,.int c,.int d],.tup [.int e,.int f,.int g,.int h],.tup [.int i,.int j,.int k,.int l]]=>⟨a,b,c,d,e,f,g,h,i,j,k,l⟩
 | _=>⟨0,0,0,0,0,0,0,0,0,0,0,0⟩
theorem WE {d:D}(h:spB d=true):∃ x y z w:Int,d=sp4 x y z w/\0<w:=by
 unfold spB at h
 split at h
 · rename_i x y z w
   exact ⟨x,y,z,w,rfl,(T7 h).1⟩
 · cases h
theorem J5t {d:D}(h:faB d=true)(hs:smD d=true):(t3of d).d=d/\(t3of d).ok 260/\(t3of d).pos:=by
 obtain ⟨h1,h2⟩:=(L1 _ _).mp h
 obtain ⟨a,b,c,rfl⟩:=J5c h1
 have h2:=T8.mp h2
 have hs:=FH hs
 obtain ⟨ax,ay,az,aw,rfl,pa⟩:=WE (h2 a (by simp [itD]))
 obtain ⟨bx,b_y,bz,bw,rfl,pb⟩:=WE (h2 b (by simp [itD]))
 obtain ⟨cx,cy,cz,cw,rfl,pc⟩:=WE (h2 c (by simp [itD]))
 have sa:=FH (hs (sp4 ax ay az aw) (by simp))
 have sb:=FH (hs (sp4 bx b_y bz bw) (by simp))
 have sc:=FH (hs (sp4 cx cy cz cw) (by simp))
 have q:∀ {i:Int},smD (.int i)=true->Bd 260 i:=fun h=>(RB h).mono (by decide)
 exact ⟨rfl,⟨q (sa (.int ax) (by simp)),q (sa (.int ay) (by simp)),q (sa (.int az) (by simp)),q (sa (.int aw) (by simp)),q (sb (.int bx) (by simp)),q (sb (.int b_y) (by simp)),q (sb (.int bz) (by simp)),q (sb (.int bw) (by simp)),q (sc (.int cx) (by simp)),q (sc (.int cy) (by simp)),q (sc (.int cz) (by simp)),q (sc (.int cw) (by simp))⟩,⟨pa,pb,pc⟩⟩
theorem XT:∀ {fs:List D},fs.all faB=true->(∀ d∈fs,smD d=true)->(fs.map t3of).map T3.d=fs/\∀ t∈fs.map t3of,t.ok 260/\t.pos
 | [],_,_=>⟨rfl,by simp⟩
 | x::fs,h,hs=>by
   obtain ⟨h1,h2⟩:=(L1 _ _).mp (by simpa using h:(faB x&&fs.all faB)=true)
   obtain ⟨e,r⟩:=J5t h1 (hs x (by simp))
   obtain ⟨e2,r2⟩:=XT h2 fun d m=>hs d (by simp [m])
   refine ⟨by rw [M5,M5,e,e2],fun t m=>?_⟩
   rcases B7.mp (by rw [M5] at m;exact m) with rfl|m
   · exact r
   · exact r2 t m
def J4u:D->Bool
 | .non=>true
 | _=>false
def Q0g:Option (Nat×Int×Int)->D->Bool
 | none,.non=>true
 | some (i,_,_),.int j=>decide ((i:Int)=j)
 | _,_=>false
def Q9a:D->Int
 | .tup [.int x,.int _]=>x
 | _=>0
def Q7x:D->Int
 | .tup [.int _,.int y]=>y
 | _=>0
def dhB (f t n:D):Bool:=match f with
 | .lst fs=>fs.all faB&&(decide (fs.length<=24)&&(wtD 2 t&&((J4u n||whD n)&&Q0g (seenN (fs.map t3of) (Q9a t) (Q7x t) fs.length) n)))
 | _=>false
theorem J5u {st:Option (Nat×Int×Int)} {n:D} {P:D->Prop} (hn:(J4u n||whD n)=true) (h:P (.bl (Q0g st n))):EqG false (YQ st) n P/\EqG false n (YQ st) P:=by
 cases n<;>(try (simp [J4u,whD] at hn;done))
 case non =>
  cases st with
  | none=>exact ⟨⟨.none,.none,rfl,rfl,M3 rfl,by simp only [PyData.eqv,R1];exact h⟩,⟨.none,.none,rfl,rfl,M3 rfl,by simp only [PyData.eqv,R1];exact h⟩⟩
  | some p =>
    obtain ⟨i,a,b⟩:=p
    exact ⟨⟨.int i,.none,rfl,rfl,M3 rfl,by simp only [PyData.eqv,R1];exact h⟩,⟨.none,.int i,rfl,rfl,M3 rfl,by simp only [PyData.eqv,R1];exact h⟩⟩
 case int j =>
  cases st with
  | none=>exact ⟨⟨.none,.int j,rfl,rfl,M3 rfl,by simp only [PyData.eqv,R1];exact h⟩,⟨.int j,.none,rfl,rfl,M3 rfl,by simp only [PyData.eqv,R1];exact h⟩⟩
  | some p =>
    obtain ⟨i,a,b⟩:=p
    have h:P (.bl (decide ((i:Int)=j))):=h
    refine ⟨⟨.int i,.int j,rfl,rfl,M3 rfl,?_⟩,⟨.int j,.int i,rfl,rfl,M3 rfl,?_⟩⟩
    · rw [show PyData.eqv (.int i) (.int j)=decide ((i:Int)=j) by simp only [PyData.eqv];rfl,R1]
      exact h
    · rw [show PyData.eqv (.int j) (.int i)=decide ((i:Int)=j) by simp only [PyData.eqv];exact B0i.mpr ⟨fun e=>e.symm,fun e=>e.symm⟩,R1]
      exact h
abbrev HQ:Stmt:=top 53
abbrev J7s:List Str:=["faces","dot","number"]
theorem RF:FnScope J7s J7s (J6 HQ):=⟨rfl,rfl,rfl,by decide +kernel,rfl,by decide +kernel,by decide +kernel⟩
def V0f:DSp:=fun ds P _=>∃ f t n:D,ds=[f,t,n]/\(Y1 f=true/\Y1 t=true/\Y1 n=true)/\(smD f=true/\smD t=true)/\(∀ xs,f=.lst xs->xs.length<=300)/\P (.bl (dhB f t n))
structure C_dot_holds (P:Program)(w:World)(K:Fg)(mg:Str->Option Value)(base:Heap)(c:Cs):Prop where
 seen_at_:Callee P w K mg base CX0 "seen_at" 5 ["faces","dot"] (J8 K BT J7a)
 are_faces_:Callee P w K mg base CX0 "are_faces" 4 xl9 (J8 K BT JQ)
 is_whole_tuple_:Callee P w K mg base CX0 "is_whole_tuple" 2 HJ (J8 K BT IE)
 is_whole_:Callee P w K mg base CX0 "is_whole" 1 xl9 (J8 K BT SS)
theorem RQ {w:World} {f:Addr} (F:Fun K "dot_holds" "dot_holds" HQ f fd) (Z:Bi mg) {c:Cs} (Y:Ex K mg base c) (G:C_dot_holds P w K mg base c):FnOk P w K mg base CX0 6 f fd J7s (J8 K BT V0f):=by
 refine F.okD RF (fun ds PP Ed h=>?_) (fun cdv A outer s H E M bg ds PP Ed hr hS_=>?_)
 · obtain ⟨f_,t,n,rfl,⟨of_,ot,on⟩,⟨sf,st⟩,h300,hP⟩:=h
   rfl
 · obtain ⟨f_,t,n,rfl,⟨of_,ot,on⟩,⟨sf,st⟩,h300,hP⟩:=hS_
   refine ⟨_,(J4 (Y6 (DP (Y8 (V0 (by rfl) (Q0 G.are_faces_ hr.m rfl (J0 (jdv 0) J1)) (fun _=>rfl))) (RX (V7 KA AR (J9 (V3 K (by rfl)) BA rfl Z.len_ AW (J0 (jdv 0) J1)) (CA rfl Z.MOST_) (Q7 _)) (BX (Y8 (V0 (by rfl) (Q0 G.is_whole_tuple_ hr.m rfl (J0 (jdv 1) (J0 J3 J1))) (fun _=>rfl)))))) (J5 (Q4 AT)) V1)
    (J4 (Y6 (KI (V7 J9b J9k (jdv 2) KJ (Q7 _)) (HZ (Y8 (V0 (by rfl) (Q0 G.is_whole_ hr.m rfl (J0 (jdv 2) J1)) (fun _=>rfl))))) (J5 (Q4 AT)) V1)
    (J5 (Q4 (Z5 (HV K (by rfl) hr.units) GW (Q0 G.seen_at_ hr.m rfl (J0 (jdv 0) (J0 (jdv 1) J1))) (jdv 2) (Q7 _)))))),?_⟩
   walk_at "g"
   refine ⟨by show (Z6 f_&&true)=true;rw [Z3 of_];rfl,f_,rfl,of_,h300,?_⟩
   by_cases ht:∃ xs,f_=.lst xs
   case neg =>
    have e0:PP (.bl false):=by
     have:dhB f_ t n=false:=by cases f_<;>first|rfl|exact absurd ⟨_,rfl⟩ ht
     rw [this] at hP;exact hP
    rw [show afB f_=false by cases f_<;>first|rfl|exact absurd ⟨_,rfl⟩ ht]
    walk_at "g"
    exact e0
   obtain ⟨fs,rfl⟩:=ht
   have hP:PP (.bl (fs.all faB&&(decide (fs.length<=24)&&(wtD 2 t&&((J4u n||whD n)&&Q0g (seenN (fs.map t3of) (Q9a t) (Q7x t) fs.length) n))))):=hP
   rw [show afB (.lst fs)=fs.all faB from rfl]
   cases hfa:fs.all faB
   · rw [hfa] at hP
     walk_at "g"
     exact hP
   rw [hfa,U4] at hP
   walk_at "g"
   by_cases h24:fs.length<=24
   case neg =>
    refine IfP.t (by simp;omega) ?_
    walk_at "g"
    rw [R5 h24] at hP
    exact hP
   refine IfP.f (by simp;omega) ?_
   rw [T4 h24,U4] at hP
   walk_at "g"
   refine ⟨by show (Z6 t&&true)=true;rw [Z3 ot];rfl,t,2,rfl,ot,by decide,?_⟩
   cases hw:wtD 2 t
   · rw [hw] at hP
     walk_at "g"
     exact hP
   rw [hw,U4] at hP
   obtain ⟨x,y,rfl⟩:=wt2 hw
   obtain ⟨e1,e2⟩:=XT hfa (YM sf)
   have hx:Bd 260 x:=(RB (FH st (.int x) (by simp))).mono (by decide)
   have hy:Bd 260 y:=(RB (FH st (.int y) (by simp))).mono (by decide)
   have hP:PP (.bl ((J4u n||whD n)&&Q0g (seenN (fs.map t3of) x y fs.length) n)):=hP
   walk_at "g"
   cases n<;>(try (simp [Y1] at on;done))
   case' non=>refine IfP.f rfl ?_
   case' int=>refine IfP.t rfl ?_
   case' bl=>refine IfP.t rfl ?_
   case' str=>refine IfP.t rfl ?_
   case' tup=>refine IfP.t rfl ?_
   case' lst=>refine IfP.t rfl ?_
   case' int|bl|str|tup|lst =>
    walk_at "g"
    refine ⟨_,rfl,on,?_⟩
   case bl|str|tup|lst =>
    walk_at "g"
    exact hP
   all_goals
    walk_at "g"
    refine ⟨fs.map t3of,x,y,by rw [e1],e2,by rw [L7];omega,hx,hy,?_⟩
    rw [L7]
    walk_at "g"
    refine (J5u rfl ?_).1
    exact hP
abbrev LG:Stmt:=top 26
theorem WK:FnScope xl9 xl9 (J6 LG):=⟨rfl,rfl,rfl,by decide +kernel,rfl,by decide +kernel,by decide +kernel⟩
def VS:DSp:=fun ds P _=>∃ d:D,ds=[d]/\Y1 d=true/\P (.bl (FA d))
structure C_is_body (P:Program)(w:World)(K:Fg)(mg:Str->Option Value)(base:Heap)(c:Cs):Prop where
 check_body_:Callee P w K mg base (CX1 P w base) "check_body" 4 xl9 (J8 K BT (Q2s c))
theorem XE {w:World} {f:Addr} (F:Fun K "is_body" "is_body" LG f fd) (Z:Bi mg) {c:Cs} (Y:Ex K mg base c) (G:C_is_body P w K mg base c):FnOk P w K mg base CX0 5 f fd xl9 (J8 K BT VS):=by
 refine F.okD WK (fun ds PP Ed h=>?_) (fun cdv A outer s H E M bg ds PP Ed hr hS_=>?_)
 · obtain ⟨d,rfl,hd,hP⟩:=h
   rfl
 · obtain ⟨d,rfl,hd,hP⟩:=hS_
   refine ⟨_,(J4 (J5d (fun C=>C=c.NoBody/\FA d=false) (hd:=fun C F=>C=c.NoBody/\F.rt (.bl false)) (by
    intro C x H' E F pn l hd k o hx
    obtain ⟨rfl,hd⟩:=hd
    refine ⟨Y.xs_NoBody,?_⟩
    exact l.rt (.bl false) (.bl false) _ hd rfl (Kp.trans k (Kp.same (Same.upd hx))) (okB.same o (Same.upd hx))) (J8q K (by rfl) (by rfl) (by rfl) rfl Y.g_NoBody Y.xb_NoBody (fun xe pn E1 hp=>PSs.withE fun hE1=>JSs.h (J5 (NW (DZ hE1 hp G.check_body_ hr.m rfl (J0 (jdv 0) J1))))) (fun y=>(EK (GS Q1s)))))
    (J5 (Q4 AT))),?_⟩
   refine ⟨?_,fun C e=>⟨e.1,by rw [e.2] at hP;exact hP⟩⟩
   walk_at "g"
   refine ⟨by show (Z6 d&&true)=true;rw [Z3 hd];rfl,d,rfl,hd,fun e=>⟨rfl,e⟩,fun e=>?_⟩
   rw [e] at hP
   walk_at "g"
   exact hP
structure R3 where
 x:Int
 y:Int
 z:Int
abbrev R3.d (r:R3):D:=t3 r.x r.y r.z
structure F3i where
 i:Nat
 j:Nat
 k:Nat
abbrev F3i.d (f:F3i):D:=t3 f.i f.j f.k
def F3i.has (f:F3i)(n:Nat):Prop:=n=f.i\/n=f.j\/n=f.k
def sdR (f:F3i):List (List Int):=[[(f.i:Int),(f.j:Int)],[(f.j:Int),(f.k:Int)],[(f.k:Int),(f.i:Int)]]
def Q4z:List Int->List Int
 | [a,b]=>[b,a]
 | r=>r
structure Cnt (L:List (List Int))(ks:List (List Int))(xs:List D):Prop where
 len:ks.length=xs.length
 nd:ks.Nodup
 get:∀ r,CF ks xs r=if r∈L then some (.int (L.count r)) else none
 mem:∀ r,r∈ks↔r∈L
theorem Cnt.nil:Cnt [] [] []:=⟨rfl,List.nodup_nil,fun r=>by simp [CF],fun r=>Iff.rfl⟩
theorem Cnt.add {L ks:List (List Int)}{xs:List D}(h:Cnt L ks xs)(n:List Int):Cnt (L++[n]) (FY ks xs n (.int (L.count n+1))).1 (FY ks xs n (.int (L.count n+1))).2:=by
 refine ⟨J3x ks xs h.len,WR h.nd,fun r=>?_,fun r=>?_⟩
 · rw [J1f ks xs h.len,h.get r]
   by_cases e:n=r
   · subst e
     rw [if_pos rfl,if_pos (by simp),List.count_append,List.count_singleton]
     simp
   · rw [if_neg e]
     by_cases m:r∈L
     · rw [if_pos m,if_pos (R7 _ m),List.count_append,List.count_singleton,if_neg (by simpa using e)]
       rfl
     · rw [if_neg m,if_neg (fun z=>(U0.mp z).elim m fun y=>e (T5.mp y).symm)]
 · rw [PV]
   by_cases q:n∈ks
   · rw [if_pos q,h.mem r]
     constructor
     · exact fun m=>R7 _ m
     · intro m
       rcases U0.mp m with m|m
       · exact m
       · rw [T5.mp m];exact (h.mem n).mp q
   · rw [if_neg q,U0,U0,h.mem r]
theorem Cnt.getD {L ks:List (List Int)}{xs:List D}(h:Cnt L ks xs)(r:List Int):(CF ks xs r).getD (.int 0)=.int (L.count r):=by
 rw [h.get r]
 by_cases m:r∈L
 · rw [if_pos m];rfl
 · rw [if_neg m,List.count_eq_zero_of_not_mem m];rfl
theorem Cnt.small {L ks:List (List Int)}{xs:List D}(h:Cnt L ks xs):ks.length<=L.length:=by
 have:∀ (ks L:List (List Int)),ks.Nodup->(∀ r∈ks,r∈L)->ks.length<=L.length:=by
  intro ks
  induction ks with
  | nil=>exact fun _ _ _=>W1 _
  | cons k ks ih =>
    intro L nd h
    have hk:=h k (B8 ..)
    have:=ih (L.erase k) (E5.mp nd).2 fun r hr=>(List.mem_erase_of_ne (fun (z:r=k)=>(E5.mp nd).1 (by rw [<- z];exact hr))).mpr (h r (L6 _ hr))
    rw [List.length_erase_of_mem hk] at this
    have:=List.length_pos_of_mem hk
    rw [W5]
    omega
 exact this ks L h.nd fun r hr=>(h.mem r).mp hr
theorem J2c (rows:List (List Int)):BP 2 (rows.map DK)=true:=by
 induction rows with
 | nil=>rfl
 | cons r rows ih =>
   rw [M5]
   unfold BP
   rw [ih]
   have:Y2 2 (DK r)=true:=by
    unfold DK Y2
    induction r with
    | nil=>rfl
    | cons a r ih=>rw [M5];unfold BP;rw [ih];rfl
   rw [this];rfl
abbrev IY:Stmt:=top 27
theorem BF:FnScope ["face","i","j","k"] ["face"] (J6 IY):=⟨rfl,rfl,rfl,by decide +kernel,rfl,by decide +kernel,by decide +kernel⟩
def V0d:DSp:=fun ds P _=>∃ f:F3i,ds=[f.d]/\P (.lst ((sdR f).map DK))
theorem UA {w:World} {f:Addr} (F:Fun K "sides_of" "sides_of" IY f fd) (Z:Bi mg) {c:Cs} (Y:Ex K mg base c):FnOk P w K mg base CX0 1 f fd ["face"] (J8 K BT V0d):=by
 refine F.okD BF (fun ds PP Ed h=>?_) (fun cdv A outer s H E M bg ds PP Ed hr hS_=>?_)
 · obtain ⟨f_,rfl,hP⟩:=h
   rfl
 · obtain ⟨f_,rfl,hP⟩:=hS_
   refine ⟨_,(J4 (CK (BO [1,2,3]) (jdv 0) (PG.or (AK (n:=3) K (by rfl) (by rfl) (J7 (pg_name (i:=1) BF.nd rfl (by walk_at "o")) (J7 (pg_name (i:=2) BF.nd rfl (by walk_at "o")) (J7 (pg_name (i:=3) BF.nd rfl (by walk_at "o")) V9)))) (AL (n:=3) K (by rfl) (by rfl) (J7 (pg_name (i:=1) BF.nd rfl (by walk_at "o")) (J7 (pg_name (i:=2) BF.nd rfl (by walk_at "o")) (J7 (pg_name (i:=3) BF.nd rfl (by walk_at "o")) V9))))))
    (J5 (Q4 (AN (J0 (Q5 (J0 (jdv 1) (J0 (jdv 2) J1))) (J0 (Q5 (J0 (jdv 2) (J0 (jdv 3) J1))) (J0 (Q5 (J0 (jdv 3) (J0 (jdv 1) J1))) J1))))))),?_⟩
   walk_at "g"
   exact hP
abbrev NG:Stmt:=top 28
theorem J1c:FnScope ["pair"] ["pair"] (J6 NG):=⟨rfl,rfl,rfl,by decide +kernel,rfl,by decide +kernel,by decide +kernel⟩
def Q2r:DSp:=fun ds P _=>∃ a b:Int,ds=[t2 a b]/\P (t2 b a)
theorem J1l {w:World} {f:Addr} (F:Fun K "fellow" "fellow" NG f fd) (Z:Bi mg) {c:Cs} (Y:Ex K mg base c):FnOk P w K mg base CX0 1 f fd ["pair"] (J8 K BT Q2r):=by
 refine F.okD J1c (fun ds PP Ed h=>?_) (fun cdv A outer s H E M bg ds PP Ed hr hS_=>?_)
 · obtain ⟨a,b,rfl,hP⟩:=h
   rfl
 · obtain ⟨a,b,rfl,hP⟩:=hS_
   refine ⟨_,(J5 (Q4 (Q5 (J0 (Q8 (Q6 K (by rfl)) V4 (jdv 0) J3 (fun _ _=>rfl)) (J0 (Q8 (Q6 K (by rfl)) V4 (jdv 0) J3 (fun _ _=>rfl)) J1))))),?_⟩
   walk_at "g"
   exact hP
structure F3i.ok (f:F3i)(n:Nat):Prop where
 i:f.i<n
 j:f.j<n
 k:f.k<n
 ij:f.i≠f.j
 jk:f.j≠f.k
 ki:f.k≠f.i
def J8v (n:Nat)(f p:Int):Bool:=decide (0<=f/\f<n/\0<=p/\p<=2)
def plB (n:Nat):D->Bool
 | .tup [.int f,.int p]=>J8v n f p
 | _=>false
theorem Q3s {d:D}{n:Nat}(h:wtD 2 d=false):plB n d=false:=by
 unfold plB
 split
 · cases h
 · rfl
abbrev ED:Stmt:=top 54
theorem KY:FnScope HJ HJ (J6 ED):=⟨rfl,rfl,rfl,by decide +kernel,rfl,by decide +kernel,by decide +kernel⟩
def Q2p:DSp:=fun ds P _=>∃ (d:D) (n:Nat),ds=[d,.int n]/\Y1 d=true/\P (.bl (plB n d))
structure C_is_side_place (P:Program)(w:World)(K:Fg)(mg:Str->Option Value)(base:Heap)(c:Cs):Prop where
 is_whole_tuple_:Callee P w K mg base CX0 "is_whole_tuple" 2 HJ (J8 K BT IE)
theorem LK {w:World} {f:Addr} (F:Fun K "is_side_place" "is_side_place" ED f fd) (Z:Bi mg) {c:Cs} (Y:Ex K mg base c) (G:C_is_side_place P w K mg base c):FnOk P w K mg base CX0 3 f fd HJ (J8 K BT Q2p):=by
 refine F.okD KY (fun ds PP Ed h=>?_) (fun cdv A outer s H E M bg ds PP Ed hr hS_=>?_)
 · obtain ⟨d,n,rfl,hd,hP⟩:=h
   rfl
 · obtain ⟨d,n,rfl,hd,hP⟩:=hS_
   refine ⟨_,(J5 (Q4 (AH (Q0 G.is_whole_tuple_ hr.m rfl (J0 (jdv 0) (J0 J3 J1))) (AH (LN NK GA AR AR J3 (Q8 (Q6 K (by rfl)) V4 (jdv 0) J3 (fun _ _=>rfl)) (jdv 1)) (BZ (LN NK NK AR AR J3 (Q8 (Q6 K (by rfl)) V4 (jdv 0) J3 (fun _ _=>rfl)) J3)))))),?_⟩
   walk_at "g"
   refine ⟨by show (Z6 d&&true)=true;rw [Z3 hd];rfl,d,2,rfl,hd,by decide,?_⟩
   cases hw:wtD 2 d
   · rw [Q3s hw] at hP
     walk_at "g"
     exact hP
   · obtain ⟨f_,p,rfl⟩:=wt2 hw
     have hP:PP (.bl (J8v n f_ p)):=hP
     have hf:(¬ (0<=f_/\f_<n/\0<=p/\p<=2))->PP (.bl false):=fun q=>by
      unfold J8v at hP
      rw [R5 q] at hP
      exact hP
     walk_at "g"
     by_cases e1:0<=f_
     case neg =>
      refine IfP.f (R5 e1) ?_
      walk_at "g"
      exact hf fun q=>e1 q.1
     refine IfP.t (T4 e1) ?_
     walk_at "g"
     by_cases e2:f_<n
     case neg =>
      refine IfP.f (R5 e2) ?_
      exact hf fun q=>e2 q.2.1
     refine IfP.t (T4 e2) ?_
     walk_at "g"
     by_cases e3:0<=p
     case neg =>
      refine IfP.f (R5 e3) ?_
      exact hf fun q=>e3 q.2.2.1
     refine IfP.t (T4 e3) ?_
     walk_at "g"
     have:J8v n f_ p=decide (p<=2):=B0i.mpr ⟨fun q=>q.2.2.2,fun q=>⟨e1,e2,e3,q⟩⟩
     rw [this] at hP
     exact hP
def MZ (fl:List F3i):D->List Int
 | .tup [.int f,.int p]=>((sdR ((fl[f.toNat]?).getD ⟨0,0,0⟩))[p.toNat]?).getD []
 | _=>[]
def prB (fl:List F3i):D->Bool
 | .tup [a,b]=>plB fl.length a&&(plB fl.length b&&decide (MZ fl a=Q4z (MZ fl b)))
 | _=>false
theorem RL {n:Nat}{d:D}(h:plB n d=true):∃ f p:Nat,d=.tup [.int f,.int p]/\f<n/\p<=2:=by
 unfold plB at h
 split at h
 · rename_i f p
   have:=T7 h
   exact ⟨f.toNat,p.toNat,by rw [B0x (by omega),B0x (by omega)],by omega,by omega⟩
 · cases h
theorem TJ {fl:List F3i}{f p:Nat}(hf:f<fl.length)(hp:p<=2):∃ a b:Nat,MZ fl (.tup [.int f,.int p])=[(a:Int),(b:Int)]/\(sdR fl[f])[p]?=some [(a:Int),(b:Int)]:=by
 have e:(fl[f]?).getD ⟨0,0,0⟩=fl[f]:=by rw [L0 hf];rfl
 have key:∃ a b:Nat,(sdR fl[f])[p]?=some [(a:Int),(b:Int)]:=by
  have:p=0\/p=1\/p=2:=by omega
  rcases this with rfl|rfl|rfl<;>exact ⟨_,_,rfl⟩
 obtain ⟨a,b,h⟩:=key
 refine ⟨a,b,?_,h⟩
 show ((sdR ((fl[((f:Nat):Int).toNat]?).getD ⟨0,0,0⟩))[((p:Nat):Int).toNat]?).getD []=_
 rw [D5,D5,e,h]
 rfl
abbrev DV:Stmt:=top 55
theorem BI:FnScope ["thing","faces","one","other"] ["thing","faces"] (J6 DV):=⟨rfl,rfl,rfl,by decide +kernel,rfl,by decide +kernel,by decide +kernel⟩
def Q2t:DSp:=fun ds P _=>∃ (d:D) (fl:List F3i),ds=[d,.lst (fl.map F3i.d)]/\Y1 d=true/\P (.bl (prB fl d))
structure C_are_fellows (P:Program)(w:World)(K:Fg)(mg:Str->Option Value)(base:Heap)(c:Cs):Prop where
 fellow_:Callee P w K mg base CX0 "fellow" 1 ["pair"] (J8 K BT Q2r)
 sides_of_:Callee P w K mg base CX0 "sides_of" 1 ["face"] (J8 K BT V0d)
 is_side_place_:Callee P w K mg base CX0 "is_side_place" 3 HJ (J8 K BT Q2p)
abbrev xc9 (P:Program) (w:World) (K:Fg) (mg:Str → Option Value) (base:Heap) (f:Addr) (cdv:Value) (A:Around) (outer:List Env) (s:Shared) (H:Hp) (E:XK):Cx:=BQ CX0 P w K mg base ["thing","faces","one","other"] "are_fellows" (J6 DV) f cdv A outer s H E
abbrev J0s:List Str:=["face","place","faces"]
theorem NQ {w:World} {f:Addr} (F:Fun K "are_fellows" "are_fellows" DV f fd) (Z:Bi mg) {c:Cs} (Y:Ex K mg base c) (G:C_are_fellows P w K mg base c):FnOk P w K mg base CX0 4 f fd ["thing","faces"] (J8 K BT Q2t):=by
 refine F.okD BI (fun ds PP Ed h=>?_) (fun cdv A outer s H E M bg ds PP Ed hr hS_=>?_)
 · obtain ⟨d,fl,rfl,hd,hP⟩:=h
   rfl
 · obtain ⟨d,fl,rfl,hd,hP⟩:=hS_
   refine ⟨_,(J4 (Y6 (DP (Y8 (V0 (by rfl) (J9 (Y9 K (by rfl)) AD rfl Z.isinstance_ Y0 (J0 (jdv 0) (J0 (AO rfl Z.tuple_ CI) J1))) (fun _=>rfl))) (BX (V7 IT GV (J9 (V3 K (by rfl)) BA rfl Z.len_ AW (J0 (jdv 0) J1)) J3 (Q7 _)))) (J5 (Q4 AT)) V1)
    (J4 (Y6 (Y8 (V0 (by rfl) (J9 (AU K (by rfl) (by rfl)) EG rfl Z.all_ EZ (J0 (AF (X:=(xc9 P w K mg base f cdv A outer s H E).nox) (V8 0) (IR (X:=(xc9 P w K mg base f cdv A outer s H E).nox) (N':=["place","faces"]) (map:=[none,some 1]) (by rfl) (by rfl) (by decide +kernel) (by rfl) ⟨⟨rfl,rfl,rfl,by walk_at "o"⟩,True.intro⟩ (gkeep_name rfl) fun cl0 C0 fp0 s0 H0=>⟨(pg_name (X:=(Q3 (xc9 P w K mg base f cdv A outer s H E).nox ["place","faces"] _ cl0 C0 fp0 s0 H0)) (i:=0) (Z4 ["place","faces"] (by decide +kernel)) rfl (by walk_at "o")),Z8,(Q0 (X:=(Q3 (xc9 P w K mg base f cdv A outer s H E).nox ["place","faces"] _ cl0 C0 fp0 s0 H0)) G.is_side_place_ hr.m rfl (J0 (jdv 0) (J0 (J9 (V3 K (by rfl)) BA rfl Z.len_ AW (J0 (jdv 1) J1)) J1)))⟩) (Z7 (by rfl) (jdv 0))) J1)) (fun _=>rfl))) (J5 (Q4 AT)) V1)
    (J4 (CK (BO [2,3]) (AF (X:=(xc9 P w K mg base f cdv A outer s H E).nox) (BO [0,1]) (IR (X:=(xc9 P w K mg base f cdv A outer s H E).nox) (N':=J0s) (map:=[none,none,some 1]) (by rfl) (by rfl) (by decide +kernel) (by rfl) ⟨⟨rfl,rfl,rfl,by walk_at "o"⟩,True.intro⟩ (gkeep_seq (js:=[0,1]) (by decide)) fun cl0 C0 fp0 s0 H0=>⟨(PG.or (AK (n:=2) K (by rfl) (by rfl) (J7 (pg_name (i:=0) (Z4 J0s (by decide +kernel)) rfl (by walk_at "o")) (J7 (pg_name (i:=1) (Z4 J0s (by decide +kernel)) rfl (by walk_at "o")) V9))) (AL (n:=2) K (by rfl) (by rfl) (J7 (pg_name (i:=0) (Z4 J0s (by decide +kernel)) rfl (by walk_at "o")) (J7 (pg_name (i:=1) (Z4 J0s (by decide +kernel)) rfl (by walk_at "o")) V9)))),Z8,(Q8 (X:=(Q3 (xc9 P w K mg base f cdv A outer s H E).nox J0s _ cl0 C0 fp0 s0 H0)) (Q6 K (by rfl)) V4 (Q0 G.sides_of_ hr.m rfl (J0 (Q8 (Q6 K (by rfl)) V4 (jdv 2) (jdv 0) (fun _ _=>rfl)) J1)) (jdv 1) (fun _ _=>rfl))⟩) (Z7 (by rfl) (jdv 0))) (PG.or (AK (n:=2) K (by rfl) (by rfl) (J7 (pg_name (i:=2) BI.nd rfl (by walk_at "o")) (J7 (pg_name (i:=3) BI.nd rfl (by walk_at "o")) V9))) (AL (n:=2) K (by rfl) (by rfl) (J7 (pg_name (i:=2) BI.nd rfl (by walk_at "o")) (J7 (pg_name (i:=3) BI.nd rfl (by walk_at "o")) V9)))))
    (J5 (Q4 (Z5 (HV K (by rfl) hr.units) GW (jdv 2) (Q0 G.fellow_ hr.m rfl (J0 (jdv 3) J1)) (Q7 _))))))),?_⟩
   by_cases ht:∃ xs,d=.tup xs
   case neg =>
    have e0:PP (.bl false):=by
     have:prB fl d=false:=by cases d<;>first|rfl|exact absurd ⟨_,rfl⟩ ht
     rw [this] at hP;exact hP
    cases d<;>(try (exact absurd ⟨_,rfl⟩ ht))<;>(try (simp [Y1] at hd;done))
    all_goals
     walk_at "g"
     refine ⟨false,by rfl,?_⟩
     walk_at "g"
     exact e0
   obtain ⟨xs,rfl⟩:=ht
   have ha:=GB hd
   walk_at "g"
   refine ⟨true,by rfl,?_⟩
   walk_at "g"
   by_cases l2:xs.length=2
   case neg =>
    have e0:PP (.bl false):=by
     have:prB fl (.tup xs)=false:=by unfold prB;split<;>first|rfl|(rename_i e;cases e;exact absurd rfl l2)
     rw [this] at hP;exact hP
    refine IfP.t (by simp;omega) ?_
    walk_at "g"
    exact e0
   refine IfP.f (by simp;omega) ?_
   obtain ⟨a,b,rfl⟩:=J9s l2
   have oa:=ha a (by simp)
   have ob:=ha b (by simp)
   have hP:PP (.bl (plB fl.length a&&(plB fl.length b&&decide (MZ fl a=Q4z (MZ fl b))))):=hP
   clear ha l2 hd
   walk_at "g"
   refine CG (fun x=>.bl (plB fl.length x)) (fun x Q hx hQ=>?_) (fun _ _=>rfl) ?_
   · have ox:Y1 x=true:=by
      simp only [B7,M8,W3] at hx
      rcases hx with rfl|rfl<;>assumption
     walk_at "g"
     refine ⟨by show (Z6 x&&true)=true;rw [Z3 ox];rfl,x,fl.length,by rw [L7],ox,hQ⟩
   walk_at "g"
   cases ea:plB fl.length a
   · refine IfP.t rfl ?_
     walk_at "g"
     rw [ea] at hP
     exact hP
   cases eb:plB fl.length b
   · refine IfP.t rfl ?_
     walk_at "g"
     rw [ea,eb] at hP
     exact hP
   refine IfP.f rfl ?_
   rw [ea,eb] at hP
   obtain ⟨f1,p1,rfl,hf1,hp1⟩:=RL ea
   obtain ⟨f2,p2,rfl,hf2,hp2⟩:=RL eb
   obtain ⟨a1,b1,s1,t1⟩:=TJ hf1 hp1
   obtain ⟨a2,b2,s2,t2_⟩:=TJ hf2 hp2
   rw [s1,s2] at hP
   have i1:atI (fl.map F3i.d) (f1:Int)=some fl[f1].d:=FU (j:=f1) (by rw [M9,L0 hf1];rfl)
   have i2:atI (fl.map F3i.d) (f2:Int)=some fl[f2].d:=FU (j:=f2) (by rw [M9,L0 hf2];rfl)
   have j1:atI ((sdR fl[f1]).map DK) (p1:Int)=some (t2 a1 b1):=FU (j:=p1) (by rw [M9,t1];rfl)
   have j2:atI ((sdR fl[f2]).map DK) (p2:Int)=some (t2 a2 b2):=FU (j:=p2) (by rw [M9,t2_];rfl)
   walk_at "g"
   walk_at "gc"
   rw [i1]
   walk_at "g"
   refine ⟨fl[f1],rfl,?_⟩
   walk_at "g"
   rw [j1]
   walk_at "g"
   rw [i2]
   walk_at "g"
   refine ⟨fl[f2],rfl,?_⟩
   walk_at "g"
   rw [j2]
   walk_at "g"
   refine ⟨a2,b2,rfl,?_⟩
   walk_at "g"
   refine EqG.mk2 ?_
   have:decide ([(a1:Int),(b1:Int)]=Q4z [(a2:Int),(b2:Int)])=(decide ((a1:Int)=b2)&&decide ((b1:Int)=a2)):=by
    show decide ([(a1:Int),(b1:Int)]=[(b2:Int),(a2:Int)])=_
    by_cases z1:(a1:Int)=b2<;>by_cases z2:(b1:Int)=a2<;>simp [z1,z2]
   rw [this] at hP
   rw [R1]
   exact hP
theorem MC:∀ s r:List Int,PyData.eqvAll (s.map PyData.int) (r.map PyData.int)=decide (s=r)
 | [],[]=>by simp [PyData.eqvAll]
 | [],_::_=>by simp [PyData.eqvAll]
 | _::_,[]=>by simp [PyData.eqvAll]
 | a::s,b::r=>by
   simp only [M5]
   unfold PyData.eqvAll
   rw [MC s r]
   have:PyData.eqv (.int a) (.int b)=decide (a=b):=by simp only [PyData.eqv];rfl
   rw [this]
   by_cases h1:a=b<;>by_cases h2:s=r<;>simp [h1,h2]
theorem TV:∀ L:List (List Int),BK (L.map DK)=some (L.map fun s=>PyData.tuple (s.map PyData.int))
 | []=>rfl
 | r::L=>by
   rw [M5]
   unfold BK
   rw [TV L]
   have:Z0 (DK r)=some (.tuple (r.map PyData.int)):=by unfold DK Z0;rw [HR];rfl
   rw [this]
   rfl
def XU:D->F3i
 | .tup [.int a,.int b,.int c]=>⟨a.toNat,b.toNat,c.toNat⟩
 | _=>⟨0,0,0⟩
theorem Q5a {x:D}{n:Nat}(h:JM n x=true):(XU x).d=x/\(XU x).ok n:=by
 unfold JM at h
 split at h
 · rename_i a b c
   have q:=T7 h
   refine ⟨?_,⟨?_,?_,?_,?_,?_,?_⟩⟩
   · show t3 (a.toNat:Int) (b.toNat:Int) (c.toNat:Int)=t3 a b c
     rw [B0x q.2.2.2.1.1,B0x q.2.2.2.1.2.1,B0x q.2.2.2.1.2.2]
   all_goals
    show (_:Prop)
    first
     | (show a.toNat<n;omega)
     | (show b.toNat<n;omega)
     | (show c.toNat<n;omega)
     | (show a.toNat≠b.toNat;omega)
     | (show b.toNat≠c.toNat;omega)
     | (show c.toNat≠a.toNat;omega)
 · cases h
theorem Q2e {n:Nat}:∀ {fs:List D},fs.all (JM n)=true->(fs.map XU).map F3i.d=fs
 | [],_=>rfl
 | x::fs,h=>by
   obtain ⟨h1,h2⟩:=(L1 _ _).mp (by simpa using h:(JM n x&&fs.all (JM n))=true)
   rw [M5,M5,(Q5a h1).1,Q2e h2]
theorem J6w {d:D}(h:FA d=true):∃ cs fs,d=.tup [.lst cs,.lst fs]/\cs.length<=24/\fs.length<=24/\fs.all (JM cs.length)=true:=by
 unfold FA at h
 split at h
 · rename_i cs fs
   unfold OP at h
   simp only [L1,E9] at h
   exact ⟨cs,fs,rfl,h.2.1,h.2.2.2.1,h.2.2.2.2⟩
 · cases h
theorem Q3i {n:Nat}(h:n<=100):BR (n:Int):=by
 unfold BR
 omega
theorem MB:∀ A B:List (List Int),PyData.eqvAll (A.map fun s=>PyData.tuple (s.map PyData.int)) (B.map fun s=>PyData.tuple (s.map PyData.int))=decide (A=B)
 | [],[]=>by simp [PyData.eqvAll]
 | [],_::_=>by simp [PyData.eqvAll]
 | _::_,[]=>by simp [PyData.eqvAll]
 | a::A,b::B=>by
   simp only [M5]
   unfold PyData.eqvAll
   rw [MB A B]
   have:PyData.eqv (.tuple (a.map PyData.int)) (.tuple (b.map PyData.int))=decide (a=b):=by rw [<- MC];unfold PyData.eqv;rfl
   rw [this]
   by_cases h1:a=b<;>by_cases h2:A=B<;>simp [h1,h2]
theorem J5v {A B:List (List Int)}{neg:Bool}{P:D->Prop}(h:P (.bl (decide (A=B)!=neg))):EqG neg (.lst (A.map DK)) (.lst (B.map DK)) P:=by
 have e:∀ A:List (List Int),Z0 (.lst (A.map DK))=some (.list (A.map fun s=>PyData.tuple (s.map PyData.int))):=fun A=>by
  unfold Z0
  rw [TV]
  rfl
 obtain ⟨p,e1,d1,_⟩:=KP 3 (.lst (A.map DK)) (by unfold Y2;exact J2c A)
 rw [e A] at e1
 cases e1
 refine ⟨_,_,e A,e B,by omega,?_⟩
 have:PyData.eqv (.list (A.map fun s=>PyData.tuple (s.map PyData.int))) (.list (B.map fun s=>PyData.tuple (s.map PyData.int)))=decide (A=B):=by rw [<- MB];unfold PyData.eqv;rfl
 rw [this]
 exact h
def prR:D->List (List Int)
 | .tup [.tup [.int f,.int p],.tup [.int g,.int q]]=>[[f,p],[g,q]]
 | _=>[]
def FQ (ps:List D):List (List Int):=ps.flatMap prR
def HI (n:Nat):List (List Int):=(List.range n).flatMap fun f:Nat=>[[(f:Int),0],[(f:Int),1],[(f:Int),2]]
theorem YF (n:Nat):HI (n+1)=HI n++[[(n:Int),0],[(n:Int),1],[(n:Int),2]]:=by
 unfold HI
 rw [List.range_succ,B0h]
 simp
theorem J2t:∀ n,n<=24->(HI n).Pairwise fun x y=>CV 0 x<=CV 0 y:=by
 have key:∀ n:Fin 25,(HI n.val).Pairwise fun x y=>CV 0 x<=CV 0 y:=by decide +kernel
 exact fun n h=>key ⟨n,by omega⟩
theorem J2u {n:Nat}(hn:n<=24){r:List Int}(h:r∈HI n):r.length=2/\∀ z∈r,BR z:=by
 obtain ⟨f,hf,hr⟩:=B2m.mp h
 have hf:=B1x.mp hf
 simp only [B7,M8,W3] at hr
 rcases hr with rfl|rfl|rfl
 all_goals
  refine ⟨rfl,fun z hz=>?_⟩
  simp only [B7,M8,W3] at hz
  rcases hz with rfl|rfl<;>(unfold BR;omega)
def fhB:D->D->Bool
 | .tup [.lst cs,.lst fs],.lst ps=>FA (.tup [.lst cs,.lst fs])&&(ps.all (prB (fs.map XU))&&decide ((FQ ps).Perm (HI fs.length)))
 | _,_=>false
theorem J5s {d e:D}(h:FA d=false):fhB d e=false:=by
 unfold fhB
 split
 · rw [h];rfl
 · rfl
theorem J4e {ps:List D}{i:Nat}{x:D}(e:ps[i]?=some x):FQ (ps.take (i+1))=FQ (ps.take i)++prR x:=by
 unfold FQ
 rw [D4,e,B0j,B0h]
 simp
theorem J4d {fl:List F3i}{x:D}(h:prB fl x=true):∃ f p g q:Nat,x=.tup [.tup [.int f,.int p],.tup [.int g,.int q]]/\f<fl.length/\p<=2/\g<fl.length/\q<=2:=by
 unfold prB at h
 split at h
 · rename_i a b
   simp only [L1] at h
   obtain ⟨f1,p1,rfl,h1,h2⟩:=RL h.1
   obtain ⟨f2,p2,rfl,h3,h4⟩:=RL h.2.1
   exact ⟨f1,p1,f2,p2,rfl,h1,h2,h3,h4⟩
 · cases h
theorem J8t (ps:List D):(FQ ps).length<=2*ps.length:=by
 induction ps with
 | nil=>exact B6 _
 | cons x ps ih =>
   have:(prR x).length<=2:=by
    unfold prR
    split
    · exact B6 2
    · exact W1 _
   show (prR x++FQ ps).length<=_
   rw [T1,W5]
   omega
theorem YW {fl:List F3i}{ps:List D}(hl:fl.length<=24)(h:∀ x∈ps,prB fl x=true){r:List Int}(m:r∈FQ ps):r.length=2/\∀ z∈r,BR z:=by
 obtain ⟨x,hx,hr⟩:=B2m.mp m
 obtain ⟨f,p,g,q,rfl,h1,h2,h3,h4⟩:=J4d (h x hx)
 have hr:r∈[[(f:Int),(p:Int)],[(g:Int),(q:Int)]]:=hr
 simp only [B7,M8,W3] at hr
 rcases hr with rfl|rfl
 all_goals
  refine ⟨rfl,fun z hz=>?_⟩
  simp only [B7,M8,W3] at hz
  rcases hz with rfl|rfl<;>exact Q3i (by omega)
theorem J8u {fl:List F3i}{ps:List D}{n:Nat}(hl:fl.length<=24)(h:∀ x∈ps,prB fl x=true){ks:List (List Int)}(pk:ks.Perm (FQ ps))(sk:ks.Pairwise fun x y=>CV 0 x<=CV 0 y)(hn:n<=24):decide (ks=HI n)=decide ((FQ ps).Perm (HI n)):=by
 refine B0i.mpr ⟨fun e=>by rw [<- e];exact pk.symm,fun p=>?_⟩
 refine List.Perm.eq_of_pairwise (le:=fun r s=>CV 0 r<=CV 0 s) (fun a b ha hb h1 h2=>?_) sk (J2t n hn) (pk.trans p)
 have a1:=YW hl h (pk.mem_iff.mp ha)
 have b1:=J2u hn hb
 exact (VA a b 0 0 (by rw [a1.1,b1.1]) a1.2 b1.2 (Int.le_antisymm h1 h2)).2
abbrev CY:Stmt:=top 56
theorem EC:FnScope ["body","pairs","faces","places"] ["body","pairs"] (J6 CY):=⟨rfl,rfl,rfl,by decide +kernel,rfl,by decide +kernel,by decide +kernel⟩
def V0e:DSp:=fun ds P _=>∃ d e:D,ds=[d,e]/\Y1 d=true/\Y1 e=true/\(∀ ps,e=.lst ps->ps.length<=31)/\P (.bl (fhB d e))
structure C_fellows_hold (P:Program)(w:World)(K:Fg)(mg:Str->Option Value)(base:Heap)(c:Cs):Prop where
 is_body_:Callee P w K mg base CX0 "is_body" 5 xl9 (J8 K BT VS)
 are_fellows_:Callee P w K mg base CX0 "are_fellows" 4 ["thing","faces"] (J8 K BT Q2t)
abbrev EN (P:Program) (w:World) (K:Fg) (mg:Str → Option Value) (base:Heap) (f:Addr) (cdv:Value) (A:Around) (outer:List Env) (s:Shared) (H:Hp) (E:XK):Cx:=BQ CX0 P w K mg base ["body","pairs","faces","places"] "fellows_hold" (J6 CY) f cdv A outer s H E
abbrev JU:List Str:=["pair","place"]
abbrev VY:List Str:=["face","place"]
theorem MJ {w:World} {f:Addr} (F:Fun K "fellows_hold" "fellows_hold" CY f fd) (Z:Bi mg) {c:Cs} (Y:Ex K mg base c) (G:C_fellows_hold P w K mg base c):FnOk P w K mg base CX0 6 f fd ["body","pairs"] (J8 K BT V0e):=by
 refine F.okD EC (fun ds PP Ed h=>?_) (fun cdv A outer s H E M bg ds PP Ed hr hS_=>?_)
 · obtain ⟨d,e,rfl,hd,he,hs,hP⟩:=h
   rfl
 · obtain ⟨d,e,rfl,hd,he,hs,hP⟩:=hS_
   refine ⟨_,(J4 (Y6 (DP (Y8 (V0 (by rfl) (Q0 G.is_body_ hr.m rfl (J0 (jdv 0) J1)) (fun _=>rfl))) (BX (Y8 (V0 (by rfl) (J9 (Y9 K (by rfl)) AD rfl Z.isinstance_ Y0 (J0 (jdv 1) (J0 (AO rfl Z.list_ MR) J1))) (fun _=>rfl))))) (J5 (Q4 AT)) V1)
    (J4 (Z1 (i:=2) EC.nd rfl (by walk_at "o") (Q8 (Q6 K (by rfl)) V4 (jdv 0) J3 (fun _ _=>rfl)))
    (J4 (Y6 (Y8 (V0 (by rfl) (J9 (AU K (by rfl) (by rfl)) EG rfl Z.all_ EZ (J0 (AF (X:=(EN P w K mg base f cdv A outer s H E).nox) (V8 0) (IR (X:=(EN P w K mg base f cdv A outer s H E).nox) (N':=["pair","faces"]) (map:=[none,some 2]) (by rfl) (by rfl) (by decide +kernel) (by rfl) ⟨⟨rfl,rfl,rfl,by walk_at "o"⟩,True.intro⟩ (gkeep_name rfl) fun cl0 C0 fp0 s0 H0=>⟨(pg_name (X:=(Q3 (EN P w K mg base f cdv A outer s H E).nox ["pair","faces"] _ cl0 C0 fp0 s0 H0)) (i:=0) (Z4 ["pair","faces"] (by decide +kernel)) rfl (by walk_at "o")),Z8,(Q0 (X:=(Q3 (EN P w K mg base f cdv A outer s H E).nox ["pair","faces"] _ cl0 C0 fp0 s0 H0)) G.are_fellows_ hr.m rfl (J0 (jdv 0) (J0 (jdv 1) J1)))⟩) (Z7 (by rfl) (jdv 1))) J1)) (fun _=>rfl))) (J5 (Q4 AT)) V1)
    (J4 (Z1 (i:=3) EC.nd rfl (by walk_at "o") (J9w (J1v (X:=(EN P w K mg base f cdv A outer s H E).nox) (J0 (IL (X:=(EN P w K mg base f cdv A outer s H E).nox) (V8 0) (V8 1) (VO (X:=(EN P w K mg base f cdv A outer s H E).nox) (N':=JU) (map:=[none,none]) (mp2:=[some 0,none]) (by rfl) (by rfl) (by decide +kernel) (by rfl) True.intro (gkeep_name rfl) (gkeep_name rfl) rfl rfl fun cl0 C0 fp0 s0 H0=>⟨(pg_name (X:=(Q3 (EN P w K mg base f cdv A outer s H E).nox JU _ cl0 C0 fp0 s0 H0).nox) (i:=0) (Z4 JU (by decide +kernel)) rfl (by walk_at "o")),(Z7 (X:=(Q3 (EN P w K mg base f cdv A outer s H E).nox JU _ cl0 C0 fp0 s0 H0).nox) (by rfl) (jdv 0)),(pg_name (X:=(Q3 (EN P w K mg base f cdv A outer s H E).nox JU _ cl0 C0 fp0 s0 H0).nox) (i:=1) (Z4 JU (by decide +kernel)) rfl (by walk_at "o")),Z8,(jdv (X:=(Q3 (EN P w K mg base f cdv A outer s H E).nox JU _ cl0 C0 fp0 s0 H0).nox) 1)⟩) (Z7 (by rfl) (jdv 1))) J1) (FZ (YB K (by rfl) (by rfl)) rfl Z.sorted_ J2s (JA.h (J0 (IL (X:=(EN P w K mg base f cdv A outer s H E).nox) (V8 0) (V8 1) (VO (X:=(EN P w K mg base f cdv A outer s H E).nox) (N':=JU) (map:=[none,none]) (mp2:=[some 0,none]) (by rfl) (by rfl) (by decide +kernel) (by rfl) True.intro (gkeep_name rfl) (gkeep_name rfl) rfl rfl fun cl0 C0 fp0 s0 H0=>⟨(pg_name (X:=(Q3 (EN P w K mg base f cdv A outer s H E).nox JU _ cl0 C0 fp0 s0 H0).nox) (i:=0) (Z4 JU (by decide +kernel)) rfl (by walk_at "o")),(Z7 (X:=(Q3 (EN P w K mg base f cdv A outer s H E).nox JU _ cl0 C0 fp0 s0 H0).nox) (by rfl) (jdv 0)),(pg_name (X:=(Q3 (EN P w K mg base f cdv A outer s H E).nox JU _ cl0 C0 fp0 s0 H0).nox) (i:=1) (Z4 JU (by decide +kernel)) rfl (by walk_at "o")),Z8,(jdv (X:=(Q3 (EN P w K mg base f cdv A outer s H E).nox JU _ cl0 C0 fp0 s0 H0).nox) 1)⟩) (Z7 (by rfl) (jdv 1))) J1))))))
    (J5 (Q4 (Z5 (HV K (by rfl) hr.units) GW (jdv 3) (IL (X:=(EN P w K mg base f cdv A outer s H E).nox) (V8 0) (V8 1) (VO (X:=(EN P w K mg base f cdv A outer s H E).nox) (N':=VY) (map:=[none,none]) (mp2:=[some 0,none]) (by rfl) (by rfl) (by decide +kernel) (by rfl) True.intro (gkeep_name rfl) (gkeep_name rfl) rfl rfl fun cl0 C0 fp0 s0 H0=>⟨(pg_name (X:=(Q3 (EN P w K mg base f cdv A outer s H E).nox VY _ cl0 C0 fp0 s0 H0).nox) (i:=0) (Z4 VY (by decide +kernel)) rfl (by walk_at "o")),(BN (X:=(Q3 (EN P w K mg base f cdv A outer s H E).nox VY _ cl0 C0 fp0 s0 H0).nox) rfl Z.range_ (J0 J3 J1)),(pg_name (X:=(Q3 (EN P w K mg base f cdv A outer s H E).nox VY _ cl0 C0 fp0 s0 H0).nox) (i:=1) (Z4 VY (by decide +kernel)) rfl (by walk_at "o")),Z8,(Q5 (X:=(Q3 (EN P w K mg base f cdv A outer s H E).nox VY _ cl0 C0 fp0 s0 H0).nox) (J0 (jdv 0) (J0 (jdv 1) J1)))⟩) (BN rfl Z.range_ (J0 (J9 (V3 K (by rfl)) BA rfl Z.len_ AW (J0 (jdv 2) J1)) J1))) (Q7 _)))))))),?_⟩
   have nod:(Z6 d&&(Z6 e&&true))=true:=by rw [Z3 hd,Z3 he];rfl
   walk_at "g"
   refine ⟨by show (Z6 d&&true)=true;rw [Z3 hd];rfl,d,rfl,hd,?_⟩
   cases hb:FA d
   · have e0:PP (.bl false):=by rw [J5s hb] at hP;exact hP
     walk_at "g"
     exact e0
   obtain ⟨cs,fs,rfl,lc,lf,hfs⟩:=J6w hb
   walk_at "g"
   by_cases hte:∃ ps,e=.lst ps
   case neg =>
    have e0:PP (.bl false):=by
     have:fhB (.tup [.lst cs,.lst fs]) e=false:=by unfold fhB;split<;>first|rfl|(rename_i z1 z2 z3;exact absurd ⟨_,rfl⟩ hte)
     rw [this] at hP
     exact hP
    clear hP hs nod
    cases e<;>(try (exact absurd ⟨_,rfl⟩ hte))<;>(try (simp [Y1] at he;done))
    all_goals
     walk_at "g"
     refine ⟨false,by rfl,?_⟩
     walk_at "g"
     exact e0
   obtain ⟨ps,rfl⟩:=hte
   have l31:=hs ps rfl
   clear hs nod
   have hP:PP (.bl (FA (.tup [.lst cs,.lst fs])&&(ps.all (prB (fs.map XU))&&decide ((FQ ps).Perm (HI fs.length))))):=hP
   rw [hb,U4] at hP
   walk_at "g"
   refine ⟨true,by rfl,?_⟩
   walk_at "g"
   have op:=KF he
   have ef:=Q2e hfs
   have fll:(fs.map XU).length=fs.length:=L7 ..
   generalize fs.map XU=fl at *
   subst ef
   refine And.intro (by omega) ?_
   refine CG (fun x=>.bl (prB fl x)) (fun x Q hx hQ=>?_) (fun _ _=>rfl) ?_
   · have ox:=op x hx
     walk_at "g"
     exact ⟨by show (Z6 x&&true)=true;rw [Z3 ox];rfl,x,fl,rfl,ox,hQ⟩
   walk_at "g"
   rw [FC (prB fl)]
   walk_at "g"
   cases hal:ps.all (prB fl)
   · refine IfP.t (by show (!(ps.map (prB fl)).all id)=true;rw [FD,hal];rfl) ?_
     walk_at "g"
     rw [hal] at hP
     exact hP
   refine IfP.f (by show (!(ps.map (prB fl)).all id)=false;rw [FD,hal];rfl) ?_
   rw [hal,U4,<- fll] at hP
   have hal:=T8.mp hal
   walk_at "g"
   refine And.intro (by omega) ?_
   refine ⟨fun i acc=>acc=(FQ (ps.take i)).map DK,rfl,?_,?_⟩
   · rintro i x acc e rfl
     obtain ⟨f1,p1,f2,p2,rfl,hf1,hp1,hf2,hp2⟩:=J4d (hal x (R6 e))
     rw [J4e e]
     walk_at "g"
     refine ⟨fun j acc=>acc=(FQ (ps.take i)).map DK++[t2 f1 p1,t2 f2 p2].take j,by simp,?_,?_⟩
     · rintro j y acc e rfl
       walk_at "g"
       refine ⟨?_,by rw [D4,e];simp⟩
       have m:=R6 e
       simp only [B7,M8,W3] at m
       rcases m with rfl|rfl<;>rfl
     · rintro acc rfl
       show (FQ (ps.take i)).map DK++[t2 f1 p1,t2 f2 p2]=_
       rw [D7]
       rfl
   rintro acc rfl
   rw [B2l]
   walk_at "g"
   refine ⟨FQ ps,2,rfl,by decide,by have:=J8t ps;omega,fun r hr=>YW (by omega) hal hr,fun ks pk sk=>?_⟩
   walk_at "g"
   refine And.intro ⟨by omega,by omega⟩ ?_
   rw [L7]
   refine And.intro (by rw [rangeD_len];omega) ?_
   refine ⟨fun i acc=>acc=(HI i).map DK,rfl,?_,?_⟩
   · rintro i x acc e rfl
     obtain ⟨rfl,hi⟩:=BJ e
     clear e
     rw [B1i]
     walk_at "g"
     refine ⟨fun j acc=>acc=(HI i).map DK++[t2 i 0,t2 i 1,t2 i 2].take j,by simp,?_,?_⟩
     · rintro j y acc e rfl
       obtain ⟨rfl,hj⟩:=BJ e
       clear e
       rw [B1i]
       walk_at "g"
       rw [D4]
       have:j=0\/j=1\/j=2:=by
        have:j<3:=hj
        omega
       rcases this with rfl|rfl|rfl<;>simp
     · rintro acc rfl
       rw [YF,D7]
       rfl
   rintro acc rfl
   rw [rangeD_len,D5]
   refine J5v ?_
   rw [R1,J8u (n:=fl.length) (by omega) hal pk sk (by omega)]
   exact hP
abbrev HP:Stmt:=top 18
theorem RD:FnScope xl5 xl5 (J6 HP):=⟨rfl,rfl,rfl,by decide +kernel,rfl,by decide +kernel,by decide +kernel⟩
def Q1v (n:Int):Bool:=decide (1<=n)&&decide (n<=16)
def J0n:DSp:=fun ds P _=>∃ n:Int,ds=[.int n]/\P (.bl (Q1v n))
theorem RO {w:World} {f:Addr} (F:Fun K "is_length" "is_length" HP f fd) (Z:Bi mg) {c:Cs} (Y:Ex K mg base c):FnOk P w K mg base CX0 1 f fd xl5 (J8 K BT J0n):=by
 refine F.okD RD (fun ds PP Ed h=>?_) (fun cdv A outer s H E M bg ds PP Ed hr hS_=>?_)
 · obtain ⟨n,rfl,hP⟩:=h
   rfl
 · obtain ⟨n,rfl,hP⟩:=hS_
   refine ⟨_,(J5 (Q4 (LN NK NK AR AR J3 (jdv 0) (CA rfl Z.LONGEST_)))),?_⟩
   unfold Q1v at hP
   walk_at "g"
   by_cases h:1<=n
   · refine IfP.t (by simp [h]) ?_
     walk_at "g"
     simp [h] at hP
     exact hP
   · refine IfP.f (by simp [h]) ?_
     walk_at "g"
     simp [h] at hP
     exact hP
abbrev DU:Stmt:=top 19
theorem NE:FnScope xl9 xl9 (J6 DU):=⟨rfl,rfl,rfl,by decide +kernel,rfl,by decide +kernel,by decide +kernel⟩
def J7k:DSp:=fun ds P _=>ds=[t2 16 16]/\P .non
structure C_check_board (P:Program)(w:World)(K:Fg)(mg:Str->Option Value)(base:Heap)(c:Cs):Prop where
 is_whole_tuple_:Callee P w K mg base CX0 "is_whole_tuple" 2 HJ (J8 K BT IE)
 is_length_:Callee P w K mg base CX0 "is_length" 1 xl5 (J8 K BT J0n)
abbrev J7x (P:Program) (w:World) (K:Fg) (mg:Str → Option Value) (base:Heap) (f:Addr) (cdv:Value) (A:Around) (outer:List Env) (s:Shared) (H:Hp) (E:XK):Cx:=BQ (CX1 P w base) P w K mg base xl9 "check_board" (J6 DU) f cdv A outer s H E
theorem NP {w:World} {f:Addr} (F:Fun K "check_board" "check_board" DU f fd) (Z:Bi mg) {c:Cs} (Y:Ex K mg base c) (G:C_check_board P w K mg base c):FnOk P w K mg base (CX1 P w base) 3 f fd xl9 (J8 K BT J7k):=by
 refine F.okDX NE (fun ds PP Ed h=>?_) (fun cdv A outer s H E M bg ds PP Ed hr hE hS_=>?_)
 · obtain ⟨rfl,hP⟩:=h
   rfl
 · obtain ⟨rfl,hP⟩:=hS_
   refine ⟨_,(J5 (Y6 (DP (Y8 (V0 (by rfl) (Q0 G.is_whole_tuple_ hr.m rfl (J0 (jdv 0) (J0 J3 J1))) (fun _=>rfl))) (BX (Y8 (V0 (by rfl) (J9 (AU K (by rfl) (by rfl)) EG rfl Z.all_ EZ (J0 (AF (X:=(J7x P w K mg base f cdv A outer s H E)) (V8 0) (IR (X:=(J7x P w K mg base f cdv A outer s H E)) (N':=xl5) (map:=[none]) (by rfl) (by rfl) (by decide +kernel) (by rfl) True.intro (gkeep_name rfl) fun cl0 C0 fp0 s0 H0=>⟨(pg_name (X:=(Q3 (J7x P w K mg base f cdv A outer s H E) xl5 _ cl0 C0 fp0 s0 H0)) (i:=0) (Z4 xl5 (by decide +kernel)) rfl (by walk_at "o")),Z8,(Q0 (X:=(Q3 (J7x P w K mg base f cdv A outer s H E) xl5 _ cl0 C0 fp0 s0 H0)) G.is_length_ hr.m rfl (J0 (jdv 0) J1))⟩) (Z7 (by rfl) (jdv 0))) J1)) (fun _=>rfl))))) (J5 (CT hE (CS Y.o_NoBoard rfl))) V1)),?_⟩
   walk_at "g"
   refine ⟨_,2,rfl,rfl,by decide,?_⟩
   walk_at "g"
   walk_at "gc"
   refine ⟨_,rfl,?_⟩
   walk_at "g"
   refine ⟨_,rfl,?_⟩
   walk_at "g"
   exact hP
theorem T3.has_sgn {t:T3}{px py:Int}(hp:t.pos)(h:t.has px py):sgn t.tn=t.s1 px py:=by
 obtain ⟨f,hf⟩:∃ f:Int->Nat,∀ n,f n=n.natAbs:=⟨Int.natAbs,fun _=>rfl⟩
 obtain ⟨M,hM,hin⟩:∃ M:Int,1<=M/\t.in M:=by
  refine ⟨1+f t.ax+f t.ay+f t.az+f t.aw+f t.bx+f t.b_y+f t.bz+f t.bw+f t.cx+f t.cy+f t.cz+f t.cw,by omega,fun n hn=>?_⟩
  unfold T3.nums at hn
  rw [<- hf]
  clear hf h
  simp only [B7,M8,W3] at hn
  rcases hn with e|e|e|e|e|e|e|e|e|e|e|e<;>rw [e]<;>omega
 obtain ⟨e1,e2,e3⟩:=T3.near (px:=px) (py:=py) hp hM hin
 have s:=t.sum_det (nX px M) (nY py M) (nW M)
 have w0:0<nW M:=by
  unfold nW
  have:0<=8*M*M:=B1j (by omega) (by omega)
  exact B0q (by omega) (by omega)
 obtain ⟨h1,h2,h3⟩:=h
 rw [<- e1] at h1 h2 h3
 rw [<- e1]
 rw [<- e2] at h2
 rw [<- e3] at h3
 have pa:=hp.a
 have pb:=hp.b
 have pc:=hp.c
 generalize det t.ax t.ay t.aw t.bx t.b_y t.bw (nX px M) (nY py M) (nW M)=d1 at *
 generalize det t.bx t.b_y t.bw t.cx t.cy t.cw (nX px M) (nY py M) (nW M)=d2 at *
 generalize det t.cx t.cy t.cw t.ax t.ay t.aw (nX px M) (nY py M) (nW M)=d3 at *
 generalize nW M=w at *
 have c1:=CP d1
 have c2:=CP d2
 have c3:=CP d3
 rcases c1 with ⟨c1,q⟩|⟨c1,q⟩|⟨c1,q⟩
 · have k2:0<d2:=by omega
   have k3:0<d3:=by omega
   have m1:=B0q pc c1
   have m2:=B0q pa k2
   have m3:=B0q pb k3
   have:0<t.tn:=by
    apply Decidable.byContradiction
    intro n
    have:=B2z (show t.tn<=0 by omega) (show 0<=w by omega)
    omega
   rw [FI this,q]
 · omega
 · have k2:d2<0:=by omega
   have k3:d3<0:=by omega
   have m1:=W6 pc c1
   have m2:=W6 pa k2
   have m3:=W6 pb k3
   have:t.tn<0:=by
    apply Decidable.byContradiction
    intro n
    have:=B1j (show 0<=t.tn by omega) (show 0<=w by omega)
    omega
   rw [FJ this,q]
theorem T3.has_way {t:T3}{px py:Int}(hp:t.pos)(hz:sgn t.tn≠0):t.has px py↔(t.s1 px py=sgn t.tn/\t.s2 px py=sgn t.tn/\t.s3 px py=sgn t.tn):=by
 constructor
 · intro h
   have e:=T3.has_sgn hp h
   rw [e]
   exact ⟨rfl,h.2.1,h.2.2⟩
 · rintro ⟨h1,h2,h3⟩
   exact ⟨by rw [h1];exact hz,by rw [h1,h2],by rw [h1,h3]⟩
theorem YN {n way:Int}(h:way=1\/way = -1):sgn n=way↔0<way*n:=by
 have:=CP n
 rcases h with rfl|rfl<;>omega
theorem J6d (ax ay aw bx b_y bw x y:Int):det ax ay aw bx b_y bw x y 1=det ax ay aw bx b_y bw 0 y 1+x*(ay*bw - aw*b_y):=by unfold det;grind
theorem J7y (way ax ay aw bx b_y bw x y:Int):way*det ax ay aw bx b_y bw x y 1=way*det ax ay aw bx b_y bw 0 y 1+x*(way*(ay*bw - aw*b_y)):=by rw [J6d];grind
theorem J3k {ax ay aw bx b_y bw x y way:Int}(h:way=1\/way = -1)(hs:0<way*(ay*bw - aw*b_y)):sgn (shd ax ay aw bx b_y bw x y)=way↔0<=way*det ax ay aw bx b_y bw x y 1:=by
 rw [YN h]
 unfold shd
 generalize ay*bw - aw*b_y=G at *
 generalize det ax ay aw bx b_y bw x y 1=d
 have gz:G≠0:=fun z=>by rw [z,B0t] at hs;omega
 rw [if_neg gz]
 split
 · rename_i e
   rw [e,B0t]
   simp [hs]
 · rename_i e
   rcases h with rfl|rfl<;>omega
theorem J3l {ax ay aw bx b_y bw x y way:Int}(h:way=1\/way = -1)(hs:way*(ay*bw - aw*b_y)<0):sgn (shd ax ay aw bx b_y bw x y)=way↔0<way*det ax ay aw bx b_y bw x y 1:=by
 rw [YN h]
 unfold shd
 generalize ay*bw - aw*b_y=G at *
 generalize det ax ay aw bx b_y bw x y 1=d
 have gz:G≠0:=fun z=>by rw [z,B0t] at hs;omega
 rw [if_neg gz]
 split
 · rename_i e
   rw [e,B0t]
   omega
 · rfl
theorem WF {ax ay aw bx b_y bw x y way:Int}(h:way=1\/way = -1)(hs:way*(ay*bw - aw*b_y)=0):shd ax ay aw bx b_y bw x y=shd ax ay aw bx b_y bw 0 y:=by
 have:ay*bw - aw*b_y=0:=by rcases h with rfl|rfl<;>omega
 unfold shd
 rw [J6d,this,B0t,Int.add_zero]
def Nrw (y first last way:Int)(ax ay aw bx b_y bw f l:Int):Prop:=∀ x,(f<=x/\x<=l)↔(first<=x/\x<=last/\sgn (shd ax ay aw bx b_y bw x y)=way)
abbrev JC:Stmt:=top 49
theorem AI:FnScope ["span","a","b","way","y","first","last","step","start"] ["span","a","b","way"] (J6 JC):=⟨rfl,rfl,rfl,by decide +kernel,rfl,by decide +kernel,by decide +kernel⟩
def VQ:DSp:=fun ds P _=>∃ (y first last ax ay az aw bx b_y bz bw way:Int),ds=[t3 y first last,sp4 ax ay az aw,sp4 bx b_y bz bw,.int way]/\(way=1\/way = -1)/\(Bd 260 ax/\Bd 260 ay/\Bd 260 aw)/\(Bd 260 bx/\Bd 260 b_y/\Bd 260 bw)/\Bd 260 y/\∀ f l,Nrw y first last way ax ay aw bx b_y bw f l->P (t3 y f l)
structure C_narrowed (P:Program)(w:World)(K:Fg)(mg:Str->Option Value)(base:Heap)(c:Cs):Prop where
 growth_:Callee P w K mg base CX0 "growth" 1 ["a","b"] (J8 K BT OV)
 side_number_:Callee P w K mg base CX0 "side_number" 2 xl6 (J8 K BT MS)
 shifted_side_:Callee P w K mg base CX0 "shifted_side" 3 xl6 (J8 K BT J6z)
theorem UD {w:World} {f:Addr} (F:Fun K "narrowed" "narrowed" JC f fd) (Z:Bi mg) {c:Cs} (Y:Ex K mg base c) (G:C_narrowed P w K mg base c):FnOk P w K mg base CX0 4 f fd ["span","a","b","way"] (J8 K BT VQ):=by
 refine F.okD AI (fun ds PP Ed h=>?_) (fun cdv A outer s H E M bg ds PP Ed hr hS_=>?_)
 · obtain ⟨y,first,last,ax,ay,az,aw,bx,b_y,bz,bw,way,rfl,hw,⟨a1,a2,a3⟩,⟨b1,b2,b3⟩,hy,hP⟩:=h
   rfl
 · obtain ⟨y,first,last,ax,ay,az,aw,bx,b_y,bz,bw,way,rfl,hw,⟨a1,a2,a3⟩,⟨b1,b2,b3⟩,hy,hP⟩:=hS_
   refine ⟨_,(J4 (CK (BO [4,5,6]) (jdv 0) (PG.or (AK (n:=3) K (by rfl) (by rfl) (J7 (pg_name (i:=4) AI.nd rfl (by walk_at "o")) (J7 (pg_name (i:=5) AI.nd rfl (by walk_at "o")) (J7 (pg_name (i:=6) AI.nd rfl (by walk_at "o")) V9)))) (AL (n:=3) K (by rfl) (by rfl) (J7 (pg_name (i:=4) AI.nd rfl (by walk_at "o")) (J7 (pg_name (i:=5) AI.nd rfl (by walk_at "o")) (J7 (pg_name (i:=6) AI.nd rfl (by walk_at "o")) V9))))))
    (J4 (Z1 (i:=7) AI.nd rfl (by walk_at "o") (V6 Y4 DN (jdv 3) (Q0 G.growth_ hr.m rfl (J0 (jdv 1) (J0 (jdv 2) J1)))))
    (J4 (Z1 (i:=8) AI.nd rfl (by walk_at "o") (V6 Y4 DN (jdv 3) (Q0 G.side_number_ hr.m rfl (J0 (jdv 1) (J0 (jdv 2) (J0 (Q5 (J0 J3 (J0 (jdv 4) J1))) J1))))))
    (J4 (Y6 (V7 KA AR (jdv 7) J3 (Q7 _)) (J5 (Q4 (Q5 (J0 (jdv 4) (J0 (J9 (QO (by rfl)) J0c rfl Z.max_ YD (J0 (jdv 5) (J0 (IK (V6 HU DN (jdv 8) (jdv 7))) J1))) (J0 (jdv 6) J1)))))) V1)
    (J4 (Y6 (V7 GA AR (jdv 7) J3 (Q7 _)) (J5 (Q4 (Q5 (J0 (jdv 4) (J0 (jdv 5) (J0 (J9 (QN (by rfl)) J0c rfl Z.min_ YC (J0 (jdv 6) (J0 (V6 HU DN (V6 ET EV (jdv 8) J3) (IK (jdv 7))) J1))) J1)))))) V1)
    (J4 (Y6 (V7 DY BL (Q0 G.shifted_side_ hr.m rfl (J0 (jdv 1) (J0 (jdv 2) (J0 (Q5 (J0 J3 (J0 (jdv 4) J1))) J1)))) (jdv 3) (Q7 _)) (J5 (Q4 (jdv 0))) V1)
    (J5 (Q4 (Q5 (J0 (jdv 4) (J0 (jdv 5) (J0 (V6 ET EV (jdv 5) J3) J1)))))))))))),?_⟩
   have bw1:Bd 3 way:=by rcases hw with rfl|rfl<;>exact Bd.of (by decide) (by decide)
   have bG:Bd 530 (ay*bw - aw*b_y):=(Bd.sub (Bd.mul a2 b3) (Bd.mul a3 b2)).mono (by decide)
   have bD:Bd 800 (det ax ay aw bx b_y bw 0 y 1):=(HB (n:=260) a1 a2 a3 b1 b2 b3 (Bd.of (by decide) (by decide)) hy (Bd.of (by decide) (by decide))).mono (by decide)
   have wd:=fun x=>J7y way ax ay aw bx b_y bw x y
   walk_at "g"
   refine ⟨_,_,_,_,_,_,_,_,rfl,⟨a2.mono (by decide),a3.mono (by decide)⟩,⟨b2.mono (by decide),b3.mono (by decide)⟩,?_⟩
   have bS:Bd 540 (way*(ay*bw - aw*b_y)):=(Bd.mul bw1 bG).mono (by decide)
   walk_at "g"
   refine ⟨_,_,_,_,_,_,_,_,_,_,rfl,⟨a1.mono (by decide),a2.mono (by decide),a3.mono (by decide)⟩,⟨b1.mono (by decide),b2.mono (by decide),b3.mono (by decide)⟩,⟨Bd.of (by decide) (by decide),hy.mono (by decide)⟩,?_⟩
   walk_at "g"
   have pos:=fun x=>J3k (ax:=ax) (ay:=ay) (aw:=aw) (bx:=bx) (b_y:=b_y) (bw:=bw) (x:=x) (y:=y) hw
   have neg:=fun x=>J3l (ax:=ax) (ay:=ay) (aw:=aw) (bx:=bx) (b_y:=b_y) (bw:=bw) (x:=x) (y:=y) hw
   have lev:=fun x=>WF (ax:=ax) (ay:=ay) (aw:=aw) (bx:=bx) (b_y:=b_y) (bw:=bw) (x:=x) (y:=y) hw
   walk_at "sp"
   · rename_i h
     walk_at "g"
     refine And.intro ⟨h,540,bS,by decide⟩ ?_
     walk_at "g"
     refine hP _ _ fun x=>?_
     rw [pos x h,wd x]
     generalize way*(ay*bw - aw*b_y)=G at *
     generalize way*det ax ay aw bx b_y bw 0 y 1=D0
     have k : -(D0 / G)<=x↔0<=D0+x*G:=by
      have:=@Int.le_ediv_iff_mul_le (-x) D0 G h
      rw [Int.neg_mul] at this
      omega
     constructor
     · rintro ⟨h1,h2⟩
       have h1:(if -(D0 / G)>first then -(D0 / G) else first)<=x:=h1
       split at h1<;>omega
     · rintro ⟨h1,h2,h3⟩
       refine ⟨?_,h2⟩
       show (if -(D0 / G)>first then -(D0 / G) else first)<=x
       split<;>omega
   · rename_i h
     walk_at "g"
     walk_at "sp"
     · rename_i h'
       walk_at "g"
       refine And.intro ⟨by omega,540,bS.neg,by decide⟩ ?_
       walk_at "g"
       refine hP _ _ fun x=>?_
       rw [neg x h',wd x]
       generalize way*(ay*bw - aw*b_y)=G at *
       generalize way*det ax ay aw bx b_y bw 0 y 1=D0
       have k:x<=(D0 - 1) / -G↔0<D0+x*G:=by
        have:=@Int.le_ediv_iff_mul_le x (D0 - 1) (-G) (by omega)
        rw [Int.mul_neg] at this
        omega
       constructor
       · rintro ⟨h1,h2⟩
         have h2:x<=(if (D0 - 1) / -G<last then (D0 - 1) / -G else last):=h2
         split at h2<;>omega
       · rintro ⟨h1,h2,h3⟩
         refine ⟨h1,?_⟩
         show x<=(if (D0 - 1) / -G<last then (D0 - 1) / -G else last)
         split<;>omega
     · rename_i h'
       walk_at "g"
       refine ⟨_,_,_,_,_,_,_,_,_,_,rfl,⟨a1.mono (by decide),a2.mono (by decide),a3.mono (by decide)⟩,⟨b1.mono (by decide),b2.mono (by decide),b3.mono (by decide)⟩,⟨Bd.of (by decide) (by decide),hy.mono (by decide)⟩,?_⟩
       walk_at "g"
       walk_at "sp"
       · rename_i h2
         walk_at "g"
         refine hP _ _ fun x=>?_
         rw [lev x (by omega),h2]
         simp
       · rename_i h2
         walk_at "g"
         refine hP _ _ fun x=>?_
         rw [lev x (by omega)]
         constructor
         · rintro ⟨h3,h4⟩
           have:x<=first - 1:=h4
           omega
         · rintro ⟨_,_,z⟩
           exact absurd z h2
def hasL (t:T3)(w:Nat)(y:Int):List Int:=((List.range w).map fun (n:Nat)=>(n:Int)).filter fun x=>decide (t.has x y)
theorem KG {t:T3}{w:Nat}{x y:Int}:x∈hasL t w y↔0<=x/\x<w/\t.has x y:=by
 unfold hasL
 simp only [List.mem_filter,E8,B1x,E9]
 constructor
 · rintro ⟨⟨n,hn,rfl⟩,h⟩
   exact ⟨by omega,by omega,h⟩
 · rintro ⟨h1,h2,h3⟩
   exact ⟨⟨x.toNat,by omega,by omega⟩,h3⟩
theorem UW (t:T3)(w:Nat)(y:Int):(hasL t w y).Pairwise (· < ·):=by
 unfold hasL
 refine List.Pairwise.filter _ ?_
 rw [B2e]
 exact List.pairwise_lt_range.imp fun h=>by omega
theorem Q0b {x a:Int}{xs:List Int}(h:(x::xs).Pairwise (· < ·))(m:a∈x::xs):x<=a:=by
 rcases B7.mp m with e|e
 · omega
 · have:=(List.pairwise_cons.mp h).1 a e
   omega
theorem ZK:∀ {xs:List Int} {a:Int} (h:xs.Pairwise (· < ·)) (n:xs≠[]),a∈xs->a<=xs.getLast n
 | [x],a,_,_,m=>by
   simp at m
   simp [m]
 | x::y::r,a,h,_,m=>by
   have h':=List.pairwise_cons.mp h
   rw [List.getLast_cons (by simp)]
   rcases B7.mp m with e|e
   · have:=h'.1 _ (List.getLast_mem (by simp:y::r≠[]))
     omega
   · exact ZK h'.2 (by simp) e
def J1d (y:Int):List Int->List D
 | []=>[]
 | x::xs=>[t3 y x ((x::xs).getLast (by simp))]
def spN (t:T3)(w:Nat):Nat->List D
 | 0=>[]
 | y+1=>spN t w y++J1d y (hasL t w y)
theorem WO {t:T3}{w:Nat}{y f l:Int}(h:∀ x,(f<=x/\x<=l)↔(0<=x/\x<=(w:Int) - 1/\t.has x y)):J1d y (hasL t w y)=if f<=l then [t3 y f l] else []:=by
 have hm:∀ x,x∈hasL t w y↔(f<=x/\x<=l):=fun x=>by
  rw [KG,h x]
  constructor<;>rintro ⟨h1,h2,h3⟩<;>exact ⟨h1,by omega,h3⟩
 have hs:=UW t w y
 generalize hasL t w y=L at *
 cases L with
 | nil =>
   rw [if_neg]
   · rfl
   · intro q
     have:=(hm f).mpr ⟨by omega,q⟩
     cases this
 | cons x xs =>
   have q1:=(hm x).mp (B8 ..)
   have q2:=Q0b hs ((hm f).mpr ⟨by omega,by omega⟩)
   have q3:=(hm _).mp (List.getLast_mem (by simp:x::xs≠[]))
   have q4:=ZK hs (by simp) ((hm l).mpr ⟨by omega,by omega⟩)
   rw [if_pos (by omega)]
   show [t3 y x _]=_
   rw [show x=f by omega] at q3 q4 ⊢
   rw [show (f::xs).getLast (by simp)=l by omega]
theorem J3r (y:Int)(L:List Int):(J1d y L).length<=1:=by cases L<;>simp [J1d]
theorem QZ (t:T3)(w:Nat):∀ n:Nat,(spN t w n).length<=n
 | 0=>by simp [spN]
 | n+1=>by
   have:=QZ t w n
   have:=J3r n (hasL t w n)
   simp only [spN,T1]
   omega
theorem noLs_t3:∀ {xs:List D},(∀ d∈xs,∃ a b c:Int,d=t3 a b c)->UK xs=true
 | [],_=>rfl
 | x::xs,h=>by
   obtain ⟨a,b,c,rfl⟩:=h x (B8 ..)
   unfold UK
   rw [noLs_t3 fun d hd=>h d (L6 _ hd)]
   rfl
abbrev IX:Stmt:=top 50
theorem V5:FnScope ["face","board","a","b","c","way","wide","high","spans","y","span","one","other"] ["face","board"] (J6 IX):=⟨rfl,rfl,rfl,by decide +kernel,rfl,by decide +kernel,by decide +kernel⟩
def J0l:DSO:=fun ds P _=>∃ (t:T3) (w h:Nat),ds=[t.d,t2 w h]/\(w=16/\h=16)/\t.ok 260/\t.pos/\P (spN t w h)
structure C_spans_of (P:Program)(w:World)(K:Fg)(mg:Str->Option Value)(base:Heap)(c:Cs):Prop where
 check_board_:Callee P w K mg base (CX1 P w base) "check_board" 3 xl9 (J8 K BT J7k)
 sign_:Callee P w K mg base CX0 "sign" 1 xl5 (J8 K BT OS)
 turn_:Callee P w K mg base CX0 "turn" 2 ["face"] (J8 K BT ST)
 narrowed_:Callee P w K mg base CX0 "narrowed" 4 ["span","a","b","way"] (J8 K BT VQ)
theorem TZ {w:World} {f:Addr} (F:Fun K "spans_of" "spans_of" IX f fd) (Z:Bi mg) {c:Cs} (Y:Ex K mg base c) (G:C_spans_of P w K mg base c):FnOk P w K mg base (CX1 P w base) 5 f fd ["face","board"] (EM K BT J0l):=by
 refine F.okDXO V5 (fun ds PP Ed h=>?_) (fun cdv A outer s H E M bg ds PP Ed hr hE hS_=>?_)
 · obtain ⟨t,w,h,rfl,⟨ew,eh⟩,ok,pos,hP⟩:=h
   rfl
 · obtain ⟨t,w,h,rfl,⟨ew,eh⟩,ok,pos,hP⟩:=hS_
   refine ⟨_,(J4 (NW (DZ hE QW G.check_board_ hr.m rfl (J0 (jdv 1) J1)))
    (J4 (CK (BO [2,3,4]) (jdv 0) (PG.or (AK (n:=3) K (by rfl) (by rfl) (J7 (pg_name (i:=2) V5.nd rfl (by walk_at "o")) (J7 (pg_name (i:=3) V5.nd rfl (by walk_at "o")) (J7 (pg_name (i:=4) V5.nd rfl (by walk_at "o")) V9)))) (AL (n:=3) K (by rfl) (by rfl) (J7 (pg_name (i:=2) V5.nd rfl (by walk_at "o")) (J7 (pg_name (i:=3) V5.nd rfl (by walk_at "o")) (J7 (pg_name (i:=4) V5.nd rfl (by walk_at "o")) V9))))))
    (J4 (Z1 (i:=5) V5.nd rfl (by walk_at "o") (Q0 G.sign_ hr.m rfl (J0 (Q0 G.turn_ hr.m rfl (J0 (jdv 0) J1)) J1)))
    (J4 (Y6 (V7 DY BL (jdv 5) J3 (Q7 _)) (J5 (J5h J1)) V1)
    (J4 (CK (BO [6,7]) (jdv 1) (PG.or (AK (n:=2) K (by rfl) (by rfl) (J7 (pg_name (i:=6) V5.nd rfl (by walk_at "o")) (J7 (pg_name (i:=7) V5.nd rfl (by walk_at "o")) V9))) (AL (n:=2) K (by rfl) (by rfl) (J7 (pg_name (i:=6) V5.nd rfl (by walk_at "o")) (J7 (pg_name (i:=7) V5.nd rfl (by walk_at "o")) V9)))))
    (J4 (J5i (i:=8) V5.nd rfl (by walk_at "o") J1)
    (J4 (FR (V8 9) PassesOwn.leaving rfl (BN rfl Z.range_ (J0 (jdv 7) J1)) (pg_name (i:=9) V5.nd rfl (by walk_at "o")) (J4 (Z1 (i:=10) V5.nd rfl (by walk_at "o") (Q5 (J0 (jdv 9) (J0 J3 (J0 (V6 ET EV (jdv 6) J3) J1)))))
    (J4 (FR (BO [11,12]) PassesOwn.leaving rfl (Z7 (by rfl) (Q5 (J0 (Q5 (J0 (jdv 2) (J0 (jdv 3) J1))) (J0 (Q5 (J0 (jdv 3) (J0 (jdv 4) J1))) (J0 (Q5 (J0 (jdv 4) (J0 (jdv 2) J1))) J1))))) (PG.or (AK (n:=2) K (by rfl) (by rfl) (J7 (pg_name (i:=11) V5.nd rfl (by walk_at "o")) (J7 (pg_name (i:=12) V5.nd rfl (by walk_at "o")) V9))) (AL (n:=2) K (by rfl) (by rfl) (J7 (pg_name (i:=11) V5.nd rfl (by walk_at "o")) (J7 (pg_name (i:=12) V5.nd rfl (by walk_at "o")) V9)))) (J5 (Z1 (i:=10) V5.nd rfl (by walk_at "o") (Q0 G.narrowed_ hr.m rfl (J0 (jdv 10) (J0 (jdv 11) (J0 (jdv 12) (J0 (jdv 5) J1))))))) J2b)
    (J5 (Y6 (V7 NK AR (Q8 (Q6 K (by rfl)) V4 (jdv 10) J3 (fun _ _=>rfl)) (Q8 (Q6 K (by rfl)) V4 (jdv 10) J3 (fun _ _=>rfl)) (Q7 _)) (J5 (XQ (i:=8) (by rfl) rfl (by walk_at "v") (J0 (jdv 10) J1) (Q8g PySem.F.plainAttrs_list PySem.F.slot_list_append PySem.F.type_list_append J1o (pv 8) (JA.h (J0 (jdv 10) J1))))) V1)))))
    (J5 (J5g (jdv 8)))))))))),?_⟩
   have h1:1<=w:=by omega
   have h2:w<=16:=by omega
   have h3:1<=h:=by omega
   have h4:h<=16:=by omega
   walk_at "g"
   refine ⟨by rw [ew,eh];rfl,?_⟩
   walk_at "g"
   refine ⟨t,260,rfl,ok,by decide,?_⟩
   walk_at "g"
   refine ⟨_,rfl,?_⟩
   walk_at "g"
   have nil:sgn t.tn=0->∀ n,spN t w n=[]:=fun z n=>by
    induction n with
    | zero=>rfl
    | succ n ih =>
      have:hasL t w n=[]:=by
       cases e:hasL t w n with
       | nil=>rfl
       | cons x xs =>
         have:=(KG (t:=t) (w:=w) (y:=n)).mp (e▸B8 ..)
         exact absurd (TK.mp z) (T3.has_tn pos this.2.2)
      show spN t w n++J1d n (hasL t w n)=[]
      rw [ih,this]
      rfl
   walk_at "sp"
   · rename_i z
     walk_at "g"
     rw [nil z h] at hP
     exact hP
   · rename_i z
     have hw:sgn t.tn=1\/sgn t.tn = -1:=by have:=CP t.tn;omega
     have hway:=fun x y=>T3.has_way (px:=x) (py:=y) pos z
     generalize ew:sgn t.tn=way at *
     walk_at "g"
     refine And.intro ⟨by omega,by omega⟩ ?_
     refine ⟨fun i ρ=>∃ v9 v10 v11 v12,ρ=[some t.d,some (t2 w h),some (sp4 t.ax t.ay t.az t.aw),some (sp4 t.bx t.b_y t.bz t.bw),some (sp4 t.cx t.cy t.cz t.cw),some (.int way),some (.int w),some (.int h),some (.own (spN t w i)),v9,v10,v11,v12],⟨_,_,_,_,rfl⟩,?_,?_⟩
     · rintro i x ρ e ⟨v9,v10,v11,v12,rfl⟩
       obtain ⟨rfl,hi⟩:=BJ e
       clear e
       have hy:Bd 260 ((0:Int)+i):=Bd.of (by omega) (by omega)
       walk_at "g"
       walk_at "gr"
       refine ⟨_,_,_,_,_,_,_,_,_,_,_,_,rfl,hw,⟨ok.ax,ok.ay,ok.aw⟩,⟨ok.bx,ok.b_y,ok.bw⟩,hy,fun f1 l1 n1=>?_⟩
       walk_at "g"
       refine ⟨_,_,_,_,_,_,_,_,_,_,_,_,rfl,hw,⟨ok.bx,ok.b_y,ok.bw⟩,⟨ok.cx,ok.cy,ok.cw⟩,hy,fun f2 l2 n2=>?_⟩
       walk_at "g"
       refine ⟨_,_,_,_,_,_,_,_,_,_,_,_,rfl,hw,⟨ok.cx,ok.cy,ok.cw⟩,⟨ok.ax,ok.ay,ok.aw⟩,hy,fun f3 l3 n3=>?_⟩
       rw [B1i] at n1 n2 n3
       have hr:=WO (t:=t) (w:=w) (y:=i) (f:=f3) (l:=l3) fun x=>by
        rw [hway x i,n3 x]
        constructor
        · rintro ⟨q1,q2,q3⟩
          obtain ⟨q1,q2,q4⟩:=(n2 x).mp ⟨q1,q2⟩
          obtain ⟨q1,q2,q5⟩:=(n1 x).mp ⟨q1,q2⟩
          exact ⟨q1,q2,q5,q4,q3⟩
        · rintro ⟨q1,q2,q5,q4,q3⟩
          obtain ⟨q1,q2⟩:=(n1 x).mpr ⟨q1,q2,q5⟩
          obtain ⟨q1,q2⟩:=(n2 x).mpr ⟨q1,q2,q4⟩
          exact ⟨q1,q2,q3⟩
       have es:spN t w (i+1)=spN t w i++J1d i (hasL t w i):=rfl
       rw [es,hr]
       walk_at "g"
       walk_at "sp"
       · rename_i hle
         rw [if_pos hle]
         have hl:=QZ t w i
         walk_at "g"
         refine And.intro (by simp [L2.plain];omega) ?_
         walk_at "g"
         rw [B1i]
         exact ⟨_,_,_,_,rfl⟩
       · rename_i hle
         rw [if_neg hle,U9]
         walk_at "g"
         exact ⟨_,_,_,_,rfl⟩
     · rintro ρ ⟨v9,v10,v11,v12,rfl⟩
       rw [rangeD_len]
       walk_at "g"
       simpa using hP
def Q8q (r:R4):R4:=⟨r.x.fdiv (low [r.x,r.y,r.z] r.w),r.y.fdiv (low [r.x,r.y,r.z] r.w),r.z.fdiv (low [r.x,r.y,r.z] r.w),r.w.fdiv (low [r.x,r.y,r.z] r.w)⟩
theorem J9q {r:R4}{n:Nat}(h:r.w≠0)(ok:r.ok n):(Q8q r).ok n:=by
 obtain ⟨a,b,c,d,e1,e2,e3,e4,_,_,_,l1,l2,l3,l4⟩:=UM (x:=r.x) (y:=r.y) (z:=r.z) h
 refine ⟨?_,?_,?_,?_⟩
 · show (r.x.fdiv (low [r.x,r.y,r.z] r.w)).natAbs<2 ^ n;rw [e1];exact B0k l1 ok.x
 · show (r.y.fdiv (low [r.x,r.y,r.z] r.w)).natAbs<2 ^ n;rw [e2];exact B0k l2 ok.y
 · show (r.z.fdiv (low [r.x,r.y,r.z] r.w)).natAbs<2 ^ n;rw [e3];exact B0k l3 ok.z
 · show (r.w.fdiv (low [r.x,r.y,r.z] r.w)).natAbs<2 ^ n;rw [e4];exact B0k l4 ok.w
def T3.ra (t:T3):R4:=⟨t.ax,t.ay,t.az,t.aw⟩
def T3.rb (t:T3):R4:=⟨t.bx,t.b_y,t.bz,t.bw⟩
def T3.rc (t:T3):R4:=⟨t.cx,t.cy,t.cz,t.cw⟩
theorem T3.r_ok {t:T3}{m n:Nat}(ok:t.ok m)(k:m<=n):t.ra.ok n/\t.rb.ok n/\t.rc.ok n:=⟨⟨ok.ax.mono k,ok.ay.mono k,ok.az.mono k,ok.aw.mono k⟩,⟨ok.bx.mono k,ok.b_y.mono k,ok.bz.mono k,ok.bw.mono k⟩,⟨ok.cx.mono k,ok.cy.mono k,ok.cz.mono k,ok.cw.mono k⟩⟩
def OD (r:R4):Bool:=!(decide (r.x=0)&&(decide (r.y=0)&&decide (r.z=0)))
def GC:D->Bool
 | .tup [.int a,.int b,.int c,.int e]=>OD ⟨a,b,c,e⟩
 | _=>false
theorem Q0d {d:D}(h:wtD 4 d=false):GC d=false:=by
 unfold GC
 split
 · cases h
 · rfl
theorem J9h {r:R4}{n:Nat}(ok:r.ok n)(h:n<=1920):Y1 r.d=true:=by
 have q:∀ {i:Int},Bd n i->Y1 (.int i)=true:=fun {i} b=>by
  unfold Y1
  by_cases z:i.natAbs=0
  · rw [z];decide
  · exact T4 ((B1p z).mpr (b.mono h))
 unfold Y1 EU
 rw [q ok.x]
 unfold EU
 rw [q ok.y]
 unfold EU
 rw [q ok.z]
 unfold EU
 rw [q ok.w]
 rfl
abbrev LD:Stmt:=top 39
theorem WJ:FnScope xl9 xl9 (J6 LD):=⟨rfl,rfl,rfl,by decide +kernel,rfl,by decide +kernel,by decide +kernel⟩
def OT:DSp:=fun ds P _=>∃ d:D,ds=[d]/\Y1 d=true/\P (.bl (GC d))
structure C_is_flat (P:Program)(w:World)(K:Fg)(mg:Str->Option Value)(base:Heap)(c:Cs):Prop where
 is_whole_tuple_:Callee P w K mg base CX0 "is_whole_tuple" 2 HJ (J8 K BT IE)
theorem XC {w:World} {f:Addr} (F:Fun K "is_flat" "is_flat" LD f fd) (Z:Bi mg) {c:Cs} (Y:Ex K mg base c) (G:C_is_flat P w K mg base c):FnOk P w K mg base CX0 3 f fd xl9 (J8 K BT OT):=by
 refine F.okD WJ (fun ds PP Ed h=>?_) (fun cdv A outer s H E M bg ds PP Ed hr hS_=>?_)
 · obtain ⟨d,rfl,hd,hP⟩:=h
   rfl
 · obtain ⟨d,rfl,hd,hP⟩:=hS_
   refine ⟨_,(J5 (Q4 (AH (Q0 G.is_whole_tuple_ hr.m rfl (J0 (jdv 0) (J0 J3 J1))) (BZ (Z5 (Q3z K (by rfl) hr.units) GW (BY (GH K (by rfl)) (jdv 0) DF (DC J3)) (Q5 (J0 J3 (J0 J3 (J0 J3 J1)))) (Q7 _)))))),?_⟩
   walk_at "g"
   refine ⟨by show (Z6 d&&true)=true;rw [Z3 hd];rfl,d,4,rfl,hd,by decide,?_⟩
   cases hw:wtD 4 d
   · rw [Q0d hw] at hP
     walk_at "g"
     exact hP
   · obtain ⟨x,y,z,w',rfl⟩:=wt4 hw
     walk_at "g"
     repeat (refine And.intro (by intro h;simp [HT.sIx] at h;done) ?_;walk_at "g")
     refine ⟨.tuple [.int x,.int y,.int z],.tuple [.int 0,.int 0,.int 0],rfl,rfl,M7 (Nat.min_le_right _ _) (by decide),?_⟩
     have e:PyData.eqv (.tuple [.int x,.int y,.int z]) (.tuple [.int 0,.int 0,.int 0]) = !GC (sp4 x y z w'):=by
      by_cases h1:x=0<;>by_cases h2:y=0<;>by_cases h3:z=0<;>simp [PyData.eqv,PyData.eqvAll,GC,OD,h1,h2,h3]
     rw [e]
     cases hl:GC (sp4 x y z w')<;>rw [hl] at hP<;>exact hP
abbrev GN:Stmt:=top 40
theorem OY:FnScope xl9 xl9 (J6 GN):=⟨rfl,rfl,rfl,by decide +kernel,rfl,by decide +kernel,by decide +kernel⟩
def J7j:DSp:=fun ds P _=>∃ r:R4,ds=[r.d]/\Y1 r.d=true/\OD r=true/\P .non
structure C_check_flat (P:Program)(w:World)(K:Fg)(mg:Str->Option Value)(base:Heap)(c:Cs):Prop where
 is_flat_:Callee P w K mg base CX0 "is_flat" 3 xl9 (J8 K BT OT)
theorem PB {w:World} {f:Addr} (F:Fun K "check_flat" "check_flat" GN f fd) (Z:Bi mg) {c:Cs} (Y:Ex K mg base c) (G:C_check_flat P w K mg base c):FnOk P w K mg base (CX1 P w base) 4 f fd xl9 (J8 K BT J7j):=by
 refine F.okDX OY (fun ds PP Ed h=>?_) (fun cdv A outer s H E M bg ds PP Ed hr hE hS_=>?_)
 · obtain ⟨r,rfl,hd,hf,hP⟩:=h
   rfl
 · obtain ⟨r,rfl,hd,hf,hP⟩:=hS_
   refine ⟨_,(J5 (Y6 (Y8 (V0 (by rfl) (Q0 G.is_flat_ hr.m rfl (J0 (jdv 0) J1)) (fun _=>rfl))) (J5 (CT hE (CS Y.o_NoFlat rfl))) V1)),?_⟩
   walk_at "g"
   refine ⟨r.d,rfl,hd,?_⟩
   rw [show GC r.d=true from hf]
   walk_at "g"
   exact hP
abbrev RH:Stmt:=top 41
theorem J3p:FnScope ["flat","spot"] ["flat","spot"] (J6 RH):=⟨rfl,rfl,rfl,by decide +kernel,rfl,by decide +kernel,by decide +kernel⟩
def SR:DSp:=fun ds P _=>∃ (fl s:R4) (n:Nat),ds=[fl.d,s.d]/\(fl.ok 260/\OD fl=true)/\s.ok n/\260<=n/\n<=4000/\P (.int (dot4 fl s))
structure C_worth (P:Program)(w:World)(K:Fg)(mg:Str->Option Value)(base:Heap)(c:Cs):Prop where
 check_flat_:Callee P w K mg base (CX1 P w base) "check_flat" 4 xl9 (J8 K BT J7j)
 products_added_:Callee P w K mg base CX0 "products_added" 1 xl4 (J8 K BT SV)
theorem J4q {w:World} {f:Addr} (F:Fun K "worth" "worth" RH f fd) (Z:Bi mg) {c:Cs} (Y:Ex K mg base c) (G:C_worth P w K mg base c):FnOk P w K mg base (CX1 P w base) 5 f fd ["flat","spot"] (J8 K BT SR):=by
 refine F.okDX J3p (fun ds PP Ed h=>?_) (fun cdv A outer s H E M bg ds PP Ed hr hE hS_=>?_)
 · obtain ⟨fl,r,n,rfl,⟨fo,hf⟩,so,hn,hn2,hP⟩:=h
   rfl
 · obtain ⟨fl,r,n,rfl,⟨fo,hf⟩,so,hn,hn2,hP⟩:=hS_
   refine ⟨_,(J4 (NW (DZ hE QW G.check_flat_ hr.m rfl (J0 (jdv 0) J1)))
    (J5 (Q4 (Q0 G.products_added_ hr.m rfl (J0 (jdv 0) (J0 (jdv 1) J1)))))),?_⟩
   walk_at "g"
   refine ⟨fl,rfl,J9h fo (by decide),hf,?_⟩
   walk_at "g"
   exact Or.inr ⟨fl,r,n,rfl,fo.mono hn,so,hn2,hP⟩
def Q5m (a b c d:R4):Int:=0+1*a.x*det b.y b.z b.w c.y c.z c.w d.y d.z d.w + -1*a.y*det b.x b.z b.w c.x c.z c.w d.x d.z d.w + - -1*a.z*det b.x b.y b.w c.x c.y c.w d.x d.y d.w + - - -1*a.w*det b.x b.y b.z c.x c.y c.z d.x d.y d.z
abbrev AG:Stmt:=top 14
theorem Y3:FnScope ["a","b","c","d","told","factor","place","left"] ["a","b","c","d"] (J6 AG):=⟨rfl,rfl,rfl,by decide +kernel,rfl,by decide +kernel,by decide +kernel⟩
def J7g:DSp:=fun ds P _=>∃ (a b c d:R4),ds=[a.d,b.d,c.d,d.d]/\(a.ok 300/\b.ok 300/\c.ok 300/\d.ok 300)/\P (.int (Q5m a b c d))
structure C_determinant_of_four (P:Program)(w:World)(K:Fg)(mg:Str->Option Value)(base:Heap)(c:Cs):Prop where
 determinant_:Callee P w K mg base CX0 "determinant" 1 ["a","b","c"] (J8 K BT J0p)
abbrev J7w (P:Program) (w:World) (K:Fg) (mg:Str → Option Value) (base:Heap) (f:Addr) (cdv:Value) (A:Around) (outer:List Env) (s:Shared) (H:Hp) (E:XK):Cx:=BQ CX0 P w K mg base ["a","b","c","d","told","factor","place","left"] "determinant_of_four" (J6 AG) f cdv A outer s H E
theorem GU {w:World} {f:Addr} (F:Fun K "determinant_of_four" "determinant_of_four" AG f fd) (Z:Bi mg) {c:Cs} (Y:Ex K mg base c) (G:C_determinant_of_four P w K mg base c):FnOk P w K mg base CX0 2 f fd ["a","b","c","d"] (J8 K BT J7g):=by
 refine F.okD Y3 (fun ds PP Ed h=>?_) (fun cdv A outer s H E M bg ds PP Ed hr hS_=>?_)
 · obtain ⟨a,b,c,d,rfl,⟨ao,bo,co,eo⟩,hP⟩:=h
   rfl
 · obtain ⟨a,b,c,d,rfl,⟨ao,bo,co,eo⟩,hP⟩:=hS_
   refine ⟨_,(J4 (Z1 (i:=4) Y3.nd rfl (by walk_at "o") J3)
    (J4 (Z1 (i:=5) Y3.nd rfl (by walk_at "o") J3)
    (J4 (FR (V8 6) B0a rfl (BN rfl Z.range_ (J0 J3 J1)) (pg_name (i:=6) Y3.nd rfl (by walk_at "o")) (J4 (J5f (X:=(J7w P w K mg base f cdv A outer s H E).nox) false (i:=7) Y3.nd rfl (by walk_at "o") (V8 0) (IR (X:=(J7w P w K mg base f cdv A outer s H E).nox) (N':=["row","place"]) (map:=[none,some 6]) (by rfl) (by rfl) (by decide +kernel) (by rfl) ⟨⟨rfl,rfl,rfl,by walk_at "o"⟩,True.intro⟩ (gkeep_name rfl) fun cl0 C0 fp0 s0 H0=>⟨(pg_name (X:=(Q3 (J7w P w K mg base f cdv A outer s H E).nox ["row","place"] _ cl0 C0 fp0 s0 H0)) (i:=0) (Z4 ["row","place"] (by decide +kernel)) rfl (by walk_at "o")),Z8,(V6 (X:=(Q3 (J7w P w K mg base f cdv A outer s H E).nox ["row","place"] _ cl0 C0 fp0 s0 H0)) (NL K (by rfl)) NS (BY (GH K (by rfl)) (jdv 0) DF (DC (jdv 1))) (BY (GH K (by rfl)) (jdv 0) (DC (V6 EE EV (jdv 1) J3)) DF))⟩) (Z7 (by rfl) (Q5 (J0 (jdv 1) (J0 (jdv 2) (J0 (jdv 3) J1))))))
    (J4 (J9u (i:=4) Y3.nd rfl (by walk_at "o") (V6 Y4 DN (V6 Y4 DN (jdv 5) (Q8 (Q6 K (by rfl)) V4 (jdv 0) (jdv 6) (fun _ _=>rfl))) (Q0 G.determinant_ hr.m rfl (J0 (Q8 (Q6 K (by rfl)) V4 (jdv 7) J3 (fun _ _=>rfl)) (J0 (Q8 (Q6 K (by rfl)) V4 (jdv 7) J3 (fun _ _=>rfl)) (J0 (Q8 (Q6 K (by rfl)) V4 (jdv 7) J3 (fun _ _=>rfl)) J1))))) Q4u)
    (J5 (Z1 (i:=5) Y3.nd rfl (by walk_at "o") (IK (jdv 5)))))))
    (J5 (Q4 (jdv 4)))))),?_⟩
   have m:(300:Nat)<=2000:=by decide
   obtain ⟨a1,a2,a3,a4⟩:=ao
   obtain ⟨b1,b2,b3,b4⟩:=bo
   obtain ⟨c1,c2,c3,c4⟩:=co
   obtain ⟨e1,e2,e3,e4⟩:=eo
   have D0:=HB b2 b3 b4 c2 c3 c4 e2 e3 e4
   have D1:=HB b1 b3 b4 c1 c3 c4 e1 e3 e4
   have D2:=HB b1 b2 b4 c1 c2 c4 e1 e2 e4
   have D3:=HB b1 b2 b3 c1 c2 c3 e1 e2 e3
   have f1:Bd 3 1:=Bd.of (by decide) (by decide)
   have f2:Bd 3 (-1):=Bd.of (by decide) (by decide)
   have f3:Bd 3 (-(-1)):=Bd.of (by decide) (by decide)
   have f4:Bd 3 (-(-(-1))):=Bd.of (by decide) (by decide)
   walk_at "g"
   walk_at "gr"
   repeat (walk_at "gc")
   repeat (refine And.intro (by intro h;simp [HT.sIx] at h;done) ?_;walk_at "g")
   refine ⟨_,_,_,_,_,_,_,_,_,rfl,⟨Bd.mono (m:=300) (by assumption) m,Bd.mono (m:=300) (by assumption) m,Bd.mono (m:=300) (by assumption) m⟩,⟨Bd.mono (m:=300) (by assumption) m,Bd.mono (m:=300) (by assumption) m,Bd.mono (m:=300) (by assumption) m⟩,⟨Bd.mono (m:=300) (by assumption) m,Bd.mono (m:=300) (by assumption) m,Bd.mono (m:=300) (by assumption) m⟩,?_⟩
   walk_at "g"
   repeat (walk_at "gc")
   repeat (refine And.intro (by intro h;simp [HT.sIx] at h;done) ?_;walk_at "g")
   refine ⟨_,_,_,_,_,_,_,_,_,rfl,⟨Bd.mono (m:=300) (by assumption) m,Bd.mono (m:=300) (by assumption) m,Bd.mono (m:=300) (by assumption) m⟩,⟨Bd.mono (m:=300) (by assumption) m,Bd.mono (m:=300) (by assumption) m,Bd.mono (m:=300) (by assumption) m⟩,⟨Bd.mono (m:=300) (by assumption) m,Bd.mono (m:=300) (by assumption) m,Bd.mono (m:=300) (by assumption) m⟩,?_⟩
   walk_at "g"
   repeat (walk_at "gc")
   repeat (refine And.intro (by intro h;simp [HT.sIx] at h;done) ?_;walk_at "g")
   refine ⟨_,_,_,_,_,_,_,_,_,rfl,⟨Bd.mono (m:=300) (by assumption) m,Bd.mono (m:=300) (by assumption) m,Bd.mono (m:=300) (by assumption) m⟩,⟨Bd.mono (m:=300) (by assumption) m,Bd.mono (m:=300) (by assumption) m,Bd.mono (m:=300) (by assumption) m⟩,⟨Bd.mono (m:=300) (by assumption) m,Bd.mono (m:=300) (by assumption) m,Bd.mono (m:=300) (by assumption) m⟩,?_⟩
   walk_at "g"
   repeat (walk_at "gc")
   repeat (refine And.intro (by intro h;simp [HT.sIx] at h;done) ?_;walk_at "g")
   refine ⟨_,_,_,_,_,_,_,_,_,rfl,⟨Bd.mono (m:=300) (by assumption) m,Bd.mono (m:=300) (by assumption) m,Bd.mono (m:=300) (by assumption) m⟩,⟨Bd.mono (m:=300) (by assumption) m,Bd.mono (m:=300) (by assumption) m,Bd.mono (m:=300) (by assumption) m⟩,⟨Bd.mono (m:=300) (by assumption) m,Bd.mono (m:=300) (by assumption) m,Bd.mono (m:=300) (by assumption) m⟩,?_⟩
   walk_at "g"
   exact hP
def HK (t:T3)(fl s:R4):Bool:=decide (Q5m t.ra t.rb t.rc s≠0)||decide (dot4 fl s<0)
def r4of:D->R4
 | .tup [.int x,.int y,.int z,.int w]=>⟨x,y,z,w⟩
 | _=>⟨0,0,0,0⟩
def pcB (p t:T3)(fl:R4):Bool:=!(HK t fl p.ra||(HK t fl p.rb||HK t fl p.rc))&&decide (sgn p.tn∈[0,sgn t.tn])
abbrev GL:Stmt:=top 57
abbrev VX:List Str:=["piece","face","flat"]
theorem BG:FnScope ["piece","face","flat","a","b","c"] VX (J6 GL):=⟨rfl,rfl,rfl,by decide +kernel,rfl,by decide +kernel,by decide +kernel⟩
def J7d:DSp:=fun ds P _=>∃ (p t:T3) (fl:R4),ds=[p.d,t.d,fl.d]/\p.ok 260/\t.ok 260/\(fl.ok 260/\OD fl=true)/\P (.bl (pcB p t fl))
structure C_is_piece (P:Program)(w:World)(K:Fg)(mg:Str->Option Value)(base:Heap)(c:Cs):Prop where
 sign_:Callee P w K mg base CX0 "sign" 1 xl5 (J8 K BT OS)
 turn_:Callee P w K mg base CX0 "turn" 2 ["face"] (J8 K BT ST)
 determinant_of_four_:Callee P w K mg base CX0 "determinant_of_four" 2 ["a","b","c","d"] (J8 K BT J7g)
 worth_:Callee P w K mg base (CX1 P w base) "worth" 5 ["flat","spot"] (J8 K BT SR)
abbrev J7v (P:Program) (w:World) (K:Fg) (mg:Str → Option Value) (base:Heap) (f:Addr) (cdv:Value) (A:Around) (outer:List Env) (s:Shared) (H:Hp) (E:XK):Cx:=BQ CX0 P w K mg base ["piece","face","flat","a","b","c"] "is_piece" (J6 GL) f cdv A outer s H E
abbrev J7r:List Str:=["corner","a","b","c","flat"]
theorem UF {w:World} {f:Addr} (F:Fun K "is_piece" "is_piece" GL f fd) (Z:Bi mg) {c:Cs} (Y:Ex K mg base c) (G:C_is_piece P w K mg base c):FnOk P w K mg base CX0 6 f fd VX (J8 K BT J7d):=by
 refine F.okD BG (fun ds PP Ed h=>?_) (fun cdv A outer s H E M bg ds PP Ed hr hS_=>?_)
 · obtain ⟨p,t,fl,rfl,po,to,fo,hP⟩:=h
   rfl
 · obtain ⟨p,t,fl,rfl,po,to,fo,hP⟩:=hS_
   refine ⟨_,(J4 (CK (BO [3,4,5]) (jdv 1) (PG.or (AK (n:=3) K (by rfl) (by rfl) (J7 (pg_name (i:=3) BG.nd rfl (by walk_at "o")) (J7 (pg_name (i:=4) BG.nd rfl (by walk_at "o")) (J7 (pg_name (i:=5) BG.nd rfl (by walk_at "o")) V9)))) (AL (n:=3) K (by rfl) (by rfl) (J7 (pg_name (i:=3) BG.nd rfl (by walk_at "o")) (J7 (pg_name (i:=4) BG.nd rfl (by walk_at "o")) (J7 (pg_name (i:=5) BG.nd rfl (by walk_at "o")) V9))))))
    (J4 (Y6 (V0 (by rfl) (J9 (J2r K (by rfl) (by rfl)) EG rfl Z.any_ Q6r (J0 (AF (X:=(J7v P w K mg base f cdv A outer s H E).nox) (V8 0) (IR (X:=(J7v P w K mg base f cdv A outer s H E).nox) (N':=J7r) (map:=[none,some 3,some 4,some 5,some 2]) (by rfl) (by rfl) (by decide +kernel) (by rfl) ⟨⟨rfl,rfl,rfl,by walk_at "o"⟩,⟨⟨rfl,rfl,rfl,by walk_at "o"⟩,⟨⟨rfl,rfl,rfl,by walk_at "o"⟩,⟨⟨rfl,rfl,rfl,by walk_at "o"⟩,True.intro⟩⟩⟩⟩ (gkeep_name rfl) fun cl0 C0 fp0 s0 H0=>⟨(pg_name (X:=(Q3 (J7v P w K mg base f cdv A outer s H E).nox J7r _ cl0 C0 fp0 s0 H0)) (i:=0) (Z4 J7r (by decide +kernel)) rfl (by walk_at "o")),Z8,(J5k (X:=(Q3 (J7v P w K mg base f cdv A outer s H E).nox J7r _ cl0 C0 fp0 s0 H0)) (Z5 IT GV (Q0 G.determinant_of_four_ hr.m rfl (J0 (jdv 1) (J0 (jdv 2) (J0 (jdv 3) (J0 (jdv 0) J1))))) J3 (Q7 _)) (BZ (Z5 GA AR (DZ LR NJ G.worth_ hr.m rfl (J0 (jdv 4) (J0 (jdv 0) J1))) J3 (Q7 _))))⟩) (Z7 (by rfl) (jdv 0))) J1)) (fun _=>rfl)) (J5 (Q4 AT)) V1)
    (J5 (Q4 (Z5 (WX K (by rfl) hr.units) XG (Q0 G.sign_ hr.m rfl (J0 (Q0 G.turn_ hr.m rfl (J0 (jdv 0) J1)) J1)) (Q5 (J0 J3 (J0 (Q0 G.sign_ hr.m rfl (J0 (Q0 G.turn_ hr.m rfl (J0 (jdv 1) J1)) J1)) J1))) (by with_unfolding_all rfl)))))),?_⟩
   obtain ⟨pa,pb,pc⟩:=T3.r_ok po (show 260<=300 by decide)
   obtain ⟨ta,tb,tc⟩:=T3.r_ok to (show 260<=300 by decide)
   walk_at "g"
   refine CG (fun x=>.bl (HK t fl (r4of x))) (fun x Q hx hQ=>?_) (fun _ _=>rfl) ?_
   · obtain ⟨r,rfl,ro⟩:∃ r:R4,x=r.d/\r.ok 300:=by
      simp only [B7,M8,W3] at hx
      rcases hx with rfl|rfl|rfl
      · exact ⟨p.ra,rfl,pa⟩
      · exact ⟨p.rb,rfl,pb⟩
      · exact ⟨p.rc,rfl,pc⟩
     have hQ:Q (.bl (HK t fl r)):=hQ
     unfold HK at hQ
     clear hx
     walk_at "g"
     refine ⟨t.ra,t.rb,t.rc,r,rfl,⟨ta,tb,tc,ro⟩,?_⟩
     walk_at "g"
     by_cases h1:Q5m t.ra t.rb t.rc r=0
     case neg =>
      refine IfP.t (by simpa using h1) ?_
      rw [T4 h1,Bool.true_or] at hQ
      exact hQ
     refine IfP.f (by simpa using h1) ?_
     rw [R5 (fun z=>z h1),Bool.false_or] at hQ
     walk_at "g"
     refine ⟨fl,r,300,rfl,fo,ro,by decide,by decide,?_⟩
     walk_at "g"
     exact hQ
   walk_at "g"
   have hP:PP (.bl (!(HK t fl p.ra||(HK t fl p.rb||HK t fl p.rc))&&decide (sgn p.tn∈[0,sgn t.tn]))):=hP
   cases hb:(HK t fl p.ra||(HK t fl p.rb||HK t fl p.rc))
   case true =>
    refine IfP.t (by show (HK t fl p.ra||(HK t fl p.rb||(HK t fl p.rc||false)))=true;rw [Bool.or_false];exact hb) ?_
    rw [hb] at hP
    walk_at "g"
    exact hP
   refine IfP.f (by show (HK t fl p.ra||(HK t fl p.rb||(HK t fl p.rc||false)))=false;rw [Bool.or_false];exact hb) ?_
   rw [hb,Bool.not_false,U4] at hP
   walk_at "g"
   refine ⟨p,260,rfl,po,by decide,?_⟩
   walk_at "g"
   refine ⟨_,rfl,?_⟩
   walk_at "g"
   refine ⟨t,260,rfl,to,by decide,?_⟩
   walk_at "g"
   refine ⟨_,rfl,?_⟩
   walk_at "g"
   refine UV (ns:=[0,sgn t.tn]) (.inl rfl) ?_
   rw [R1]
   exact hP
def HA (y f l:Int):List (List Int):=(List.range (l+1 - f).toNat).map fun (k:Nat)=>[f+(k:Int),y]
def HE:D->List (List Int)
 | .tup [.int y,.int f,.int l]=>HA y f l
 | _=>[]
def Q0n (t:T3):List (List Int):=(spN t 16 16).flatMap HE
def dotL (ps:List T3):List (List Int):=ps.flatMap Q0n
theorem OC {α β:Type}{g:α->List β}{m:Nat}:∀ {l:List α},(∀ a∈l,(g a).length<=m)->(l.flatMap g).length<=m*l.length
 | [],_=>W1 _
 | a::l,h=>by
   have h1:=h a (by simp)
   have h2:=OC (l:=l) fun b hb=>h b (by simp [hb])
   rw [List.flatMap_cons,T1,W5,Nat.mul_succ]
   omega
theorem QG {α β:Type}{g:α->List β}{l:List α}{i:Nat}{a:α}(e:l[i]?=some a):(l.take (i+1)).flatMap g=(l.take i).flatMap g++g a:=by
 rw [D4,e,B0j,B0h]
 simp
theorem WD {t:T3}{d:D}:∀ {n:Nat},d∈spN t 16 n->∃ y f l:Int,d=t3 y f l/\0<=f/\l<=15/\f<=15/\0<=l
 | 0,h=>by cases h
 | n+1,h=>by
   rcases U0.mp h with h|h
   · exact WD h
   · cases e:hasL t 16 n with
     | nil=>rw [e] at h;cases h
     | cons x xs =>
       rw [e] at h
       have m1:=KG.mp (e▸B8 ..:x∈hasL t 16 n)
       have m2:=KG.mp (show (x::xs).getLast (by simp)∈hasL t 16 n by rw [e];exact List.getLast_mem (by simp))
       refine ⟨(n:Int),x,(x::xs).getLast (by simp),T5.mp h,m1.1,by omega,by omega,m2.1⟩
theorem OG {y f l:Int}(h0:0<=f)(h1:l<=15):(HA y f l).length<=16:=by
 unfold HA
 rw [L7,List.length_range]
 omega
theorem VC (t:T3):(Q0n t).length<=256:=by
 have h1:=OC (g:=HE) (m:=16) (l:=spN t 16 16) fun d h=>by
  obtain ⟨y,f,l,rfl,h0,h1,_⟩:=WD h
  exact OG h0 h1
 have h2:=QZ t 16 16
 show ((spN t 16 16).flatMap HE).length<=256
 omega
theorem J6c (ps:List T3):(dotL ps).length<=256*ps.length:=OC fun t _=>VC t
abbrev GM:Stmt:=top 58
theorem AC:FnScope ["pieces","counts","piece","y","first","last","x"] ["pieces"] (J6 GM):=⟨rfl,rfl,rfl,by decide +kernel,rfl,by decide +kernel,by decide +kernel⟩
def J7h:DSp:=fun ds P _=>∃ ps:List T3,ds=[.lst (ps.map T3.d)]/\(∀ t∈ps,t.ok 260/\t.pos)/\ps.length<=3/\∀ t ks xs,Cnt (dotL ps) ks xs->P (.dct t ks xs)
structure C_dot_counts (P:Program)(w:World)(K:Fg)(mg:Str->Option Value)(base:Heap)(c:Cs):Prop where
 spans_of_:Callee P w K mg base (CX1 P w base) "spans_of" 5 ["face","board"] (EM K BT J0l)
theorem OZ {w:World} {f:Addr} (F:Fun K "dot_counts" "dot_counts" GM f fd) (Z:Bi mg) {c:Cs} (Y:Ex K mg base c) (G:C_dot_counts P w K mg base c):FnOk P w K mg base CX0 6 f fd ["pieces"] (J8 K BT J7h):=by
 refine F.okD AC (fun ds PP Ed h=>?_) (fun cdv A outer s H E M bg ds PP Ed hr hS_=>?_)
 · obtain ⟨ps,rfl,hok,hl,hP⟩:=h
   rfl
 · obtain ⟨ps,rfl,hok,hl,hP⟩:=hS_
   refine ⟨_,(J4 (J1u (i:=1) AC.nd rfl (by walk_at "o"))
    (J4 (FR (V8 2) B0a rfl (Z7 (by rfl) (jdv 0)) (pg_name (i:=2) AC.nd rfl (by walk_at "o")) (J5 (FR (BO [3,4,5]) B0a rfl (Z7 (by rfl) (J1w LR NJ G.spans_of_ hr.m rfl (J0 (jdv 2) (J0 (Q5 (J0 (CA rfl Z.LONGEST_) (J0 (CA rfl Z.LONGEST_) J1))) J1)))) (PG.or (AK (n:=3) K (by rfl) (by rfl) (J7 (pg_name (i:=3) AC.nd rfl (by walk_at "o")) (J7 (pg_name (i:=4) AC.nd rfl (by walk_at "o")) (J7 (pg_name (i:=5) AC.nd rfl (by walk_at "o")) V9)))) (AL (n:=3) K (by rfl) (by rfl) (J7 (pg_name (i:=3) AC.nd rfl (by walk_at "o")) (J7 (pg_name (i:=4) AC.nd rfl (by walk_at "o")) (J7 (pg_name (i:=5) AC.nd rfl (by walk_at "o")) V9))))) (J5 (FR (V8 6) B0a rfl (XR rfl Z.range_ (J0 (jdv 4) (J0 (V6 EE EV (jdv 5) J3) J1))) (pg_name (i:=6) AC.nd rfl (by walk_at "o")) (J5 (J5e (i:=1) (by rfl) (V6 EE EV (US (i:=1) (by rfl) hr.units (Q5 (J0 (jdv 6) (J0 (jdv 3) J1))) J3 rfl (by walk_at "v") ⟨rfl,rfl,rfl,rfl⟩) J3) (WT (pv 1) (JE.h (Q5 (J0 (jdv 6) (J0 (jdv 3) J1)))) (J8i K (by rfl) hr.units)))))))))
    (J1t 1 (J5 (Q4 (jdv 1)))))),?_⟩
   walk_at "g"
   intro a t
   walk_at "g"
   refine ⟨fun i ρ=>∃ a t ks xs v2 v3 v4 v5 v6,ρ=[some (.lst (ps.map T3.d)),some (dcg K a t ks xs),v2,v3,v4,v5,v6]/\Cnt (dotL (ps.take i)) ks xs,⟨a,t,[],[],_,_,_,_,_,rfl,Cnt.nil⟩,?_,?_⟩
   · rintro i x ρ e ⟨a,t,ks,xs,v2,v3,v4,v5,v6,rfl,hc⟩
     rw [M9] at e
     obtain ⟨p,ep,rfl⟩:=M6.mp e
     have hi:i<ps.length:=(M1.mp ep).1
     obtain ⟨po,pp⟩:=hok p (R6 ep)
     have hz:(dotL (ps.take i)).length<=512:=by have:=J6c (ps.take i);rw [B0s] at this;omega
     rw [show dotL (ps.take (i+1))=dotL (ps.take i)++Q0n p from QG ep]
     generalize dotL (ps.take i)=L at *
     clear e
     walk_at "g"
     refine ⟨p,16,16,rfl,⟨rfl,rfl⟩,po,pp,?_⟩
     have hsp:=fun {d}=>@WD p d 16
     unfold Q0n
     have hz2:((spN p 16 16).flatMap HE).length<=256:=VC p
     generalize spN p 16 16=S at *
     walk_at "g"
     refine And.intro (noLs_t3 fun d h=>(by obtain ⟨y,f,l,e,_⟩:=hsp h;exact ⟨y,f,l,e⟩)) ?_
     walk_at "g"
     refine ⟨fun j ρ=>∃ a t ks xs v3 v4 v5 v6,ρ=[some (.lst (ps.map T3.d)),some (dcg K a t ks xs),some p.d,v3,v4,v5,v6]/\Cnt (L++(S.take j).flatMap HE) ks xs,⟨a,t,ks,xs,_,_,_,_,rfl,by rw [List.take_zero,List.flatMap_nil,U9];exact hc⟩,?_,?_⟩
     · rintro j x ρ e ⟨a,t,ks,xs,v3,v4,v5,v6,rfl,hc⟩
       have hj:=(M1.mp e).1
       have hz3:((S.take (j+1)).flatMap HE).length<=256:=by
        have:S.flatMap HE=(S.take (j+1)).flatMap HE++(S.drop (j+1)).flatMap HE:=by rw [<- B0h,List.take_append_drop]
        rw [this,T1] at hz2
        omega
       rw [QG e] at hz3 ⊢
       obtain ⟨y,f_,l,rfl,f0,l1,f1,l0⟩:=hsp (R6 e)
       rw [<- B2f]
       rw [T1] at hz3
       have hz4:(L++(S.take j).flatMap HE).length<=768:=by rw [T1];omega
       generalize L++(S.take j).flatMap HE=L2 at *
       have hrow:=OG (y:=y) f0 l1
       clear e hz3
       show _
       rw [show HE (t3 y f_ l)=HA y f_ l from rfl]
       walk_at "g"
       refine And.intro ⟨by omega,by omega,by omega,by omega⟩ ?_
       refine ⟨fun k ρ=>∃ a t ks xs v6,ρ=[some (.lst (ps.map T3.d)),some (dcg K a t ks xs),some p.d,some (.int y),some (.int f_),some (.int l),v6]/\Cnt (L2++(HA y f_ l).take k) ks xs,⟨a,t,ks,xs,_,rfl,by rw [List.take_zero,U9];exact hc⟩,?_,?_⟩
       · rintro k x ρ e ⟨a,t,ks,xs,v6,rfl,hc⟩
         obtain ⟨rfl,hk⟩:=BJ e
         have er:(HA y f_ l)[k]?=some [f_+(k:Int),y]:=by
          unfold HA
          rw [M9,List.getElem?_range (by omega)]
          rfl
         rw [D4,er,B0j,<- B2f]
         have hz5:ks.length<1000:=by
          have:=hc.small
          rw [T1,B0s] at this
          omega
         generalize L2++(HA y f_ l).take k=L' at *
         clear e
         walk_at "g"
         refine ⟨a,t,ks,xs,rfl,?_⟩
         walk_at "g"
         refine ⟨_,t,ks,xs,rfl,.inr ⟨a,rfl⟩,?_⟩
         walk_at "g"
         refine ⟨[f_+(k:Int),y],rfl,?_⟩
         walk_at "g"
         rw [hc.getD]
         walk_at "g"
         refine ⟨[f_+(k:Int),y],rfl,hz5,fun t'=>?_⟩
         walk_at "g"
         exact ⟨a,t',_,_,_,rfl,hc.add _⟩
       · rintro ρ ⟨a,t,ks,xs,v6,rfl,hc⟩
         rw [B0l (by rw [rangeD_len];unfold HA;rw [L7,List.length_range];exact B6 _)] at hc
         exact ⟨a,t,ks,xs,_,_,_,_,rfl,hc⟩
     · rintro ρ ⟨a,t,ks,xs,v3,v4,v5,v6,rfl,hc⟩
       rw [B2l] at hc
       exact ⟨a,t,ks,xs,_,_,_,_,_,rfl,hc⟩
   · rintro ρ ⟨a,t,ks,xs,v2,v3,v4,v5,v6,rfl,hc⟩
     rw [L7,B2l] at hc
     walk_at "g"
     exact hP t ks xs hc
def plR (px py a b:Int):R4:=Q8q ⟨px*b,py*b,a,b⟩
def T3.pl (t:T3)(px py:Int):R4:=plR px py (t.top px py*sgn t.tn) (IS t.tn)
theorem Q8d {t:T3}{px py:Int}(ok:t.ok 260)(hx:Bd 260 px)(hy:Bd 260 py)(h:t.tn≠0):(t.pl px py).ok 1400:=by
 obtain ⟨d1,d2⟩:=OH ok hx hy
 exact J9q (J0j h) ⟨(Bd.mul hx d2).mono (by decide),(Bd.mul hy d2).mono (by decide),d1.mono (by decide),d2.mono (by decide)⟩
def alw (t:T3)(fl:R4)(px py:Int):List Int:=if t.has px py then (if dot4 fl (t.pl px py)=0 then [0,1] else if 0<dot4 fl (t.pl px py) then [1] else [0]) else [0]
abbrev IZ:Stmt:=top 47
theorem DX:FnScope ["face","dot","top","bottom"] xl7 (J6 IZ):=⟨rfl,rfl,rfl,by decide +kernel,rfl,by decide +kernel,by decide +kernel⟩
def J0m:DSp:=fun ds P _=>∃ (t:T3) (px py:Int),ds=[t.d,t2 px py]/\t.ok 260/\Bd 260 px/\Bd 260 py/\t.tn≠0/\P (t.pl px py).d
structure C_place_at (P:Program)(w:World)(K:Fg)(mg:Str->Option Value)(base:Heap)(c:Cs):Prop where
 unreduced_depth_:Callee P w K mg base (CX1 P w base) "unreduced_depth" 4 xl7 (J8 K BT (Q6y c))
 lowest_terms_:Callee P w K mg base CX0 "lowest_terms" 2 ["numbers"] (J8 K BT J7b)
theorem UB {w:World} {f:Addr} (F:Fun K "place_at" "place_at" IZ f fd) (Z:Bi mg) {c:Cs} (Y:Ex K mg base c) (G:C_place_at P w K mg base c):FnOk P w K mg base (CX1 P w base) 5 f fd xl7 (J8 K BT J0m):=by
 refine F.okDX DX (fun ds PP Ed h=>?_) (fun cdv A outer s H E M bg ds PP Ed hr hE hS_=>?_)
 · obtain ⟨t,px,py,rfl,ok,hx,hy,h0,hP⟩:=h
   rfl
 · obtain ⟨t,px,py,rfl,ok,hx,hy,h0,hP⟩:=hS_
   refine ⟨_,(J4 (CK (BO [2,3]) (DZ hE QW G.unreduced_depth_ hr.m rfl (J0 (jdv 0) (J0 (jdv 1) J1))) (PG.or (AK (n:=2) K (by rfl) (by rfl) (J7 (pg_name (i:=2) DX.nd rfl (by walk_at "o")) (J7 (pg_name (i:=3) DX.nd rfl (by walk_at "o")) V9))) (AL (n:=2) K (by rfl) (by rfl) (J7 (pg_name (i:=2) DX.nd rfl (by walk_at "o")) (J7 (pg_name (i:=3) DX.nd rfl (by walk_at "o")) V9)))))
    (J5 (Q4 (Q0 G.lowest_terms_ hr.m rfl (J0 (Q5 (J0 (V6 Y4 DN (Q8 (Q6 K (by rfl)) V4 (jdv 1) J3 (fun _ _=>rfl)) (jdv 3)) (J0 (V6 Y4 DN (Q8 (Q6 K (by rfl)) V4 (jdv 1) J3 (fun _ _=>rfl)) (jdv 3)) (J0 (jdv 2) (J0 (jdv 3) J1))))) J1))))),?_⟩
   obtain ⟨d1,d2⟩:=OH ok hx hy
   walk_at "g"
   refine ⟨t,px,py,260,rfl,ok,hx,hy,by decide,by decide,fun z=>absurd z h0,fun _=>?_⟩
   walk_at "g"
   refine ⟨[px*IS t.tn,py*IS t.tn,t.top px py*sgn t.tn],IS t.tn,1100,rfl,J0j h0,d2,by decide,by simp,?_⟩
   exact hP
abbrev DJ:Stmt:=top 59
theorem FK:FnScope ["face","flat","dot","here"] ["face","flat","dot"] (J6 DJ):=⟨rfl,rfl,rfl,by decide +kernel,rfl,by decide +kernel,by decide +kernel⟩
def J7l:DSp:=fun ds P _=>∃ (t:T3) (fl:R4) (px py:Int),ds=[t.d,fl.d,t2 px py]/\(t.ok 260/\t.pos)/\(fl.ok 260/\OD fl=true)/\Bd 260 px/\Bd 260 py/\P (DK (alw t fl px py))
structure C_counts_allowed (P:Program)(w:World)(K:Fg)(mg:Str->Option Value)(base:Heap)(c:Cs):Prop where
 worth_:Callee P w K mg base (CX1 P w base) "worth" 5 ["flat","spot"] (J8 K BT SR)
 has_dot_:Callee P w K mg base CX0 "has_dot" 4 xl7 (J8 K BT OU)
 place_at_:Callee P w K mg base (CX1 P w base) "place_at" 5 xl7 (J8 K BT J0m)
theorem KD {w:World} {f:Addr} (F:Fun K "counts_allowed" "counts_allowed" DJ f fd) (Z:Bi mg) {c:Cs} (Y:Ex K mg base c) (G:C_counts_allowed P w K mg base c):FnOk P w K mg base CX0 6 f fd ["face","flat","dot"] (J8 K BT J7l):=by
 refine F.okD FK (fun ds PP Ed h=>?_) (fun cdv A outer s H E M bg ds PP Ed hr hS_=>?_)
 · obtain ⟨t,fl,px,py,rfl,⟨ok,pos⟩,fo,hx,hy,hP⟩:=h
   rfl
 · obtain ⟨t,fl,px,py,rfl,⟨ok,pos⟩,fo,hx,hy,hP⟩:=hS_
   refine ⟨_,(J4 (Y6 (Y8 (V0 (by rfl) (Q0 G.has_dot_ hr.m rfl (J0 (jdv 0) (J0 (jdv 2) J1))) (fun _=>rfl))) (J5 (Q4 (Q5 (J0 J3 J1)))) V1)
    (J4 (Z1 (i:=3) FK.nd rfl (by walk_at "o") (DZ LR NJ G.worth_ hr.m rfl (J0 (jdv 1) (J0 (DZ LR NJ G.place_at_ hr.m rfl (J0 (jdv 0) (J0 (jdv 2) J1))) J1))))
    (J4 (Y6 (V7 DY BL (jdv 3) J3 (Q7 _)) (J5 (Q4 (Q5 (J0 J3 (J0 J3 J1))))) V1)
    (J5 (Q4 (J5l (V7 KA AR (jdv 3) J3 (Q7 _)) (Q5 (J0 J3 J1)) (Q5 (J0 J3 J1)))))))),?_⟩
   walk_at "g"
   refine ⟨t,px,py,260,rfl,ok,hx,hy,by decide,?_⟩
   unfold alw at hP
   walk_at "g"
   by_cases hh:t.has px py
   case neg =>
    rw [if_neg hh] at hP
    refine IfP.t (by simp [hh]) ?_
    walk_at "g"
    exact hP
   have t0:=T3.has_tn pos hh
   have po:=Q8d ok hx hy t0
   rw [if_pos hh] at hP
   refine IfP.f (by simp [hh]) ?_
   walk_at "g"
   refine ⟨t,px,py,rfl,ok,hx,hy,t0,?_⟩
   generalize t.pl px py=r at *
   walk_at "g"
   refine ⟨fl,r,1400,rfl,fo,po,by decide,by decide,?_⟩
   generalize dot4 fl r=W at *
   walk_at "g"
   by_cases h0:W=0
   · rw [if_pos h0] at hP
     refine IfP.t (by simp [h0]) ?_
     walk_at "g"
     exact hP
   rw [if_neg h0] at hP
   refine IfP.f (by simp [h0]) ?_
   walk_at "g"
   by_cases h1:0<W
   · rw [if_pos h1] at hP
     refine IfP.t (by simp [h1]) ?_
     walk_at "g"
     exact hP
   · rw [if_neg h1] at hP
     refine IfP.f (by simp [h1]) ?_
     walk_at "g"
     exact hP
def dxD (p:Nat×Nat):D:=t2 p.1 p.2
def dotsP (i:Nat):List (Nat×Nat):=(List.range i).flatMap fun x=>(List.range 16).map fun y=>(x,y)
theorem OF (i:Nat):dotsP (i+1)=dotsP i++(List.range 16).map fun y=>(i,y):=by
 unfold dotsP
 rw [show List.range (i+1)=List.range i++[i] from List.range_succ,B0h,List.flatMap_cons,List.flatMap_nil,U9]
theorem J6b:∀ {i:Nat} {p:Nat×Nat},p∈dotsP i->p.1<i/\p.2<16:=fun {i p} h=>by
 obtain ⟨x,hx,h⟩:=B2m.mp h
 obtain ⟨y,hy,rfl⟩:=E8.mp h
 exact ⟨B1x.mp hx,B1x.mp hy⟩
def inB (t:T3)(fl:R4)(ps:List T3)(p:Nat×Nat):Bool:=decide ((((dotL ps).count [(p.1:Int),(p.2:Int)]:Nat):Int)∈alw t fl p.1 p.2)
def Q6h (t:T3)(fl:R4)(ps:List T3):Bool:=ps.all (fun q=>pcB q t fl)&&(dotsP 16).all (inB t fl ps)
def lsI:D->List D
 | .lst xs=>xs
 | _=>[]
def chB (f g p:D):Bool:=faB f&&(GC g&&(afB p&&Q6h (t3of f) (r4of g) ((lsI p).map t3of)))
theorem ZC (n:Nat):(dotsP n).length=16*n:=by
 induction n with
 | zero=>rfl
 | succ n ih=>rw [OF,T1,ih,L7,List.length_range];omega
def WA:D->Nat×Nat
 | .tup [.int x,.int y]=>(x.toNat,y.toNat)
 | _=>(0,0)
theorem J3f (p:Nat×Nat):WA (dxD p)=p:=by
 show (((p.1:Nat):Int).toNat,((p.2:Nat):Int).toNat)=p
 rw [D5,D5]
theorem okIt1 {o:D}(h:L2.plain o=true):okIt [o]=true:=by
 unfold okIt
 rw [B0o,h]
 rfl
theorem J1e {d:D}(h:GC d=true)(hs:smD d=true):d=(r4of d).d/\(r4of d).ok 260/\OD (r4of d)=true:=by
 unfold GC at h
 split at h
 · rename_i a b c e
   have hs:=FH hs
   have q:∀ {i:Int},smD (.int i)=true->Bd 260 i:=fun h=>(RB h).mono (by decide)
   exact ⟨rfl,⟨q (hs (.int a) (by simp)),q (hs (.int b) (by simp)),q (hs (.int c) (by simp)),q (hs (.int e) (by simp))⟩,h⟩
 · cases h
theorem Q6u {d:D}(h:afB d=true):∃ xs,d=.lst xs/\xs.all faB=true:=by
 cases d<;>try (simp [afB] at h;done)
 exact ⟨_,rfl,h⟩
abbrev FN:Stmt:=top 60
theorem GK:FnScope ["face","flat","pieces","counts","dots"] ["face","flat","pieces"] (J6 FN):=⟨rfl,rfl,rfl,by decide +kernel,rfl,by decide +kernel,by decide +kernel⟩
def V0g:DSp:=fun ds P _=>∃ f g p:D,ds=[f,g,p]/\(Y1 f=true/\Y1 g=true/\Y1 p=true)/\(smD f=true/\smD g=true/\smD p=true)/\(∀ xs,p=.lst xs->xs.length<=3)/\P (.bl (chB f g p))
structure C_cut_holds (P:Program)(w:World)(K:Fg)(mg:Str->Option Value)(base:Heap)(c:Cs):Prop where
 dot_counts_:Callee P w K mg base CX0 "dot_counts" 6 ["pieces"] (J8 K BT J7h)
 are_faces_:Callee P w K mg base CX0 "are_faces" 4 xl9 (J8 K BT JQ)
 is_flat_:Callee P w K mg base CX0 "is_flat" 3 xl9 (J8 K BT OT)
 is_piece_:Callee P w K mg base CX0 "is_piece" 6 VX (J8 K BT J7d)
 counts_allowed_:Callee P w K mg base CX0 "counts_allowed" 6 ["face","flat","dot"] (J8 K BT J7l)
abbrev JV (P:Program) (w:World) (K:Fg) (mg:Str → Option Value) (base:Heap) (f:Addr) (cdv:Value) (A:Around) (outer:List Env) (s:Shared) (H:Hp) (E:XK):Cx:=BQ CX0 P w K mg base ["face","flat","pieces","counts","dots"] "cut_holds" (J6 FN) f cdv A outer s H E
abbrev J7q:List Str:=["dot","counts","face","flat"]
theorem RS {w:World} {f:Addr} (F:Fun K "cut_holds" "cut_holds" FN f fd) (Z:Bi mg) {c:Cs} (Y:Ex K mg base c) (G:C_cut_holds P w K mg base c):FnOk P w K mg base CX0 7 f fd ["face","flat","pieces"] (J8 K BT V0g):=by
 refine F.okD GK (fun ds PP Ed h=>?_) (fun cdv A outer s H E M bg ds PP Ed hr hS_=>?_)
 · obtain ⟨f_,g_,p,rfl,⟨of_,og,op⟩,⟨sf,sg,sp⟩,h3,hP⟩:=h
   rfl
 · obtain ⟨f_,g_,p,rfl,⟨of_,og,op⟩,⟨sf,sg,sp⟩,h3,hP⟩:=hS_
   refine ⟨_,(J4 (Y6 (DP (Y8 (V0 (by rfl) (Q0 G.are_faces_ hr.m rfl (J0 (AN (J0 (jdv 0) J1)) J1)) (fun _=>rfl))) (RX (Y8 (V0 (by rfl) (Q0 G.is_flat_ hr.m rfl (J0 (jdv 1) J1)) (fun _=>rfl))) (BX (Y8 (V0 (by rfl) (Q0 G.are_faces_ hr.m rfl (J0 (jdv 2) J1)) (fun _=>rfl)))))) (J5 (Q4 AT)) V1)
    (J4 (Y6 (Y8 (V0 (by rfl) (J9 (AU K (by rfl) (by rfl)) EG rfl Z.all_ EZ (J0 (AF (X:=(JV P w K mg base f cdv A outer s H E).nox) (V8 0) (IR (X:=(JV P w K mg base f cdv A outer s H E).nox) (N':=VX) (map:=[none,some 0,some 1]) (by rfl) (by rfl) (by decide +kernel) (by rfl) ⟨⟨rfl,rfl,rfl,by walk_at "o"⟩,⟨⟨rfl,rfl,rfl,by walk_at "o"⟩,True.intro⟩⟩ (gkeep_name rfl) fun cl0 C0 fp0 s0 H0=>⟨(pg_name (X:=(Q3 (JV P w K mg base f cdv A outer s H E).nox VX _ cl0 C0 fp0 s0 H0)) (i:=0) (Z4 VX (by decide +kernel)) rfl (by walk_at "o")),Z8,(Q0 (X:=(Q3 (JV P w K mg base f cdv A outer s H E).nox VX _ cl0 C0 fp0 s0 H0)) G.is_piece_ hr.m rfl (J0 (jdv 0) (J0 (jdv 1) (J0 (jdv 2) J1))))⟩) (Z7 (by rfl) (jdv 2))) J1)) (fun _=>rfl))) (J5 (Q4 AT)) V1)
    (J4 (Z1 (i:=3) GK.nd rfl (by walk_at "o") (Q0 G.dot_counts_ hr.m rfl (J0 (jdv 2) J1)))
    (J4 (XO (X:=(JV P w K mg base f cdv A outer s H E).nox) false (i:=4) GK.nd rfl (by walk_at "o") (V8 0) (V8 1) (VO (X:=(JV P w K mg base f cdv A outer s H E).nox) (N':=["x","y"]) (map:=[none,none]) (mp2:=[some 0,none]) (by rfl) (by rfl) (by decide +kernel) (by rfl) True.intro (gkeep_name rfl) (gkeep_name rfl) rfl rfl fun cl0 C0 fp0 s0 H0=>⟨(pg_name (X:=(Q3 (JV P w K mg base f cdv A outer s H E).nox ["x","y"] _ cl0 C0 fp0 s0 H0).nox) (i:=0) (Z4 ["x","y"] (by decide +kernel)) rfl (by walk_at "o")),(BN (X:=(Q3 (JV P w K mg base f cdv A outer s H E).nox ["x","y"] _ cl0 C0 fp0 s0 H0).nox) rfl Z.range_ (J0 (CA rfl Z.LONGEST_) J1)),(pg_name (X:=(Q3 (JV P w K mg base f cdv A outer s H E).nox ["x","y"] _ cl0 C0 fp0 s0 H0).nox) (i:=1) (Z4 ["x","y"] (by decide +kernel)) rfl (by walk_at "o")),Z8,(Q5 (X:=(Q3 (JV P w K mg base f cdv A outer s H E).nox ["x","y"] _ cl0 C0 fp0 s0 H0).nox) (J0 (jdv 0) (J0 (jdv 1) J1)))⟩) (BN rfl Z.range_ (J0 (CA rfl Z.LONGEST_) J1)))
    (J5 (Q4 (J9 (AU K (by rfl) (by rfl)) EG rfl Z.all_ EZ (J0 (AF (X:=(JV P w K mg base f cdv A outer s H E).nox) (V8 0) (IR (X:=(JV P w K mg base f cdv A outer s H E).nox) (N':=J7q) (map:=[none,some 3,some 0,some 1]) (by rfl) (by rfl) (by decide +kernel) (by rfl) ⟨⟨rfl,rfl,rfl,by walk_at "o"⟩,⟨⟨rfl,rfl,rfl,by walk_at "o"⟩,⟨⟨rfl,rfl,rfl,by walk_at "o"⟩,True.intro⟩⟩⟩ (gkeep_name rfl) fun cl0 C0 fp0 s0 H0=>⟨(pg_name (X:=(Q3 (JV P w K mg base f cdv A outer s H E).nox J7q _ cl0 C0 fp0 s0 H0)) (i:=0) (Z4 J7q (by decide +kernel)) rfl (by walk_at "o")),Z8,(Z5 (X:=(Q3 (JV P w K mg base f cdv A outer s H E).nox J7q _ cl0 C0 fp0 s0 H0)) (WX K (by rfl) hr.units) XG (US (i:=1) (by rfl) hr.units (jdv 0) J3 rfl (by walk_at "v") ⟨rfl,rfl,rfl,rfl⟩) (Q0 G.counts_allowed_ hr.m rfl (J0 (jdv 2) (J0 (jdv 3) (J0 (jdv 0) J1)))) (by with_unfolding_all rfl))⟩) (Z7 (by rfl) (jdv 4))) J1)))))))),?_⟩
   walk_at "g"
   refine And.intro (okIt1 (okRp_pl of_)) ?_
   walk_at "g"
   refine ⟨.lst [f_],rfl,by unfold Y1 EU;rw [of_];rfl,fun xs e=>(by cases e;show 1<=300;decide),?_⟩
   rw [show afB (.lst [f_])=faB f_ by show (faB f_&&true)=_;rw [B1n]]
   have hP:PP (.bl (faB f_&&(GC g_&&(afB p&&Q6h (t3of f_) (r4of g_) ((lsI p).map t3of))))):=hP
   cases hf:faB f_
   · rw [hf] at hP
     walk_at "g"
     exact hP
   rw [hf,U4] at hP
   walk_at "g"
   refine ⟨by show (Z6 g_&&true)=true;rw [Z3 og];rfl,g_,rfl,og,?_⟩
   cases hg:GC g_
   · rw [hg] at hP
     walk_at "g"
     exact hP
   rw [hg,U4] at hP
   walk_at "g"
   refine ⟨by show (Z6 p&&true)=true;rw [Z3 op];rfl,p,rfl,op,fun xs e=>M7 (h3 xs e) (by decide),?_⟩
   cases hp:afB p
   · rw [hp] at hP
     walk_at "g"
     exact hP
   rw [hp,U4] at hP
   obtain ⟨ef,fo,fp⟩:=J5t hf sf
   obtain ⟨eg,go_,gf⟩:=J1e hg sg
   obtain ⟨xs,rfl,hx⟩:=Q6u hp
   have l3:=h3 xs rfl
   obtain ⟨e1,e2⟩:=XT hx (YM sp)
   have hP:PP (.bl (Q6h (t3of f_) (r4of g_) (xs.map t3of))):=hP
   have lps:(xs.map t3of).length<=3:=by rw [L7];exact l3
   rw [<- ef,<- e1,eg]
   generalize xs.map t3of=ps at *
   generalize t3of f_=t at *
   generalize r4of g_=fl at *
   clear hf hg hp hx h3 of_ og op sf sg sp e1 ef eg l3
   have hP:PP (.bl (ps.all (fun q=>pcB q t fl)&&(dotsP 16).all (inB t fl ps))):=hP
   walk_at "g"
   refine And.intro (by rw [L7];omega) ?_
   refine CG (fun x=>.bl (pcB (t3of x) t fl)) (fun x Q hx hQ=>?_) (fun _ _=>rfl) ?_
   · obtain ⟨q,mq,rfl⟩:=E8.mp hx
     walk_at "g"
     exact ⟨q,t,fl,rfl,(e2 q mq).1,fo,⟨go_,gf⟩,hQ⟩
   rw [B0f]
   walk_at "g"
   rw [show ps.map ((fun x=>D.bl (pcB (t3of x) t fl))∘T3.d)=(ps.map T3.d).map fun x=>.bl (pcB (t3of x) t fl) by rw [B0f],FC fun x=>pcB (t3of x) t fl]
   walk_at "g"
   have ea:((ps.map T3.d).map fun x=>pcB (t3of x) t fl).all id=ps.all fun q=>pcB q t fl:=by rw [FD,B2r];rfl
   cases hpc:ps.all fun q=>pcB q t fl
   · refine IfP.t (by show (!((ps.map T3.d).map fun x=>pcB (t3of x) t fl).all id)=true;rw [ea,hpc];rfl) ?_
     rw [hpc] at hP
     walk_at "g"
     exact hP
   refine IfP.f (by show (!((ps.map T3.d).map fun x=>pcB (t3of x) t fl).all id)=false;rw [ea,hpc];rfl) ?_
   rw [hpc,U4] at hP
   walk_at "g"
   refine ⟨ps,rfl,e2,lps,fun tg ks vs hc=>?_⟩
   walk_at "g"
   refine ⟨fun i acc=>acc=(dotsP i).map dxD,rfl,?_,?_⟩
   · rintro i x acc e rfl
     obtain ⟨rfl,hi⟩:=BJ e
     clear e
     rw [B1i,OF,D7]
     have li:((dotsP i).map dxD).length<=256:=by rw [L7,ZC];have:i<16:=hi;omega
     walk_at "g"
     refine ⟨fun j acc=>acc=(dotsP i).map dxD++((List.range j).map fun y=>(i,y)).map dxD,by rw [show List.range 0=[] from rfl,B1h,B1h,U9],?_,?_⟩
     · rintro j x acc e rfl
       obtain ⟨rfl,hj⟩:=BJ e
       clear e
       rw [B1i,show List.range (j+1)=List.range j++[j] from List.range_succ,D7,D7,<- B2f]
       generalize (dotsP i).map dxD++((List.range j).map fun y=>(i,y)).map dxD=acc1
       walk_at "g"
       rfl
     · rintro acc rfl
       rfl
   · rintro acc rfl
     have eL:(dotsP (CC 0 (Int.toNat 16)).length)=dotsP 16:=rfl
     rw [eL]
     have lt:=fun p=>@J6b 16 p
     have l16:(dotsP 16).length<=256:=by rw [ZC];decide
     generalize dotsP 16=DD at *
     walk_at "g"
     refine And.intro (by rw [L7];omega) ?_
     refine CG (fun x=>.bl (inB t fl ps (WA x))) (fun x Q hx hQ=>?_) (fun _ _=>rfl) ?_
     · obtain ⟨q,mq,rfl⟩:=E8.mp hx
       have hQ:Q (.bl (inB t fl ps (WA (dxD q)))):=hQ
       rw [J3f] at hQ
       have:=lt q mq
       obtain ⟨q1,q2⟩:=q
       have hb1:Bd 260 (q1:Int):=Bd.of (by dsimp only at this;omega) (by dsimp only at this;omega)
       have hb2:Bd 260 (q2:Int):=Bd.of (by dsimp only at this;omega) (by dsimp only at this;omega)
       clear hx mq
       walk_at "g"
       refine ⟨_,tg,ks,vs,rfl,.inl rfl,?_⟩
       walk_at "g"
       refine ⟨[(q1:Int),(q2:Int)],rfl,?_⟩
       walk_at "g"
       rw [hc.getD]
       walk_at "g"
       refine ⟨t,fl,q1,q2,rfl,⟨fo,fp⟩,⟨go_,gf⟩,hb1,hb2,?_⟩
       walk_at "g"
       refine UV (.inl rfl) ?_
       rw [R1]
       exact hQ
     walk_at "g"
     rw [FC fun x=>inB t fl ps (WA x)]
     walk_at "g"
     show PP (.bl (((DD.map dxD).map fun x=>inB t fl ps (WA x)).all id))
     rw [FD,B2r,show ((fun x=>inB t fl ps (WA x))∘dxD)=inB t fl ps from funext fun q=>by show inB t fl ps (WA (dxD q))=_;rw [J3f]]
     exact hP
def isS (s:Str):D->Bool
 | .str x=>x==s
 | _=>false
theorem IP {w:D}{s:Str}{neg:Bool}{n:Nat}{P:D->Prop}(hw:Y1 w=true)(hf:Y2 n w=true)(hs:PyData.strOk s=true)(h:P (.bl (isS s w != neg))):EqG neg w (.str s) P:=by
 obtain ⟨p,e,_,_⟩:=KP n w hf
 refine ⟨p,.str s,e,by unfold Z0;rw [if_pos hs],by show min p.depth 0<=60;rw [Nat.min_zero];decide,?_⟩
 have:PyData.eqv p (.str s)=isS s w:=by
  cases w<;>(try (simp [Y1] at hw;done))
  case non=>cases e;rfl
  case bl=>cases e;simp [PyData.eqv,isS]
  case int=>cases e;simp [PyData.eqv,isS]
  case str x =>
   unfold Z0 at e
   split at e
   · cases e;simp [PyData.eqv,isS]
   · cases e
  case tup xs =>
   unfold Z0 at e
   obtain ⟨ps,_,rfl⟩:=M6.mp e
   simp [PyData.eqv,isS]
  case lst xs =>
   unfold Z0 at e
   obtain ⟨ps,_,rfl⟩:=M6.mp e
   simp [PyData.eqv,isS]
 rw [this]
 exact h
structure Ppr (d:D):Prop where
 ok:Y1 d=true
 fine:Y2 20 d=true
 w:wD d<=10000000
 sm:smD d=true
 l3:∀ xs,d=.tup xs->∀ x∈xs,∀ ys,x=.lst ys->ys.length<=3
def hoB:D->Bool
 | .tup [w,a,b,c]=>(isS "dot" w&&dhB a b c)||(isS "cut" w&&chB a b c)
 | .tup [w,a,b]=>isS "fellows" w&&fhB a b
 | _=>false
theorem LO {s:Str}{w:D}(h:isS s w=true):w=.str s:=by
 cases w<;>try (simp [isS] at h;done)
 rename_i x
 have:(x==s)=true:=h
 rw [eq_of_beq this]
theorem Q6f {x:D}{xs:List D}:L2.IQ (x::xs) (some 1) none=xs:=by
 unfold L2.IQ
 have e1:HT.sIx (x::xs).length 0 (some (1:Int))=1:=by
  rw [show HT.sIx (x::xs).length 0 (some (1:Int))=min 1 (x::xs).length from HT.sIx_nat (x::xs).length 0 1,W5]
  omega
 have e2:HT.sIx (x::xs).length (x::xs).length none=(x::xs).length:=rfl
 rw [e1,e2]
 show xs.take _=xs
 exact B0l (by rw [W5];omega)
abbrev RI:Stmt:=top 61
theorem NC:FnScope ["paper","word","rest"] ["paper"] (J6 RI):=⟨rfl,rfl,rfl,by decide +kernel,rfl,by decide +kernel,by decide +kernel⟩
def J0o:DSp:=fun ds P _=>∃ d:D,ds=[d]/\Ppr d/\P (.bl (hoB d))
structure C_holds (P:Program)(w:World)(K:Fg)(mg:Str->Option Value)(base:Heap)(c:Cs):Prop where
 dot_holds_:Callee P w K mg base CX0 "dot_holds" 6 J7s (J8 K BT V0f)
 fellows_hold_:Callee P w K mg base CX0 "fellows_hold" 6 ["body","pairs"] (J8 K BT V0e)
 cut_holds_:Callee P w K mg base CX0 "cut_holds" 7 ["face","flat","pieces"] (J8 K BT V0g)
theorem J4r {w:World} {f:Addr} (F:Fun K "holds" "holds" RI f fd) (Z:Bi mg) {c:Cs} (Y:Ex K mg base c) (G:C_holds P w K mg base c):FnOk P w K mg base CX0 8 f fd ["paper"] (J8 K BT J0o):=by
 refine F.okD NC (fun ds PP Ed h=>?_) (fun cdv A outer s H E M bg ds PP Ed hr hS_=>?_)
 · obtain ⟨d,rfl,hp,hP⟩:=h
   rfl
 · obtain ⟨d,rfl,hp,hP⟩:=hS_
   refine ⟨_,(J4 (Y6 (DP (Y8 (V0 (by rfl) (J9 (Y9 K (by rfl)) AD rfl Z.isinstance_ Y0 (J0 (jdv 0) (J0 (AO rfl Z.tuple_ CI) J1))) (fun _=>rfl))) (BX (V7 DY BL (J9 (V3 K (by rfl)) BA rfl Z.len_ AW (J0 (jdv 0) J1)) J3 (Q7 _)))) (J5 (Q4 AT)) V1)
    (J4 (Z1 (i:=1) NC.nd rfl (by walk_at "o") (Q8 (Q6 K (by rfl)) V4 (jdv 0) J3 (fun _ _=>rfl)))
    (J4 (Z1 (i:=2) NC.nd rfl (by walk_at "o") (BY (GH K (by rfl)) (jdv 0) (DC J3) DF))
    (J4 (Y6 (KI (V7 (HV K (by rfl) hr.units) GW (jdv 1) AS (Q7 _)) (HZ (V7 DY BL (J9 (V3 K (by rfl)) BA rfl Z.len_ AW (J0 (jdv 2) J1)) J3 (Q7 _)))) (J5 (Q4 (Q0 G.dot_holds_ hr.m rfl (J0 (Q8 (Q6 K (by rfl)) V4 (jdv 2) J3 (fun _ _=>rfl)) (J0 (Q8 (Q6 K (by rfl)) V4 (jdv 2) J3 (fun _ _=>rfl)) (J0 (Q8 (Q6 K (by rfl)) V4 (jdv 2) J3 (fun _ _=>rfl)) J1)))))) V1)
    (J4 (Y6 (KI (V7 (HV K (by rfl) hr.units) GW (jdv 1) AS (Q7 _)) (HZ (V7 DY BL (J9 (V3 K (by rfl)) BA rfl Z.len_ AW (J0 (jdv 2) J1)) J3 (Q7 _)))) (J5 (Q4 (Q0 G.fellows_hold_ hr.m rfl (J0 (Q8 (Q6 K (by rfl)) V4 (jdv 2) J3 (fun _ _=>rfl)) (J0 (Q8 (Q6 K (by rfl)) V4 (jdv 2) J3 (fun _ _=>rfl)) J1))))) V1)
    (J4 (Y6 (KI (V7 (HV K (by rfl) hr.units) GW (jdv 1) AS (Q7 _)) (HZ (V7 DY BL (J9 (V3 K (by rfl)) BA rfl Z.len_ AW (J0 (jdv 2) J1)) J3 (Q7 _)))) (J5 (Q4 (Q0 G.cut_holds_ hr.m rfl (J0 (Q8 (Q6 K (by rfl)) V4 (jdv 2) J3 (fun _ _=>rfl)) (J0 (Q8 (Q6 K (by rfl)) V4 (jdv 2) J3 (fun _ _=>rfl)) (J0 (Q8 (Q6 K (by rfl)) V4 (jdv 2) J3 (fun _ _=>rfl)) J1)))))) V1)
    (J5 (Q4 AT)))))))),?_⟩
   have hd:=hp.ok
   by_cases ht:∃ xs,d=.tup xs
   case neg =>
    have e0:PP (.bl false):=by
     have:hoB d=false:=by cases d<;>first|rfl|exact absurd ⟨_,rfl⟩ ht
     rw [this] at hP;exact hP
    clear hp hP
    cases d<;>(try (exact absurd ⟨_,rfl⟩ ht))<;>(try (simp [Y1] at hd;done))
    all_goals
     walk_at "g"
     refine ⟨false,by rfl,?_⟩
     walk_at "g"
     exact e0
   obtain ⟨xs,rfl⟩:=ht
   have ha:=GB hd
   walk_at "g"
   refine ⟨true,by rfl,?_⟩
   walk_at "g"
   cases xs with
   | nil =>
     refine IfP.t rfl ?_
     walk_at "g"
     exact hP
   | cons w xs =>
     have ow:=ha w (by simp)
     have fw:Y2 19 w=true:=by
      have:=hp.fine
      unfold Y2 BP at this
      exact (L1 _ _).mp this |>.1
     have hx:∀ d∈xs,Y1 d=true:=fun d h=>ha d (by simp [h])
     have hs:∀ d∈xs,smD d=true:=fun d h=>FH hp.sm d (by simp [h])
     have h3:∀ d∈xs,∀ ys,d=.lst ys->ys.length<=3:=fun d h=>hp.l3 _ rfl d (by simp [h])
     refine IfP.f (by simp;omega) ?_
     walk_at "g"
     rw [show atI (w::xs) 0=some w from FU (j:=0) rfl]
     refine And.intro (okRp_pl ow) ?_
     walk_at "g"
     refine And.intro (fun z=>by
      have:=z.1
      rw [show HT.sIx (w::xs).length 0 (some 1)=min 1 (w::xs).length from HT.sIx_nat (w::xs).length 0 1,W5] at this
      omega) ?_
     rw [Q6f]
     walk_at "g"
     have no:¬ (xs.length=3/\(isS "dot" w=true\/isS "cut" w=true))->¬ (xs.length=2/\isS "fellows" w=true)->PP (.bl false):=fun h h2=>by
      have:hoB (.tup (w::xs))=false:=by
       unfold hoB
       split
       · rename_i e
         cases e
         cases e1:isS "dot" w
         · cases e2:isS "cut" w
           · rfl
           · exact absurd ⟨rfl,.inr e2⟩ h
         · exact absurd ⟨rfl,.inl e1⟩ h
       · rename_i e
         cases e
         cases e1:isS "fellows" w
         · rfl
         · exact absurd ⟨rfl,e1⟩ h2
       · rfl
      rw [this] at hP
      exact hP
     refine IP ow fw (by decide +kernel) ?_
     rw [R1]
     cases e1:isS "dot" w
     case true =>
      obtain rfl:=LO e1
      walk_at "g"
      by_cases l3:xs.length=3
      · obtain ⟨a,b,e,rfl⟩:=J9r l3
        refine IfP.t rfl ?_
        walk_at "g"
        refine ⟨?_,a,b,e,rfl,⟨hx a (by simp),hx b (by simp),hx e (by simp)⟩,⟨hs a (by simp),hs b (by simp)⟩,fun ps z=>M7 (h3 a (by simp) ps z) (by decide),?_⟩
        · show (Z6 a&&(Z6 b&&(Z6 e&&true)))=true
          rw [Z3 (hx a (by simp)),Z3 (hx b (by simp)),Z3 (hx e (by simp))]
          rfl
        · have:hoB (.tup [.str "dot",a,b,e])=dhB a b e:=by
           show ((isS "dot" (.str "dot")&&dhB a b e)||(isS "cut" (.str "dot")&&chB a b e))=_
           rw [e1,show isS "cut" (.str "dot")=false by decide +kernel,U4,B2v,Bool.or_false]
          rw [this] at hP
          walk_at "g"
          exact hP
      refine IfP.f (by simp;omega) ?_
      have e0:=no (fun h=>l3 h.1) fun h=>absurd h.2 (by decide +kernel)
      walk_at "g"
      refine IP ow fw (by decide +kernel) ?_
      rw [R1,show isS "fellows" (.str "dot")=false by decide +kernel]
      walk_at "g"
      refine IP ow fw (by decide +kernel) ?_
      rw [R1,show isS "cut" (.str "dot")=false by decide +kernel]
      walk_at "g"
      exact e0
     walk_at "g"
     refine IP ow fw (by decide +kernel) ?_
     rw [R1]
     cases e2:isS "fellows" w
     case true =>
      obtain rfl:=LO e2
      walk_at "g"
      by_cases l2:xs.length=2
      · obtain ⟨b,e,rfl⟩:=J9s l2
        refine IfP.t rfl ?_
        walk_at "g"
        refine ⟨?_,b,e,rfl,hx b (by simp),hx e (by simp),fun ps z=>M7 (h3 e (by simp) ps z) (by decide),?_⟩
        · show (Z6 b&&(Z6 e&&true))=true
          rw [Z3 (hx b (by simp)),Z3 (hx e (by simp))]
          rfl
        · have:hoB (.tup [.str "fellows",b,e])=fhB b e:=by
           show (isS "fellows" (.str "fellows")&&fhB b e)=_
           rw [e2,U4]
          rw [this] at hP
          walk_at "g"
          exact hP
      refine IfP.f (by simp;omega) ?_
      have e0:=no (fun h=>h.2.elim (fun z=>absurd z (by decide +kernel)) fun z=>absurd z (by decide +kernel)) fun h=>l2 h.1
      walk_at "g"
      refine IP ow fw (by decide +kernel) ?_
      rw [R1,show isS "cut" (.str "fellows")=false by decide +kernel]
      walk_at "g"
      exact e0
     walk_at "g"
     refine IP ow fw (by decide +kernel) ?_
     rw [R1]
     cases e3:isS "cut" w
     case true =>
      obtain rfl:=LO e3
      walk_at "g"
      by_cases l3:xs.length=3
      · obtain ⟨a,b,e,rfl⟩:=J9r l3
        refine IfP.t rfl ?_
        walk_at "g"
        refine ⟨?_,a,b,e,rfl,⟨hx a (by simp),hx b (by simp),hx e (by simp)⟩,⟨hs a (by simp),hs b (by simp),hs e (by simp)⟩,fun ps z=>h3 e (by simp) ps z,?_⟩
        · show (Z6 a&&(Z6 b&&(Z6 e&&true)))=true
          rw [Z3 (hx a (by simp)),Z3 (hx b (by simp)),Z3 (hx e (by simp))]
          rfl
        · have:hoB (.tup [.str "cut",a,b,e])=chB a b e:=by
           show ((isS "dot" (.str "cut")&&dhB a b e)||(isS "cut" (.str "cut")&&chB a b e))=_
           rw [e1,e3,U4,B2v,Bool.false_or]
          rw [this] at hP
          walk_at "g"
          exact hP
      refine IfP.f (by simp;omega) ?_
      have e0:=no (fun h=>l3 h.1) fun h=>absurd h.2 (by decide +kernel)
      walk_at "g"
      exact e0
     have e0:=no (fun h=>h.2.elim (fun z=>by rw [e1] at z;exact B9 z) fun z=>by rw [e3] at z;exact B9 z) fun h=>by rw [e2] at h;exact B9 h.2
     walk_at "g"
     exact e0
structure Szd (d:D)(m n:Nat):Prop where
 ok:Y1 d=true
 w:wD d<=m
 fine:Y2 n d=true
mutual
theorem SB:∀ (n:Nat) (d:D),Y2 n d=true->Y2 (n+1) d=true
 | n,.non,h=>by unfold Y2;rfl
 | n,.bl _,h=>by unfold Y2;rfl
 | n,.int _,h=>by unfold Y2;rfl
 | n,.str x,h=>by
   have h:PyData.strOk x=true:=by cases n<;>simpa [Y2] using h
   unfold Y2;exact h
 | 0,.tup xs,h=>by simp [Y2] at h
 | 0,.lst xs,h=>by simp [Y2] at h
 | 0,.own xs,h=>by simp [Y2] at h
 | n+1,.tup xs,h=>by unfold Y2 at h ⊢;exact KN n xs h
 | n+1,.lst xs,h=>by unfold Y2 at h ⊢;exact KN n xs h
 | n+1,.own xs,h=>by unfold Y2 at h ⊢;exact KN n xs h
 | n,.frg _ d,h=>by
   have h:Y2 n d=true:=by cases n<;>simpa [Y2] using h
   unfold Y2;exact SB n d h
 | n,.ty _,h=>by cases n<;>simp [Y2] at h
 | n,.adr _,h=>by cases n<;>simp [Y2] at h
 | n,.bag,h=>by cases n<;>simp [Y2] at h
 | n,.scr _,h=>by cases n<;>simp [Y2] at h
 | n,.dct _ _ _,h=>by cases n<;>simp [Y2] at h
theorem KN:∀ (n:Nat) (ds:List D),BP n ds=true->BP (n+1) ds=true
 | n,[],h=>by unfold BP;rfl
 | n,d::ds,h=>by
   unfold BP at h ⊢
   obtain ⟨h1,h2⟩:=(L1 _ _).mp h
   rw [SB n d h1,KN n ds h2];rfl
end
theorem DR:∀ (n m:Nat),n<=m->(∀ d,Y2 n d=true->Y2 m d=true):=by
 intro n m h
 obtain ⟨k,rfl⟩:=Nat.le.dest h
 clear h
 induction k with
 | zero=>exact fun d h=>h
 | succ k ih=>exact fun d h=>SB (n+k) d (ih d h)
theorem Szd.mono {d:D}{m n m' n':Nat}(h:Szd d m n)(h1:m<=m')(h2:n<=n'):Szd d m' n':=⟨h.ok,M7 h.w h1,DR _ _ h2 _ h.fine⟩
theorem UI {ds:List D}(h:∀ d∈ds,Y1 d=true):EU ds=true:=by
 induction ds with
 | nil=>unfold EU;rfl
 | cons d ds ih=>unfold EU;rw [h d (by simp),ih fun e m=>h e (by simp [m])];rfl
theorem J3c {ds:List D}{m:Nat}(h:∀ d∈ds,wD d<=m):wDs ds<=ds.length*(m+2):=by
 induction ds with
 | nil=>unfold wDs;exact W1 _
 | cons d ds ih =>
   unfold wDs
   have h1:=h d (by simp)
   have h2:=ih fun e m=>h e (by simp [m])
   rw [W5,Nat.succ_mul]
   omega
theorem Szd.lst {ds:List D}{m n k:Nat}(h:∀ d∈ds,Szd d m n)(hk:ds.length<=k):Szd (.lst ds) (k*(m+2)+3) (n+1) :=
 ⟨by unfold Y1;exact UI fun d q=>(h d q).ok,by
  unfold wD
  have:=J3c fun d q=>(h d q).w
  have:=Nat.mul_le_mul_right (m+2) hk
  omega,by unfold Y2;exact LP fun d q=>(h d q).fine⟩
theorem Szd.tup {ds:List D}{m n k:Nat}(h:∀ d∈ds,Szd d m n)(hk:ds.length<=k):Szd (.tup ds) (k*(m+2)+3) (n+1) :=
 ⟨by unfold Y1;exact UI fun d q=>(h d q).ok,by
  unfold wD
  have:=J3c fun d q=>(h d q).w
  have:=Nat.mul_le_mul_right (m+2) hk
  omega,by unfold Y2;exact LP fun d q=>(h d q).fine⟩
theorem Szd.int {i:Int}(h0 : -1000000000<=i)(h1:i<=1000000000):Szd (.int i) 1921 0 :=
 ⟨by
  unfold Y1
  by_cases z:i.natAbs=0
  · rw [z];decide
  · refine T4 ((B1p z).mpr ?_)
    have:(1000000000:Nat)<2 ^ 1920:=by decide +kernel
    omega,by unfold wD;exact B6 _,rfl⟩
def Th (L:Nat)(Q:D->Prop):Nat->D->Prop
 | 0,d=>Q d
 | k+1,d=>Q d\/∃ xs,(d=.tup xs\/d=.lst xs)/\xs.length<=L/\∀ x∈xs,Th L Q k x
structure Leaf (d:D):Prop where
 sz:Szd d 40000 5
 sm:smD d=true
 few:∀ ys,d=.lst ys->ys.length<=3
 deep:∀ xs,d=.tup xs\/d=.lst xs->∀ x∈xs,∀ ys,x=.lst ys->ys.length<=3
theorem Th.few {k:Nat}{d:D}(h:Th 3 Leaf k d):∀ ys,d=.lst ys->ys.length<=3:=by
 cases k with
 | zero=>exact Leaf.few h
 | succ k =>
   rcases h with h|⟨xs,e,hl,_⟩
   · exact h.few
   · intro ys ey
     rcases e with e|e
     · rw [e] at ey;cases ey
     · rw [e] at ey;cases ey;exact hl
theorem Th.up {L:Nat}{Q:D->Prop}{d:D}(h:Q d):∀ k,Th L Q k d
 | 0=>h
 | _+1=>.inl h
def wB:Nat->Nat
 | 0=>40000
 | k+1=>3*(wB k+2)+3
theorem Q7j (k:Nat):40000<=wB k:=by
 induction k with
 | zero=>exact B6 _
 | succ k ih=>show 40000<=3*(wB k+2)+3;omega
theorem Th.sz:∀ {k:Nat} {d:D},Th 3 Leaf k d->Szd d (wB k) (5+k)/\smD d=true
 | 0,d,h=>by
   have h:Leaf d:=h
   exact ⟨h.sz,h.sm⟩
 | k+1,d,h=>by
   rcases h with h|⟨xs,e,hl,hx⟩
   · exact ⟨h.sz.mono (Q7j _) (by omega),h.sm⟩
   · have h1:=fun x m=>(Th.sz (hx x m)).1
     have h2:RA xs=true:=YL fun x m=>(Th.sz (hx x m)).2
     rcases e with rfl|rfl
     · exact ⟨Szd.tup h1 hl,by unfold smD;exact h2⟩
     · exact ⟨Szd.lst h1 hl,by unfold smD;exact h2⟩
def J0k (k:Nat):VW:=fun ds P n=>ds=[.bag,.int k]/\n+4 ^ (k+1)<=8900/\∀ d n',Th 3 Leaf k d->n'<=n+4 ^ (k+1)->P d n'
def Q6z:Nat->VW
 | 0=>fun _ _ _=>False
 | d+1=>J0k d
theorem szI {i:Int}(h : -100000000<=i/\i<=100000000):Leaf (.int i):=by
 refine ⟨⟨?_,by show 1921<=40000;decide,rfl⟩,?_,fun ys e=>(by cases e),by rintro xs (h|h)<;>cases h⟩
 · unfold Y1
   by_cases z:i.natAbs=0
   · rw [z];decide
   · refine T4 ((B1p z).mpr ?_)
     have:(1000000000:Nat)<2 ^ 1920:=by decide +kernel
     omega
 · unfold smD
   have:(1000000000:Nat)<2 ^ 250:=by decide +kernel
   exact T4 (by omega)
abbrev CZ:Stmt:=top 65
abbrev Q7i:List Str:=["_law_bag_here","_law_deep","_law_way","_law_some","_law_face","_law_members"]
abbrev J0r:List Str:=["_law_bag_here","_law_deep"]
theorem AY:FnScope Q7i J0r (J6 CZ):=⟨rfl,rfl,rfl,by decide +kernel,rfl,by decide +kernel,by decide +kernel⟩
structure C__law_thing (P:Program)(w:World)(K:Fg)(mg:Str->Option Value)(base:Heap)(c:Cs):Prop where
 _law_take_:Callee P w K mg base CX0 "_law_take" 1 xl3 (BW K BT SU)
abbrev J7u (P:Program) (w:World) (K:Fg) (mg:Str → Option Value) (base:Heap) (f:Addr) (cdv:Value) (A:Around) (outer:List Env) (s:Shared) (H:Hp) (E:XK):Cx:=BQ CX0 P w K mg base Q7i "_law_thing" (J6 CZ) f cdv A outer s H E
abbrev J7p:List Str:=["_law_place","_law_bag_here","_law_deep"]
theorem IU {w:World} {f:Addr} (F:Fun K "_law_thing" "_law_thing" CZ f fd) (Z:Bi mg) {c:Cs} (Y:Ex K mg base c) (G:C__law_thing P w K mg base c) {d:Nat} (Gs:Callee P w K mg base CX0 "_law_thing" (d+1) J0r (BW K BT (Q6z d))):FnOk P w K mg base CX0 (d+2) f fd J0r (BW K BT (J0k d)):=by
 refine F.okC AY (fun ds PP n h=>?_) (fun cdv A outer s H E M bg ds PP n hr hS_=>?_)
 · obtain ⟨rfl,hn,hP⟩:=h
   exact ⟨rfl,B8 ..⟩
 · obtain ⟨rfl,hn,hP⟩:=hS_
   refine ⟨_,(AB (FS (i:=2) AY.nd rfl (by walk_at "o") (DG G._law_take_ (hr.mono (by omega)) rfl (Z2 (cjv 0) (Z2 (Y7 fun H0=>(Q8 (Q6 K (by rfl)) V4 (AN (J0 J3 (J0 J3 J1))) (EW QP Q1g rfl Z.int_ YE (J0 (Z5 KA AR (jdv 1) J3 (Q7 _)) J1)) (fun _ _=>rfl))) CL))))
    (AB (LU (GF fun H0=>(V7 DY BL (jdv 2) J3 (Q7 _))) (CH (FT (Q6i ET EV (DG G._law_take_ (hr.mono (by omega)) rfl (Z2 (cjv 0) (Z2 (OM (Q6 K (by rfl)) V4 (Y7 fun H0=>(AN (J0 J3 (J0 J3 (J0 (V6 WW DN J3 J3) J1))))) (DG G._law_take_ (hr.mono (by omega)) rfl (Z2 (cjv 0) (Z2 (Y7 fun H0=>J3) CL))) (fun _ _=>rfl)) CL))) (Y7 fun H0=>J3)))) GG)
    (AB (LU (GF fun H0=>(V7 GA AR (jdv 2) J3 (Q7 _))) (CH (FT (OM (Q6 K (by rfl)) V4 (Y7 fun H0=>(AN (J0 AT (J0 AT (J0 KJ (J0 AS (J0 AS (J0 AS J1)))))))) (DG G._law_take_ (hr.mono (by omega)) rfl (Z2 (cjv 0) (Z2 (Y7 fun H0=>J3) CL))) (fun _ _=>rfl)))) GG)
    (AB (LU (GF fun H0=>(V7 GA AR (jdv 2) J3 (Q7 _))) (AB (FS (i:=3) AY.nd rfl (by walk_at "o") (Y7 fun H0=>(AN (J0 (Q5 (J0 J3 (J0 J3 J1))) (J0 (Q5 (J0 J3 (J0 J3 J1))) (J0 (Q5 (J0 J3 (J0 J3 (J0 J3 (J0 J3 J1))))) (J0 (Q5 (J0 J3 (J0 J3 (J0 J3 (J0 J3 J1))))) (J0 (Q5 (J0 J3 (J0 J3 (J0 J3 (J0 J3 J1))))) (J0 (Q5 (J0 J3 (J0 J3 (J0 J3 J1)))) (J0 (Q5 (J0 J3 (J0 J3 (J0 J3 (J0 J3 J1))))) J1))))))))))
    (CH (FT (OM (Q6 K (by rfl)) V4 (Y7 fun H0=>(jdv 3)) (DG G._law_take_ (hr.mono (by omega)) rfl (Z2 (cjv 0) (Z2 (Y7 fun H0=>J3) CL))) (fun _ _=>rfl))))) GG)
    (AB (LU (GF fun H0=>(V7 GA AR (jdv 2) J3 (Q7 _))) (AB (FS (i:=4) AY.nd rfl (by walk_at "o") (Y7 fun H0=>(Q5 (J0 (Q5 (J0 J3 (J0 J3 (J0 J3 (J0 J3 J1))))) (J0 (Q5 (J0 J3 (J0 J3 (J0 J3 (J0 J3 J1))))) (J0 (Q5 (J0 J3 (J0 J3 (J0 J3 (J0 J3 J1))))) J1))))))
    (AB (FS (i:=3) AY.nd rfl (by walk_at "o") (Y7 fun H0=>(AN (J0 (jdv 4) (J0 (AN (J0 (jdv 4) J1)) (J0 (Q5 (J0 (AN (J0 (Q5 (J0 J3 (J0 J3 (J0 J3 J1)))) J1)) (J0 (AN J1) J1))) (J0 (Q5 (J0 (AN (J0 (Q5 (J0 J3 (J0 J3 (J0 J3 J1)))) (J0 (Q5 (J0 J3 (J0 J3 (J0 J3 J1)))) (J0 (Q5 (J0 J3 (J0 J3 (J0 J3 J1)))) J1)))) (J0 (AN (J0 (Q5 (J0 J3 (J0 J3 (J0 J3 J1)))) (J0 (Q5 (J0 J3 (J0 J3 (J0 J3 J1)))) J1))) J1))) (J0 (AN J1) (J0 (Q5 J1) J1)))))))))
    (CH (FT (OM (Q6 K (by rfl)) V4 (Y7 fun H0=>(jdv 3)) (DG G._law_take_ (hr.mono (by omega)) rfl (Z2 (cjv 0) (Z2 (Y7 fun H0=>J3) CL))) (fun _ _=>rfl)))))) GG)
    (AB (VI (X:=(J7u P w K mg base f cdv A outer s H E).nox) true (i:=5) AY.nd rfl (by walk_at "o") (V8 0) (Q2l (X:=(J7u P w K mg base f cdv A outer s H E).nox) (N':=J7p) (map:=[none,some 0,some 1]) (by rfl) (by rfl) (by decide +kernel) (by rfl) ⟨⟨rfl,rfl,rfl,by walk_at "o"⟩,⟨⟨rfl,rfl,rfl,by walk_at "o"⟩,True.intro⟩⟩ (gkeep_name rfl) fun cl0 C0 fp0 s0 H0=>⟨(pg_name (X:=(Q3 (J7u P w K mg base f cdv A outer s H E).nox J7p _ cl0 C0 fp0 s0 H0)) (i:=0) (Z4 J7p (by decide +kernel)) rfl (by walk_at "o")),VJ,(DG (X:=(Q3 (J7u P w K mg base f cdv A outer s H E).nox J7p _ cl0 C0 fp0 s0 H0)) Gs (hr.mono (by omega)) rfl (Z2 (cjv 1) (Z2 (Y7 fun H0=>(V6 ET EV (jdv 2) J3)) CL)))⟩) (XW rfl Z.range_ (Z2 (DG G._law_take_ (hr.mono (by omega)) rfl (Z2 (cjv 0) (Z2 (Y7 fun H0=>J3) CL))) CL)))
    (J6s 5 (CH (FT (Y7 fun H0=>(J5l (V7 GA AR (jdv 2) J3 (Q7 _)) (jdv 5) (EW (DH K (by rfl)) KR rfl Z.tuple_ CI (J0 (jdv 5) J1))))))))))))),?_⟩
   have h4:4<=4 ^ (d+1):=by
    have:=B2s (show 0<4 by decide) (show 1<=d+1 by omega)
    omega
   have fin:∀ y n',Leaf y->n'<=n+4->PP y n':=fun y n' h h2=>hP y n' (Th.up h d) (by omega)
   walk_at "g"
   obtain ⟨M,eM,M0,M12,hM⟩:∃ M:Int,atI [D.int 9,D.int 12] (if (fun i j:Int=>decide (j<i)) (d:Int) 0=true then 1 else 0)=some (.int M)/\0<M/\M<=12/\(d=0->M=9):=by
    cases d with
    | zero=>exact ⟨9,rfl,by decide,by decide,fun _=>rfl⟩
    | succ k=>exact ⟨12,by rw [if_pos (show decide ((0:Int)<((k+1:Nat):Int))=true from T4 (by omega))];rfl,by decide,by decide,fun z=>absurd z (by omega)⟩
   rw [eM]
   walk_at "g"
   refine ⟨M,rfl,by omega,by omega,by omega,fun way n1 y0 y1 h1=>?_⟩
   walk_at "g"
   by_cases w0:way=0
   · refine IfP.t (by simp [w0]) ?_
     walk_at "g"
     refine ⟨3,rfl,by omega,by decide,by decide,fun r n2 r0 r1 h2=>?_⟩
     walk_at "g"
     refine ixm r0 (by exact r1) fun dz mz=>?_
     obtain ⟨m,rfl,m0,m1⟩:∃ m:Int,dz=.int m/\0<m/\m<=1000000:=by
      simp only [B7,M8,W3] at mz
      rcases mz with e|e|e<;>exact ⟨_,e,by decide,by decide⟩
     walk_at "g"
     refine ⟨m,rfl,by omega,by omega,by omega,fun q n3 q0 q1 h3=>?_⟩
     walk_at "g"
     exact fin _ _ (szI (by omega)) (by omega)
   refine IfP.f (by simpa using w0) ?_
   walk_at "g"
   by_cases w3:way<3
   · refine IfP.t (by simpa using w3) ?_
     walk_at "g"
     refine ⟨6,rfl,by omega,by decide,by decide,fun r n2 r0 r1 h2=>?_⟩
     walk_at "g"
     refine ixm r0 (by exact r1) fun z mz=>?_
     have lz:Leaf z:=by
      simp only [B7,M8,W3] at mz
      rcases mz with rfl|rfl|rfl|rfl|rfl|rfl<;>exact ⟨⟨by decide +kernel,by decide +kernel,by decide +kernel⟩,by decide +kernel,fun ys e=>(by cases e),by rintro xs (h|h)<;>cases h<;>simp⟩
     have pz:=okRp_pl lz.sz.ok
     refine And.intro pz ?_
     have hz:=fin z n2 lz (by omega)
     clear lz mz
     cases z<;>first|exact hz|cases pz
   refine IfP.f (by simpa using w3) ?_
   walk_at "g"
   by_cases w6:way<6
   · refine IfP.t (by simpa using w6) ?_
     walk_at "g"
     refine ⟨7,rfl,by omega,by decide,by decide,fun r n2 r0 r1 h2=>?_⟩
     walk_at "g"
     refine ixm r0 (by exact r1) fun z mz=>?_
     have lz:Leaf z:=by
      simp only [B7,M8,W3] at mz
      rcases mz with rfl|rfl|rfl|rfl|rfl|rfl|rfl<;>exact ⟨⟨by decide +kernel,by decide +kernel,by decide +kernel⟩,by decide +kernel,fun ys e=>(by cases e),by rintro xs (h|h)<;>cases h<;>simp⟩
     have pz:=okRp_pl lz.sz.ok
     refine And.intro pz ?_
     have hz:=fin z n2 lz (by omega)
     clear lz mz
     cases z<;>first|exact hz|cases pz
   refine IfP.f (by simpa using w6) ?_
   walk_at "g"
   by_cases w9:way<9
   · refine IfP.t (by simpa using w9) ?_
     walk_at "g"
     refine ⟨6,rfl,by omega,by decide,by decide,fun r n2 r0 r1 h2=>?_⟩
     walk_at "g"
     refine ixm r0 (by exact r1) fun z mz=>?_
     have lz:Leaf z:=by
      simp only [B7,M8,W3] at mz
      rcases mz with rfl|rfl|rfl|rfl|rfl|rfl<;>exact ⟨⟨by decide +kernel,by decide +kernel,by decide +kernel⟩,by decide +kernel,fun ys e=>(by cases e<;>decide),by rintro xs (h|h)<;>cases h<;>simp⟩
     have pz:=okRp_pl lz.sz.ok
     refine And.intro pz ?_
     have hz:=fin z n2 lz (by omega)
     clear lz mz
     cases z<;>first|exact hz|cases pz
   refine IfP.f (by simpa using w9) ?_
   obtain ⟨k,rfl⟩:∃ k,d=k+1:=⟨d - 1,by by_cases z:d=0;exact absurd (hM z) (by omega);omega⟩
   have hp:4 ^ (k+1+1)=4*4 ^ (k+1):=by rw [Nat.pow_succ 4 (k+1),Nat.mul_comm]
   have h41:4<=4 ^ (k+1):=by
    have:=B2s (show 0<4 by decide) (show 1<=k+1 by omega)
    omega
   generalize hB:4 ^ (k+1)=B at *
   walk_at "g"
   refine ⟨4,rfl,by omega,by decide,by decide,fun r n2 r0 r1 h2=>?_⟩
   have r4:r<4:=r1
   walk_at "g"
   refine And.intro ⟨by omega,by omega⟩ ?_
   refine And.intro (by rw [rangeD_len];omega) ?_
   refine ⟨fun i acc n'=>acc.length=i/\(∀ x∈acc,Th 3 Leaf k x)/\n'<=n2+B*i,⟨rfl,by simp,by omega⟩,?_,?_⟩
   · rintro i x acc n3 e ⟨hl,ha,h3⟩
     obtain ⟨rfl,hi⟩:=BJ e
     clear e
     have hi:i<3:=by omega
     have hBi:B*i<=B*2:=Nat.mul_le_mul_left B (by omega)
     walk_at "g"
     refine ⟨by rw [show ((k+1:Nat):Int) - 1=(k:Int) by omega],by rw [hB];omega,fun y n4 ty h4=>?_⟩
     rw [hB] at h4
     refine ⟨okRp_pl ty.sz.1.ok,by rw [T1,hl];rfl,fun z hz=>?_,by rw [Nat.mul_succ];omega⟩
     rcases U0.mp hz with h|h
     · exact ha z h
     · rw [T5.mp h];exact ty
   · rintro acc n3 ⟨hl,ha,h3⟩
     have hl:acc.length=r.toNat:=by rw [hl];exact rangeD_len ..
     have hBi:B*(CC 0 r.toNat).length<=B*3:=Nat.mul_le_mul_left B (by rw [rangeD_len];omega)
     have h1':=hP (.lst acc) n3 (.inr ⟨acc,.inr rfl,by omega,ha⟩) (by omega)
     have h2':=hP (.tup acc) n3 (.inr ⟨acc,.inl rfl,by omega,ha⟩) (by omega)
     walk_at "g"
     by_cases w11:way<11
     · refine IfP.t (by simpa using w11) ?_
       walk_at "g"
       exact h1'
     · refine IfP.f (by simpa using w11) ?_
       walk_at "g"
       exact h2'
theorem HW {w:World} {f:Addr} (F:Fun K "_law_thing" "_law_thing" CZ f fd) (Z:Bi mg) {c:Cs} (Y:Ex K mg base c) (G:C__law_thing P w K mg base c) (hm:mg "_law_thing" = some (.ref f)) (hb:Binds K fd J0r []):∀ d:Nat,FnOk P w K mg base CX0 (d+2) f fd J0r (BW K BT (J0k d))
 | 0=>IU F Z Y G (d:=0) ⟨f,fd,⟨fun vs H Q E h=>(by obtain ⟨_,_,_,_,h,_⟩:=h;exact h.elim),fun A outer s H args us vs Q E hr he hbi hv h=>(by obtain ⟨_,_,_,_,h,_⟩:=h;exact h.elim)⟩,hm,F.kp,hb⟩
 | d+1=>IU F Z Y G (d:=d+1) ⟨f,fd,HW F Z Y G hm hb d,hm,F.kp,hb⟩
theorem WQ:Z0 (.lst [.tup [.str "dot"],.tup [.str "cut"]])=some (PyData.list [.tuple [.str "dot"],.tuple [.str "cut"]]):=by
 simp [Z0,BK,show PyData.strOk "dot" = true by decide +kernel,show PyData.strOk "cut" = true by decide +kernel]
theorem NH {w:Str}(h:PyData.strOk w=true):Z0 (.tup [.str w])=some (PyData.tuple [.str w]):=by
 simp [Z0,BK,h]
theorem Q8u {d:D}(h:hoB d=true):(∃ a b c,d=.tup [.str "dot",a,b,c])\/(∃ a b c,d=.tup [.str "cut",a,b,c])\/∃ a b,d=.tup [.str "fellows",a,b]:=by
 unfold hoB at h
 split at h
 · rename_i w a b c
   rcases (Bool.or_eq_true _ _).mp h with h|h
   · have:=LO ((L1 _ _).mp h).1
     exact .inl ⟨a,b,c,by rw [this]⟩
   · have:=LO ((L1 _ _).mp h).1
     exact .inr (.inl ⟨a,b,c,by rw [this]⟩)
 · rename_i w a b
   have:=LO ((L1 _ _).mp h).1
   exact .inr (.inr ⟨a,b,by rw [this]⟩)
 · cases h
abbrev JG:Stmt:=top 66
theorem TQ:FnScope ["_law_paper"] ["_law_paper"] (J6 JG):=⟨rfl,rfl,rfl,by decide +kernel,rfl,by decide +kernel,by decide +kernel⟩
def Q2q:DSp:=fun ds P _=>∃ d:D,ds=[d]/\Y1 d=true/\hoB d=true/\P (.bl true)
theorem UG {w:World} {f:Addr} (F:Fun K "_law_may" "_law_may" JG f fd) (Z:Bi mg) {c:Cs} (Y:Ex K mg base c):FnOk P w K mg base CX0 1 f fd ["_law_paper"] (J8 K BT Q2q):=by
 refine F.okD TQ (fun ds PP Ed h=>?_) (fun cdv A outer s H E M bg ds PP Ed hr hS_=>?_)
 · obtain ⟨d,rfl,hd,hh,hP⟩:=h
   rfl
 · obtain ⟨d,rfl,hd,hh,hP⟩:=hS_
   refine ⟨_,(J4 (Y6 (DP (Y8 (V0 (by rfl) (J9 (Y9 K (by rfl)) AD rfl Z.isinstance_ Y0 (J0 (jdv 0) (J0 (AO rfl Z.tuple_ CI) J1))) (fun _=>rfl))) (BX (Y8 (V0 (by rfl) (J9 (Y9 K (by rfl)) AD rfl Z.isinstance_ Y0 (J0 (Q8 (Q6 K (by rfl)) V4 (V6 (NL K (by rfl)) NS (jdv 0) (Q5 (J0 AS J1))) J3 (fun _ _=>rfl)) (J0 (AO rfl Z.str_ Q6q) J1))) (fun _=>rfl))))) (J5 (Q4 AT)) V1)
    (J5 (Q4 (J5k (AH (Z5 (WX K (by rfl) hr.units) XG (BY (GH K (by rfl)) (jdv 0) DF (DC J3)) (AN (J0 (Q5 (J0 AS J1)) (J0 (Q5 (J0 AS J1)) J1))) (by with_unfolding_all rfl)) (BZ (Z5 DY BL (J9 (V3 K (by rfl)) BA rfl Z.len_ AW (J0 (jdv 0) J1)) J3 (Q7 _)))) (BZ (AH (Z5 (HV K (by rfl) hr.units) GW (BY (GH K (by rfl)) (jdv 0) DF (DC J3)) (Q5 (J0 AS J1)) (Q7 _)) (BZ (Z5 DY BL (J9 (V3 K (by rfl)) BA rfl Z.len_ AW (J0 (jdv 0) J1)) J3 (Q7 _))))))))),?_⟩
   rcases Q8u hh with ⟨a,b,c',rfl⟩|⟨a,b,c',rfl⟩|⟨a,b,rfl⟩
   · clear hh
     walk_at "g"
     refine ⟨true,by rfl,?_⟩
     walk_at "g"
     refine ⟨true,by rfl,?_⟩
     walk_at "g"
     refine And.intro (by show ¬ (HT.sIx 4 0 none=0/\HT.sIx 4 4 (some 1)=4);decide) ?_
     rw [show L2.IQ [D.str "dot",a,b,c'] none (some 1)=[.str "dot"] from rfl]
     walk_at "g"
     refine ⟨.tuple [.str "dot"],.list [.tuple [.str "dot"],.tuple [.str "cut"]],_,NH (by decide +kernel),WQ,rfl,by decide +kernel,?_⟩
     rw [show (List.any [PyData.tuple [.str "dot"],.tuple [.str "cut"]] fun y=>PyData.eqv y (.tuple [.str "dot"]))=true by decide +kernel,R1]
     walk_at "g"
     exact hP
   · clear hh
     walk_at "g"
     refine ⟨true,by rfl,?_⟩
     walk_at "g"
     refine ⟨true,by rfl,?_⟩
     walk_at "g"
     refine And.intro (by show ¬ (HT.sIx 4 0 none=0/\HT.sIx 4 4 (some 1)=4);decide) ?_
     rw [show L2.IQ [D.str "cut",a,b,c'] none (some 1)=[.str "cut"] from rfl]
     walk_at "g"
     refine ⟨.tuple [.str "cut"],.list [.tuple [.str "dot"],.tuple [.str "cut"]],_,NH (by decide +kernel),WQ,rfl,by decide +kernel,?_⟩
     rw [show (List.any [PyData.tuple [.str "dot"],.tuple [.str "cut"]] fun y=>PyData.eqv y (.tuple [.str "cut"]))=true by decide +kernel,R1]
     walk_at "g"
     exact hP
   · clear hh
     walk_at "g"
     refine ⟨true,by rfl,?_⟩
     walk_at "g"
     refine ⟨true,by rfl,?_⟩
     walk_at "g"
     refine And.intro (by show ¬ (HT.sIx 3 0 none=0/\HT.sIx 3 3 (some 1)=3);decide) ?_
     rw [show L2.IQ [D.str "fellows",a,b] none (some 1)=[.str "fellows"] from rfl]
     walk_at "g"
     refine ⟨.tuple [.str "fellows"],.list [.tuple [.str "dot"],.tuple [.str "cut"]],_,NH (by decide +kernel),WQ,rfl,by decide +kernel,?_⟩
     rw [show (List.any [PyData.tuple [.str "dot"],.tuple [.str "cut"]] fun y=>PyData.eqv y (.tuple [.str "fellows"]))=false by decide +kernel,R1]
     walk_at "g"
     refine And.intro (by show ¬ (HT.sIx 3 0 none=0/\HT.sIx 3 3 (some 1)=3);decide) ?_
     rw [show L2.IQ [D.str "fellows",a,b] none (some 1)=[.str "fellows"] from rfl]
     walk_at "g"
     refine ⟨.tuple [.str "fellows"],.tuple [.str "fellows"],NH (by decide +kernel),NH (by decide +kernel),by decide +kernel,?_⟩
     rw [show PyData.eqv (.tuple [.str "fellows"]) (.tuple [.str "fellows"])=true by decide +kernel,R1]
     walk_at "g"
     exact hP
theorem Q1b {xs:List D}{lo hi:Option Int}:∀ d∈L2.IQ xs lo hi,d∈xs:=fun d h=>by
 unfold L2.IQ at h
 exact List.mem_of_mem_drop (List.mem_of_mem_take h)
theorem Q6g {xs:List D}{lo hi:Option Int}:(L2.IQ xs lo hi).length<=xs.length:=by
 unfold L2.IQ
 rw [B0s,List.length_drop]
 omega
def It (d:D):Prop:=Szd d 1100000 8/\smD d=true/\∀ ys,d=.lst ys->ys.length<=3
theorem It.of {d:D}(h:Th 3 Leaf 3 d):It d:=⟨h.sz.1.mono (by decide) (by decide),h.sz.2,h.few⟩
theorem It.one {d:D}(h:It d)(hn:∀ xs,d≠.tup xs):Ppr d:=⟨h.1.ok,DR 8 20 (by decide) _ h.1.fine,M7 h.1.w (by decide),h.2.1,fun xs e=>absurd e (hn xs)⟩
theorem It.rows {xs:List D}(h:∀ x∈xs,It x)(hl:xs.length<=5):Ppr (.tup xs)/\Ppr (.lst xs):=by
 have s1:=Szd.tup (fun d m=>(h d m).1) hl
 have s2:=Szd.lst (fun d m=>(h d m).1) hl
 have sm:=YL fun d m=>(h d m).2.1
 exact ⟨⟨s1.ok,DR 9 20 (by decide) _ s1.fine,M7 s1.w (by decide),by unfold smD;exact sm,fun ys e x hx zs ez=>(by cases e;exact (h x hx).2.2 zs ez)⟩,⟨s2.ok,DR 9 20 (by decide) _ s2.fine,M7 s2.w (by decide),by unfold smD;exact sm,fun ys e=>(by cases e)⟩⟩
theorem It.str {s:Str}(h1:Y1 (.str s)=true)(h2:wD (.str s)<=1100000)(h3:Y2 8 (.str s)=true):It (.str s):=⟨⟨h1,h2,h3⟩,rfl,fun ys e=>(by cases e)⟩
theorem Th.ppr {d:D}(h:Th 3 Leaf 3 d):Ppr d:=by
 have s:=h.sz
 refine ⟨s.1.ok,DR 8 20 (by decide) _ s.1.fine,M7 s.1.w (by decide),s.2,fun xs e x hx ys ey=>?_⟩
 subst e
 subst ey
 rcases h with h|⟨zs,e,hl,hz⟩
 · exact h.deep _ (.inl rfl) _ hx _ rfl
 · have:xs=zs:=by rcases e with e|e<;>cases e;rfl
   subst this
   exact (hz _ hx).few _ rfl
abbrev YR:Stmt:=top 67
abbrev Q7h:List Str:=["_law_script","_law_k","_law_bag_here","_law_word","_law_many","_law_some","_law_paper","_law_shown","_law_found"]
theorem GJ:FnScope Q7h ["_law_script"] (J6 YR):=⟨rfl,rfl,rfl,by decide +kernel,rfl,by decide +kernel,by decide +kernel⟩
def QY (K:Fg):Sp:=fun vs H Q _=>∃ (a:Addr) (ns:List Int),vs=[.ref a]/\SqL K H a (ns.map V.int)/\ns.length<=63/\∀ H',Q (.bl true) H'
structure C_law (P:Program)(w:World)(K:Fg)(mg:Str->Option Value)(base:Heap)(c:Cs):Prop where
 _law_bag_:Callee P w K mg base CX0 "_law_bag" 1 xl1 (SO K BT RK)
 _law_take_:Callee P w K mg base CX0 "_law_take" 1 xl3 (BW K BT SU)
 _law_thing_:Callee P w K mg base CX0 "_law_thing" 5 J0r (BW K BT (J0k 3))
 holds_:Callee P w K mg base CX0 "holds" 8 ["paper"] (J8 K BT J0o)
 _law_may_:Callee P w K mg base CX0 "_law_may" 1 ["_law_paper"] (J8 K BT Q2q)
abbrev J7t (P:Program) (w:World) (K:Fg) (mg:Str → Option Value) (base:Heap) (f:Addr) (cdv:Value) (A:Around) (outer:List Env) (s:Shared) (H:Hp) (E:XK):Cx:=BQ CX0 P w K mg base Q7h "law" (J6 YR) f cdv A outer s H E
abbrev J7o:List Str:=["_law_place","_law_bag_here"]
theorem Q4c {w:World} {f:Addr} (F:Fun K "law" "law" YR f fd) (Z:Bi mg) {c:Cs} (Y:Ex K mg base c) (G:C_law P w K mg base c):FnOk P w K mg base CX0 9 f fd ["_law_script"] (QY K):=by
 refine F.okLC BT GJ (fun cdv A outer s H E ns hr hlen=>?_)
 · refine ⟨_,(AB (ZZ (V8 1) B0a rfl (OL fun H0=>(BN rfl Z.range_ (J0 (J9 (QO (by rfl)) J0c rfl Z.max_ YD (J0 J3 (J0 (J9 (QN (by rfl)) J0c rfl Z.min_ YC (J0 J3 (J0 (J9 (V3 K (by rfl)) BA rfl Z.len_ AW (J0 (jdv 0) J1)) J1))) J1))) J1))) (pg_name (i:=1) GJ.nd rfl (by walk_at "o")) (AB (Q1f (i:=2) rfl GJ.nd rfl (by walk_at "o") G._law_bag_ hr.m rfl (J6t fun H0=>(J0 (jdv 0) (J0 (jdv 1) J1))))
    (AB (FS (i:=3) GJ.nd rfl (by walk_at "o") (OM (Q6 K (by rfl)) V4 (Y7 fun H0=>(AN (J0 AS (J0 AS (J0 AS (J0 AS (J0 AS (J0 AS J1)))))))) (DG G._law_take_ hr.m rfl (Z2 (cjv 2) (Z2 (Y7 fun H0=>J3) CL))) (fun _ _=>rfl)))
    (AB (FS (i:=4) GJ.nd rfl (by walk_at "o") (DG G._law_take_ hr.m rfl (Z2 (cjv 2) (Z2 (Y7 fun H0=>J3) CL))))
    (AB (VI (X:=(J7t P w K mg base f cdv A outer s H E).nox) false (i:=5) GJ.nd rfl (by walk_at "o") (V8 0) (Q2l (X:=(J7t P w K mg base f cdv A outer s H E).nox) (N':=J7o) (map:=[none,some 2]) (by rfl) (by rfl) (by decide +kernel) (by rfl) ⟨⟨rfl,rfl,rfl,by walk_at "o"⟩,True.intro⟩ (gkeep_name rfl) fun cl0 C0 fp0 s0 H0=>⟨(pg_name (X:=(Q3 (J7t P w K mg base f cdv A outer s H E).nox J7o _ cl0 C0 fp0 s0 H0)) (i:=0) (Z4 J7o (by decide +kernel)) rfl (by walk_at "o")),VJ,(DG (X:=(Q3 (J7t P w K mg base f cdv A outer s H E).nox J7o _ cl0 C0 fp0 s0 H0)) G._law_thing_ hr.m rfl (Z2 (cjv 1) (Z2 (Y7 fun H0=>J3) CL)))⟩) (OL fun H0=>(BN rfl Z.range_ (J0 J3 J1))))
    (CH (ZZ (V8 6) B0a rfl (OL fun H0=>(Z7 (by rfl) (AN (J0 (V6 (NL K (by rfl)) NS (Q5 (J0 (jdv 3) J1)) (EW (DH K (by rfl)) KR rfl Z.tuple_ CI (J0 (BY (GH K (by rfl)) (jdv 5) DF (DC (jdv 4))) J1))) (J0 (Q8 (Q6 K (by rfl)) V4 (jdv 5) J3 (fun _ _=>rfl)) (J0 (EW (DH K (by rfl)) KR rfl Z.tuple_ CI (J0 (BY (GH K (by rfl)) (jdv 5) DF (DC (jdv 4))) J1)) (J0 (V6 Q4b Q4e (AN (J0 (jdv 3) J1)) (BY (GH K (by rfl)) (jdv 5) DF (DC (jdv 4)))) (J0 (jdv 3) J1)))))))) (pg_name (i:=6) GJ.nd rfl (by walk_at "o")) (AB (FS (i:=7) GJ.nd rfl (by walk_at "o") (Y7 fun H0=>(J9 (QM K (by rfl) hr.gd hr.units) J0a rfl Z.repr_ J0d (J0 (jdv 6) J1))))
    (AB (FS (i:=8) GJ.nd rfl (by walk_at "o") (Y7 fun H0=>(Q0 G.holds_ hr.m rfl (J0 (jdv 6) J1))))
    (AB (LU (GF fun H0=>(DP (Y8 (V0 (by rfl) (J9 (Y9 K (by rfl)) YA rfl Z.isinstance_ Y0 (J0 (jdv 8) (J0 (AO rfl Z.bool_ J0e) J1))) (fun _=>rfl))) (RX (V7 IT GV (Q0 G.holds_ hr.m rfl (J0 (jdv 6) J1)) (jdv 8) (Q7 _)) (BX (V7 IT GV (J9 (QM K (by rfl) hr.gd hr.units) J0a rfl Z.repr_ J0d (J0 (jdv 6) J1)) (jdv 7) (Q7 _)))))) (CH (FT (Y7 fun H0=>AT))) GG)
    (CH (LU (GF fun H0=>(KI (V0 (by rfl) (jdv 8) (fun _=>rfl)) (HZ (Y8 (V0 (by rfl) (Q0 G._law_may_ hr.m rfl (J0 (jdv 6) J1)) (fun _=>rfl)))))) (CH (FT (Y7 fun H0=>AT))) GG))))) J5r)))))))
    (CH (FT (Y7 fun H0=>AT)))),?_⟩
   walk_at "g"
   have n3:∀ m:Int,((fun i j=>if j>i then j else i) 1 ((fun i j=>if j<i then j else i) 4 m):Int)<=4:=by intro m;dsimp only;split<;>split<;>omega
   have n0:∀ m:Int,1<=((fun i j=>if j>i then j else i) 1 ((fun i j=>if j<i then j else i) 4 m):Int):=by intro m;dsimp only;split<;>split<;>omega
   replace n3:=n3 ns.length
   replace n0:=n0 ns.length
   refine And.intro ⟨by omega,by omega⟩ ?_
   refine ⟨fun i ρ _=>∃ v1 v2 v3 v4 v5 v6 v7 v8,ρ=[some (.scr ns),v1,v2,v3,v4,v5,v6,v7,v8],⟨_,_,_,_,_,_,_,_,rfl⟩,?_,?_⟩
   · rintro i x ρ n' e ⟨v1,v2,v3,v4,v5,v6,v7,v8,rfl⟩
     obtain ⟨rfl,hi⟩:=BJ e
     have hi6:i<10:=by omega
     clear e n3 n0
     walk_at "g"
     refine And.intro ⟨ns,i,(by rw [B1i]<;>rfl),by omega⟩ ?_
     walk_at "g"
     refine ⟨6,rfl,by omega,by decide,by decide,fun a n1 a0 a1 h1=>?_⟩
     walk_at "g"
     refine ixm a0 (by exact a1) fun dw mw=>?_
     obtain ⟨wd,rfl,iw⟩:∃ wd:Str,dw=.str wd/\It dw:=by
      simp only [B7,M8,W3] at mw
      rcases mw with rfl|rfl|rfl|rfl|rfl|rfl<;>exact ⟨_,rfl,It.str (by decide +kernel) (by decide +kernel) (by decide +kernel)⟩
     walk_at "g"
     refine ⟨5,rfl,by omega,by decide,by decide,fun m n2 m0 m1 h2=>?_⟩
     walk_at "g"
     walk_at "gc3"
     refine ⟨by show n2+256<=8900;omega,fun t1 n3 th1 h3=>?_⟩
     have h3:n3<=n2+256:=h3
     refine And.intro (okRp_pl th1.sz.1.ok) ?_
     walk_at "g"
     refine ⟨by show n3+256<=8900;omega,fun t2 n4 th2 h4=>?_⟩
     have h4:n4<=n3+256:=h4
     refine And.intro (okRp_pl th2.sz.1.ok) ?_
     walk_at "g"
     refine ⟨by show n4+256<=8900;omega,fun t3 n5 th3 h5=>?_⟩
     have h5:n5<=n4+256:=h5
     refine And.intro (okRp_pl th3.sz.1.ok) ?_
     walk_at "g"
     refine ⟨by show n5+256<=8900;omega,fun t4 n6 th4 h6=>?_⟩
     have h6:n6<=n5+256:=h6
     refine And.intro (okRp_pl th4.sz.1.ok) ?_
     walk_at "g"
     have ht:∀ x∈[t1,t2,t3,t4],It x:=fun x h=>by
      simp only [B7,M8,W3] at h
      rcases h with rfl|rfl|rfl|rfl<;>exact It.of (by assumption)
     obtain ⟨cs,ec⟩:∃ cs,L2.IQ ([]++[t1]++[t2]++[t3]++[t4]) none (some m)=cs:=⟨_,rfl⟩
     have hc:∀ x∈cs,It x:=fun x h=>ht x (Q1b (lo:=none) (hi:=some m) x (by rw [<- ec] at h;exact h))
     have hl:cs.length<=4:=by rw [<- ec];exact @Q6g [t1,t2,t3,t4] none (some m)
     walk_at "g"
     refine And.intro (by rw [ec];show 1+cs.length<=1000;omega) ?_
     walk_at "g"
     rw [ec]
     refine And.intro (by show 1+cs.length<=1000;omega) ?_
     walk_at "g"
     have hw:∀ x∈[D.str wd]++cs,It x:=fun x h=>by
      rcases U0.mp h with h|h
      · rw [T5.mp h];exact iw
      · exact hc x h
     have hwl:([D.str wd]++cs).length<=5:=by rw [T1,List.length_singleton];omega
     refine And.intro (by unfold okIt;simp only [B0o,List.all_nil,okRp_pl th1.sz.1.ok];rfl) ?_
     have hp:∀ x∈[D.tup ([D.str wd]++cs),t1,D.tup cs,D.lst ([D.str wd]++cs),D.str wd],Ppr x:=fun x h=>by
      simp only [B7,M8,W3] at h
      rcases h with rfl|rfl|rfl|rfl|rfl
      · exact (It.rows hw hwl).1
      · exact th1.ppr
      · exact (It.rows hc (by omega)).1
      · exact (It.rows hw hwl).2
      · exact iw.one fun xs e=>(by cases e)
     walk_at "g"
     refine ⟨fun j ρ _=>∃ v1 v2 v3 v4 v5 v6 v7 v8,ρ=[some (.scr ns),v1,v2,v3,v4,v5,v6,v7,v8],⟨_,_,_,_,_,_,_,_,rfl⟩,?_,?_⟩
     · rintro j x ρ n7 e ⟨v1,v2,v3,v4,v5,v6,v7,v8,rfl⟩
       have px:=hp x (R6 e)
       have f60:Y2 60 x=true:=DR 20 60 (by decide) _ px.fine
       have ok:=px.ok
       have hm:hoB x=true->Y1 x=true/\hoB x=true:=fun h=>⟨ok,h⟩
       clear e hp hw hc ht
       cases x<;>(try (simp [Y1] at ok;done))
       all_goals
        walk_at "g"
        refine ⟨f60,px.ok,px.w,?_⟩
        walk_at "g"
        refine ⟨_,rfl,px,?_⟩
        walk_at "g"
        refine ⟨true,by rfl,?_⟩
        walk_at "g"
        refine ⟨_,rfl,px,?_⟩
        walk_at "g"
        try (refine IfP.f (by simp) ?_;walk_at "g")
        refine ⟨f60,px.ok,px.w,?_⟩
        walk_at "g"
        try (refine IfP.f (by simp) ?_;walk_at "g")
       case tup xs =>
        cases hh:hoB (.tup xs)
        · refine IfP.f rfl ?_
          walk_at "g"
          exact ⟨_,_,_,_,_,_,_,_,rfl⟩
        · refine IfP.t rfl ?_
          walk_at "g"
          refine ⟨_,rfl,ok,hh,?_⟩
          walk_at "g"
          exact ⟨_,_,_,_,_,_,_,_,rfl⟩
       all_goals exact ⟨_,_,_,_,_,_,_,_,rfl⟩
     · rintro ρ n7 ⟨v1,v2,v3,v4,v5,v6,v7,v8,rfl⟩
       exact ⟨_,_,_,_,_,_,_,_,rfl⟩
   · rintro ρ n' ⟨v1,v2,v3,v4,v5,v6,v7,v8,rfl⟩
     clear n0 n3
     walk_at "g"
end K
namespace K
open PySem L2
structure FnIn (K:Fg)(x:Str)(st:Stmt):Prop where
 ex:∃ (f:Addr) (fd:FuncData),PySem.W.nsIn K mainGlobals x=some (some (.ref f))/\Fun K x x st f fd
theorem fn_in {x:Str}{st:Stmt}{f:Addr}{oc:Value}{od an:Option Addr}{osl:Array (Option Value)}{kV doc pm cdv ct:Value}(a:PySem.W.nsIn K mainGlobals x=some (some (.ref f)))(l:K.lookup f=some ⟨oc,od,.func (PySem.W.fnOf x x (KQ st) (CB st) (J6 st) .none kV doc pm an cdv ct),osl⟩)(c:PySem.W.codeIn K cdv x=true)(k:PySem.W.keepIn K (.ref f)=true):FnIn K x st:=⟨⟨_,_,a,Q4y l c k⟩⟩
local macro_rules | `(tactic| walk_at "b1") => `(tactic| exact fun _ _ _ _ _ _ us hl => match us,hl with | [_],_ => rfl)
local macro_rules | `(tactic| walk_at "b2") => `(tactic| exact fun _ _ _ _ _ _ us hl => match us,hl with | [_,_],_ => rfl)
local macro_rules | `(tactic| walk_at "b3") => `(tactic| exact fun _ _ _ _ _ _ us hl => match us,hl with | [_,_,_],_ => rfl)
local macro_rules | `(tactic| walk_at "b4") => `(tactic| exact fun _ _ _ _ _ _ us hl => match us,hl with | [_,_,_,_],_ => rfl)
theorem Q6t {l:PySem.W.OpenLaw}{w:World} {h:Heap} {fa:Addr}(X:K.In h)(G:h.Ns mainGlobals mg)(hfa:mg "law" = some (.ref fa))
 (h0:FnIn K "_law_bag" GO)
 (h1:FnIn K "_law_take" CQ)
 (h2:FnIn K "_law_thing" CZ)
 (h3:FnIn K "determinant" FX)
 (h4:FnIn K "on_board" JB)
 (h5:FnIn K "side_number" FW)
 (h6:FnIn K "sign" WM)
 (h7:FnIn K "growth" NF)
 (h8:FnIn K "shifted_side" ER)
 (h9:FnIn K "has_dot" LH)
 (h10:FnIn K "turn" WL)
 (h11:FnIn K "products_added" BS)
 (h12:FnIn K "weights" KZ)
 (h13:FnIn K "unreduced_depth" BB)
 (h14:FnIn K "is_less" LC)
 (h15:FnIn K "seen_at" LA)
 (h16:FnIn K "is_whole" JD)
 (h17:FnIn K "is_whole_tuple" BU)
 (h18:FnIn K "common_divisor" BV)
 (h19:FnIn K "lowest_terms" CW)
 (h20:FnIn K "is_spot" LB)
 (h21:FnIn K "are_faces" FP)
 (h22:FnIn K "dot_holds" HQ)
 (h23:FnIn K "is_corner" FM)
 (h24:FnIn K "is_face" LF)
 (h25:FnIn K "check_body" EJ)
 (h26:FnIn K "is_body" LG)
 (h27:FnIn K "fellow" NG)
 (h28:FnIn K "sides_of" IY)
 (h29:FnIn K "is_side_place" ED)
 (h30:FnIn K "are_fellows" DV)
 (h31:FnIn K "fellows_hold" CY)
 (h32:FnIn K "is_length" HP)
 (h33:FnIn K "check_board" DU)
 (h34:FnIn K "narrowed" JC)
 (h35:FnIn K "spans_of" IX)
 (h36:FnIn K "dot_counts" GM)
 (h37:FnIn K "is_flat" LD)
 (h38:FnIn K "determinant_of_four" AG)
 (h39:FnIn K "check_flat" GN)
 (h40:FnIn K "worth" RH)
 (h41:FnIn K "is_piece" GL)
 (h42:FnIn K "place_at" IZ)
 (h43:FnIn K "counts_allowed" DJ)
 (h44:FnIn K "cut_holds" FN)
 (h45:FnIn K "holds" RI)
 (h46:FnIn K "_law_may" JG)
 (h47:FnIn K "law" YR)
 (z_abs:PySem.W.nsIn K mainGlobals "abs" = some none)
 (z_len:PySem.W.nsIn K mainGlobals "len" = some none)
 (z_max:PySem.W.nsIn K mainGlobals "max" = some none)
 (z_min:PySem.W.nsIn K mainGlobals "min" = some none)
 (z_range:PySem.W.nsIn K mainGlobals "range" = some none)
 (z_isinstance:PySem.W.nsIn K mainGlobals "isinstance" = some none)
 (z_int:PySem.W.nsIn K mainGlobals "int" = some none)
 (z_bool:PySem.W.nsIn K mainGlobals "bool" = some none)
 (z_tuple:PySem.W.nsIn K mainGlobals "tuple" = some none)
 (z_all:PySem.W.nsIn K mainGlobals "all" = some none)
 (z_any:PySem.W.nsIn K mainGlobals "any" = some none)
 (z_list:PySem.W.nsIn K mainGlobals "list" = some none)
 (z_zip:PySem.W.nsIn K mainGlobals "zip" = some none)
 (z_sum:PySem.W.nsIn K mainGlobals "sum" = some none)
 (z_enumerate:PySem.W.nsIn K mainGlobals "enumerate" = some none)
 (z_sorted:PySem.W.nsIn K mainGlobals "sorted" = some none)
 (z_set:PySem.W.nsIn K mainGlobals "set" = some none)
 (z_repr:PySem.W.nsIn K mainGlobals "repr" = some none)
 (z_str:PySem.W.nsIn K mainGlobals "str" = some none)
 {t_LONGEST:Tok} (z_LONGEST:PySem.W.nsIn K mainGlobals "LONGEST" = some (some (.int 16 t_LONGEST)))
 {t_MOST:Tok} (z_MOST:PySem.W.nsIn K mainGlobals "MOST" = some (some (.int 24 t_MOST)))
 {t_GREATEST_COORDINATE:Tok} (z_GREATEST_COORDINATE:PySem.W.nsIn K mainGlobals "GREATEST_COORDINATE" = some (some (.int 999999 t_GREATEST_COORDINATE)))
 {c_ShadeError:Addr} (e_ShadeError:PySem.W.nsIn K mainGlobals "ShadeError" = some (some (.ref c_ShadeError)))
 {c_NoBody:Addr} (e_NoBody:PySem.W.nsIn K mainGlobals "NoBody" = some (some (.ref c_NoBody)))
 {c_NoFlat:Addr} (e_NoFlat:PySem.W.nsIn K mainGlobals "NoFlat" = some (some (.ref c_NoFlat)))
 {c_NoFace:Addr} (e_NoFace:PySem.W.nsIn K mainGlobals "NoFace" = some (some (.ref c_NoFace)))
 {c_NoBoard:Addr} (e_NoBoard:PySem.W.nsIn K mainGlobals "NoBoard" = some (some (.ref c_NoBoard)))
 (q_NoBody:PySem.W.excIn K c_NoBody bmV "ValueError.__new__" = true) (x1_NoBody:PySem.W.findIn K (.ref c_NoBody) "__getattribute__" = some (some (.builtin "BaseException.__getattribute__"))) (x5_NoBody:PySem.W.findIn K (.ref c_NoBody) "__getattr__" = some none) (x6_NoBody:PySem.W.subIn K (.ref c_NoBody) (.type "BaseException")=some true) (x2_NoBody:PySem.W.findObj K c_NoBody none "__class__" = some (.bind (.builtin "getset_descriptor.__get__") (.builtin "object.__class__"))) (x3_NoBody:PySem.W.mroIn K c_NoBody (.type "object")=some true) (x4_NoBody:(PySem.W.clsIn K c_NoBody).isSome=true) (v_NoBody:PySem.W.subIn K (.ref c_NoBody) (.type "ValueError")=some true) (s_NoBody:PySem.W.subIn K (.ref c_NoBody) (.ref c_ShadeError)=some true)
 (n_NoBody_NoFlat:PySem.W.kin_not K c_NoBody c_NoFlat=true)
 (n_NoBody_NoFace:PySem.W.kin_not K c_NoBody c_NoFace=true)
 (n_NoBody_NoBoard:PySem.W.kin_not K c_NoBody c_NoBoard=true)
 (q_NoFlat:PySem.W.excIn K c_NoFlat bmV "ValueError.__new__" = true) (x1_NoFlat:PySem.W.findIn K (.ref c_NoFlat) "__getattribute__" = some (some (.builtin "BaseException.__getattribute__"))) (x5_NoFlat:PySem.W.findIn K (.ref c_NoFlat) "__getattr__" = some none) (x6_NoFlat:PySem.W.subIn K (.ref c_NoFlat) (.type "BaseException")=some true) (x2_NoFlat:PySem.W.findObj K c_NoFlat none "__class__" = some (.bind (.builtin "getset_descriptor.__get__") (.builtin "object.__class__"))) (x3_NoFlat:PySem.W.mroIn K c_NoFlat (.type "object")=some true) (x4_NoFlat:(PySem.W.clsIn K c_NoFlat).isSome=true) (v_NoFlat:PySem.W.subIn K (.ref c_NoFlat) (.type "ValueError")=some true) (s_NoFlat:PySem.W.subIn K (.ref c_NoFlat) (.ref c_ShadeError)=some true)
 (n_NoFlat_NoBody:PySem.W.kin_not K c_NoFlat c_NoBody=true)
 (n_NoFlat_NoFace:PySem.W.kin_not K c_NoFlat c_NoFace=true)
 (n_NoFlat_NoBoard:PySem.W.kin_not K c_NoFlat c_NoBoard=true)
 (q_NoFace:PySem.W.excIn K c_NoFace bmV "ValueError.__new__" = true) (x1_NoFace:PySem.W.findIn K (.ref c_NoFace) "__getattribute__" = some (some (.builtin "BaseException.__getattribute__"))) (x5_NoFace:PySem.W.findIn K (.ref c_NoFace) "__getattr__" = some none) (x6_NoFace:PySem.W.subIn K (.ref c_NoFace) (.type "BaseException")=some true) (x2_NoFace:PySem.W.findObj K c_NoFace none "__class__" = some (.bind (.builtin "getset_descriptor.__get__") (.builtin "object.__class__"))) (x3_NoFace:PySem.W.mroIn K c_NoFace (.type "object")=some true) (x4_NoFace:(PySem.W.clsIn K c_NoFace).isSome=true) (v_NoFace:PySem.W.subIn K (.ref c_NoFace) (.type "ValueError")=some true) (s_NoFace:PySem.W.subIn K (.ref c_NoFace) (.ref c_ShadeError)=some true)
 (n_NoFace_NoBody:PySem.W.kin_not K c_NoFace c_NoBody=true)
 (n_NoFace_NoFlat:PySem.W.kin_not K c_NoFace c_NoFlat=true)
 (n_NoFace_NoBoard:PySem.W.kin_not K c_NoFace c_NoBoard=true)
 (q_NoBoard:PySem.W.excIn K c_NoBoard bmV "ValueError.__new__" = true) (x1_NoBoard:PySem.W.findIn K (.ref c_NoBoard) "__getattribute__" = some (some (.builtin "BaseException.__getattribute__"))) (x5_NoBoard:PySem.W.findIn K (.ref c_NoBoard) "__getattr__" = some none) (x6_NoBoard:PySem.W.subIn K (.ref c_NoBoard) (.type "BaseException")=some true) (x2_NoBoard:PySem.W.findObj K c_NoBoard none "__class__" = some (.bind (.builtin "getset_descriptor.__get__") (.builtin "object.__class__"))) (x3_NoBoard:PySem.W.mroIn K c_NoBoard (.type "object")=some true) (x4_NoBoard:(PySem.W.clsIn K c_NoBoard).isSome=true) (v_NoBoard:PySem.W.subIn K (.ref c_NoBoard) (.type "ValueError")=some true) (s_NoBoard:PySem.W.subIn K (.ref c_NoBoard) (.ref c_ShadeError)=some true)
 (n_NoBoard_NoBody:PySem.W.kin_not K c_NoBoard c_NoBody=true)
 (n_NoBoard_NoFlat:PySem.W.kin_not K c_NoBoard c_NoFlat=true)
 (n_NoBoard_NoFace:PySem.W.kin_not K c_NoBoard c_NoFace=true)
 (xb1:(PySem.W.clsIn K c_ShadeError).isSome=true) (xb2:PySem.W.typeIn K (.ref c_ShadeError)=some (.type "type")) (xb3:PySem.W.subIn K (.ref c_ShadeError) (.type "BaseException")=some true)
 (yb1_NoBody:(PySem.W.clsIn K c_NoBody).isSome=true) (yb2_NoBody:PySem.W.typeIn K (.ref c_NoBody)=some (.type "type")) (yb3_NoBody:PySem.W.subIn K (.ref c_NoBody) (.type "BaseException")=some true) (ys_NoBody:PySem.W.subIn K (.ref c_NoBody) (.ref c_NoBody)=some true)
 : ∃ fd:FuncData,(∀ (s:Shared) (v:Value),BindsTo s fd ⟨[v],[]⟩ [("_law_script",v)])/\∀ base:Heap,K.In base->base.Ns mainGlobals mg->FnOk l.prog w K mg base CX0 9 fa fd ["_law_script"] (QY K):=by
 obtain ⟨f0,d0,a0,F0⟩:=h0.ex
 obtain ⟨f1,d1,a1,F1⟩:=h1.ex
 obtain ⟨f2,d2,a2,F2⟩:=h2.ex
 obtain ⟨f3,d3,a3,F3⟩:=h3.ex
 obtain ⟨f4,d4,a4,F4⟩:=h4.ex
 obtain ⟨f5,d5,a5,F5⟩:=h5.ex
 obtain ⟨f6,d6,a6,F6⟩:=h6.ex
 obtain ⟨f7,d7,a7,F7⟩:=h7.ex
 obtain ⟨f8,d8,a8,F8⟩:=h8.ex
 obtain ⟨f9,d9,a9,F9⟩:=h9.ex
 obtain ⟨f10,d10,a10,F10⟩:=h10.ex
 obtain ⟨f11,d11,a11,F11⟩:=h11.ex
 obtain ⟨f12,d12,a12,F12⟩:=h12.ex
 obtain ⟨f13,d13,a13,F13⟩:=h13.ex
 obtain ⟨f14,d14,a14,F14⟩:=h14.ex
 obtain ⟨f15,d15,a15,F15⟩:=h15.ex
 obtain ⟨f16,d16,a16,F16⟩:=h16.ex
 obtain ⟨f17,d17,a17,F17⟩:=h17.ex
 obtain ⟨f18,d18,a18,F18⟩:=h18.ex
 obtain ⟨f19,d19,a19,F19⟩:=h19.ex
 obtain ⟨f20,d20,a20,F20⟩:=h20.ex
 obtain ⟨f21,d21,a21,F21⟩:=h21.ex
 obtain ⟨f22,d22,a22,F22⟩:=h22.ex
 obtain ⟨f23,d23,a23,F23⟩:=h23.ex
 obtain ⟨f24,d24,a24,F24⟩:=h24.ex
 obtain ⟨f25,d25,a25,F25⟩:=h25.ex
 obtain ⟨f26,d26,a26,F26⟩:=h26.ex
 obtain ⟨f27,d27,a27,F27⟩:=h27.ex
 obtain ⟨f28,d28,a28,F28⟩:=h28.ex
 obtain ⟨f29,d29,a29,F29⟩:=h29.ex
 obtain ⟨f30,d30,a30,F30⟩:=h30.ex
 obtain ⟨f31,d31,a31,F31⟩:=h31.ex
 obtain ⟨f32,d32,a32,F32⟩:=h32.ex
 obtain ⟨f33,d33,a33,F33⟩:=h33.ex
 obtain ⟨f34,d34,a34,F34⟩:=h34.ex
 obtain ⟨f35,d35,a35,F35⟩:=h35.ex
 obtain ⟨f36,d36,a36,F36⟩:=h36.ex
 obtain ⟨f37,d37,a37,F37⟩:=h37.ex
 obtain ⟨f38,d38,a38,F38⟩:=h38.ex
 obtain ⟨f39,d39,a39,F39⟩:=h39.ex
 obtain ⟨f40,d40,a40,F40⟩:=h40.ex
 obtain ⟨f41,d41,a41,F41⟩:=h41.ex
 obtain ⟨f42,d42,a42,F42⟩:=h42.ex
 obtain ⟨f43,d43,a43,F43⟩:=h43.ex
 obtain ⟨f44,d44,a44,F44⟩:=h44.ex
 obtain ⟨f45,d45,a45,F45⟩:=h45.ex
 obtain ⟨f46,d46,a46,F46⟩:=h46.ex
 obtain ⟨f47,d47,a47,F47⟩:=h47.ex
 have e:=hfa.symm.trans (B4 X G a47)
 cases e
 have Z:Bi mg:=⟨R0 X G z_abs,R0 X G z_len,R0 X G z_max,R0 X G z_min,R0 X G z_range,R0 X G z_isinstance,R0 X G z_int,R0 X G z_bool,R0 X G z_tuple,R0 X G z_all,R0 X G z_any,R0 X G z_list,R0 X G z_zip,R0 X G z_sum,R0 X G z_enumerate,R0 X G z_sorted,R0 X G z_set,R0 X G z_repr,R0 X G z_str,⟨_,B4 X G z_LONGEST⟩,⟨_,B4 X G z_MOST⟩,⟨_,B4 X G z_GREATEST_COORDINATE⟩⟩
 have bl:=F47.binds (ps:=["_law_script"]) fun _ _ _ _ _ _ us hl=>match us,hl with | [_],_=>rfl
 obtain ⟨oc,od,kV,doc,pm,an,cdv,ct,osl,el,lk,hcd⟩:=F47.ex
 refine ⟨d47,fun s v=>by rw [el];exact .of_eq rfl,fun base kb gb=>?_⟩
 have Y:Ex K mg base ⟨c_ShadeError,c_NoBody,c_NoFlat,c_NoFace,c_NoBoard⟩:=⟨B4 X G e_ShadeError,B4 X G e_NoBody,B4 X G e_NoFlat,B4 X G e_NoFace,B4 X G e_NoBoard,ZE kb gb e_NoBody q_NoBody,⟨x1_NoBody,x5_NoBody,x2_NoBody,x3_NoBody,x4_NoBody,x6_NoBody⟩,v_NoBody,s_NoBody,n_NoBody_NoFlat,n_NoBody_NoFace,n_NoBody_NoBoard,ZE kb gb e_NoFlat q_NoFlat,⟨x1_NoFlat,x5_NoFlat,x2_NoFlat,x3_NoFlat,x4_NoFlat,x6_NoFlat⟩,v_NoFlat,s_NoFlat,n_NoFlat_NoBody,n_NoFlat_NoFace,n_NoFlat_NoBoard,ZE kb gb e_NoFace q_NoFace,⟨x1_NoFace,x5_NoFace,x2_NoFace,x3_NoFace,x4_NoFace,x6_NoFace⟩,v_NoFace,s_NoFace,n_NoFace_NoBody,n_NoFace_NoFlat,n_NoFace_NoBoard,ZE kb gb e_NoBoard q_NoBoard,⟨x1_NoBoard,x5_NoBoard,x2_NoBoard,x3_NoBoard,x4_NoBoard,x6_NoBoard⟩,v_NoBoard,s_NoBoard,n_NoBoard_NoBody,n_NoBoard_NoFlat,n_NoBoard_NoFace,⟨xb1,xb2,xb3⟩,⟨yb1_NoBody,yb2_NoBody,yb3_NoBody⟩,ys_NoBody⟩
 have G0:=Callee.mk' F0 (UH (P:=l.prog) (w:=w) (base:=base) F0 Z Y) (B4 X G a0) (F0.binds (by walk_at "b2"))
 have G1:=Callee.mk' F1 (RU (P:=l.prog) (w:=w) (base:=base) F1 Z Y) (B4 X G a1) (F1.binds (by walk_at "b2"))
 have G2:=Callee.mk' F2 (HW (P:=l.prog) (w:=w) (base:=base) F2 Z Y ⟨G1⟩ (B4 X G a2) (F2.binds (by walk_at "b2")) 3) (B4 X G a2) (F2.binds (by walk_at "b2"))
 have G3:=Callee.mk' F3 (NO (P:=l.prog) (w:=w) (base:=base) F3 Z Y) (B4 X G a3) (F3.binds (by walk_at "b3"))
 have G4:=Callee.mk' F4 (UC (P:=l.prog) (w:=w) (base:=base) F4 Z Y) (B4 X G a4) (F4.binds (by walk_at "b1"))
 have G5:=Callee.mk' F5 (NM (P:=l.prog) (w:=w) (base:=base) F5 Z Y ⟨G3,G4⟩) (B4 X G a5) (F5.binds (by walk_at "b3"))
 have G6:=Callee.mk' F6 (J9g (P:=l.prog) (w:=w) (base:=base) F6 Z Y) (B4 X G a6) (F6.binds (by walk_at "b1"))
 have G7:=Callee.mk' F7 (J1k (P:=l.prog) (w:=w) (base:=base) F7 Z Y) (B4 X G a7) (F7.binds (by walk_at "b2"))
 have G8:=Callee.mk' F8 (MH (P:=l.prog) (w:=w) (base:=base) F8 Z Y ⟨G5,G6,G7⟩) (B4 X G a8) (F8.binds (by walk_at "b3"))
 have G9:=Callee.mk' F9 (XF (P:=l.prog) (w:=w) (base:=base) F9 Z Y ⟨G8⟩) (B4 X G a9) (F9.binds (by walk_at "b2"))
 have G10:=Callee.mk' F10 (J9f (P:=l.prog) (w:=w) (base:=base) F10 Z Y ⟨G3,G4⟩) (B4 X G a10) (F10.binds (by walk_at "b1"))
 have G11:=Callee.mk' F11 (KB (P:=l.prog) (w:=w) (base:=base) F11 Z Y) (B4 X G a11) (F11.binds (by walk_at "b2"))
 have G12:=Callee.mk' F12 (WY (P:=l.prog) (w:=w) (base:=base) F12 Z Y ⟨G5⟩) (B4 X G a12) (F12.binds (by walk_at "b2"))
 have G13:=Callee.mk' F13 (JJ (P:=l.prog) (w:=w) (base:=base) F13 Z Y ⟨G10,G11,G12,G6⟩) (B4 X G a13) (F13.binds (by walk_at "b2"))
 have G14:=Callee.mk' F14 (XB (P:=l.prog) (w:=w) (base:=base) F14 Z Y) (B4 X G a14) (F14.binds (by walk_at "b2"))
 have G15:=Callee.mk' F15 (WZ (P:=l.prog) (w:=w) (base:=base) F15 Z Y ⟨G9,G13,G14⟩) (B4 X G a15) (F15.binds (by walk_at "b2"))
 have G16:=Callee.mk' F16 (UE (P:=l.prog) (w:=w) (base:=base) F16 Z Y) (B4 X G a16) (F16.binds (by walk_at "b1"))
 have G17:=Callee.mk' F17 (KC (P:=l.prog) (w:=w) (base:=base) F17 Z Y ⟨G16⟩) (B4 X G a17) (F17.binds (by walk_at "b2"))
 have G18:=Callee.mk' F18 (KE (P:=l.prog) (w:=w) (base:=base) F18 Z Y) (B4 X G a18) (F18.binds (by walk_at "b2"))
 have G19:=Callee.mk' F19 (MI (P:=l.prog) (w:=w) (base:=base) F19 Z Y ⟨G18⟩) (B4 X G a19) (F19.binds (by walk_at "b1"))
 have G20:=Callee.mk' F20 (XA (P:=l.prog) (w:=w) (base:=base) F20 Z Y ⟨G17,G19⟩) (B4 X G a20) (F20.binds (by walk_at "b1"))
 have G21:=Callee.mk' F21 (RT (P:=l.prog) (w:=w) (base:=base) F21 Z Y ⟨G20⟩) (B4 X G a21) (F21.binds (by walk_at "b1"))
 have G22:=Callee.mk' F22 (RQ (P:=l.prog) (w:=w) (base:=base) F22 Z Y ⟨G15,G21,G17,G16⟩) (B4 X G a22) (F22.binds (by walk_at "b3"))
 have G23:=Callee.mk' F23 (RP (P:=l.prog) (w:=w) (base:=base) F23 Z Y ⟨G17⟩) (B4 X G a23) (F23.binds (by walk_at "b1"))
 have G24:=Callee.mk' F24 (XD (P:=l.prog) (w:=w) (base:=base) F24 Z Y ⟨G17⟩) (B4 X G a24) (F24.binds (by walk_at "b2"))
 have G25:=Callee.mk' F25 (PC (P:=l.prog) (w:=w) (base:=base) F25 Z Y ⟨G23,G24⟩) (B4 X G a25) (F25.binds (by walk_at "b1"))
 have G26:=Callee.mk' F26 (XE (P:=l.prog) (w:=w) (base:=base) F26 Z Y ⟨G25⟩) (B4 X G a26) (F26.binds (by walk_at "b1"))
 have G27:=Callee.mk' F27 (J1l (P:=l.prog) (w:=w) (base:=base) F27 Z Y) (B4 X G a27) (F27.binds (by walk_at "b1"))
 have G28:=Callee.mk' F28 (UA (P:=l.prog) (w:=w) (base:=base) F28 Z Y) (B4 X G a28) (F28.binds (by walk_at "b1"))
 have G29:=Callee.mk' F29 (LK (P:=l.prog) (w:=w) (base:=base) F29 Z Y ⟨G17⟩) (B4 X G a29) (F29.binds (by walk_at "b2"))
 have G30:=Callee.mk' F30 (NQ (P:=l.prog) (w:=w) (base:=base) F30 Z Y ⟨G27,G28,G29⟩) (B4 X G a30) (F30.binds (by walk_at "b2"))
 have G31:=Callee.mk' F31 (MJ (P:=l.prog) (w:=w) (base:=base) F31 Z Y ⟨G26,G30⟩) (B4 X G a31) (F31.binds (by walk_at "b2"))
 have G32:=Callee.mk' F32 (RO (P:=l.prog) (w:=w) (base:=base) F32 Z Y) (B4 X G a32) (F32.binds (by walk_at "b1"))
 have G33:=Callee.mk' F33 (NP (P:=l.prog) (w:=w) (base:=base) F33 Z Y ⟨G17,G32⟩) (B4 X G a33) (F33.binds (by walk_at "b1"))
 have G34:=Callee.mk' F34 (UD (P:=l.prog) (w:=w) (base:=base) F34 Z Y ⟨G7,G5,G8⟩) (B4 X G a34) (F34.binds (by walk_at "b4"))
 have G35:=Callee.mk' F35 (TZ (P:=l.prog) (w:=w) (base:=base) F35 Z Y ⟨G33,G6,G10,G34⟩) (B4 X G a35) (F35.binds (by walk_at "b2"))
 have G36:=Callee.mk' F36 (OZ (P:=l.prog) (w:=w) (base:=base) F36 Z Y ⟨G35⟩) (B4 X G a36) (F36.binds (by walk_at "b1"))
 have G37:=Callee.mk' F37 (XC (P:=l.prog) (w:=w) (base:=base) F37 Z Y ⟨G17⟩) (B4 X G a37) (F37.binds (by walk_at "b1"))
 have G38:=Callee.mk' F38 (GU (P:=l.prog) (w:=w) (base:=base) F38 Z Y ⟨G3⟩) (B4 X G a38) (F38.binds (by walk_at "b4"))
 have G39:=Callee.mk' F39 (PB (P:=l.prog) (w:=w) (base:=base) F39 Z Y ⟨G37⟩) (B4 X G a39) (F39.binds (by walk_at "b1"))
 have G40:=Callee.mk' F40 (J4q (P:=l.prog) (w:=w) (base:=base) F40 Z Y ⟨G39,G11⟩) (B4 X G a40) (F40.binds (by walk_at "b2"))
 have G41:=Callee.mk' F41 (UF (P:=l.prog) (w:=w) (base:=base) F41 Z Y ⟨G6,G10,G38,G40⟩) (B4 X G a41) (F41.binds (by walk_at "b3"))
 have G42:=Callee.mk' F42 (UB (P:=l.prog) (w:=w) (base:=base) F42 Z Y ⟨G13,G19⟩) (B4 X G a42) (F42.binds (by walk_at "b2"))
 have G43:=Callee.mk' F43 (KD (P:=l.prog) (w:=w) (base:=base) F43 Z Y ⟨G40,G9,G42⟩) (B4 X G a43) (F43.binds (by walk_at "b3"))
 have G44:=Callee.mk' F44 (RS (P:=l.prog) (w:=w) (base:=base) F44 Z Y ⟨G36,G21,G37,G41,G43⟩) (B4 X G a44) (F44.binds (by walk_at "b3"))
 have G45:=Callee.mk' F45 (J4r (P:=l.prog) (w:=w) (base:=base) F45 Z Y ⟨G22,G31,G44⟩) (B4 X G a45) (F45.binds (by walk_at "b1"))
 have G46:=Callee.mk' F46 (UG (P:=l.prog) (w:=w) (base:=base) F46 Z Y) (B4 X G a46) (F46.binds (by walk_at "b1"))
 exact Q4c (P:=l.prog) (w:=w) (base:=base) F47 Z Y ⟨G0,G1,G2,G45,G46⟩
theorem V0l {l:PySem.W.OpenLaw}{q:Program}{loose:List Str}{XP:(Str->Option Value)->Heap->Prop}{YP:World->Heap->Prop}{d:DefRec}{K:Params->Fg}(hn:l.most=some 63)(hdf:d.params.defaults=[])
 (hY:∀ (w:World) (h:Heap),YP w h->(K w.params).In h)
 (F:∀ (w:World) (mg:Str->Option Value) (fa:Addr) (h:Heap),(K w.params).In h->h.Ns mainGlobals mg->mg d.name=some (.ref fa) ->
  ∃ fd:FuncData,(∀ (s:Shared) (u:Value),BindsTo s fd ⟨[u],[]⟩ [("_law_script",u)])/\∀ base:Heap,(K w.params).In base->base.Ns mainGlobals mg->FnOk l.prog w (K w.params) mg base CX0 9 fa fd ["_law_script"] (QY (K w.params))) :
 PySem.W.WalkO q loose XP YP l.row.toRowW d [] (fun f vs=>PySem.call f vs) :=
 L2.J8a (n:=63) (k:=9) (x:="_law_script") (CX:=fun _=>CX0) (sp:=fun w=>QY (K w.params)) hn (by decide) hdf ⟨rfl,by decide,by decide,rfl⟩ hY F (fun _ _ a ns hl _ hS=>⟨a,ns,rfl,hS,hl,fun _=>rfl⟩) fun _ _ _ _ _ z=>z
end K
open PySem PySem.W PyProof.Rows
theorem PySem.W.Fast.tw14503329072006177759:True:=trivial
theorem PySem.W.Fast.tw13124339917988401694:True:=trivial
theorem PySem.W.Fast.tw16818773144354137084:True:=trivial
theorem PySem.W.Fast.tw18054737956567161786:True:=trivial
theorem PySem.W.Fast.tw9872047477157436954:True:=trivial
theorem PySem.W.Fast.tw9988306038940436537:True:=trivial
theorem PySem.W.Fast.tw17562011883311682968:True:=trivial
theorem PySem.W.Fast.tw2072036510386937976:True:=trivial
theorem PySem.W.Fast.tw11539442628232007093:True:=trivial
theorem PySem.W.Fast.tw7261763411197617427:True:=trivial
theorem PySem.W.Fast.tw5100530967649882738:True:=trivial
theorem PySem.W.Fast.tw7694610801055516786:True:=trivial
theorem PySem.W.Fast.tw14266421359144639473:True:=trivial
theorem PySem.W.Fast.tw1987581178820693681:True:=trivial
theorem PySem.W.Fast.tw9599738387924050222:True:=trivial
theorem PySem.W.Fast.tw8917482966356351948:True:=trivial
theorem PySem.W.Fast.tw14880593005623084908:True:=trivial
theorem PySem.W.Fast.tw17096239161765828681:True:=trivial
theorem PySem.W.Fast.tw9702598020316417124:True:=trivial
theorem PySem.W.Fast.tw9278753258160665345:True:=trivial
theorem PySem.W.Fast.tw1280745564666730945:True:=trivial
theorem PySem.W.Fast.tw13137309994556121440:True:=trivial
theorem PySem.W.Fast.tw6540387417889836320:True:=trivial
theorem PySem.W.Fast.tw4838498285223306334:True:=trivial
theorem PySem.W.Fast.tw5307007360705726472:True:=trivial
theorem PySem.W.Fast.tw1926272329889066394:True:=trivial
theorem PySem.W.Fast.tw13804897841409349684:True:=trivial
theorem PySem.W.Fast.tw17944075603188904368:True:=trivial
theorem PySem.W.Fast.tw4597541735221444826:True:=trivial
theorem PySem.W.Fast.tw5992027974713702865:True:=trivial
theorem PySem.W.Fast.tw1514449555522923994:True:=trivial
theorem PySem.W.Fast.tw17875019560753948357:True:=trivial
theorem PySem.W.Fast.tw16818974293638126847:True:=trivial
theorem PySem.W.Fast.tw3612161520893789088:True:=trivial
theorem PySem.W.Fast.tw11734061077734582413:True:=trivial
theorem PySem.W.Fast.tw9380689483886043610:True:=trivial
theorem PySem.W.Fast.tw6098371103372674678:True:=trivial
theorem PySem.W.Fast.tw4462326168676395040:True:=trivial
theorem PySem.W.Fast.tw2757893148382342475:True:=trivial
theorem PySem.W.Fast.tw11433987925102099580:True:=trivial
theorem PySem.W.Fast.tw5002671535512689852:True:=trivial
theorem PySem.W.Fast.tw14005495748990869688:True:=trivial
theorem PySem.W.Fast.tw8860352157142535843:True:=trivial
theorem PySem.W.Fast.tw3674627690758533055:True:=trivial
theorem PySem.W.Fast.tw7885315623171167424:True:=trivial
theorem PySem.W.Fast.tw2753283155816404874:True:=trivial
theorem PySem.W.Fast.tw16807400514802075010:True:=trivial
theorem PySem.W.Fast.tw519082586529959797:True:=trivial
theorem PySem.W.Fast.tw10960235927214249226:True:=trivial
theorem PySem.W.Fast.tw3500588387478047872:True:=trivial
theorem PySem.W.Fast.tw9011397519684551892:True:=trivial
theorem PySem.W.Fast.tw4874376480546142764:True:=trivial
theorem PySem.W.Fast.tw2490803450068197078:True:=trivial
theorem PySem.W.Fast.tw15157830626833072706:True:=trivial
theorem PySem.W.Fast.tw8548485643825619845:True:=trivial
theorem PySem.W.Fast.tw2908873805931634532:True:=trivial
theorem PySem.W.Fast.tw17011175742539920288:True:=trivial
theorem PySem.W.Fast.tw9563361386543599181:True:=trivial
theorem PySem.W.Fast.tw7626412535512553009:True:=trivial
theorem PySem.W.Fast.tw16851430896455624905:True:=trivial
theorem PySem.W.Fast.tw1334479438593223473:True:=trivial
theorem PySem.W.Fast.tw980358349486390092:True:=trivial
theorem PySem.W.Fast.tw6090967504003469511:True:=trivial
theorem PySem.W.Fast.tw15869593336915258420:True:=trivial
theorem PySem.W.Fast.tw8190713313485274724:True:=trivial
theorem PySem.W.Fast.tw13718075572317881337:True:=trivial
theorem PySem.W.Fast.tw14707839148584762043:True:=trivial
theorem PySem.W.Fast.tw8073420158195390569:True:=trivial
theorem PySem.W.Fast.tw17741204867516136858:True:=trivial
theorem PySem.W.Fast.tw17407793867436086918:True:=trivial
theorem PySem.W.Fast.tw14696162670242940806:True:=trivial
theorem PySem.W.Fast.tw9754987885102028566:True:=trivial
theorem PySem.W.Fast.tw1907924937145025972:True:=trivial
theorem PySem.W.Fast.tw3209287640104769536:True:=trivial
theorem PySem.W.Fast.tw4416724513989689183:True:=trivial
theorem PySem.W.Fast.tw17799801223954256654:True:=trivial
theorem PySem.W.Fast.tw11748718965812698783:True:=trivial
theorem PySem.W.Fast.tw6555928429158484446:True:=trivial
theorem PySem.W.Fast.tw7728688196911817523:True:=trivial
theorem PySem.W.Fast.tw17540455500489338870:True:=trivial
theorem PySem.W.Fast.tw11703434060319504577:True:=trivial
theorem PySem.W.Fast.tw6250032285947513308:True:=trivial
theorem PySem.W.Fast.tw1619310411772860891:True:=trivial
theorem PySem.W.Fast.tw9188305573356917256:True:=trivial
theorem PySem.W.Fast.tw4297917421726355944:True:=trivial
theorem PySem.W.Fast.tw13945569602583831937:True:=trivial
theorem PySem.W.Fast.tw13459949020472201787:True:=trivial
theorem PySem.W.Fast.tw10941343089399428108:True:=trivial
theorem PySem.W.Fast.tw2276263217716998937:True:=trivial
theorem PySem.W.Fast.tw14328883803119993177:True:=trivial
theorem PySem.W.Fast.tw11589837914147082522:True:=trivial
theorem PySem.W.Fast.tw4649239584193968333:True:=trivial
theorem PySem.W.Fast.tw3824289080139825690:True:=trivial
theorem PySem.W.Fast.tw5215756491941754563:True:=trivial
theorem PySem.W.Fast.tw6416837879405768452:True:=trivial
theorem PySem.W.Fast.tw753267893334446533:True:=trivial
theorem PySem.W.Fast.tw979219696711191546:True:=trivial
theorem PySem.W.Fast.tw278714090371303263:True:=trivial
theorem PySem.W.Fast.tw10713454448303514200:True:=trivial
theorem PySem.W.Fast.tw15948816228681595037:True:=trivial
theorem PySem.W.Fast.tw5334456120307544961:True:=trivial
theorem PySem.W.Fast.tw7823598678540823972:True:=trivial
theorem PySem.W.Fast.tw13254827192358121165:True:=trivial
theorem PySem.W.Fast.tw3052693129309302868:True:=trivial
theorem PySem.W.Fast.tw3721549276405898915:True:=trivial
theorem PySem.W.Fast.tw3240494781774676645:True:=trivial
theorem PySem.W.Fast.tw8702791910225649721:True:=trivial
theorem PySem.W.Fast.tw4853350968227250491:True:=trivial
theorem PySem.W.Fast.tw2691158900733006942:True:=trivial
theorem PySem.W.Fast.tw7797853865540822677:True:=trivial
theorem PySem.W.Fast.tw7387084932034257763:True:=trivial
theorem PySem.W.Fast.tw15231677155543098517:True:=trivial
theorem PySem.W.Fast.tw17829901325967791024:True:=trivial
theorem PySem.W.Fast.tw2687870576213996568:True:=trivial
theorem PySem.W.Fast.tw16273211007470658548:True:=trivial
theorem PySem.W.Fast.tw1179160650398926625:True:=trivial
theorem PySem.W.Fast.tw17084815811368857077:True:=trivial
theorem PySem.W.Fast.tw18143161963134249097:True:=trivial
theorem PySem.W.Fast.tw5942790017323247136:True:=trivial
theorem PySem.W.Fast.tw17032385809620339504:True:=trivial
theorem PySem.W.Fast.tw9922825815009678771:True:=trivial
theorem PySem.W.Fast.tw2360849077814232014:True:=trivial
theorem PySem.W.Fast.tw12244692239460124697:True:=trivial
theorem PySem.W.Fast.tw16334757577081706763:True:=trivial
theorem PySem.W.Fast.tw16201079909546370527:True:=trivial
theorem PySem.W.Fast.tw17857246604592715178:True:=trivial
theorem PySem.W.Fast.tw7920316847912280222:True:=trivial
local macro_rules | `(tactic| walk_at "fn") => `(tactic| (refine' _root_.K.fn_in ?a ?l ?c ?k; (case a => k_is); (case l => k_is); (case c => k_is); (case k => k_is)))
set_option maxRecDepth 100000 in
set_option maxHeartbeats 0 in
theorem PySem.Challenge.cw_onceshade_k69_papers_of_any_thing_holds : PySem.Challenge.rw_onceshade_k69_papers_of_any_thing.Holds := by
 w_on;o_law;k_head;(case hw=>w_witness2)
 k_fill
 refine K.V0l (l:=PySem.Challenge.rw_onceshade_k69_papers_of_any_thing) rfl rfl (fun w h Y=>PySem.W.kIn_of Y) ?F
 case F =>
  intro w mg fa h KX G hmg
  refine' K.Q6t KX G hmg ?h0 ?h1 ?h2 ?h3 ?h4 ?h5 ?h6 ?h7 ?h8 ?h9 ?h10 ?h11 ?h12 ?h13 ?h14 ?h15 ?h16 ?h17 ?h18 ?h19 ?h20 ?h21 ?h22 ?h23 ?h24 ?h25 ?h26 ?h27 ?h28 ?h29 ?h30 ?h31 ?h32 ?h33 ?h34 ?h35 ?h36 ?h37 ?h38 ?h39 ?h40 ?h41 ?h42 ?h43 ?h44 ?h45 ?h46 ?h47 ?z_abs ?z_len ?z_max ?z_min ?z_range ?z_isinstance ?z_int ?z_bool ?z_tuple ?z_all ?z_any ?z_list ?z_zip ?z_sum ?z_enumerate ?z_sorted ?z_set ?z_repr ?z_str ?z_LONGEST ?z_MOST ?z_GREATEST_COORDINATE ?e_ShadeError ?e_NoBody ?e_NoFlat ?e_NoFace ?e_NoBoard ?q_NoBody ?x1_NoBody ?x5_NoBody ?x6_NoBody ?x2_NoBody ?x3_NoBody ?x4_NoBody ?v_NoBody ?s_NoBody ?n_NoBody_NoFlat ?n_NoBody_NoFace ?n_NoBody_NoBoard ?q_NoFlat ?x1_NoFlat ?x5_NoFlat ?x6_NoFlat ?x2_NoFlat ?x3_NoFlat ?x4_NoFlat ?v_NoFlat ?s_NoFlat ?n_NoFlat_NoBody ?n_NoFlat_NoFace ?n_NoFlat_NoBoard ?q_NoFace ?x1_NoFace ?x5_NoFace ?x6_NoFace ?x2_NoFace ?x3_NoFace ?x4_NoFace ?v_NoFace ?s_NoFace ?n_NoFace_NoBody ?n_NoFace_NoFlat ?n_NoFace_NoBoard ?q_NoBoard ?x1_NoBoard ?x5_NoBoard ?x6_NoBoard ?x2_NoBoard ?x3_NoBoard ?x4_NoBoard ?v_NoBoard ?s_NoBoard ?n_NoBoard_NoBody ?n_NoBoard_NoFlat ?n_NoBoard_NoFace ?xb1 ?xb2 ?xb3 ?yb1_NoBody ?yb2_NoBody ?yb3_NoBody ?ys_NoBody
  (case h0=>walk_at "fn")
  (case h1=>walk_at "fn")
  (case h2=>walk_at "fn")
  (case h3=>walk_at "fn")
  (case h4=>walk_at "fn")
  (case h5=>walk_at "fn")
  (case h6=>walk_at "fn")
  (case h7=>walk_at "fn")
  (case h8=>walk_at "fn")
  (case h9=>walk_at "fn")
  (case h10=>walk_at "fn")
  (case h11=>walk_at "fn")
  (case h12=>walk_at "fn")
  (case h13=>walk_at "fn")
  (case h14=>walk_at "fn")
  (case h15=>walk_at "fn")
  (case h16=>walk_at "fn")
  (case h17=>walk_at "fn")
  (case h18=>walk_at "fn")
  (case h19=>walk_at "fn")
  (case h20=>walk_at "fn")
  (case h21=>walk_at "fn")
  (case h22=>walk_at "fn")
  (case h23=>walk_at "fn")
  (case h24=>walk_at "fn")
  (case h25=>walk_at "fn")
  (case h26=>walk_at "fn")
  (case h27=>walk_at "fn")
  (case h28=>walk_at "fn")
  (case h29=>walk_at "fn")
  (case h30=>walk_at "fn")
  (case h31=>walk_at "fn")
  (case h32=>walk_at "fn")
  (case h33=>walk_at "fn")
  (case h34=>walk_at "fn")
  (case h35=>walk_at "fn")
  (case h36=>walk_at "fn")
  (case h37=>walk_at "fn")
  (case h38=>walk_at "fn")
  (case h39=>walk_at "fn")
  (case h40=>walk_at "fn")
  (case h41=>walk_at "fn")
  (case h42=>walk_at "fn")
  (case h43=>walk_at "fn")
  (case h44=>walk_at "fn")
  (case h45=>walk_at "fn")
  (case h46=>walk_at "fn")
  (case h47=>walk_at "fn")
  (case z_abs=>k_is)
  (case z_len=>k_is)
  (case z_max=>k_is)
  (case z_min=>k_is)
  (case z_range=>k_is)
  (case z_isinstance=>k_is)
  (case z_int=>k_is)
  (case z_bool=>k_is)
  (case z_tuple=>k_is)
  (case z_all=>k_is)
  (case z_any=>k_is)
  (case z_list=>k_is)
  (case z_zip=>k_is)
  (case z_sum=>k_is)
  (case z_enumerate=>k_is)
  (case z_sorted=>k_is)
  (case z_set=>k_is)
  (case z_repr=>k_is)
  (case z_str=>k_is)
  (case z_LONGEST=>k_is)
  (case z_MOST=>k_is)
  (case z_GREATEST_COORDINATE=>k_is)
  (case e_ShadeError=>k_is)
  (case e_NoBody=>k_is)
  (case e_NoFlat=>k_is)
  (case e_NoFace=>k_is)
  (case e_NoBoard=>k_is)
  (case q_NoBody=>k_exc)
  (case x1_NoBody=>kernel_rfl)
  (case x5_NoBody=>kernel_rfl)
  (case x6_NoBody=>kernel_rfl)
  (case x2_NoBody=>kernel_rfl)
  (case x3_NoBody=>kernel_rfl)
  (case x4_NoBody=>kernel_rfl)
  (case v_NoBody=>kernel_rfl)
  (case s_NoBody=>kernel_rfl)
  (case n_NoBody_NoFlat=>kernel_rfl)
  (case n_NoBody_NoFace=>kernel_rfl)
  (case n_NoBody_NoBoard=>kernel_rfl)
  (case q_NoFlat=>k_exc)
  (case x1_NoFlat=>kernel_rfl)
  (case x5_NoFlat=>kernel_rfl)
  (case x6_NoFlat=>kernel_rfl)
  (case x2_NoFlat=>kernel_rfl)
  (case x3_NoFlat=>kernel_rfl)
  (case x4_NoFlat=>kernel_rfl)
  (case v_NoFlat=>kernel_rfl)
  (case s_NoFlat=>kernel_rfl)
  (case n_NoFlat_NoBody=>kernel_rfl)
  (case n_NoFlat_NoFace=>kernel_rfl)
  (case n_NoFlat_NoBoard=>kernel_rfl)
  (case q_NoFace=>k_exc)
  (case x1_NoFace=>kernel_rfl)
  (case x5_NoFace=>kernel_rfl)
  (case x6_NoFace=>kernel_rfl)
  (case x2_NoFace=>kernel_rfl)
  (case x3_NoFace=>kernel_rfl)
  (case x4_NoFace=>kernel_rfl)
  (case v_NoFace=>kernel_rfl)
  (case s_NoFace=>kernel_rfl)
  (case n_NoFace_NoBody=>kernel_rfl)
  (case n_NoFace_NoFlat=>kernel_rfl)
  (case n_NoFace_NoBoard=>kernel_rfl)
  (case q_NoBoard=>k_exc)
  (case x1_NoBoard=>kernel_rfl)
  (case x5_NoBoard=>kernel_rfl)
  (case x6_NoBoard=>kernel_rfl)
  (case x2_NoBoard=>kernel_rfl)
  (case x3_NoBoard=>kernel_rfl)
  (case x4_NoBoard=>kernel_rfl)
  (case v_NoBoard=>kernel_rfl)
  (case s_NoBoard=>kernel_rfl)
  (case n_NoBoard_NoBody=>kernel_rfl)
  (case n_NoBoard_NoFlat=>kernel_rfl)
  (case n_NoBoard_NoFace=>kernel_rfl)
  (case xb1=>kernel_rfl)
  (case xb2=>kernel_rfl)
  (case xb3=>kernel_rfl)
  (case yb1_NoBody=>kernel_rfl)
  (case yb2_NoBody=>kernel_rfl)
  (case yb3_NoBody=>kernel_rfl)
  (case ys_NoBody=>kernel_rfl)
