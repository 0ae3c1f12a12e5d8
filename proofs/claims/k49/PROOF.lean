import PyProof.Rows.All
import Wide.All
import OpenK.AllK
import Wide.FinOn
import Lean
import PyProof.EqAt
import PyProof.EqKinds
import PyProof.TupleCall
import PySem.Challenge.RW_onceshade_k49_square_by_square
set_option bootstrap.genMatcherCode false
set_option Elab.async false
set_option linter.all false
set_option maxRecDepth 100000
def B0:=@PySem.wpAny_bind
def B1:=@PySem.wpAny_pure
def B2:=@PySem.Heap.get?_push_of_some
def B3:=@PySem.W.mg_of
def B4:=@PySem.Heap.lt_size
def B5:=@List.mem_cons_of_mem
def B6:=@List.mem_cons
def B7:=@List.getElem?_eq_some_iff
def B8:=@List.mem_cons_self
def B9:=@List.length_map
def L4:=@List.mem_of_getElem?
def L5:=@List.mem_append_right
def L6:=@List.getElem?_set_ne
def L7:=@PySem.Heap.get?_push_size
def L8:=@Nat.le_refl
def L9:=@Bool.false_ne_true
def M1:=@List.getElem?_map
def M3:=@List.mem_map
def M4:=@Nat.lt_of_lt_of_le
def M5:=@List.getElem?_eq_getElem
def M6:=@List.mem_singleton
def M7:=@Option.map_eq_some_iff
def M8:=@List.size_toArray
def M9:=@Nat.lt_irrefl
def R0:=@List.getElem?_mapIdx
def R1:=@List.not_mem_nil
def R3:=@Nat.le_of_ble_eq_true
def R4:=@Bool.and_eq_true
def R5:=@Nat.le_trans
def R6:=@List.getElem?_set
def R7:=@List.nodup_cons
def R8:=@Nat.ne_of_lt
def R9:=@PySem.wpAny_newObj_type
def T1:=@PySem.W.mg_none_of
def T4:=@List.map_cons
def T5:=@List.ext_getElem?
def T6:=@PySem.wpAny_field
def T7:=@List.lookup_cons
def T8:=@PySem.mem_of_lookup
def T9:=@List.mem_append_left
def U0:=@PySem.Heap.get?_update_other
def U3:=@List.map_append
def U4:=@Bool.false_eq_true
def U5:=@Int.toNat_of_nonneg
def U6:=@decide_eq_true_eq
def U7:=@List.mem_append
def U8:=@PySem.PassesOwn.never
def U9:=@Int.mul_le_mul_of_nonneg_left
def W0:=@PySem.wpAny_mono
def W1:=@PySem.wpAny_holding
def W3:=@PySem.Obj.data_mapFields
def W4:=@or_false
def W5:=@List.getElem_mem
def W6:=@Array.getElem?_eq_some_iff
def W7:=@List.take_add_one
def W8:=@Int.toNat_natCast
def W9:=@List.getElem?_append_left
def E2:=@List.mem_range
def E3:=@Nat.lt_succ_self
def E4:=@List.take_length
def E5:=@List.all_eq_true
def E6:=@PyProof.Rows.callWith_type1
def E7:=@PySem.wpAny_call_entry
def E8:=@List.getElem?_replicate
def E9:=@Option.toList_some
def D2:=@Nat.zero_le
def D3:=@List.getElem?_of_mem
def D4:=@PySem.W.kia_one
def D5:=@List.append_nil
def D6:=@List.mem_flatMap
def D7:=@congrArg
def D8:=@PySem.Heap.size_push
def D9:=@PySem.F.slot_dict_valueiterator_next
def B0a:=@of_decide_eq_true
def B0b:=@decide_eq_false
def B0c:=@PySem.F.slot_dict_keyiterator_next
def B0d:=@List.length_append
def B0e:=@PySem.Heap.get?_update_self
def B0f:=@PySem.wpAny_setField
def B0g:=@if_false
def B0h:=@List.getElem?_append_right
def B0i:=@List.replicate_succ
def B0j:=@Int.mul_le_mul_of_nonneg_right
def B0k:=@List.map_map
def B0l:=@PySem.Obj.isFreed_of_fields
def B0m:=@Int.mul_nonneg
def B0n:=@Nat.lt_of_succ_lt
def B0o:=@PySem.wpAny_standAt
def B0p:=@Int.emod_nonneg
def B0q:=@Ne.symm
def B0r:=@PySem.wpAny_truthy_bool
def B0s:=@beq_iff_eq
def B0t:=@List.nodup_nil
def B0u:=@Int.emod_lt_of_pos
def B0v:=@PySem.Heap.SameBut.update
def B0w:=@Int.ediv_nonneg
def B0x:=@List.flatten_cons
def B0y:=@PySem.pushCells_keeps
def B0z:=@PySem.wpAny_dictEntries
def B1a:=@decide_eq_true
def B1b:=@PySem.F.plainAttrs_list
def B1c:=@List.length_cons
def B1d:=@PySem.wpAny_attempt
def B1e:=@Nat.ne_of_gt
def B1f:=@PySem.wpAny_fieldsOf
def B1g:=@Int.mul_ediv_add_emod
def B1h:=@PySem.wpAny_typeNameOfWhole_valiter
def B1i:=@PySem.wpAny_typeNameOfWhole_keyiter
def B1j:=@Nat.lt_succ_of_lt
def B1k:=@PySem.wpAny_passesOwn
def B1l:=@List.cons_append
def B1m:=@Int.le_of_lt
def B1n:=@Int.mul_neg_of_pos_of_neg
def B1o:=@PySem.W.looks_subIn
def B1p:=@PySem.wpAny_seqItems
def B1q:=@PySem.F.type_list_append
def B1r:=@PySem.F.slot_list_append
def B1s:=@PySem.F.slot_tuple_iterator_next
def B1t:=@List.forIn_cons
def B1u:=@Bool.eq_iff_iff
def B1v:=@Option.bind_eq_some_iff
def B1w:=@Int.mul_pos
def B1x:=@PySem.wpAny_typeNameOf_valiter
def B1y:=@PySem.wpAny_typeNameOf_keyiter
def B1z:=@PySem.wpAny_comprehension_free
def B2a:=@PySem.W.cellsFrom_some
def B2b:=@Nat.le_of_lt
def B2c:=@List.map_nil
def B2d:=@List.getElem?_set_self
def B2e:=@Int.zero_add
def B2f:=@PySem.wpAny_dictEpoch
def B2g:=@PySem.wpAny_setField_rec
def B2h:=@PySem.wpAny_rule
def B2i:=@PyProof.Rows.slot_tuple_getitem
def B2j:=@List.length_replicate
def B2k:=@List.length_take
def B2l:=@Bool.not_true
def B2m:=@PySem.wpAny_pyIter_list
def B2n:=@PySem.Obj.cls_mapFields
def B2o:=@List.nil_append
def B2p:=@List.mem_mapIdx
def B2q:=@List.mem_filter
def B2r:=@PySem.wpAny_isOneOf_valiter
def B2s:=@List.flatMap_append
def B2t:=@Nat.mul_le_mul
def B2u:=@List.length_mapIdx
def B2v:=@List.forIn_nil
def B2w:=@PySem.wpAny_execs_nil
def B2x:=@List.getElem?_eq_none_iff
def B2y:=@List.drop_eq_getElem_cons
def B2z:=@List.flatMap_cons
def B3a:=@List.append_assoc
def B3b:=@PySem.codeAny_mono
def B3c:=@Option.isSome_iff_exists
def B3d:=@PySem.wpAny_Call_Name_kw
def B3e:=@List.map_flatMap
def B3f:=@Int.gcd_dvd_left
def B3g:=@PySem.wpAny_of_eq
def B3h:=@List.of_mem_zip
def B3i:=@PySem.wpAny_isInstance
def B3j:=@PySem.F.args_dict_valueiterator_next_1
def B3k:=@List.mem_iff_getElem
def B3l:=@PySem.F.entry_dict_valueiterator_next
def B3m:=@PySem.F.args_dict_keyiterator_next_1
def B3n:=@List.filterMap_cons
def B3o:=@Array.length_toList
def B3p:=@PySem.F.entry_dict_keyiterator_next
abbrev Fg:=PySem.W.Frag
variable {P:PySem.Program}{w:PySem.World}{K:Fg}{mg:PySem.Str->Option PySem.Value}{base:PySem.Heap}{fd:PySem.FuncData}{b:Option PySem.Addr}{M:PySem.Addr->Prop}
namespace L2
open PySem PySem.Spec PyProof.Rows
abbrev Key:=Sum Int Str
def Q3c:Key->Value->Bool
 | .inl k,v=>Value.isInt k v
 | .inr x,v=>Value.isStrOf x v
def V1y (w:World):Key->Int
 | .inl k=>hashInt k
 | .inr x=>hashStr w x
theorem AZ:∀ {k:Key} {v:Value},Q3c k v=true->(∃ i t,k=Sum.inl i/\v=Value.int i t)\/(∃ x t,k=Sum.inr x/\v=Value.str x t)
 | .inl i,v,h=>by
   obtain ⟨t,e⟩:=Value.isInt_shape (k:=i) (v:=v) h
   exact .inl ⟨i,t,rfl,e⟩
 | .inr x,v,h=>by
   obtain ⟨t,e⟩:=Value.isStrOf_shape (x:=x) (v:=v) h
   exact .inr ⟨x,t,rfl,e⟩
theorem Q5n (a b:Int):decide ((Sum.inl a:Key)=Sum.inl b)=(a==b):=by
 by_cases e:a=b
 · subst e;simp
 · have h:¬ (Sum.inl a:Key)=Sum.inl b:=fun q=>e (Sum.inl.inj q)
   rw [B0b h]
   exact (beq_eq_false_iff_ne.mpr e).symm
theorem Q5k (a b:Str):decide ((Sum.inr a:Key)=Sum.inr b)=decide (a=b):=by
 by_cases e:a=b
 · subst e;simp
 · have h:¬ (Sum.inr a:Key)=Sum.inr b:=fun q=>e (Sum.inr.inj q)
   rw [B0b h,B0b e]
theorem Q5m (a:Int)(b:Str):decide ((Sum.inl a:Key)=Sum.inr b)=false:=B0b (fun q=>nomatch q)
theorem Q5l (a:Str)(b:Int):decide ((Sum.inr a:Key)=Sum.inl b)=false:=B0b (fun q=>nomatch q)
def UL (prog:Program)(w:World):PySem.KeyKind prog w Key where
 is:=Q3c
 hash:=V1y w
 inj:=fun v a b ha hb=>by
  rcases AZ ha with ⟨i,t,rfl,rfl⟩|⟨x,t,rfl,rfl⟩
  · rcases AZ hb with ⟨j,u,rfl,e⟩|⟨y,u,rfl,e⟩
    · injection e with e1 _;rw [e1]
    · exact nomatch e
  · rcases AZ hb with ⟨j,u,rfl,e⟩|⟨y,u,rfl,e⟩
    · exact nomatch e
    · injection e with e1 _;rw [e1]
 byValue:=fun k v h=>by
  rcases AZ h with ⟨i,t,rfl,rfl⟩|⟨x,t,rfl,rfl⟩<;>rfl
 pyHash:=fun hv h=>by
  rcases AZ hv with ⟨i,t,rfl,rfl⟩|⟨x,t,rfl,rfl⟩
  · exact wpAny_pyHash_int h
  · exact wpAny_pyHash_str h
 eqBool:=fun hu hv h=>by
  rcases AZ hu with ⟨i,t,rfl,rfl⟩|⟨x,t,rfl,rfl⟩
  · rcases AZ hv with ⟨j,u,rfl,rfl⟩|⟨y,u,rfl,rfl⟩
    · rw [Q5n] at h;exact wpAny_eqBool_int h
    · rw [Q5m] at h;exact SeqAt.EqAt.int_str i t y u _ _ _ _ h
  · rcases AZ hv with ⟨j,u,rfl,rfl⟩|⟨y,u,rfl,rfl⟩
    · rw [Q5l] at h;exact SeqAt.EqAt.str_int x t j u _ _ _ _ h
    · rw [Q5k] at h;exact wpAny_eqBool_str h
 «strs»:=fun k x t v h=>by
  rcases AZ h with ⟨i,u,rfl,e⟩|⟨y,u,rfl,e⟩
  · exact nomatch e
  · injection e with e1 _
    subst e1
    cases v<;>rfl
inductive V where
 | non|bl (b:Bool)|int (i:Int)|str (x:Str)|byt (b:Array UInt8)|flt (b:UInt64)|ref (a:Addr)|ty (n:String)
 deriving DecidableEq
def RelV:V->Value->Prop
 | .non,u=>u=Value.none
 | .bl b,u=>u=Value.bool b
 | .int i,u=>∃ t,u=Value.int i t
 | .str x,u=>∃ t,u=Value.str x t
 | .byt b,u=>∃ t,u=Value.bytes b t
 | .flt b,u=>∃ t,u=Value.float b t
 | .ref a,u=>u=Value.ref a
 | .ty n,u=>u=Value.type n
abbrev Vals:List V->List Value->Prop:=Paired RelV
theorem Vals.length {xs:List V}{us:List Value}(r:Vals xs us):xs.length=us.length:=Paired.length r
theorem Vals.get:∀ {xs:List V} {us:List Value} {i:Nat} {x:V},Vals xs us->xs[i]?=some x->∃ u,us[i]?=some u/\RelV x u
 | _,_,_,_,.nil,e=>by simp at e
 | _,_,0,_,.cons r _,e=>by simp at e;subst e;exact ⟨_,rfl,r⟩
 | _,_,i+1,x,.cons _ t,e=>by
   obtain ⟨u,h1,h2⟩:=Vals.get (i:=i) (x:=x) t (by simpa using e)
   exact ⟨u,by simpa using h1,h2⟩
theorem Vals.set {x:V}{u:Value}(r:RelV x u):∀ {xs:List V} {us:List Value} (i:Nat),Vals xs us->Vals (xs.set i x) (us.set i u)
 | _,_,_,.nil=>.nil
 | _,_,0,.cons _ t=>.cons r t
 | _,_,i+1,.cons q t=>.cons q (Vals.set r i t)
theorem Vals.append:∀ {xs ys:List V} {us ws:List Value},Vals xs us->Vals ys ws->Vals (xs++ys) (us++ws)
 | _,_,_,_,.nil,s=>s
 | _,_,_,_,.cons r t,s=>.cons r (Vals.append t s)
theorem Vals.take:∀ {xs:List V} {us:List Value} (n:Nat),Vals xs us->Vals (xs.take n) (us.take n)
 | _,_,0,_=>.nil
 | _,_,_+1,.nil=>.nil
 | _,_,n+1,.cons r t=>.cons r (Vals.take n t)
theorem Vals.drop:∀ {xs:List V} {us:List Value} (n:Nat),Vals xs us->Vals (xs.drop n) (us.drop n)
 | _,_,0,r=>r
 | _,_,_+1,.nil=>.nil
 | _,_,n+1,.cons _ t=>Vals.drop n t
def Q7x:Option V->Option Value->Prop
 | some v,some u=>RelV v u
 | none,none=>True
 | _,_=>False
def KV {κ:Type}:List (κ×V)->List (κ×Value)->Prop:=Paired fun (p:κ×V) (q:κ×Value)=>p.1=q.1/\RelV p.2 q.2
def kV:Key->V
 | .inl i=>.int i
 | .inr x=>.str x
inductive HO where
 | lst (xs:List V)
 | tup (xs:List V)
 | dK (kvs:List (Key×V))|dT (kvs:List (List Key×V))
 | set (S:Int->Bool) (n:Nat)
 | ins (C dx:Addr) (fs:List (Str×V))
 | own (x:Addr)
 | xd (fs:List (Str×V))
 | met (f x:Addr)
 | rng (lo hi:Int)
 | frz (o:Obj) (u:HO)
 | tbl (ps:Array Value)
 | ext (φ:Heap->Prop)
abbrev Hp:=Addr->Option HO
def upd (H:Hp)(a:Addr)(o:HO):Hp:=fun b=>if b=a then some o else H b
theorem V5 {H:Hp}{a:Addr}{o:HO}:upd H a o a=some o:=by unfold upd;rw [if_pos rfl]
theorem V4 {H:Hp}{a b:Addr}{o:HO}(h:b≠a):upd H a o b=H b:=by unfold upd;rw [if_neg h]
theorem J9r {H:Hp}{a:Addr}{o u:HO}:upd (upd H a o) a u=upd H a u:=by
 funext b;unfold upd;split<;>rfl
theorem Q9p {H:Hp}{a b:Addr}{o u:HO}(h:H a=some o)(h':H b=some u)(d:o≠u):a≠b:=by
 intro e;subst e;rw [h] at h';exact d (Option.some.inj h')
theorem V9 {H:Hp}{a b:Addr}{o:HO}(h:H a=some o)(h':H b=none):a≠b:=by
 intro e;subst e;rw [h] at h';cases h'
section
variable (P:Program) (w:World)
def ObjOk (H:Hp)(h:Heap)(a:Addr):HO->Prop
 | .lst xs=>xs.length<=sizeLine/\∃ (its:List Value) (n:Nat),Vals xs its/\h.get? a=some { cls:=.type "list",data:=.seq its.toArray n }
 | .tup xs=>xs.length<=sizeLine/\∃ its:List Value,Vals xs its/\IsTup h a its.toArray
 | .dK kvs=>kvs.length<=sizeLine/\(a==sysModules)=false/\∃ vs,KV kvs vs/\h.DictOf (UL P w) a vs
 | .dT kvs=>kvs.length<=sizeLine/\(a==sysModules)=false/\∃ xs:List (List Key×Addr×Value),
  Paired (fun (p:List Key×V) (q:List Key×Addr×Value)=>p.1=q.1/\H q.2.1=some (.tup (p.1.map kV))/\RelV p.2 q.2.2) kvs xs /\
  ∃ o es ep,h.get? a=some o/\o.ExactDict/\o.data=.dict es ep/\es.toList=xs.map (entryOfKey (tupleKind (UL P w)))/\(xs.map (·.1)).Nodup
 | .set S n=>h.SetOf (intKind P w) a S n
 | .ins C dx fs=>H dx=some (.own a)/\fs.length<=1000/\dx≠a/\h.get? a=some (PySem.W.instObj C dx) /\
  ∃ mA,h.Ns1 dx mA/\(∀ f,Q7x (fs.lookup f) (mA f))/\PySem.Within mA (fs.map (·.1))
 | .own _=>∃ o,h.get? a=some o
 | .xd fs=>∃ mA,h.Ns1 a mA/\∀ f,Q7x (fs.lookup f) (mA f)
 | .rng lo hi=>∃ t u v,h.get? a=some { cls:=.type "range",data:=.fields #[.int lo t,.int hi u,.int 1 v] }
 | .frz o u=>h.get? a=some o/\ObjOk H h a u
 | .tbl ps=>h.get? a=some { cls:=.none,data:=.fields ps }
 | .met f x=>h.get? a=some (PySem.W.methodObj (.ref f) (.ref x))
 | .ext φ=>φ h/\(∃ o,h.get? a=some o)/\∀ h1 h2:Heap,φ h1->(∀ o,h1.get? a=some o->h2.get? a=some o)->φ h2
def HOk (H:Hp)(h:Heap):Prop:=∀ a o,H a=some o->ObjOk P w H h a o
end
section
variable {P:Program}{w:World}{H H':Hp}{h h':Heap}{a:Addr}{o:HO}
theorem ObjOk.lt (x:ObjOk P w H h a o):a<h.objs.size:=by
 cases o with
 | lst xs=>obtain ⟨_,_,_,_,e⟩:=x;exact B4 e
 | tup xs=>obtain ⟨_,_,_,p⟩:=x;exact p.lt
 | dK kvs=>obtain ⟨_,_,_,_,o,_,_,e,_⟩:=x;exact B4 e
 | dT kvs=>obtain ⟨_,_,_,_,o,_,_,e,_⟩:=x;exact B4 e
 | set S n=>obtain ⟨o,_,_,_,e,_⟩:=x;exact B4 e
 | ins C dx fs=>obtain ⟨_,_,_,e,_⟩:=x;exact B4 e
 | own y=>obtain ⟨_,e⟩:=x;exact B4 e
 | xd fs=>obtain ⟨_,⟨_,_,_,e,_⟩,_⟩:=x;exact B4 e
 | rng lo hi=>obtain ⟨_,_,_,e⟩:=x;exact B4 e
 | frz ob u=>obtain ⟨e,_⟩:=x;exact B4 e
 | tbl ps=>exact B4 (show h.get? a=some _ from x)
 | met f y=>exact B4 (show h.get? a=some _ from x)
 | ext φ=>obtain ⟨_,⟨_,e⟩,_⟩:=x;exact B4 e
theorem Paired.mapP {α β:Type}{F G:α->β->Prop}:∀ {l₁:List α} {l₂:List β},Paired F l₁ l₂->(∀ a b,F a b->G a b)->Paired G l₁ l₂
 | _,_,.nil,_=>.nil
 | _,_,.cons r t,f=>.cons (f _ _ r) (Paired.mapP t f)
theorem ObjOk.stay (x:ObjOk P w H h a o)(k:∀ b u,(b=a\/H b=some (.own a))->h.get? b=some u->h'.get? b=some u)
 (ho:∀ b,H b=some (.own a)->H' b=some (.own a)) (ht:∀ b xs,H b=some (.tup xs)->H' b=some (.tup xs)):ObjOk P w H' h' a o:=by
 induction o with
 | lst xs=>obtain ⟨z,its,n,r,e⟩:=x;exact ⟨z,its,n,r,k _ _ (.inl rfl) e⟩
 | tup xs=>obtain ⟨z,its,r,ob,e,c⟩:=x;exact ⟨z,its,r,ob,k _ _ (.inl rfl) e,c⟩
 | dK kvs=>obtain ⟨z,y,vs,r,ob,es,ep,e,c⟩:=x;exact ⟨z,y,vs,r,ob,es,ep,k _ _ (.inl rfl) e,c⟩
 | dT kvs =>
   obtain ⟨z,y,xs,r,ob,es,ep,e,c⟩:=x
   exact ⟨z,y,xs,Paired.mapP r fun p q z=>⟨z.1,ht _ _ z.2.1,z.2.2⟩,ob,es,ep,k _ _ (.inl rfl) e,c⟩
 | set S n=>obtain ⟨ob,es,ep,t,e,c⟩:=x;exact ⟨ob,es,ep,t,k _ _ (.inl rfl) e,c⟩
 | ins C dx fs =>
   obtain ⟨d,z,ne,e,mA,⟨od,es,ep,e2,c⟩,r⟩:=x
   exact ⟨ho _ d,z,ne,k _ _ (.inl rfl) e,mA,⟨od,es,ep,k _ _ (.inr d) e2,c⟩,r⟩
 | own y=>obtain ⟨ob,e⟩:=x;exact ⟨ob,k _ _ (.inl rfl) e⟩
 | xd fs=>obtain ⟨mA,⟨od,es,ep,e,c⟩,r⟩:=x;exact ⟨mA,⟨od,es,ep,k _ _ (.inl rfl) e,c⟩,r⟩
 | rng lo hi=>obtain ⟨t,u,v,e⟩:=x;exact ⟨t,u,v,k _ _ (.inl rfl) e⟩
 | frz ob u ih=>obtain ⟨e,q⟩:=x;exact ⟨k _ _ (.inl rfl) e,ih q⟩
 | tbl ps =>
   have e:h.get? a=some { cls:=.none,data:=.fields ps }:=x
   show h'.get? a=some { cls:=.none,data:=.fields ps }
   exact k a _ (.inl rfl) e
 | met f y =>
   have e:h.get? a=some (PySem.W.methodObj (.ref f) (.ref y)):=x
   show h'.get? a=some (PySem.W.methodObj (.ref f) (.ref y))
   exact k a _ (.inl rfl) e
 | ext φ=>obtain ⟨p,⟨o,e⟩,st⟩:=x;exact ⟨st _ _ p fun o q=>k _ _ (.inl rfl) q,⟨o,k _ _ (.inl rfl) e⟩,st⟩
theorem HOk.lt (x:HOk P w H h)(e:H a=some o):a<h.objs.size:=(x a o e).lt
theorem HOk.fresh (x:HOk P w H h)(e:h.objs.size<=a):H a=none:=by
 cases q:H a with
 | none=>rfl
 | some u=>exact absurd (M4 (x.lt q) e) (M9 _)
theorem HOk.kept (x:HOk P w H h)(k:∀ b u,h.get? b=some u->h'.get? b=some u):HOk P w H h':=fun a o e =>
 (x a o e).stay (fun b u _ q=>k b u q) (fun _ q=>q) fun _ _ q=>q
theorem HOk.laid (x:HOk P w H h)(k:∀ b u,h.get? b=some u->h'.get? b=some u)(hp:h.objs.size<=a)(new:ObjOk P w (upd H a o) h' a o):HOk P w (upd H a o) h':=fun b u e=>by
 have hn:=x.fresh hp
 by_cases hb:b=a
 · subst hb;rw [V5] at e;cases e;exact new
 · rw [V4 hb] at e
   exact (x b u e).stay (fun c v _ q=>k c v q) (fun c q=>by rw [V4 (V9 q hn)];exact q) fun c xs q=>by rw [V4 (V9 q hn)];exact q
end
def Rd (H:Hp)(a:Addr)(u:HO):Prop:=H a=some u\/∃ o,H a=some (.frz o u)
theorem Rd.of {H:Hp}{a:Addr}{u:HO}(h:H a=some u):Rd H a u:=.inl h
theorem Rd.ok {H:Hp}{h:Heap}{a:Addr}{u:HO}(r:Rd H a u)(x:HOk P w H h):ObjOk P w H h a u:=by
 rcases r with r|⟨o,r⟩
 · exact x a u r
 · obtain ⟨_,q⟩:=x a _ r
   exact q
def Mut:Option HO->Prop
 | some (.lst _)=>True
 | some (.dK _)=>True
 | some (.dT _)=>True
 | some (.set _ _)=>True
 | some (.ins _ _ _)=>True
 | some (.ext _)=>True
 | _=>False
section
variable {P:Program}{w:World}{H:Hp}{h h':Heap}{x e:Addr}{o':HO}
theorem HOk.write (ok:HOk P w H h)(mu:Mut (H x))(he:e=x\/H e=some (.own x))(k:∀ b u,b≠e->h.get? b=some u->h'.get? b=some u)(heo:∃ u,h'.get? e=some u)
 (new:ObjOk P w (upd H x o') h' x o'):HOk P w (upd H x o') h':=fun b u q=>by
 have nown:∀ c y,H c=some (.own y)->c≠x:=fun c y r z=>by subst z;rw [r] at mu;exact mu
 have ntup:∀ c xs,H c=some (.tup xs)->c≠x:=fun c xs r z=>by subst z;rw [r] at mu;exact mu
 by_cases hb:b=x
 · subst hb;rw [V5] at q;cases q;exact new
 · rw [V4 hb] at q
   by_cases hbe:b=e
   · have q':H b=some (.own x):=by
      rcases he with z|z
      · exact absurd (hbe.trans z) hb
      · rw [hbe];exact z
     rw [q] at q';cases q'
     obtain ⟨v,hv⟩:=heo
     exact ⟨v,by rw [hbe];exact hv⟩
   · refine (ok b u q).stay (fun c v hc r=>k c v ?_ r) (fun c r=>by rw [V4 (nown c b r)];exact r) fun c xs r=>by rw [V4 (ntup c xs r)];exact r
     rcases hc with rfl|hc
     · exact hbe
     · rintro rfl
       rcases he with z|z
       · exact nown c b hc z
       · rw [hc] at z;cases z;exact hb rfl
end
structure Un (fs ex:List Addr)(H H':Hp)(h h':Heap):Prop where
 keep:∀ b o,h.get? b=some o->H b=none->b∉fs->b∉ex->h'.get? b=some o
 slot:∀ b o,h.get? b=some o->H b=none->b∈fs->b∉ex->∃ sl,h'.get? b=some { o with slots:=sl }
 free:∀ b o,h.get? b=some o->H b=none->b∉ex->H' b=none
 there:∀ b o,h.get? b=some o->b∉ex->∃ o',h'.get? b=some o'
 tups:∀ b xs,H b=some (.tup xs)->H' b=some (.tup xs)
 frzs:∀ b o u,H b=some (.frz o u)->H' b=some (.frz o u)
 tbls:∀ b ps,H b=some (.tbl ps)->∃ more,H' b=some (.tbl (ps++more))
section
variable {fs ex:List Addr}{H H1:Hp}{h h1 h':Heap}{a x e:Addr}{o:HO}
theorem Un.any (u:Un fs ex H H1 h h1){b:Addr}{ob:Obj}(q:h.get? b=some ob)(n:H b=none)(hx:b∉ex):∃ sl,h1.get? b=some { ob with slots:=sl }:=by
 by_cases hb:b∈fs
 · exact u.slot b ob q n hb hx
 · exact ⟨ob.slots,u.keep b ob q n hb hx⟩
theorem Un.kept (k:∀ b u,h.get? b=some u->h'.get? b=some u):Un fs ex H H h h' :=
 ⟨fun b ob q _ _ _=>k b ob q,fun b ob q _ _ _=>⟨ob.slots,k b ob q⟩,fun _ _ _ n _=>n,fun b ob q _=>⟨ob,k b ob q⟩,fun _ _ q=>q,fun _ _ _ q=>q,fun _ ps q=>⟨#[],by rw [q];simp⟩⟩
theorem Un.refl:Un fs ex H H h h:=Un.kept fun _ _ q=>q
theorem Un.laid (k:∀ b u,h.get? b=some u->h'.get? b=some u)(hp:h.objs.size<=a)(hn:H a=none):Un fs ex H (upd H a o) h h' where
 keep:=fun b u q _ _ _=>k b u q
 slot:=fun b u q _ _ _=>⟨u.slots,k b u q⟩
 free:=fun b u q n _=>by rw [V4 (R8 (M4 (B4 q) hp))];exact n
 there:=fun b u q _=>⟨u,k b u q⟩
 tups:=fun b xs q=>by rw [V4 (V9 q hn)];exact q
 frzs:=fun b u xs q=>by rw [V4 (V9 q hn)];exact q
 tbls:=fun b ps q=>⟨#[],by rw [V4 (V9 q hn),q];simp⟩
theorem Un.write (mu:Mut (H x))(he:e=x\/H e=some (.own x))(k:∀ b u,b≠e->h.get? b=some u->h'.get? b=some u)(heo:∃ u,h'.get? e=some u):Un fs ex H (upd H x o) h h':=by
 have hx:∀ b,H b=none->b≠x:=fun b n z=>by subst z;rw [n] at mu;exact mu
 have hb:∀ b,H b=none->b≠e:=fun b n z=>by
  subst z
  rcases he with r|r
  · exact hx b n r
  · rw [n] at r;cases r
 have hm:∀ b u,H b=some u->¬ Mut (some u)->b≠x:=fun b u q nm z=>by subst z;rw [q] at mu;exact nm mu
 refine ⟨fun b u q n _ _=>k b u (hb b n) q,fun b u q n _ _=>⟨u.slots,k b u (hb b n) q⟩,fun b u q n _=>by rw [V4 (hx b n)];exact n,fun b u q _=>?_,
  fun b xs q=>by rw [V4 (hm b _ q fun z=>z)];exact q,fun b u xs q=>by rw [V4 (hm b _ q fun z=>z)];exact q,fun b ps q=>⟨#[],by rw [V4 (hm b _ q fun z=>z),q];simp⟩⟩
 by_cases hbe:b=e
 · subst hbe;exact heo
 · exact ⟨u,k b u hbe q⟩
end
def trk (h:Heap)(H:Hp):List Addr:=(List.range h.objs.size).filter fun a=>(H a).isSome
def US (h:Heap)(H:Hp):Heap:=PySem.W.hideAll h (trk h H)
theorem J4f (h:Heap)(H:Hp):(US h H).objs.size=h.objs.size:=PySem.W.hideAll_size _ _
theorem J7b {h:Heap}{H:Hp}{b:Addr}{o:Obj}(e:h.get? b=some o)(n:H b=none):(US h H).get? b=some o :=
 PySem.W.hideAll_get _ e fun hm=>by
  have q:(H b).isSome=true:=(B2q.mp hm).2
  rw [n] at q;simp at q
theorem Q0s {h:Heap}{H:Hp}{b:Addr}{o:Obj}(e:(US h H).get? b=some o):h.get? b=some o/\H b=none:=by
 have e':h.get? b=some o:=PySem.W.of_hideAll (trk h H) e
 refine ⟨e',?_⟩
 cases q:H b with
 | none=>rfl
 | some x =>
   have hm:b∈trk h H:=B2q.mpr ⟨E2.mpr (B4 e'),by simp [q]⟩
   have z:(US h H).get? b=none:=PySem.W.hideAll_none (trk h H) hm
   rw [z] at e;cases e
def Q2o (g h:Heap)(L:Addr):List (Addr×Obj):=(List.range h.objs.size).filterMap fun a=>if a=L\/(g.get? a).isSome=true then none else (h.get? a).map fun o=>(a,o)
def rest (g h:Heap)(L d:Addr):List (Addr×Obj):=(Q2o g h L).filter fun p=>decide (p.1≠d)
structure Mod (K:Fg)(mg:Str->Option Value)(base:Heap):Prop where
 kin:K.In base
 glob:base.Ns mainGlobals mg
 blt:∃ mb,base.Ns builtinsNs mb/\∀ x:Str,x≠"__name__"->mb x=bootBuiltins x
 nolimit:base.NoLimit
structure Cx where
 prog:Program
 w:World
 K:Fg
 mg:Str->Option Value
 base:Heap
 A:Around
 N:List Str
 s₀:Shared
 H₀:Hp
 env:Env
 outer:List Env
 stack:List Env
 ex:List Addr
 fn:Str->Bool
 calm:Bool
 pn:List (Addr×Obj)
 xe:Value->Shared->Prop
def frs (l:List Env):List Addr:=l.filterMap (·.frame)
abbrev Cx.fs (X:Cx):List Addr:=frs X.outer
def Vis (sc:Scope)(x:Str):Prop:=sc.names.lookup x=some .local\/sc.names.lookup x=some .cell\/sc.names.lookup x=some .free
def Loc (sc:Scope)(x:Str):Prop:=sc.names.lookup x=some .local\/sc.names.lookup x=some .cell
def V2h (env:Env)(h:Heap)(m:Str->Option Value)(x:Str)(u:Value):Prop :=
 (env.kindOf x=some .local/\m x=some u)\/((env.kindOf x=some .cell\/env.kindOf x=some .free)/\∃ c,env.cells.lookup x=some c/\h.IsCell c (some u))
structure Cx.Ok (X:Cx):Prop where
 mod:Mod X.K X.mg X.base
 kind:X.env.scope.kind=.function
 glob:X.env.globals=mainGlobals
 blt:X.env.builtins=builtinsNs
 above:X.s₀.heap.objs.size<=X.env.locals
 inj:∀ x y c,X.env.cells.lookup x=some c->X.env.cells.lookup y=some c->x=y
 has:∀ x,(X.env.kindOf x=some .cell\/X.env.kindOf x=some .free)->∃ c,X.env.cells.lookup x=some c
 cab:∀ x c,X.fn x=true->X.env.cells.lookup x=some c->X.s₀.heap.objs.size<=c
 hd:X.calm=true->X.A.handled=none
 frames:X.A.frames=some X.stack
 stk:X.stack=X.outer\/(X.stack=X.env::X.outer/\X.env.frame=some X.env.locals)
 exf:∀ b∈X.ex,b≠X.env.locals/\∀ x c,X.env.cells.lookup x=some c->c≠b
 bs:∀ b o,X.base.get? b=some o->X.s₀.heap.get? b=some o/\X.H₀ b=none
 bsz:X.base.objs.size<=X.s₀.heap.objs.size
 noex:∀ b o,X.base.get? b=some o->b∉X.ex
 exfs:∀ b∈X.ex,b∉X.fs
 funs:X.s₀.heap.FunFrames X.base X.outer
 frf:∀ b∈X.fs,X.H₀ b=none
structure Inv (X:Cx)(pins:List (Addr×Obj))(σ:List (Option V))(H:Hp)(s:Shared):Prop where
 ok:X.Ok
 os:s.os=X.s₀.os
 bare:AllBare s.gens
 base:Un X.fs X.ex X.H₀ H X.s₀.heap s.heap
 loc:∃ m,s.heap.Ns X.env.locals m/\∀ (i:Nat) (x:Str) (v:V),X.N[i]?=some x->σ[i]?=some (some v)->Vis X.env.scope x->∃ u,RelV v u/\V2h X.env s.heap m x u
 cell:∀ x c,X.env.cells.lookup x=some c->∃ v,s.heap.IsCell c v
 free:H X.env.locals=none
 freeC:∀ x c,X.env.cells.lookup x=some c->H c=none
 pin:∀ p∈X.pn++pins,s.heap.get? p.1=some p.2/\H p.1=none/\p.1≠X.env.locals/\p.1∉X.fs/\∀ v,p.2.data≠.cell v
 hok:HOk X.prog X.w H s.heap
 len:σ.length=X.N.length
section
variable {X:Cx}{pins:List (Addr×Obj)}{σ:List (Option V)}{H H':Hp}{s:Shared}{h':Heap}
theorem Cx.Ok.nofr (ok:X.Ok){b:Addr}{o:Obj}(e:X.base.get? b=some o):b∉X.fs:=fun hb=>by
 have:=(ok.funs.mem hb).1
 rw [e] at this;cases this
theorem Inv.bs (I:Inv X pins σ H s):∀ b o,X.base.get? b=some o->s.heap.get? b=some o/\H b=none:=fun b o e =>
 ⟨I.base.keep b o (I.ok.bs b o e).1 (I.ok.bs b o e).2 (I.ok.nofr e) (I.ok.noex b o e),I.base.free b o (I.ok.bs b o e).1 (I.ok.bs b o e).2 (I.ok.noex b o e)⟩
theorem Inv.bk (I:Inv X pins σ H s):∀ b o,X.base.get? b=some o->s.heap.get? b=some o:=fun b o e=>(I.bs b o e).1
theorem Inv.mod (I:Inv X pins σ H s):Mod X.K X.mg X.base:=I.ok.mod
theorem Inv.kIn (I:Inv X pins σ H s):X.K.In s.heap:=I.ok.mod.kin.keeps I.bk
theorem Inv.lt (I:Inv X pins σ H s):X.env.locals<s.heap.objs.size:=let ⟨_,hn,_⟩:=I.loc;hn.lt
theorem Inv.sz (I:Inv X pins σ H s):X.s₀.heap.objs.size<=s.heap.objs.size:=R5 I.ok.above (B2b I.lt)
theorem Inv.nofs (I:Inv X pins σ H s){a:Addr}(h:s.heap.objs.size<=a):a∉X.fs:=fun hb=>by
 obtain ⟨_,o,ho,_⟩:=I.ok.funs.mem hb
 exact absurd (M4 (B4 ho) (R5 I.sz h)) (M9 _)
theorem Inv.cne (I:Inv X pins σ H s):∀ x c,X.env.cells.lookup x=some c->c≠X.env.locals:=fun x c e z=>by
 obtain ⟨v,o,ho,hd⟩:=I.cell x c e
 obtain ⟨m,⟨o',es,ep,ho',hd',_⟩,_⟩:=I.loc
 rw [z,ho'] at ho;cases ho;rw [hd'] at hd;cases hd
theorem Inv.funs (I:Inv X pins σ H s):s.heap.FunFrames X.base X.outer:=by
 have all:∀ (l:List Env),(∀ b∈frs l,b∈X.fs)->X.s₀.heap.FunFrames X.base l->s.heap.FunFrames X.base l:=by
  intro l
  induction l with
  | nil=>intro _ _;trivial
  | cons env r ih =>
    intro hs hl
    obtain ⟨hk,⟨L,o,hf,hn,ho,hd⟩,hr⟩:=hl
    have hL:L∈X.fs:=hs L (by unfold frs;rw [B3n,hf];exact B8)
    obtain ⟨sl,e⟩:=I.base.slot L o ho (I.ok.frf L hL) hL fun z=>I.ok.exfs L z hL
    exact ⟨hk,⟨L,_,hf,hn,e,hd⟩,ih (fun b hb=>hs b (by unfold frs;rw [B3n,hf];exact B5 _ hb)) hr⟩
 exact all X.outer (fun _ hb=>hb) I.ok.funs
theorem Inv.stack (I:Inv X pins σ H s):s.heap.FunFrames X.base X.stack:=by
 rcases I.ok.stk with e|⟨e,hf⟩
 · rw [e];exact I.funs
 · rw [e]
   obtain ⟨m,hn,_⟩:=I.loc
   refine .cons (by rw [I.ok.kind];decide) hf hn ?_ I.funs
   exact Heap.get?_none_of_le (R5 I.ok.bsz I.ok.above)
theorem Inv.stkSub (I:Inv X pins σ H s):∀ b∈frs X.stack,b∈X.env.locals::X.fs:=fun b hb=>by
 rcases I.ok.stk with e|⟨e,hf⟩
 · rw [e] at hb;exact B5 _ hb
 · rw [e] at hb
   unfold frs at hb
   rw [B3n,hf] at hb
   exact hb
theorem Inv.stkFree (I:Inv X pins σ H s):∀ b∈frs X.stack,H b=none:=fun b hb=>by
 rcases B6.mp (I.stkSub b hb) with e|hb
 · rw [e];exact I.free
 · obtain ⟨_,o,ho,_⟩:=I.ok.funs.mem hb
   exact I.base.free b o ho (I.ok.frf b hb) fun z=>I.ok.exfs b z hb
theorem Inv.step {g':Array GenState}{t':Nat}{d':Drawn}{ch:List Addr}(I:Inv X pins σ H s)
 (hch:∀ b∈ch,(b∈X.ex\/X.s₀.heap.objs.size<=b)/\b≠X.env.locals/\(∀ x c,X.env.cells.lookup x=some c->c≠b)/\∀ p∈X.pn++pins,p.1≠b)
 (keep:∀ b o,b≠X.env.locals->b∉X.fs->b∉ch->s.heap.get? b=some o->H b=none->h'.get? b=some o)
 (slot:∀ b o,b≠X.env.locals->b∈X.fs->b∉ch->s.heap.get? b=some o->H b=none->∃ sl,h'.get? b=some { o with slots:=sl }) (free:∀ b o,b∉ch->s.heap.get? b=some o->H b=none->H' b=none)
 (there:∀ b o,b∉ch->s.heap.get? b=some o->∃ o',h'.get? b=some o')
 (tups:∀ b xs,H b=some (.tup xs)->H' b=some (.tup xs)) (frzs:∀ b o u,H b=some (.frz o u)->H' b=some (.frz o u)) (tbls:∀ b ps,H b=some (.tbl ps)->∃ more,H' b=some (.tbl (ps++more)))
 (ns:∀ m,s.heap.Ns X.env.locals m->h'.Ns X.env.locals m) (hok:HOk X.prog X.w H' h') (hg:AllBare g') :
 Inv X pins σ H' { s with heap:=h',gens:=g',drawn:=d',toks:=t' }:=by
 have neL:∀ b o,X.s₀.heap.get? b=some o->b≠X.env.locals:=fun b o e=>R8 (M4 (B4 e) I.ok.above)
 have neC:∀ b o,X.s₀.heap.get? b=some o->b∉X.ex->b∉ch:=fun b o e hx hb=>by
  rcases (hch b hb).1 with z|z
  · exact hx z
  · exact absurd (M4 (B4 e) z) (M9 _)
 have cellK:∀ x c,X.env.cells.lookup x=some c->∀ v,s.heap.IsCell c v->h'.IsCell c v:=fun x c e v ⟨o,ho,hd⟩=>by
  have nch:c∉ch:=fun z=>(hch c z).2.2.1 x c e rfl
  by_cases hc:c∈X.fs
  · obtain ⟨sl,q⟩:=slot c o (I.cne x c e) hc nch ho (I.freeC x c e)
    exact ⟨_,q,hd⟩
  · exact ⟨o,keep c o (I.cne x c e) hc nch ho (I.freeC x c e),hd⟩
 refine ⟨I.ok,I.os,hg,⟨fun b o e n hb hx=>?_,fun b o e n hb hx=>?_,fun b o e n hx=>?_,fun b o e hx=>?_,fun b xs e=>tups b xs (I.base.tups b xs e),fun b o xs e=>frzs b o xs (I.base.frzs b o xs e),fun b ps e=>?_⟩,?_,fun x c e=>?_,?_,fun x c e=>?_,fun p hp=>?_,hok,I.len⟩
 · exact keep b o (neL b o e) hb (neC b o e hx) (I.base.keep b o e n hb hx) (I.base.free b o e n hx)
 · obtain ⟨sl,e1⟩:=I.base.slot b o e n hb hx
   obtain ⟨sl',e2⟩:=slot b _ (neL b o e) hb (neC b o e hx) e1 (I.base.free b o e n hx)
   exact ⟨sl',e2⟩
 · obtain ⟨o',e1⟩:=I.base.there b o e hx
   exact free b o' (neC b o e hx) e1 (I.base.free b o e n hx)
 · obtain ⟨o',e1⟩:=I.base.there b o e hx
   exact there b o' (neC b o e hx) e1
 · obtain ⟨m1,e1⟩:=I.base.tbls b ps e
   obtain ⟨m2,e2⟩:=tbls b _ e1
   exact ⟨m1++m2,by rw [e2,Array.append_assoc]⟩
 · obtain ⟨m,hn,hl⟩:=I.loc
   refine ⟨m,ns m hn,fun i x v e1 e2 e3=>?_⟩
   obtain ⟨u,r,l⟩:=hl i x v e1 e2 e3
   refine ⟨u,r,?_⟩
   rcases l with l|⟨k,c,e,z⟩
   · exact .inl l
   · exact .inr ⟨k,c,e,cellK x c e _ z⟩
 · obtain ⟨v,z⟩:=I.cell x c e
   exact ⟨v,cellK x c e v z⟩
 · obtain ⟨m,⟨o,_,_,ho,_⟩,_⟩:=I.loc
   exact free _ o (fun z=>(hch _ z).2.1 rfl) ho I.free
 · obtain ⟨v,o,ho,hd⟩:=I.cell x c e
   exact free c o (fun z=>(hch c z).2.2.1 x c e rfl) ho (I.freeC x c e)
 · obtain ⟨e,n,ne,nf,d⟩:=I.pin p hp
   have nch:p.1∉ch:=fun z=>(hch p.1 z).2.2.2 p hp rfl
   exact ⟨keep p.1 p.2 ne nf nch e n,free p.1 p.2 nch e n,ne,nf,d⟩
theorem Inv.un {t':Nat}(I:Inv X pins σ H s)(u:Un X.fs [] H H' s.heap h')(hok:HOk X.prog X.w H' h'):Inv X pins σ H' { s with heap:=h',toks:=t' }:=by
 obtain ⟨m,⟨o,es,ep,ho,r⟩,_⟩:=id I.loc
 obtain ⟨sl,hL⟩:=u.any ho I.free (by simp)
 exact I.step (g':=s.gens) (d':=s.drawn) (ch:=[]) (fun _ z=>nomatch z) (fun b o _ hb _ e n=>u.keep b o e n hb (by simp)) (fun b o _ hb _ e n=>u.slot b o e n hb (by simp)) (fun b o _ e n=>u.free b o e n (by simp)) (fun b o _ e=>u.there b o e (by simp)) u.tups u.frzs u.tbls (fun m' hm=>by
  obtain ⟨o',es',ep',ho',r'⟩:=hm
  rw [ho] at ho';cases ho'
  exact ⟨_,es',ep',hL,r'⟩) hok I.bare
theorem Inv.call {g':Array GenState}{t':Nat}{d':Drawn}{ch:List Addr}(I:Inv X pins σ H s)(u:Un (frs X.stack) ch H H' s.heap h')(hok:HOk X.prog X.w H' h')(hg:AllBare g')
 (hch:∀ b∈ch,(b∈X.ex\/X.s₀.heap.objs.size<=b)/\b≠X.env.locals/\(∀ x c,X.env.cells.lookup x=some c->c≠b)/\∀ p∈X.pn++pins,p.1≠b) :
 Inv X pins σ H' { s with heap:=h',gens:=g',drawn:=d',toks:=t' }:=by
 obtain ⟨m,⟨o,es,ep,ho,r⟩,_⟩:=id I.loc
 obtain ⟨sl,hL⟩:=u.any ho I.free fun z=>(hch _ z).2.1 rfl
 exact I.step (ch:=ch) hch (fun b o hL hb hc e n=>u.keep b o e n (fun z=>(B6.mp (I.stkSub b z)).elim hL hb) hc) (fun b o _ _ hc e n=>u.any e n hc) (fun b o hc e n=>u.free b o e n hc) (fun b o hc e=>u.there b o e hc) u.tups u.frzs u.tbls (fun m' hm=>by
  obtain ⟨o',es',ep',ho',r'⟩:=hm
  rw [ho] at ho';cases ho'
  exact ⟨_,es',ep',hL,r'⟩) hok hg
theorem Inv.turned {t':Nat}{it:Addr}(I:Inv X pins σ H s)(k:∀ b o,b≠it->s.heap.get? b=some o->h'.get? b=some o)(hn:H it=none)(hL:it≠X.env.locals)
 (h1:it∈X.ex\/X.s₀.heap.objs.size<=it) (h2:∀ x c,X.env.cells.lookup x=some c->c≠it) (h3:∀ p∈X.pn++pins,p.1≠it):Inv X pins σ H { s with heap:=h',toks:=t' }:=by
 have nit:∀ b u,H b=some u->b≠it:=fun b u e z=>by rw [z,hn] at e;cases e
 refine I.step (g':=s.gens) (d':=s.drawn) (ch:=[it]) (fun b hb=>?_) (fun b o _ _ hc e _=>k b o (fun z=>hc (by simp [z])) e) (fun b o _ _ hc e _=>⟨o.slots,k b o (fun z=>hc (by simp [z])) e⟩) (fun _ _ _ _ n=>n)
  (fun b o hc e=>⟨o,k b o (fun z=>hc (by simp [z])) e⟩) (fun _ _ e=>e) (fun _ _ _ e=>e) (fun b ps e=>⟨#[],by rw [e];simp⟩) (fun m hm=>?_) (fun b u e=>?_) I.bare
 · have e:b=it:=by simpa using hb
   subst e
   exact ⟨h1,hL,h2,h3⟩
 · obtain ⟨o,es,ep,ho,r⟩:=hm
   exact ⟨o,es,ep,k _ o (B0q hL) ho,r⟩
 · refine (I.hok b u e).stay (fun c v hc q=>k c v ?_ q) (fun _ q=>q) fun _ _ q=>q
   rcases hc with z|z
   · rw [z];exact nit b u e
   · exact nit c _ z
theorem Inv.tok (I:Inv X pins σ H s)(t:Nat):Inv X pins σ H { s with toks:=t }:=I.un (h':=s.heap) (t':=t) Un.refl I.hok
theorem Inv.kept {t':Nat}(I:Inv X pins σ H s)(k:∀ b u,s.heap.get? b=some u->h'.get? b=some u):Inv X pins σ H { s with heap:=h',toks:=t' }:=I.un (Un.kept k) (I.hok.kept k)
theorem Inv.laid {a:Addr}{o:HO}{t':Nat}(I:Inv X pins σ H s)(k:∀ b u,s.heap.get? b=some u->h'.get? b=some u)(hp:s.heap.objs.size<=a)(new:ObjOk X.prog X.w (upd H a o) h' a o) :
 Inv X pins σ (upd H a o) { s with heap:=h',toks:=t' }:=I.un (Un.laid k hp (I.hok.fresh hp)) (I.hok.laid k hp new)
theorem Inv.write {x e:Addr}{o:HO}{t':Nat}(I:Inv X pins σ H s)(mu:Mut (H x))(he:e=x\/H e=some (.own x))(k:∀ b u,b≠e->s.heap.get? b=some u->h'.get? b=some u)(heo:∃ u,h'.get? e=some u)
 (new:ObjOk X.prog X.w (upd H x o) h' x o):Inv X pins σ (upd H x o) { s with heap:=h',toks:=t' }:=I.un (Un.write mu he k heo) (I.hok.write mu he k heo new)
theorem Inv.weak {σ':List (Option V)}(I:Inv X pins σ H s)(hl:σ'.length=σ.length)(w:∀ (i:Nat) v,σ'[i]?=some (some v)->σ[i]?=some (some v)):Inv X pins σ' H s :=
 ⟨I.ok,I.os,I.bare,I.base,let ⟨m,hn,hl'⟩:=I.loc;⟨m,hn,fun i x v e1 e2 e3=>hl' i x v e1 (w i v e2) e3⟩,I.cell,I.free,I.freeC,I.pin,I.hok,hl.trans I.len⟩
theorem Inv.pins_of {pins':List (Addr×Obj)}(I:Inv X pins σ H s)(h:∀ p∈pins',s.heap.get? p.1=some p.2/\H p.1=none/\p.1≠X.env.locals/\p.1∉X.fs/\∀ v,p.2.data≠.cell v):Inv X pins' σ H s :=
 ⟨I.ok,I.os,I.bare,I.base,I.loc,I.cell,I.free,I.freeC,fun p hp=>(U7.mp hp).elim (fun z=>I.pin p (T9 _ z)) (h p),I.hok,I.len⟩
theorem PH {N:List Str}(hN:N.Nodup){i j:Nat}{x:Str}(a:N[i]?=some x)(b:N[j]?=some x):i=j:=by
 obtain ⟨h1,e1⟩:=B7.mp a
 obtain ⟨h2,e2⟩:=B7.mp b
 exact (List.getElem_inj hN).mp (e1.trans e2.symm)
theorem LL {M:Model}{A:Around}{E:Value->Shared->Prop}{i:Nat}{x:Str}{v:V}{u:Value}{Q:Unit->Shared->Prop}(I:Inv X pins σ H s)(hN:X.N.Nodup)(hi:X.N[i]?=some x)(hx:Loc X.env.scope x)(r:RelV v u)
 (h:∀ s',Inv X pins (σ.set i (some v)) H s'->(∃ a,Heap.SameBut a s.heap s'.heap/\(a=X.env.locals\/X.env.cells.lookup x=some a))->Q () s') (hf:X.fn x=true\/X.env.scope.names.lookup x=some .local:=by first|exact .inl rfl|exact .inr rfl|assumption):wpAny M A (storeName X.env x u) Q E s:=by
 obtain ⟨m,hn,hl⟩:=id I.loc
 have hcls:(X.env.scope.kind==.class||(X.env.scope.kind==.module&&X.env.locals != X.env.globals))=false:=by rw [I.ok.kind];rfl
 have hiσ:i<σ.length:=by rw [I.len];exact (B7.mp hi).1
 have cne:=I.cne
 have tracked:∀ {a:Addr} {h':Heap},(∃ o,s.heap.get? a=some o/\H a=none)->Heap.SameBut a s.heap h'->HOk X.prog X.w H h':=fun {a h'} ha hs b ob e=>by
  obtain ⟨_,_,hfree⟩:=ha
  refine (I.hok b ob e).stay (fun c w' hc q=>(hs.2 c ?_).trans q) (fun _ q=>q) fun _ _ q=>q
  rintro rfl
  rcases hc with rfl|hc
  · rw [hfree] at e;cases e
  · rw [hfree] at hc;cases hc
 rcases hx with hk|hk
 · refine wpAny_storeName_local hk hn (fun h' hn' hs=>?_) hcls
   obtain ⟨oL,_,_,hoL,_⟩:=id hn
   refine h _ ⟨I.ok,I.os,I.bare,⟨fun b o e n hb hx=>?_,fun b o e n hb hx=>?_,I.base.free,fun b o e hx=>?_,I.base.tups,I.base.frzs,I.base.tbls⟩,⟨_,hn',fun j y v' e1 e2 e3=>?_⟩,fun y c e=>?_,I.free,I.freeC,fun p hp=>?_,tracked ⟨oL,hoL,I.free⟩ hs,by simpa using I.len⟩ ⟨_,hs,.inl rfl⟩
   · exact (hs.2 b (R8 (M4 (B4 e) I.ok.above))).trans (I.base.keep b o e n hb hx)
   · obtain ⟨sl,e1⟩:=I.base.slot b o e n hb hx
     exact ⟨sl,(hs.2 b (R8 (M4 (B4 e) I.ok.above))).trans e1⟩
   · obtain ⟨o',e1⟩:=I.base.there b o e hx
     exact ⟨o',(hs.2 b (R8 (M4 (B4 e) I.ok.above))).trans e1⟩
   · by_cases hj:j=i
     · subst hj
       rw [hi] at e1;cases e1
       rw [B2d hiσ] at e2
       cases e2
       exact ⟨u,r,.inl ⟨hk,by simp⟩⟩
     · rw [L6 (B0q hj)] at e2
       obtain ⟨u',r',q⟩:=hl j y v' e1 e2 e3
       refine ⟨u',r',?_⟩
       rcases q with ⟨k,e⟩|⟨k,c,e,z⟩
       · refine .inl ⟨k,?_⟩
         have:y≠x:=fun e=>hj (PH hN e1 (e▸hi))
         simp [this,e]
       · exact .inr ⟨k,c,e,z.sameBut hs (cne y c e)⟩
   · obtain ⟨w',z⟩:=I.cell y c e
     exact ⟨w',z.sameBut hs (cne y c e)⟩
   · obtain ⟨e,n,ne,nf,d⟩:=I.pin p hp
     exact ⟨(hs.2 p.1 ne).trans e,n,ne,nf,d⟩
 · have hfn:X.fn x=true:=by
    rcases hf with z|z
    · exact z
    · rw [z] at hk;cases hk
   obtain ⟨c,hc⟩:=I.ok.has x (.inl hk)
   obtain ⟨w',z⟩:=I.cell x c hc
   refine wpAny_storeName_cell I.ok.kind hk hc z (fun h' hc' hs=>?_)
   obtain ⟨oc,hoc,hocd⟩:=id z
   refine h { s with heap:=h' } ⟨I.ok,I.os,I.bare,⟨fun b o e n hb hx=>?_,fun b o e n hb hx=>?_,I.base.free,fun b o e hx=>?_,I.base.tups,I.base.frzs,I.base.tbls⟩,⟨m,hn.sameBut hs (B0q (cne x c hc)),fun j y v' e1 e2 e3=>?_⟩,fun y c' e=>?_,I.free,I.freeC,fun p hp=>?_,tracked ⟨oc,hoc,I.freeC x c hc⟩ hs,by simpa using I.len⟩ ⟨c,hs,.inr hc⟩
   · exact (hs.2 b (R8 (M4 (B4 e) (I.ok.cab x c hfn hc)))).trans (I.base.keep b o e n hb hx)
   · obtain ⟨sl,e1⟩:=I.base.slot b o e n hb hx
     exact ⟨sl,(hs.2 b (R8 (M4 (B4 e) (I.ok.cab x c hfn hc)))).trans e1⟩
   · obtain ⟨o',e1⟩:=I.base.there b o e hx
     exact ⟨o',(hs.2 b (R8 (M4 (B4 e) (I.ok.cab x c hfn hc)))).trans e1⟩
   · by_cases hj:j=i
     · subst hj
       rw [hi] at e1;cases e1
       rw [B2d hiσ] at e2
       cases e2
       exact ⟨u,r,.inr ⟨.inl hk,c,hc,hc'⟩⟩
     · rw [L6 (B0q hj)] at e2
       obtain ⟨u',r',q⟩:=hl j y v' e1 e2 e3
       refine ⟨u',r',?_⟩
       rcases q with q|⟨k,c',e,z'⟩
       · exact .inl q
       · refine .inr ⟨k,c',e,z'.sameBut hs ?_⟩
         rintro rfl
         exact hj (PH hN e1 (I.ok.inj _ _ _ e hc▸hi))
   · by_cases hcc:c'=c
     · subst hcc;exact ⟨_,hc'⟩
     · obtain ⟨w2,z2⟩:=I.cell y c' e
       exact ⟨w2,z2.sameBut hs hcc⟩
   · obtain ⟨e,n,ne,nf,d⟩:=I.pin p hp
     refine ⟨(hs.2 p.1 ?_).trans e,n,ne,nf,d⟩
     intro q
     rw [q,hoc] at e
     have q':oc=p.2:=Option.some.inj e
     exact d w' (by rw [<- q'];exact hocd)
theorem EU {M:Model}{A:Around}{E:Value->Shared->Prop}{i:Nat}{x:Str}{v:V}{u:Value}{Q:Unit->Shared->Prop}(I:Inv X pins σ H s)(hN:X.N.Nodup)(hi:X.N[i]?=some x)(hx:Loc X.env.scope x)(r:RelV v u)
 (h:∀ s',Inv X pins (σ.set i (some v)) H s'->Q () s') (hf:X.fn x=true\/X.env.scope.names.lookup x=some .local:=by first|exact .inl rfl|exact .inr rfl|assumption):wpAny M A (storeName X.env x u) Q E s :=
 LL I hN hi hx r (fun s' I' _=>h s' I') hf
theorem Inv.call' {s':Shared}{ch:List Addr}(I:Inv X pins σ H s)(ho:s'.os=s.os)(u:Un (frs X.stack) ch H H' s.heap s'.heap)(hok:HOk X.prog X.w H' s'.heap)(hg:AllBare s'.gens)
 (hch:∀ b∈ch,(b∈X.ex\/X.s₀.heap.objs.size<=b)/\b≠X.env.locals/\(∀ x c,X.env.cells.lookup x=some c->c≠b)/\∀ p∈X.pn++pins,p.1≠b):Inv X pins σ H' s':=by
 obtain ⟨h',g',d',t',o'⟩:=s'
 have e:o'=s.os:=ho
 subst e
 exact I.call (g':=g') (t':=t') (d':=d') u hok hg hch
end
abbrev XK:=Value->Option Addr->Hp->Prop
abbrev St:=List (Option V)
abbrev VK:=V->Hp->Prop
abbrev TE:=St->Hp->VK->Prop
abbrev TT:=St->Hp->(Bool->Hp->Prop)->Prop
abbrev TA:=St->Hp->(List V->Hp->Prop)->Prop
structure Ends where
 nx:St->Hp->Prop
 rt:VK
 bk:St->Hp->Prop:=fun _ _=>False
 ct:St->Hp->Prop:=fun _ _=>False
abbrev TS:=Ends->St->Hp->Prop
def EP (X:Cx)(pins:List (Addr×Obj))(σ:St)(Q:VK)(u:Value)(s':Shared):Prop:=∃ v H',Inv X pins σ H' s'/\RelV v u/\Q v H'
def TP (X:Cx)(pins:List (Addr×Obj))(σ:St)(Q:Bool->Hp->Prop)(b:Bool)(s':Shared):Prop:=∃ H',Inv X pins σ H' s'/\Q b H'
def AP (X:Cx)(pins:List (Addr×Obj))(σ:St)(Q:List V->Hp->Prop)(us:List Value)(s':Shared):Prop:=∃ vs H',Inv X pins σ H' s'/\Vals vs us/\Q vs H'
def SP (X:Cx)(pins:List (Addr×Obj))(D:Ends)(f:Flow)(s':Shared):Prop :=
 match f with
 | .next=>∃ σ' H',Inv X pins σ' H' s'/\D.nx σ' H'
 | .brk=>∃ σ' H',Inv X pins σ' H' s'/\D.bk σ' H'
 | .cont=>∃ σ' H',Inv X pins σ' H' s'/\D.ct σ' H'
 | .ret u=>∃ v σ' H',Inv X pins σ' H' s'/\RelV v u/\D.rt v H'
def PE (X:Cx)(e:Expr)(t:TE):Prop :=
 ∀ (pins:List (Addr×Obj)) (s:Shared) (σ:St) (H:Hp) (Q:VK),Inv X pins σ H s->t σ H Q->wpAny (model X.prog X.w) X.A (eval e X.env) (EP X pins σ Q) X.xe s
def PT (X:Cx)(e:Expr)(t:TT):Prop :=
 ∀ (pins:List (Addr×Obj)) (s:Shared) (σ:St) (H:Hp) (Q:Bool->Hp->Prop),Inv X pins σ H s->t σ H Q->wpAny (model X.prog X.w) X.A (isTrue e X.env (eval e X.env)) (TP X pins σ Q) X.xe s
def PW (X:Cx)(e:Expr)(t:TT):Prop :=
 ∀ (whole:Sem Value) (pins:List (Addr×Obj)) (s:Shared) (σ:St) (H:Hp) (Q:Bool->Hp->Prop),Inv X pins σ H s->t σ H Q->wpAny (model X.prog X.w) X.A (isTrue e X.env whole) (TP X pins σ Q) X.xe s
theorem PW.pt {X:Cx}{e:Expr}{t:TT}(h:PW X e t):PT X e t:=h _
def PA (X:Cx)(es:List Expr)(t:TA):Prop :=
 ∀ (pos:Pos) (pins:List (Addr×Obj)) (s:Shared) (σ:St) (H:Hp) (Q:List V->Hp->Prop),Inv X pins σ H s->t σ H Q->wpAny (model X.prog X.w) X.A (spliced (backTo pos (starEach es X.env))) (AP X pins σ Q) X.xe s
def PS (X:Cx)(st:Stmt)(t:TS):Prop :=
 ∀ (pins:List (Addr×Obj)) (s:Shared) (σ:St) (H:Hp) (D:Ends),Inv X pins σ H s->t D σ H->wpAny (model X.prog X.w) X.A (exec st X.env) (SP X pins D) X.xe s
def PSs (X:Cx)(st:List Stmt)(t:TS):Prop :=
 ∀ (pins:List (Addr×Obj)) (s:Shared) (σ:St) (H:Hp) (D:Ends),Inv X pins σ H s->t D σ H->wpAny (model X.prog X.w) X.A (execs st X.env) (SP X pins D) X.xe s
theorem thn {α:Type}{t:Sem α}{Q Q':α->Shared->Prop}{M:Model}{A:Around}{E:Value->Shared->Prop}{s:Shared}(h:wpAny M A t Q E s)(hQ:∀ a s,Q a s->Q' a s):wpAny M A t Q' E s:=W0 h hQ fun _ _ x=>x
section
variable {X:Cx}
noncomputable def IZ (i:Nat):TE:=fun σ H Q=>∃ v,σ[i]?=some (some v)/\Q v H
noncomputable def tC (v:V):TE:=fun _ H Q=>Q v H
theorem J5z {i:Nat}{x:Str}{pos:Pos}(hN:X.N[i]?=some x)(hv:Vis X.env.scope x)(hd:(x==("__debug__" : Str))=false:=by decide) (hcd:(x==("__classdict__" : Str))=false:=by decide):PE X (.Name x pos) (IZ i):=by
 intro pins s σ H Q I h
 obtain ⟨v,e,h⟩:=h
 obtain ⟨m,hn,hl⟩:=I.loc
 obtain ⟨u,r,l⟩:=hl i x v hN e hv
 have fin:EP X pins σ Q u s:=⟨v,H,I,r,h⟩
 rcases l with ⟨hk,hm⟩|⟨hk,c,hc,hcell⟩
 · exact wpAny_Name (wpAny_loadName_local I.ok.kind hk hn hm fin) hd
 · rcases hk with hk|hk
   · exact wpAny_Name (wpAny_loadName_cell I.ok.kind hk hc hcell fin) hd
   · exact wpAny_Name (wpAny_loadName_free I.ok.kind hk hc hcell fin hcd) hd
theorem Z7 {i j pos}:PE X (.Constant (.int i) j pos) (tC (.int i)):=fun _ _ _ H _ I h=>wpAny_Constant_int ⟨.int i,H,I.tok _,⟨_,rfl⟩,h⟩
theorem Q9e {b j pos}:PE X (.Constant (.bool b) j pos) (tC (.bl b)):=fun _ _ _ H _ I h=>Constant_bool ⟨.bl b,H,I,rfl,h⟩
theorem Q5e {j pos}:PE X (.Constant .none j pos) (tC .non):=fun _ _ _ H _ I h=>Constant_none ⟨.non,H,I,rfl,h⟩
theorem GU {x j pos}:PE X (.Constant (.str x) j pos) (tC (.str x)):=fun _ _ _ H _ I h=>Calls.Constant_str ⟨.str x,H,I.tok _,⟨_,rfl⟩,h⟩
def Gl (X:Cx)(x:Str):Prop:=X.env.kindOf x=some .globalImplicit
theorem KZ {E:Value->Shared->Prop}{pins:List (Addr×Obj)}{s:Shared}{σ:St}{H:Hp}{x:Str}{u:Value}{pos:Pos}{Q:Value->Shared->Prop}(I:Inv X pins σ H s)(hg:Gl X x)(hm:X.mg x=some u)(h:Q u s)
 (hd:(x==("__debug__" : Str))=false:=by decide):wpAny (model X.prog X.w) X.A (eval (.Name x pos) X.env) Q E s :=
 Calls.Name_function_global I.ok.kind hg (Calls.loadGlobal_global (by rw [I.ok.glob];exact I.mod.glob.keeps I.bk) hm h) hd
theorem GX {E:Value->Shared->Prop}{pins:List (Addr×Obj)}{s:Shared}{σ:St}{H:Hp}{x:Str}{u:Value}{pos:Pos}{Q:Value->Shared->Prop}(I:Inv X pins σ H s)(hg:Gl X x)(hm:X.mg x=none)(hv:bootBuiltins x=some u)(h:Q u s)
 (hn:x≠"__name__":=by decide) (hd:(x==("__debug__" : Str))=false:=by decide):wpAny (model X.prog X.w) X.A (eval (.Name x pos) X.env) Q E s:=by
 obtain ⟨mb,h1,h2⟩:=I.mod.blt
 exact Calls.Name_function_global I.ok.kind hg (Calls.loadGlobal_builtin (by rw [I.ok.glob];exact I.mod.glob.keeps I.bk) hm (by rw [I.ok.blt];exact h1.keeps I.bk) ((h2 x hn).trans hv) h) hd
theorem J0x {x:Str}{v:V}{u:Value}{pos:Pos}(hg:Gl X x)(hm:X.mg x=some u)(r:RelV v u)(hd:(x==("__debug__" : Str))=false:=by decide):PE X (.Name x pos) (tC v) :=
 fun _ _ _ H _ I h=>KZ I hg hm ⟨v,H,I,r,h⟩ hd
theorem J1b {x:Str}{v:V}{u:Value}{pos:Pos}(hg:Gl X x)(hm:X.mg x=none)(hv:bootBuiltins x=some u)(r:RelV v u)(hn:x≠"__name__":=by decide) (hd:(x==("__debug__" : Str))=false:=by decide):PE X (.Name x pos) (tC v) :=
 fun _ _ _ H _ I h=>GX I hg hm hv ⟨v,H,I,r,h⟩ hn hd
variable {a b:Expr}{ta tb:TE}{pos:Pos}
noncomputable def tB (t:TE):TT:=fun σ H Q=>t σ H fun x H1=>∃ c,x=.bl c/\Q c H1
variable {tA tB':TT}{rest:List Expr}
noncomputable def Q8v (t u:TT):TT:=fun σ H Q=>t σ H fun c H1=>if c=true then u σ H1 Q else Q false H1
noncomputable def tOr (t u:TT):TT:=fun σ H Q=>t σ H fun c H1=>if c=true then Q true H1 else u σ H1 Q
noncomputable def V1l (t:TT):TT:=fun σ H Q=>t σ H fun c H1=>Q (!c) H1
theorem Q0f (ha:PT X a tA):PW X (.BoolOp .And [a] pos) tA:=by
 intro wh pins s σ H Q I h
 refine isTrue_and (thn (ha pins s σ H Q I h) fun c s1 e=>?_)
 cases c with
 | true=>exact isTrue_and_nil e
 | false=>exact e
theorem J5r (ha:PT X a tA):PW X (.BoolOp .Or [a] pos) tA:=by
 intro wh pins s σ H Q I h
 refine isTrue_or (thn (ha pins s σ H Q I h) fun c s1 e=>?_)
 cases c with
 | false=>exact isTrue_or_nil e
 | true=>exact e
theorem Q4x (ha:PT X a tA)(hb:PW X (.BoolOp .And (b::rest) pos) tB'):PW X (.BoolOp .And (a::b::rest) pos) (Q8v tA tB'):=by
 intro wh pins s σ H Q I h
 refine isTrue_and (thn (ha pins s σ H _ I h) fun c s1 ⟨H1,I1,q1⟩=>?_)
 cases c with
 | true=>exact hb wh pins s1 σ H1 Q I1 q1
 | false=>exact ⟨H1,I1,q1⟩
theorem Q2w (ha:PT X a tA)(hb:PW X (.BoolOp .Or (b::rest) pos) tB'):PW X (.BoolOp .Or (a::b::rest) pos) (tOr tA tB'):=by
 intro wh pins s σ H Q I h
 refine isTrue_or (thn (ha pins s σ H _ I h) fun c s1 ⟨H1,I1,q1⟩=>?_)
 cases c with
 | true=>exact ⟨H1,I1,q1⟩
 | false=>exact hb wh pins s1 σ H1 Q I1 q1
theorem J5t (ha:PT X a tA):PT X (.UnaryOp .Not a pos) (V1l tA):=by
 intro pins s σ H Q I h
 exact isTrue_not (ha pins s σ H (fun c H1=>Q (!c) H1) I h)
noncomputable def Q8u (ta tb:TE):TE:=fun σ H Q=>ta σ H fun x H1=>∃ c,x=.bl c/\if c=true then tb σ H1 Q else Q (.bl false) H1
noncomputable def V1k (ta tb:TE):TE:=fun σ H Q=>ta σ H fun x H1=>∃ c,x=.bl c/\if c=true then Q (.bl true) H1 else tb σ H1 Q
noncomputable def Q8o (ta:TE):TE:=fun σ H Q=>ta σ H fun x H1=>∃ c,x=.bl c/\Q (.bl (!c)) H1
theorem Q5c {op}{t:TE}(h:PE X a t):PE X (.BoolOp op [a] pos) t:=fun pins s σ H Q I hw=>BoolOp_one (h pins s σ H Q I hw)
theorem Q5f (ha:PE X a ta)(hb:PE X (.BoolOp .And (b::rest) pos) tb):PE X (.BoolOp .And (a::b::rest) pos) (Q8u ta tb):=by
 intro pins s σ H Q I h
 refine BoolOp_and (thn (ha pins s σ H _ I h) fun v s1 ⟨x,H1,I1,r1,q1⟩=>?_)
 obtain ⟨c,rfl,q1⟩:=q1
 cases r1
 refine B0r ?_
 cases c with
 | true=>exact hb pins s1 σ H1 Q I1 q1
 | false=>exact ⟨.bl false,H1,I1,rfl,q1⟩
theorem Q9d (ha:PE X a ta)(hb:PE X (.BoolOp .Or (b::rest) pos) tb):PE X (.BoolOp .Or (a::b::rest) pos) (V1k ta tb):=by
 intro pins s σ H Q I h
 refine BoolOp_or (thn (ha pins s σ H _ I h) fun v s1 ⟨x,H1,I1,r1,q1⟩=>?_)
 obtain ⟨c,rfl,q1⟩:=q1
 cases r1
 refine B0r ?_
 cases c with
 | false=>exact hb pins s1 σ H1 Q I1 q1
 | true=>exact ⟨.bl true,H1,I1,rfl,q1⟩
theorem Q5d (ha:PE X a ta):PE X (.UnaryOp .Not a pos) (Q8o ta):=by
 intro pins s σ H Q I h
 refine UnaryOp_ (thn (ha pins s σ H _ I h) fun v s1 ⟨x,H1,I1,r1,q1⟩=>?_)
 obtain ⟨c,rfl,q1⟩:=q1
 cases r1
 exact not_of (B0r ⟨.bl (!c),H1,I1,rfl,q1⟩)
noncomputable def tIf (t:TT)(ta tb:TE):TE:=fun σ H Q=>t σ H fun c H1=>if c=true then ta σ H1 Q else tb σ H1 Q
theorem J6c {c:Expr}(hc:PT X c tA)(ha:PE X a ta)(hb:PE X b tb):PE X (.IfExp c a b pos) (tIf tA ta tb):=by
 intro pins s σ H Q I h
 refine wpAny_IfExp (thn (hc pins s σ H _ I h) fun d s1 ⟨H1,I1,q1⟩=>?_)
 cases d with
 | true=>exact ha pins s1 σ H1 Q I1 q1
 | false=>exact hb pins s1 σ H1 Q I1 q1
end
def SqL (K:Fg)(H:Hp)(a:Addr)(xs:List V):Prop :=
 Rd H a (.lst xs) \/
  ∃ (o:Obj) (its:Array Value) (n:Nat),K.lookup a=some o/\o.cls=.type "list"/\o.dict=none/\o.data=.seq its n/\its.size<=sizeLine/\Vals xs its.toList
def SqT (K:Fg)(H:Hp)(a:Addr)(xs:List V):Prop :=
 Rd H a (.tup xs) \/
  ∃ (o:Obj) (its:Array Value) (n:Nat),K.lookup a=some o/\o.cls=.type "tuple"/\o.data=.seq its n/\its.size<=sizeLine/\Vals xs its.toList
def V2e:Value->Option V
 | .none=>some .non
 | .bool b=>some (.bl b)
 | .int i _=>some (.int i)
 | .str x _=>some (.str x)
 | .bytes b _=>some (.byt b)
 | .float b _=>some (.flt b)
 | .ref a=>some (.ref a)
 | .type n=>some (.ty n)
 | _=>none
theorem RelV.abs {x:V}{u:Value}(r:RelV x u):V2e u=some x:=by
 cases x with
 | non=>cases r;rfl
 | bl _=>cases r;rfl
 | int _=>obtain ⟨t,rfl⟩:=r;rfl
 | str _=>obtain ⟨t,rfl⟩:=r;rfl
 | byt _=>obtain ⟨t,rfl⟩:=r;rfl
 | flt _=>obtain ⟨t,rfl⟩:=r;rfl
 | ref _=>cases r;rfl
 | ty _=>cases r;rfl
theorem RelV.inj {x y:V}{u:Value}(r:RelV x u)(q:RelV y u):x=y:=Option.some.inj (r.abs.symm.trans q.abs)
theorem Vals.inj:∀ {xs ys:List V} {us:List Value},Vals xs us->Vals ys us->xs=ys
 | _,_,_,.nil,.nil=>rfl
 | _,_,_,.cons r t,.cons r' t'=>by rw [r.inj r',Vals.inj t t']
section
variable {X:Cx}{pins:List (Addr×Obj)}{σ:St}{H:Hp}{s:Shared}{a:Addr}{xs ys:List V}
theorem SqL.of (h:H a=some (.lst xs)):SqL K H a xs:=.inl (.inl h)
theorem SqT.of (h:H a=some (.tup xs)):SqT K H a xs:=.inl (.inl h)
theorem Inv.list (I:Inv X pins σ H s)(h:SqL X.K H a xs):∃ its:List Value,Vals xs its/\PlainL s.heap a its.toArray/\xs.length<=sizeLine:=by
 rcases h with h|⟨o,its,n,hk,hc,hd,hs,hz,r⟩
 · obtain ⟨z,its,n,r,e⟩:=h.ok I.hok
   exact ⟨its,r,⟨_,n,e,rfl,rfl,rfl⟩,z⟩
 · refine ⟨its.toList,r,⟨o,n,I.kIn a o hk,hc,hd,by simpa using hs⟩,?_⟩
   have e:=r.length
   simp only [B3o] at e
   omega
theorem Inv.tuple (I:Inv X pins σ H s)(h:SqT X.K H a xs):∃ its:List Value,Vals xs its/\IsTup s.heap a its.toArray/\xs.length<=sizeLine:=by
 rcases h with h|⟨o,its,n,hk,hc,hs,hz,r⟩
 · obtain ⟨z,its,r,p⟩:=h.ok I.hok
   exact ⟨its,r,p,z⟩
 · refine ⟨its.toList,r,⟨o,I.kIn a o hk,hc,n,by simpa using hs⟩,?_⟩
   have e:=r.length
   simp only [B3o] at e
   omega
theorem Inv.list_inj (I:Inv X pins σ H s)(h:SqL X.K H a xs)(h':SqL X.K H a ys):xs=ys:=by
 obtain ⟨its,r,⟨o,n,e,_,_,d⟩,_⟩:=I.list h
 obtain ⟨its',r',⟨o',n',e',_,_,d'⟩,_⟩:=I.list h'
 rw [e] at e';cases e'
 rw [d] at d'
 injection d' with d1 _
 have:its=its':=by simpa using D7 Array.toList d1
 subst this
 exact r.inj r'
theorem Inv.tuple_inj (I:Inv X pins σ H s)(h:SqT X.K H a xs)(h':SqT X.K H a ys):xs=ys:=by
 obtain ⟨its,r,⟨o,e,_,n,d⟩,_⟩:=I.tuple h
 obtain ⟨its',r',⟨o',e',_,n',d'⟩,_⟩:=I.tuple h'
 rw [e] at e';cases e'
 rw [d] at d'
 injection d' with d1 _
 have:its=its':=by simpa using D7 Array.toList d1
 subst this
 exact r.inj r'
end
abbrev Cx.wish (X:Cx)(E:Value->Shared->Prop):Cx:={ X with xe:=E }
abbrev Cx.nox (X:Cx):Cx:=X.wish fun _ _=>False
theorem Cx.Ok.wish {X:Cx}(ok:X.Ok)(E:Value->Shared->Prop):(X.wish E).Ok :=
 ⟨ok.mod,ok.kind,ok.glob,ok.blt,ok.above,ok.inj,ok.has,ok.cab,ok.hd,ok.frames,ok.stk,ok.exf,ok.bs,ok.bsz,ok.noex,ok.exfs,ok.funs,ok.frf⟩
theorem Cx.Ok.unwish {X:Cx}{E:Value->Shared->Prop}(ok:(X.wish E).Ok):X.Ok :=
 ⟨ok.mod,ok.kind,ok.glob,ok.blt,ok.above,ok.inj,ok.has,ok.cab,ok.hd,ok.frames,ok.stk,ok.exf,ok.bs,ok.bsz,ok.noex,ok.exfs,ok.funs,ok.frf⟩
section
variable {X:Cx}{pins:List (Addr×Obj)}{σ:St}{H:Hp}{s:Shared}{E:Value->Shared->Prop}
theorem Inv.wish (I:Inv X pins σ H s)(E:Value->Shared->Prop):Inv (X.wish E) pins σ H s:=⟨I.ok.wish E,I.os,I.bare,I.base,I.loc,I.cell,I.free,I.freeC,I.pin,I.hok,I.len⟩
theorem Inv.unwish (I:Inv (X.wish E) pins σ H s):Inv X pins σ H s:=⟨I.ok.unwish,I.os,I.bare,I.base,I.loc,I.cell,I.free,I.freeC,I.pin,I.hok,I.len⟩
theorem SP.unwish {D:Ends}{f:Flow}{s':Shared}(h:SP (X.wish E) pins D f s'):SP X pins D f s':=by
 cases f with
 | next=>obtain ⟨σ',H',I,q⟩:=h;exact ⟨σ',H',I.unwish,q⟩
 | brk=>obtain ⟨σ',H',I,q⟩:=h;exact ⟨σ',H',I.unwish,q⟩
 | cont=>obtain ⟨σ',H',I,q⟩:=h;exact ⟨σ',H',I.unwish,q⟩
 | ret u=>obtain ⟨v,σ',H',I,r,q⟩:=h;exact ⟨v,σ',H',I.unwish,r,q⟩
theorem PSs.nox {st:List Stmt}{t:TS}(h:PSs X.nox st t):PSs X st t:=fun pins s σ H D I hw =>
 W0 (h pins s σ H D (I.wish _) hw) (fun _ _ q=>q.unwish) fun _ _ z=>False.elim z
end
section
variable {X:Cx}{st:Stmt}{rest:List Stmt}{t u:TS}{e:Expr}{te:TE}{pos:Pos}
noncomputable def Q8p:TS:=fun D σ H=>D.nx σ H
noncomputable def Q8m (t u:TS):TS:=fun D σ H=>t { D with nx:=u D } σ H
theorem GS:PSs X [] Q8p:=fun _ _ σ H _ I h=>B2w ⟨σ,H,I,h⟩
theorem Z2 (h1:PS X st t)(h2:PSs X rest u):PSs X (st::rest) (Q8m t u):=by
 intro pins s σ H D I h
 refine wpAny_execs_cons (thn (h1 pins s σ H { D with nx:=u D } I h) fun f s1 q=>?_)
 cases f with
 | next =>
   obtain ⟨σ',H',I',q⟩:=q
   exact h2 pins s1 σ' H' D I' q
 | ret v=>exact q
 | brk=>exact q
 | cont=>exact q
theorem AX (h1:PS X st t):PSs X [st] t:=by
 intro pins s σ H D I h
 refine wpAny_execs_cons (thn (h1 pins s σ H D I h) fun f s1 q=>?_)
 cases f with
 | next=>exact B2w q
 | ret v=>exact q
 | brk=>exact q
 | cont=>exact q
noncomputable def Q8s:TS:=fun D σ H=>D.ct σ H
theorem WM:PS X (.Continue pos) Q8s:=fun _ _ σ H _ I h=>wpAny_Continue ⟨σ,H,I,h⟩
theorem Inv.quiet {pins:List (Addr×Obj)}{σ:St}{H:Hp}{s:Shared}(I:Inv X pins σ H s):interactive X.env=false:=by simp [interactive,I.ok.kind]
noncomputable def J5g (te:TE):TS:=fun D σ H=>te σ H fun _ H1=>D.nx σ H1
theorem KQ (he:PE X e te)(hs:swapsWith e none pos.line X.env=pure false:=by rfl):PS X (.Expr e pos) (J5g te):=by
 intro pins s σ H D I h
 exact wpAny_Expr_any (thn (he pins s σ H _ I h) fun v s1 ⟨x,H1,I1,r1,q1⟩=>⟨σ,H1,I1,q1⟩) I.quiet hs
noncomputable def V1i (te:TE):TS:=fun D σ H=>te σ H D.rt
theorem DB (he:PE X e te):PS X (.Return (some e) pos) (V1i te):=by
 intro pins s σ H D I h
 exact wpAny_Return_some (thn (he pins s σ H _ I h) fun v s1 ⟨x,H1,I1,r1,q1⟩=>⟨x,σ,H1,I1,r1,q1⟩)
noncomputable def V1m (c:TT)(t u:TS):TS:=fun D σ H=>c σ H fun b H1=>if b=true then t D σ H1 else u D σ H1
theorem SB {c:Expr}{a b:List Stmt}{tc:TT}(hc:PT X c tc)(ha:PSs X a t)(hb:PSs X b u):PS X (.If c a b pos) (V1m tc t u):=by
 intro pins s σ H D I h
 refine wpAny_If (thn (hc pins s σ H _ I h) fun d s1 ⟨H1,I1,q1⟩=>?_)
 cases d with
 | true=>exact ha pins s1 σ H1 D I1 q1
 | false=>exact hb pins s1 σ H1 D I1 q1
end
abbrev TG:=V->St->Hp->(St->Hp->Prop)->Prop
abbrev TGs:=List V->St->Hp->(St->Hp->Prop)->Prop
def PG (X:Cx)(target:Expr)(t:TG):Prop :=
 ∀ (pins:List (Addr×Obj)) (s:Shared) (σ:St) (H:Hp) (v:V) (u:Value) (Q:St->Hp->Prop),Inv X pins σ H s->RelV v u->t v σ H Q ->
  wpAny (model X.prog X.w) X.A (assign target X.env u) (fun _ s'=>∃ σ' H',Inv X pins σ' H' s'/\Q σ' H') X.xe s
def PGs (X:Cx)(ts:List Expr)(t:TGs):Prop :=
 ∀ (pins:List (Addr×Obj)) (s:Shared) (σ:St) (H:Hp) (vs:List V) (us:List Value) (Q:St->Hp->Prop),Inv X pins σ H s->Vals vs us->t vs σ H Q ->
  wpAny (model X.prog X.w) X.A (assignInOrder ((assignEach ts X.env).map (·.2)) us) (fun _ s'=>∃ σ' H',Inv X pins σ' H' s'/\Q σ' H') X.xe s
abbrev Q7v:=V->V->V->Hp->(Hp->Prop)->Prop
def Q7y (X:Cx)(t:Q7v):Prop :=
 ∀ (pins:List (Addr×Obj)) (s:Shared) (σ:St) (H:Hp) (o i v:V) (ov iv u:Value) (Q:Hp->Prop),Inv X pins σ H s->RelV o ov->RelV i iv->RelV v u->t o i v H Q ->
  wpAny (model X.prog X.w) X.A (setItem ov iv u) (fun _ s'=>∃ H',Inv X pins σ H' s'/\Q H') X.xe s
abbrev TIp:=V->V->Hp->VK->Prop
def PIp (X:Cx)(op:Operator)(t:TIp):Prop :=
 ∀ (pins:List (Addr×Obj)) (s:Shared) (σ:St) (H:Hp) (x y:V) (v u:Value) (Q:VK),Inv X pins σ H s->RelV x v->RelV y u->t x y H Q ->
  wpAny (model X.prog X.w) X.A (inplaceOp op v u) (EP X pins σ Q) X.xe s
section
variable {X:Cx}{pos:Pos}
noncomputable def XJ (i:Nat):TG:=fun v σ H Q=>Q (σ.set i (some v)) H
theorem pg_name {i:Nat} {x:Str} (hN:X.N.Nodup) (hi:X.N[i]?=some x) (hx:Loc X.env.scope x) (hf:X.fn x=true\/X.env.scope.names.lookup x=some .local:=by first|exact .inl rfl|exact .inr rfl|assumption):PG X (.Name x pos) (XJ i):=by
 intro pins s σ H v u Q I r h
 exact wpAny_assign_Name (EU I hN hi hx r (fun s' I'=>⟨_,H,I',h⟩) hf)
noncomputable def V0c:TGs:=fun vs σ H Q=>vs=[]/\Q σ H
noncomputable def Q3e (t:TG)(u:TGs):TGs:=fun vs σ H Q=>∃ v r,vs=v::r/\t v σ H fun σ' H'=>u r σ' H' Q
theorem Y1:PGs X [] V0c:=by
 intro pins s σ H vs us Q I r h
 obtain ⟨e,h⟩:=h
 subst e
 cases r
 exact assignInOrder_nil ⟨σ,H,I,h⟩
theorem J5 {e:Expr}{es:List Expr}{t:TG}{u:TGs}(h1:PG X e t)(h2:PGs X es u)
 (hs:(assignEach (e::es) X.env).map (·.2)=assign e X.env::(assignEach es X.env).map (·.2):=by rfl):PGs X (e::es) (Q3e t u):=by
 intro pins s σ H vs us Q I r h
 obtain ⟨v,vr,e1,h⟩:=h
 subst e1
 cases r with
 | cons r rr =>
   rw [hs]
   refine assignInOrder_cons (thn (h1 pins s σ H _ _ _ I r h) fun _ s1 ⟨σ1,H1,I1,q1⟩=>?_)
   exact h2 pins s1 σ1 H1 _ _ Q I1 rr q1
noncomputable def Q5w (K:Fg)(n:Nat)(t:TGs):TG:=fun v σ H Q=>∃ a xs,v=.ref a/\SqT K H a xs/\xs.length=n/\t xs σ H Q
theorem Q5b {es:List Expr}{k:Nat}{t:TGs}{n:Nat}(hc:X.calm=true)(h:PGs X es t)
 (hn:(assignEach es X.env).length=n:=by rfl) (hst:(assignEach es X.env).findIdx? (·.1)=none:=by rfl):PG X (.Tuple es k pos) (Q5w X.K n t):=by
 intro pins s σ H v u Q I r hw
 obtain ⟨a,xs,e1,hq,hl,hw⟩:=hw
 subst e1
 cases r
 obtain ⟨its,rv,ht,hz⟩:=I.tuple hq
 refine assign_Tuple_tuple (I.ok.hd hc) ht (by simp [hn,<- hl,rv.length]) hst fun h' hx=>?_
 have I1:Inv X pins σ H { s with heap:=h' }:=I.kept (t':=s.toks) fun b o e=>hx b o (R8 (B4 e)) e
 exact h pins _ σ H xs _ Q I1 (by simpa using rv) hw
noncomputable def Q5x (to ti:TE)(t:Q7v):TG:=fun v σ H Q=>to σ H fun o H1=>ti σ H1 fun i H2=>t o i v H2 fun H3=>Q σ H3
theorem LY {o i:Expr}{to ti:TE}{t:Q7v}(ho:PE X o to)(hi:PE X i ti)(hs:Q7y X t)
 (ha:∀ v,assign (.Subscript o i pos) X.env v=(do
  let ov <- holding [v] (eval o X.env)
  let iv <- holding [v,ov] (eval i X.env)
  standAt pos
  holding [v,ov,iv] (setItem ov iv v)
  release [v,ov,iv] []):=by intro _;rfl):PG X (.Subscript o i pos) (Q5x to ti t):=by
 intro pins s σ H v u Q I r h
 rw [ha]
 refine B0 (W1 (thn (ho pins s σ H _ I h) fun ov s1 ⟨x,H1,I1,r1,q1⟩=>?_))
 refine B0 (W1 (thn (hi pins s1 σ H1 _ I1 q1) fun iv s2 ⟨y,H2,I2,r2,q2⟩=>?_))
 refine B0 (B0o (B0 (W1 (thn (hs pins s2 σ H2 x y v ov iv u _ I2 r1 r2 r q2) fun _ s3 ⟨H3,I3,q3⟩=>?_))))
 exact wpAny_release ⟨σ,H3,I3,q3⟩
noncomputable def Q4q (te:TE)(g:TG):TS:=fun D σ H=>te σ H fun x H1=>g x σ H1 D.nx
theorem OQ {tg e:Expr}{te:TE}{g:TG}(he:PE X e te)(hg:PG X tg g)(hs:swapsWithSole [tg] e pos.line X.env=pure false:=by rfl)(hw:swappedStores [tg] e X.env=pure none:=by rfl)
 (h1:(assignEach [tg] X.env).map (·.2)=[assign tg X.env]:=by rfl):PS X (.Assign [tg] e pos) (Q4q te g):=by
 intro pins s σ H D I h
 refine wpAny_Assign_stores (thn (he pins s σ H _ I h) fun v s1 ⟨x,H1,I1,r1,q1⟩=>?_) hs hw
 rw [h1]
 exact thn (hg pins s1 σ H1 x v _ I1 r1 q1) fun _ s2 q=>q
theorem BQ {i:Nat} {x:Str} {e:Expr} {te:TE} {pos':Pos} (hN:X.N.Nodup) (hi:X.N[i]?=some x) (hx:Loc X.env.scope x) (he:PE X e te) (hs:swapsWith e (some (.Name x pos')) pos.line X.env=pure false:=by rfl) (hf:X.fn x=true\/X.env.scope.names.lookup x=some .local:=by first|exact .inl rfl|exact .inr rfl|assumption) :
 PS X (.Assign [.Name x pos'] e pos) (Q4q te (XJ i)):=by
 intro pins s σ H D I h
 refine wpAny_Assign_Name (thn (he pins s σ H _ I h) fun v s1 ⟨y,H1,I1,r1,q1⟩=>?_) hs
 exact EU I1 hN hi hx r1 (fun s2 I2=>⟨_,H1,I2,q1⟩) hf
noncomputable def V1j (i j:Nat)(ta:TA):TS:=fun D σ H=>ta σ H fun vs H1=>∃ v w,vs=[v,w]/\D.nx ((σ.set i (some v)).set j (some w)) H1
theorem Q4z {i j:Nat}{x y:Str}{a b:Expr}{ta:TA}{px py pt:Pos}{kt k2 pt2}(hc:X.calm=true)(hN:X.N.Nodup)(hi:X.N[i]?=some x)(hj:X.N[j]?=some y)(hij:i≠j)
 (hx:X.env.scope.names.lookup x=some .local) (hy:X.env.scope.names.lookup y=some .local) (ha:PA X [a,b] ta)
 (hw:swappedStores [.Tuple [.Name x px,.Name y py] kt pt] (.Tuple [a,b] k2 pt2) X.env=pure (some [x,y]))
 (hs:swapsWithSole [.Tuple [.Name x px,.Name y py] kt pt] (.Tuple [a,b] k2 pt2) pos.line X.env=pure false:=by rfl) :
 PS X (.Assign [.Tuple [.Name x px,.Name y py] kt pt] (.Tuple [a,b] k2 pt2) pos) (V1j i j ta):=by
 intro pins s σ H D I h
 rw [exec_Assign_arm]
 refine B0 (B0o ?_)
 rw [hs]
 refine B0 (B1 ?_)
 rw [if_neg (by decide)]
 refine B0 (Tuple_ (thn (ha _ pins s σ H _ I h) fun us s1 ⟨vs,H1,I1,r1,q1⟩=>?_))
 obtain ⟨v,w,e1,q1⟩:=q1
 subst e1
 obtain ⟨u1,u2,rfl,rv,rw'⟩:∃ u1 u2,us=[u1,u2]/\RelV v u1/\RelV w u2:=by
  cases r1 with
  | cons p q =>
    cases q with
    | cons p' q' =>
      cases q'
      exact ⟨_,_,rfl,p,p'⟩
 refine R9 ?_ (by show 2<=sizeLine;decide)
 have I2:Inv X pins σ H1 { s1 with heap:=s1.heap.push { cls:=.type "tuple",data:=.seq [u1,u2].toArray } }:=I1.kept (t':=s1.toks) fun b o e=>B2 _ e
 rw [hw]
 refine B0 (B1 ?_)
 show wpAny (model X.prog X.w) X.A (do rule "assign.swapped-stores";let items <- unpackItems (.ref s1.heap.objs.size) 2 none;assignInOrder [fun v=>bindName X.env y v,fun v=>bindName X.env x v] items.reverse;pure Flow.next) _ _ _
 refine B0 (B2h (B0 (unpackItems_tuple (items:=#[u1,u2]) (I.ok.hd hc) (IsTup.new s1.heap _) fun h' hx'=>?_)))
 have I3:=I2.kept (h':=h') (t':=s1.toks) fun b o e=>hx' b o (R8 (B4 e)) e
 show wpAny _ _ (assignInOrder [fun v=>bindName X.env y v,fun v=>bindName X.env x v] [u2,u1] >>= fun _=>pure Flow.next) _ _ _
 refine B0 (assignInOrder_cons (wpAny_bindName (EU I3 hN hj (.inl hy) rw' (fun s2 I4=>?_) (.inr hy))))
 refine assignInOrder_cons (wpAny_bindName (EU I4 hN hi (.inl hx) rv (fun s3 I5=>assignInOrder_nil (B1 ?_)) (.inr hx)))
 rw [List.set_comm _ _ (B0q hij)] at I5
 exact ⟨_,H1,I5,q1⟩
noncomputable def V1n (i:Nat)(te:TE)(ti:TIp):TS:=fun D σ H=>∃ x,σ[i]?=some (some x)/\te σ H fun y H1=>ti x y H1 fun z H2=>D.nx (σ.set i (some z)) H2
theorem J5x {i:Nat} {x:Str} {e:Expr} {te:TE} {op:Operator} {ti:TIp} {pos':Pos} (hN:X.N.Nodup) (hi:X.N[i]?=some x) (hx:Loc X.env.scope x) (he:PE X e te) (ho:PIp X op ti) (hf:X.fn x=true\/X.env.scope.names.lookup x=some .local:=by first|exact .inl rfl|exact .inr rfl|assumption) :
 PS X (.AugAssign (.Name x pos') op e pos) (V1n i te ti):=by
 intro pins s σ H D I h
 obtain ⟨v,e1,h⟩:=h
 obtain ⟨m,hn,hl⟩:=I.loc
 have vis:Vis X.env.scope x:=by rcases hx with k|k;exact .inl k;exact .inr (.inl k)
 obtain ⟨u,r,l⟩:=hl i x v hi e1 vis
 refine wpAny_AugAssign_Name ?_
 have go:wpAny (model X.prog X.w) X.A (eval e X.env) (fun w s₂=>wpAny (model X.prog X.w) X.A (inplaceOp op u w) (fun r s₃=>wpAny (model X.prog X.w) X.A (storeName X.env x r) (fun _=>SP X pins D .next) X.xe s₃) X.xe s₂) X.xe s:=by
  refine thn (he pins s σ H _ I h) fun w s1 ⟨y,H1,I1,r1,q1⟩=>?_
  refine thn (ho pins s1 σ H1 v y u w _ I1 r r1 q1) fun z s2 ⟨zv,H2,I2,r2,q2⟩=>?_
  exact EU I2 hN hi hx r2 (fun s3 I3=>⟨_,H2,I3,q2⟩) hf
 rcases l with ⟨hk,hm⟩|⟨hk,c,hc,hcell⟩
 · exact wpAny_loadName_local I.ok.kind hk hn hm go
 · rcases hk with hk|hk
   · exact wpAny_loadName_cell I.ok.kind hk hc hcell go
   · rcases hx with k|k
     · have:X.env.scope.names.lookup x=some .free:=hk
       rw [k] at this;cases this
     · have:X.env.scope.names.lookup x=some .free:=hk
       rw [k] at this;cases this
def ipI (f:Int->Int->Int):TIp:=fun x y H Q=>∃ i j,x=.int i/\y=.int j/\Q (.int (f i j)) H
theorem J6z:PIp X .Add (ipI fun i j=>i+j):=by
 intro pins s σ H x y v u Q I r1 r2 h
 obtain ⟨i,j,e1,e2,q⟩:=h
 subst e1;subst e2
 obtain ⟨t,rfl⟩:=r1
 obtain ⟨t',rfl⟩:=r2
 exact iadd_int ⟨.int _,H,I.tok _,⟨_,rfl⟩,q⟩
end
section
variable {X:Cx}{pos:Pos}
noncomputable def J5f (c:TT)(tb:TS):TS:=fun D σ H=>∃ W:Nat->St->Hp->Prop,(∃ m,W m σ H)/\∀ m σ H,W m σ H ->
 c σ H fun b H1=>if b=true then ∃ N:St->Hp->Prop,(∀ σ' H',N σ' H'->∃ m',m'<m/\W m' σ' H')/\tb { D with nx:=N,ct:=N,bk:=D.nx } σ H1 else D.nx σ H1
theorem J5v {c:Expr}{body:List Stmt}{tc:TT}{tb:TS}(hp:PassesOwn (model X.prog X.w) X.A X.env X.xe)(hc:PT X c tc)(hb:PSs X body tb):PS X (.While c body [] pos) (J5f tc tb):=by
 intro pins s σ H D I h
 obtain ⟨W,⟨m0,w0⟩,turn⟩:=h
 refine wpAny_While (codeAny_whileLoop (fun n s'=>∃ σ' H',Inv X pins σ' H' s'/\W n σ' H') ?_ m0 ⟨σ,H,I,w0⟩)
 rintro n s1 ⟨σ1,H1,I1,w1⟩
 refine B1k hp (thn (hc pins s1 σ1 H1 _ I1 (turn n σ1 H1 w1)) fun b s2 ⟨H2,I2,q2⟩=>?_)
 cases b with
 | true =>
   obtain ⟨N,hN,q2⟩:=q2
   rw [if_pos rfl]
   refine B1k hp (thn (hb pins s2 σ1 H2 _ I2 q2) fun f s3 q3=>?_)
   cases f with
   | next =>
     obtain ⟨σ3,H3,I3,n3⟩:=q3
     obtain ⟨m',hm,w3⟩:=hN σ3 H3 n3
     exact ⟨m',hm,σ3,H3,I3,w3⟩
   | cont =>
     obtain ⟨σ3,H3,I3,n3⟩:=q3
     obtain ⟨m',hm,w3⟩:=hN σ3 H3 n3
     exact ⟨m',hm,σ3,H3,I3,w3⟩
   | brk=>exact q3
   | ret v=>exact q3
 | false =>
   rw [if_neg L9]
   exact B2w ⟨σ1,H2,I2,q2⟩
end
structure It where
 go:Nat->Hp->Prop
 yld:Nat->Hp->V->Hp->Prop
 stop:Nat->Hp->Prop
def HF (X:Cx)(pins:List (Addr×Obj))(H:Hp)(b:Addr):Prop :=
 H b=none/\b≠X.env.locals/\b∉X.fs/\(b∈X.ex\/X.s₀.heap.objs.size<=b)/\(∀ x c,X.env.cells.lookup x=some c->c≠b)/\∀ p∈X.pn++pins,p.1≠b
theorem Inv.fpOk {X:Cx}{pins:List (Addr×Obj)}{σ:St}{H H':Hp}{s:Shared}{b:Addr}(I:Inv X pins σ H s)(hb:s.heap.objs.size<=b)(hn:H' b=none):HF X pins H' b:=by
 refine ⟨hn,B1e (M4 I.lt hb),I.nofs hb,.inr (R5 I.sz hb),fun x c e z=>?_,fun p hp z=>?_⟩
 · obtain ⟨v,q⟩:=I.cell x c e
   exact absurd (M4 q.lt (by rw [z];exact hb)) (M9 _)
 · exact absurd (M4 (B4 (I.pin p hp).1) (by rw [z];exact hb)) (M9 _)
structure Turn (P:Program)(w:World)(K:Fg)(tg:Expr)(J:It)(fp:List Addr)(it:Addr)(tn:Nat->Heap->Prop):Prop where
 mem:it∈fp
 obj:∀ i h,tn i h->∀ b∈fp,∃ o,h.get? b=some o/\∀ v,o.data≠.cell v
 keep:∀ i h h',tn i h->(∀ b∈fp,∀ o,h.get? b=some o->h'.get? b=some o)->tn i h'
 item:∀ (X:Cx),X.prog=P->X.w=w->X.K=K->X.calm=true->∀ (i:Nat) (pins:List (Addr×Obj)) (s:Shared) (σ:St) (H:Hp) (E:Value->Shared->Prop),Inv X pins σ H s->(∀ b∈fp,HF X pins H b)->tn i s.heap->J.go i H ->
  wpAny (model P w) X.A (pyNext (.ref it)) (fun r s1=>∃ u,r=some u /\
   wpAny (model P w) X.A (letOwnedTupleGo tg (.ref it) u) (fun _ s2=>∃ x H',Inv X pins σ H' s2/\RelV x u/\J.yld i H x H'/\tn (i+1) s2.heap/\∀ b∈fp,H' b=none) E s1) E s
 done:∀ (X:Cx),X.prog=P->X.w=w->X.K=K->X.calm=true->∀ (i:Nat) (pins:List (Addr×Obj)) (s:Shared) (σ:St) (H:Hp) (E:Value->Shared->Prop),Inv X pins σ H s->(∀ b∈fp,HF X pins H b)->tn i s.heap->J.stop i H ->
  wpAny (model P w) X.A (pyNext (.ref it)) (fun r s1=>r=none/\Inv X pins σ H s1) E s
 self:∀ (A:Around) (i:Nat) (s:Shared) (Q:Value->Shared->Prop) (E:Value->Shared->Prop),tn i s.heap->Q (.ref it) s->wpAny (model P w) A (pyIter (.ref it)) Q E s
abbrev TI:=St->Hp->(It->Hp->Prop)->Prop
def PIE (X:Cx)(pins:List (Addr×Obj))(σ:St)(tg:Expr)(R:It->Hp->Prop)(itv:Value)(s2:Shared):Prop :=
 ∃ (it:Addr) (fp:List Addr) (tn:Nat->Heap->Prop) (J:It) (H':Hp),itv=.ref it/\Inv X pins σ H' s2/\Turn X.prog X.w X.K tg J fp it tn/\tn 0 s2.heap/\(∀ b∈fp,HF X pins H' b)/\R J H'
def PI (X:Cx)(tg iter:Expr)(wi:TI):Prop :=
 ∀ (pins:List (Addr×Obj)) (s:Shared) (σ:St) (H:Hp) (R:It->Hp->Prop),Inv X pins σ H s->wi σ H R ->
  wpAny (model X.prog X.w) X.A (eval iter X.env) (fun v s1=>wpAny (model X.prog X.w) X.A (pyIter v) (PIE X pins σ tg R) X.xe s1) X.xe s
theorem QB {M:Model}{A:Around}{E:Value->Shared->Prop}{s:Shared}{tg:Expr}{it:Addr}{u:Value}{o:Obj}{n:String}{vs:Array Value}{Q:Unit->Shared->Prop}(ho:s.heap.get? it=some o)(hc:o.cls=.type n)(hd:o.data=.fields vs)
 (hn:["enumerate","zip","dict_itemiterator","dict_reverseitemiterator","odict_iterator","itertools.zip_longest","itertools.pairwise"].contains n=false) (hQ:Q () s):wpAny M A (letOwnedTupleGo tg (.ref it) u) Q E s:=by
 unfold letOwnedTupleGo
 cases tg<;>first
  | exact B1 hQ
  | (cases u<;>first
   | exact B1 hQ
   | (refine B0 (wpAny_load ho ?_)
      rw [hc,hd]
      show wpAny M A (if (["enumerate","zip","dict_itemiterator","dict_reverseitemiterator","odict_iterator","itertools.zip_longest","itertools.pairwise"].contains n&&vs[0]?==some (rawInt _))=true then _ else _) Q E s
      rw [if_neg (by intro h;rw [hn,Bool.false_and] at h;cases h)]
      exact B1 hQ))
def Itl (K:Fg)(a:Addr):It :=
 ⟨fun i H=>∃ xs x,SqL K H a xs/\xs[i]?=some x,fun i H x H'=>H'=H/\∀ xs,SqL K H a xs->xs[i]?=some x,fun i H=>∃ xs,SqL K H a xs/\xs.length<=i⟩
def Itt (K:Fg)(a:Addr):It :=
 ⟨fun i H=>∃ xs x,SqT K H a xs/\xs[i]?=some x,fun i H x H'=>H'=H/\∀ xs,SqT K H a xs->xs[i]?=some x,fun i H=>∃ xs,SqT K H a xs/\xs.length<=i⟩
def Itr (lo:Int)(n:Nat):It:=⟨fun i _=>i<n,fun i H x H'=>H'=H/\x=.int (lo+i),fun i _=>n<=i⟩
theorem J2q {tg:Expr}(a it:Addr):Turn P w K tg (Itl K a) [it] it (fun i h=>h.IsListIter it a i) where
 mem:=by simp
 obj:=fun i h st b hb=>by
  have e:b=it:=by simpa using hb
  subst e
  obtain ⟨o,e,c,d⟩:=st
  exact ⟨o,e,fun v z=>by rw [d] at z;cases z⟩
 keep:=fun i h h' st k=>st.at fun o e=>k it (by simp) o e
 item:=by
  intro X hP hw hK hc i pins s σ H E I hf st hg
  subst hP hw hK
  obtain ⟨xs,x,hq,hx⟩:=hg
  obtain ⟨its,rv,p,hz⟩:=I.list hq
  obtain ⟨u,hu,ru⟩:=rv.get hx
  obtain ⟨f0,f1,f2,f3,f4,f5⟩:=hf it (by simp)
  refine wpAny_pyNext_list_item st p.isList (x:=u) (by simpa using hu) fun h' st' sb=>?_
  have I1:Inv X pins σ H { s with heap:=h' }:=I.turned (t':=s.toks) (fun b o hb e=>(sb.2 b hb).trans e) f0 f1 f3 f4 f5
  obtain ⟨o,e,c,d⟩:=id st'
  exact ⟨u,rfl,QB (s:={ s with heap:=h' }) e c d (by decide) ⟨x,H,I1,ru,⟨rfl,fun ys hy=>by rw [I.list_inj hy hq];exact hx⟩,st',fun b hb=>(hf b hb).1⟩⟩
 done:=by
  intro X hP hw hK hc i pins s σ H E I hf st hg
  subst hP hw hK
  obtain ⟨xs,hq,hx⟩:=hg
  obtain ⟨its,rv,p,hz⟩:=I.list hq
  obtain ⟨f0,f1,f2,f3,f4,f5⟩:=hf it (by simp)
  have hl:=rv.length
  exact wpAny_pyNext_list_end (I.ok.hd hc) st p.isList (by simp;omega) fun h' eb=>⟨rfl,I.turned (t':=s.toks) (fun b o hb e=>eb b o hb e) f0 f1 f3 f4 f5⟩
 self:=fun _ _ _ _ _ st h=>wpAny_pyIter_listiter st h
theorem YO {tg:Expr}(a it:Addr):Turn P w K tg (Itt K a) [it] it (fun i h=>h.IsTupleIter it a i) where
 mem:=by simp
 obj:=fun i h st b hb=>by
  have e:b=it:=by simpa using hb
  subst e
  obtain ⟨o,e,c,d⟩:=st
  exact ⟨o,e,fun v z=>by rw [d] at z;cases z⟩
 keep:=fun i h h' st k=>st.at fun o e=>k it (by simp) o e
 item:=by
  intro X hP hw hK hc i pins s σ H E I hf st hg
  subst hP hw hK
  obtain ⟨xs,x,hq,hx⟩:=hg
  obtain ⟨its,rv,p,hz⟩:=I.tuple hq
  obtain ⟨u,hu,ru⟩:=rv.get hx
  obtain ⟨f0,f1,f2,f3,f4,f5⟩:=hf it (by simp)
  refine wpAny_pyNext_tuple_item st (show s.heap.IsTuple a its.toArray from p) (x:=u) (by simpa using hu) fun h' st' sb=>?_
  have I1:Inv X pins σ H { s with heap:=h' }:=I.turned (t':=s.toks) (fun b o hb e=>(sb.2 b hb).trans e) f0 f1 f3 f4 f5
  obtain ⟨o,e,c,d⟩:=id st'
  exact ⟨u,rfl,QB (s:={ s with heap:=h' }) e c d (by decide) ⟨x,H,I1,ru,⟨rfl,fun ys hy=>by rw [I.tuple_inj hy hq];exact hx⟩,st',fun b hb=>(hf b hb).1⟩⟩
 done:=by
  intro X hP hw hK hc i pins s σ H E I hf st hg
  subst hP hw hK
  obtain ⟨xs,hq,hx⟩:=hg
  obtain ⟨its,rv,p,hz⟩:=I.tuple hq
  obtain ⟨f0,f1,f2,f3,f4,f5⟩:=hf it (by simp)
  have hl:=rv.length
  exact wpAny_pyNext_tuple_end (I.ok.hd hc) st (show s.heap.IsTuple a its.toArray from p) (by simp;omega) fun h' eb=>⟨rfl,I.turned (t':=s.toks) (fun b o hb e=>eb b o hb e) f0 f1 f3 f4 f5⟩
 self:=fun _ _ _ _ _ st h=>wpAny_pyIter_tupleiter st h
theorem ET {tg:Expr}(it:Addr)(lo:Int)(n:Nat):Turn P w K tg (Itr lo n) [it] it (fun i h=>IsRangeIter h it (lo+(i:Nat)*1) ((n:Int) - (i:Nat)) 1) where
 mem:=by simp
 obj:=fun i h st b hb=>by
  have e:b=it:=by simpa using hb
  subst e
  exact ⟨_,st,fun v z=>by
   have z':Data.fields _=Data.cell v:=z
   cases z'⟩
 keep:=fun i h h' st k=>k it (by simp) _ st
 item:=by
  intro X hP hw hK hc i pins s σ H E I hf st hg
  subst hP hw hK
  obtain ⟨f0,f1,f2,f3,f4,f5⟩:=hf it (by simp)
  have W:=Walks.range (prog:=X.prog) (w:=X.w) (I.ok.hd hc) it lo 1 n
  refine W.item i s _ _ hg st fun v h' tk hv st' kk=>?_
  obtain ⟨t,rfl⟩:=hv
  have I1:Inv X pins σ H { s with heap:=h',toks:=tk }:=I.turned (fun b o hb e=>kk b o (by simpa using hb) e) f0 f1 f3 f4 f5
  refine ⟨_,rfl,QB (s:={ s with heap:=h',toks:=tk }) (n:="range_iterator") st' rfl rfl (by decide) ⟨.int (lo+i),H,I1,⟨t,?_⟩,⟨rfl,rfl⟩,st',fun b hb=>(hf b hb).1⟩⟩
  rw [Int.mul_one]
 done:=by
  intro X hP hw hK hc i pins s σ H E I hf st hg
  subst hP hw hK
  obtain ⟨f0,f1,f2,f3,f4,f5⟩:=hf it (by simp)
  exact wpAny_pyNext_range_end (I.ok.hd hc) st (by have:n<=i:=hg;omega) fun h' eb=>⟨rfl,I.turned (t':=s.toks) (fun b o hb e=>eb b o hb e) f0 f1 f3 f4 f5⟩
 self:=fun _ _ _ _ _ st h=>wpAny_pyIter_rangeiter st h
section
variable {X:Cx}{tg:Expr}
theorem WH {pins:List (Addr×Obj)}{σ:St}{H:Hp}{s:Shared}{R:It->Hp->Prop}{E:Value->Shared->Prop}{lo hi:Int}{t u v:Tok}{tk:Nat}(I:Inv X pins σ H s)(h1 : -(2 ^ 62)<=lo)(h2:lo<2 ^ 62)(h3 : -(2 ^ 62)<=hi)(h4:hi<2 ^ 62)
 (q:R (Itr lo (hi - lo).toNat) H):wpAny (model X.prog X.w) X.A (pyIter (.ref s.heap.objs.size)) (PIE X pins σ tg R) E { s with heap:=s.heap.push { cls:=.type "range",data:=.fields #[.int lo t,.int hi u,.int 1 v] },toks:=tk }:=by
 refine wpAny_pyIter_range (IsRange.new ..) (small_one h1 h2 h3 h4) ?_
 have I1:Inv X pins σ H { s with heap:=s.heap.push { cls:=.type "range",data:=.fields #[.int lo t,.int hi u,.int 1 v] },toks:=tk }:=I.kept fun b o e=>B2 _ e
 refine ⟨(s.heap.push { cls:=.type "range",data:=.fields #[.int lo t,.int hi u,.int 1 v] }).objs.size,[(s.heap.push { cls:=.type "range",data:=.fields #[.int lo t,.int hi u,.int 1 v] }).objs.size],_,_,H,rfl,
  I1.kept (t':=tk) fun b o e=>B2 _ e,ET _ lo (hi - lo).toNat,?_,fun b hb=>?_,q⟩
 · have e1:lo+((0:Nat):Int)*1=lo:=by simp
   have e2:(((hi - lo).toNat:Nat):Int) - ((0:Nat):Int)=Builtin.Range.rangeSize lo hi 1:=by rw [rangeSize_one];split<;>omega
   show IsRangeIter _ _ (lo+((0:Nat):Int)*1) ((((hi - lo).toNat:Nat):Int) - ((0:Nat):Int)) 1
   rw [e1,e2]
   exact L7 _ rfl
 · have e:b=(s.heap.push { cls:=.type "range",data:=.fields #[.int lo t,.int hi u,.int 1 v] }).objs.size:=by simpa using hb
   subst e
   exact I1.fpOk (L8 _) (I1.hok.fresh (L8 _))
noncomputable def Q9w (ta:TA):TI:=fun σ H R=>ta σ H fun vs H1=>∃ j:Int,vs=[.int j]/\-(2 ^ 62)<=j/\j<2 ^ 62/\R (Itr 0 j.toNat) H1
noncomputable def Q9v (ta:TA):TI:=fun σ H R=>ta σ H fun vs H1=>∃ i j:Int,vs=[.int i,.int j]/\(-(2 ^ 62)<=i/\i<2 ^ 62/\-(2 ^ 62)<=j/\j<2 ^ 62)/\R (Itr i (j - i).toNat) H1
theorem SC {a:Expr}{ta:TA}{p pos:Pos}(hg:Gl X "range") (hm:X.mg "range" = none) (ha:PA X [a] ta) (hs:starEach [a] X.env=[(false,eval a X.env)]:=by rfl):PI X tg (.Call (.Name "range" p) [a] [] pos) (Q9w ta):=by
 intro pins s σ H R I h
 refine Call_ (GX I hg hm boot_range (E6 (thn (ha pos pins s σ H _ I h) fun us s1 ⟨vs,H1,I1,r1,q1⟩=>?_) hs rfl))
 obtain ⟨j,e,q1,q2,q⟩:=q1
 subst e
 cases r1 with
 | cons r rr =>
   cases rr
   obtain ⟨t,rfl⟩:=r
   exact call_range_1 (WH I1 (by omega) (by omega) q1 q2 (by simpa using q))
theorem J3d {a b:Expr}{ta:TA}{p pos:Pos}(hg:Gl X "range") (hm:X.mg "range" = none) (ha:PA X [a,b] ta) (hs:starEach [a,b] X.env=[(false,eval a X.env),(false,eval b X.env)]:=by rfl) (hs2:starEach [b] X.env=[(false,eval b X.env)]:=by rfl) :
 PI X tg (.Call (.Name "range" p) [a,b] [] pos) (Q9v ta):=by
 intro pins s σ H R I h
 refine Call_ (GX I hg hm boot_range (E6 (thn (ha pos pins s σ H _ I h) fun us s1 ⟨vs,H1,I1,r1,q1⟩=>?_) (by rw [hs,hs2]) (by rw [hs2];rfl)))
 obtain ⟨i,j,e,⟨q1,q2,q3,q4⟩,q⟩:=q1
 subst e
 cases r1 with
 | cons r rr =>
   cases rr with
   | cons r' rr =>
     cases rr
     obtain ⟨t,rfl⟩:=r
     obtain ⟨t',rfl⟩:=r'
     exact call_range_2 (WH I1 q1 q2 q3 q4 q)
noncomputable def Q4n (wi:TI)(g:TG)(tb:TS):TS:=fun D σ H=>wi σ H fun J H1=>∃ W:Nat->Nat->St->Hp->Prop,(∃ m,W 0 m σ H1)/\∀ i m σ H,W i m σ H ->
 (J.stop i H/\D.nx σ H)\/(J.go i H/\∃ N:St->Hp->Prop,(∀ σ' H',N σ' H'->∃ m',m'<m/\W (i+1) m' σ' H')/\∀ x H',J.yld i H x H'->g x σ H' fun σ2 H2=>tb { D with nx:=N,ct:=N,bk:=D.nx } σ2 H2)
def GT (fp:List Addr)(h:Heap):List (Addr×Obj):=fp.filterMap fun b=>(h.get? b).map fun o=>(b,o)
theorem CA {fp:List Addr}{h:Heap}{b:Addr}{o:Obj}(hb:b∈fp)(e:h.get? b=some o):(b,o)∈GT fp h:=List.mem_filterMap.mpr ⟨b,hb,by rw [e];rfl⟩
theorem SE {fp:List Addr}{h:Heap}{p:Addr×Obj}(hp:p∈GT fp h):p.1∈fp/\h.get? p.1=some p.2:=by
 obtain ⟨b,hb,e⟩:=List.mem_filterMap.mp hp
 cases q:h.get? b with
 | none=>rw [q] at e;cases e
 | some o =>
   rw [q] at e
   have e':(b,o)=p:=Option.some.inj e
   subst e'
   exact ⟨hb,q⟩
theorem Inv.pinned {pins:List (Addr×Obj)}{σ:St}{H:Hp}{s:Shared}{fp:List Addr}(I:Inv X pins σ H s)(hf:∀ b∈fp,HF X pins H b)(ho:∀ b∈fp,∃ o,s.heap.get? b=some o/\∀ v,o.data≠.cell v):Inv X (pins++GT fp s.heap) σ H s :=
 I.pins_of fun p hp=>(U7.mp hp).elim (fun z=>I.pin p (L5 _ z)) fun z=>by
  obtain ⟨hb,e⟩:=SE z
  obtain ⟨f0,f1,f2,_⟩:=hf p.1 hb
  obtain ⟨o,e',d⟩:=ho p.1 hb
  rw [e] at e';cases e'
  exact ⟨e,f0,f1,f2,d⟩
theorem Inv.unpinned {pins pl:List (Addr×Obj)}{σ:St}{H:Hp}{s:Shared}(I:Inv X (pins++pl) σ H s):Inv X pins σ H s:=I.pins_of fun p hp=>I.pin p (L5 _ (T9 _ hp))
theorem YY {iter:Expr}{body:List Stmt}{wi:TI}{g:TG}{tb:TS}{pos:Pos}(hp:PassesOwn (model X.prog X.w) X.A X.env X.xe)(hc:X.calm=true)(hi:PI X tg iter wi)(hg:PG X tg g)(hb:PSs X body tb)
 (hs:∀ x,foldedSetIterable iter X.env x=pure x:=by intro _;rfl):PS X (.For tg iter body [] pos) (Q4n wi g tb):=by
 intro pins s σ H D I h
 refine wpAny_For (thn (hi pins s σ H _ I h) fun v s1 h1=>thn h1 fun itv s2 h2=>?_) hs
 obtain ⟨it,fp,tn,J,H2,e,I2,T,st2,f2,W,⟨m0,w0⟩,turn⟩:=h2
 subst e
 have stat:∀ {H':Hp},(∀ b∈fp,H' b=none)->∀ b∈fp,HF X pins H' b:=fun hn b hb=>⟨hn b hb,(f2 b hb).2⟩
 refine codeAny_forLoop_any (fun n s'=>∃ i σ' H',Inv X pins σ' H' s'/\tn i s'.heap/\(∀ b∈fp,H' b=none)/\W i n σ' H') ?_ m0 ⟨0,σ,H2,I2,st2,fun b hb=>(f2 b hb).1,w0⟩
 rintro n s3 ⟨i,σ3,H3,I3,st3,fr3,w3⟩
 rcases turn i n σ3 H3 w3 with ⟨stop,qn⟩|⟨go,N,hN,step⟩
 · refine B1k hp (thn (T.done X rfl rfl rfl hc i pins s3 σ3 H3 X.xe I3 (stat fr3) st3 stop) fun r s4 ⟨hr,I4⟩=>?_)
   subst hr
   exact B2w ⟨σ3,H3,I4,qn⟩
 · refine B1k hp (thn (T.item X rfl rfl rfl hc i pins s3 σ3 H3 X.xe I3 (stat fr3) st3 go) fun r s4 ⟨u,hr,h4⟩=>?_)
   subst hr
   refine B1k hp (thn h4 fun _ s5 ⟨x,H5,I5,r5,y5,st5,fr5⟩=>?_)
   have I5':=I5.pinned (stat fr5) (T.obj _ _ st5)
   refine B1k hp (thn (hg _ s5 σ3 H5 x u _ I5' r5 (step x H5 y5)) fun _ s6 ⟨σ6,H6,I6,q6⟩=>?_)
   refine B1k hp (thn (hb _ s6 σ6 H6 _ I6 q6) fun f s7 q7=>?_)
   have again:∀ {σ7:St} {H7:Hp},Inv X (pins++GT fp s5.heap) σ7 H7 s7->N σ7 H7->∃ m,m<n/\∃ i σ' H',Inv X pins σ' H' s7/\tn i s7.heap/\(∀ b∈fp,H' b=none)/\W i m σ' H':=fun {σ7 H7} I7 n7=>by
    obtain ⟨m',hm,w7⟩:=hN σ7 H7 n7
    refine ⟨m',hm,i+1,σ7,H7,I7.unpinned,T.keep _ _ _ st5 fun b hb o e=>(I7.pin (b,o) (L5 _ (L5 _ (CA hb e)))).1,fun b hb=>?_,w7⟩
    obtain ⟨o,e,d⟩:=T.obj _ _ st5 b hb
    exact (I7.pin (b,o) (L5 _ (L5 _ (CA hb e)))).2.1
   cases f with
   | next=>obtain ⟨σ7,H7,I7,n7⟩:=q7;exact again I7 n7
   | cont=>obtain ⟨σ7,H7,I7,n7⟩:=q7;exact again I7 n7
   | brk=>obtain ⟨σ7,H7,I7,q7⟩:=q7;exact ⟨σ7,H7,I7.unpinned,q7⟩
   | ret v=>obtain ⟨x7,σ7,H7,I7,r7,q7⟩:=q7;exact ⟨x7,σ7,H7,I7.unpinned,r7,q7⟩
end
theorem J4g {lo:Int}{n:Nat}{g:TG}{tb:TS}{D:Ends}{σ:St}{H:Hp}(Pv:Nat->St->Hp->Prop)(h0:Pv 0 σ H)
 (hs:∀ i σ H,i<n->Pv i σ H->g (.int (lo+i)) σ H fun σ2 H2=>tb { D with nx:=Pv (i+1),ct:=Pv (i+1),bk:=D.nx } σ2 H2) (hd:∀ σ H,Pv n σ H->D.nx σ H) :
 ∃ W:Nat->Nat->St->Hp->Prop,(∃ m,W 0 m σ H)/\∀ i m σ H,W i m σ H ->
  ((Itr lo n).stop i H/\D.nx σ H)\/((Itr lo n).go i H/\∃ N:St->Hp->Prop,(∀ σ' H',N σ' H'->∃ m',m'<m/\W (i+1) m' σ' H')/\∀ x H',(Itr lo n).yld i H x H'->g x σ H' fun σ2 H2=>tb { D with nx:=N,ct:=N,bk:=D.nx } σ2 H2):=by
 refine ⟨fun i m σ H=>m=n - i/\i<=n/\Pv i σ H,⟨n,by simp,D2 _,h0⟩,?_⟩
 rintro i m σ H ⟨rfl,hi,p⟩
 by_cases hlt:i<n
 · refine .inr ⟨hlt,Pv (i+1),fun σ' H' p'=>⟨n - (i+1),by omega,rfl,hlt,p'⟩,fun x H' y=>?_⟩
   obtain ⟨e,y⟩:=y
   subst e y
   exact hs i σ _ hlt p
 · have e:i=n:=by omega
   subst e
   exact .inl ⟨L8 _,hd σ H p⟩
theorem J5a {c:TT}{tb:TS}{D:Ends}{σ:St}{H:Hp}(Pv:St->Hp->Prop)(μ:St->Hp->Nat)(h0:Pv σ H)
 (hs:∀ σ H,Pv σ H->c σ H fun b H1=>if b=true then tb { D with nx:=fun σ' H'=>Pv σ' H'/\μ σ' H'<μ σ H,ct:=fun σ' H'=>Pv σ' H'/\μ σ' H'<μ σ H,bk:=D.nx } σ H1 else D.nx σ H1)
 (mono:∀ σ H Q Q',(∀ b H1,Q b H1->Q' b H1)->c σ H Q->c σ H Q'):J5f c tb D σ H:=by
 refine ⟨fun m σ H=>m=μ σ H/\Pv σ H,⟨_,rfl,h0⟩,?_⟩
 rintro m σ H ⟨rfl,p⟩
 refine mono σ H _ _ (fun b H1 q=>?_) (hs σ H p)
 cases b with
 | true=>exact ⟨_,fun σ' H' ⟨p',l⟩=>⟨_,l,rfl,p'⟩,q⟩
 | false=>exact q
abbrev R2:=V->V->Hp->VK->Prop
def OpR (X:Cx)(f:Value->Value->Sem Value)(r:R2):Prop :=
 ∀ (pins:List (Addr×Obj)) (s:Shared) (σ:St) (H:Hp) (x y:V) (v u:Value) (Q:VK),Inv X pins σ H s->RelV x v->RelV y u->r x y H Q ->
  wpAny (model X.prog X.w) X.A (f v u) (EP X pins σ Q) X.xe s
def UnR (X:Cx)(f:Value->Sem Value)(r:V->Hp->VK->Prop):Prop :=
 ∀ (pins:List (Addr×Obj)) (s:Shared) (σ:St) (H:Hp) (x:V) (v:Value) (Q:VK),Inv X pins σ H s->RelV x v->r x H Q ->
  wpAny (model X.prog X.w) X.A (f v) (EP X pins σ Q) X.xe s
def CB (X:Cx)(f:Value)(r:List V->Hp->VK->Prop):Prop :=
 ∀ (pins:List (Addr×Obj)) (s:Shared) (σ:St) (H:Hp) (xs:List V) (us:List Value) (Q:VK),Inv X pins σ H s->Vals xs us->r xs H Q ->
  wpAny (model X.prog X.w) X.A (call f us) (EP X pins σ Q) X.xe s
def V2g (X:Cx)(r:V->Hp->(Bool->Hp->Prop)->Prop):Prop :=
 ∀ (pins:List (Addr×Obj)) (s:Shared) (σ:St) (H:Hp) (x:V) (v:Value) (Q:Bool->Hp->Prop),Inv X pins σ H s->RelV x v->r x H Q ->
  wpAny (model X.prog X.w) X.A (truthy v) (TP X pins σ Q) X.xe s
noncomputable def tOp (r:R2)(ta tb:TE):TE:=fun σ H Q=>ta σ H fun x H1=>tb σ H1 fun y H2=>r x y H2 Q
noncomputable def tUn (r:V->Hp->VK->Prop)(ta:TE):TE:=fun σ H Q=>ta σ H fun x H1=>r x H1 Q
noncomputable def rI (C:Int->Int->Prop)(g:Int->Int->V):R2:=fun x y H Q=>∃ i j,x=.int i/\y=.int j/\C i j/\Q (g i j) H
noncomputable def rI0 (g:Int->Int->V):R2:=fun x y H Q=>∃ i j,x=.int i/\y=.int j/\Q (g i j) H
noncomputable def rU (g:Int->V):V->Hp->VK->Prop:=fun x H Q=>∃ i,x=.int i/\Q (g i) H
section
variable {X:Cx}{a b:Expr}{ta tb:TE}{pos:Pos}
theorem Q7s (ha:PE X a ta)(hb:PE X b tb){pins:List (Addr×Obj)}{s:Shared}{σ:St}{H:Hp}{R:V->V->Hp->Prop}(I:Inv X pins σ H s)
 (h:ta σ H fun x H1=>tb σ H1 fun y H2=>R x y H2) {Q:Value->Shared->Prop} {f:Value->Value->Sem Value}
 (hf:∀ v u s2 x y H2,Inv X pins σ H2 s2->RelV x v->RelV y u->R x y H2->wpAny (model X.prog X.w) X.A (f v u) Q X.xe s2) :
 wpAny (model X.prog X.w) X.A (eval a X.env) (fun v s₁=>wpAny (model X.prog X.w) X.A (eval b X.env) (fun u s₂=>wpAny (model X.prog X.w) X.A (f v u) Q X.xe s₂) X.xe s₁) X.xe s:=by
 refine thn (ha pins s σ H _ I h) fun v s1 ⟨x,H1,I1,r1,q1⟩=>?_
 refine thn (hb pins s1 σ H1 _ I1 q1) fun u s2 ⟨y,H2,I2,r2,q2⟩=>?_
 exact hf v u s2 x y H2 I2 r1 r2 q2
theorem BO {op:Operator}{r:R2}(ho:OpR X (binaryOp op) r)(ha:PE X a ta)(hb:PE X b tb):PE X (.BinOp a op b pos) (tOp r ta tb):=by
 intro pins s σ H Q I h
 exact wpAny_BinOp (Q7s ha hb I h fun v u s2 x y H2 I2 rx ry q=>ho pins s2 σ H2 x y v u Q I2 rx ry q)
theorem Q9c {op:UnaryOp}{r:V->Hp->VK->Prop}(ho:UnR X (unaryOp op) r)(ha:PE X a ta):PE X (.UnaryOp op a pos) (tUn r ta):=by
 intro pins s σ H Q I h
 exact UnaryOp_ (thn (ha pins s σ H _ I h) fun v s1 ⟨x,H1,I1,r1,q1⟩=>ho pins s1 σ H1 x v Q I1 r1 q1)
theorem opI {f:Value->Value->Sem Value}{C:Int->Int->Prop}{g:Int->Int->Int}
 (rule:∀ (i j:Int) (t u:Tok) (s:Shared) (Q:Value->Shared->Prop) (E:Value->Shared->Prop),C i j->Q (.int (g i j) s.toks) { s with toks:=s.toks+1 }->wpAny (model X.prog X.w) X.A (f (.int i t) (.int j u)) Q E s) :
 OpR X f (rI C fun i j=>.int (g i j)):=by
 intro pins s σ H x y v u Q I rx ry h
 obtain ⟨i,j,rfl,rfl,hc,q⟩:=h
 obtain ⟨t,rfl⟩:=rx
 obtain ⟨t',rfl⟩:=ry
 exact rule i j t t' s _ _ hc ⟨.int (g i j),H,I.tok _,⟨_,rfl⟩,q⟩
theorem Q9g {f:Value->Value->Sem Value}{g:Int->Int->Int}
 (rule:∀ (i j:Int) (t u:Tok) (s:Shared) (Q:Value->Shared->Prop) (E:Value->Shared->Prop),Q (.int (g i j) s.toks) { s with toks:=s.toks+1 }->wpAny (model X.prog X.w) X.A (f (.int i t) (.int j u)) Q E s) :
 OpR X f (rI0 fun i j=>.int (g i j)):=by
 intro pins s σ H x y v u Q I rx ry h
 obtain ⟨i,j,rfl,rfl,q⟩:=h
 obtain ⟨t,rfl⟩:=rx
 obtain ⟨t',rfl⟩:=ry
 exact rule i j t t' s _ _ ⟨.int (g i j),H,I.tok _,⟨_,rfl⟩,q⟩
theorem Q5h {f:Value->Value->Sem Value}{g:Int->Int->Bool}
 (rule:∀ (i j:Int) (t u:Tok) (s:Shared) (Q:Value->Shared->Prop) (E:Value->Shared->Prop),Q (.bool (g i j)) s->wpAny (model X.prog X.w) X.A (f (.int i t) (.int j u)) Q E s) :
 OpR X f (rI0 fun i j=>.bl (g i j)):=by
 intro pins s σ H x y v u Q I rx ry h
 obtain ⟨i,j,rfl,rfl,q⟩:=h
 obtain ⟨t,rfl⟩:=rx
 obtain ⟨t',rfl⟩:=ry
 exact rule i j t t' s _ _ ⟨.bl (g i j),H,I,rfl,q⟩
def V2i (i j:Int):Prop:=0<=j/\j<=1000000/\i.natAbs<2 ^ 64
def CMul (i j:Int):Prop:=(-(2 ^ 64)<i/\i<2 ^ 64)\/(-(2 ^ 64)<j/\j<2 ^ 64)
theorem CMul.ok {i j:Int}(h:CMul i j):IntMulOk i j:=by
 rcases h with ⟨h1,h2⟩|⟨h1,h2⟩
 · exact .of_left (intBits_le_64 h1 h2)
 · exact .of_right (intBits_le_64 h1 h2)
theorem Y7:OpR X (binaryOp .Add) (rI0 fun i j=>.int (i+j)):=Q9g fun _ _ _ _ _ _ _ q=>add_int q
theorem Y4:OpR X (binaryOp .Sub) (rI0 fun i j=>.int (i - j)):=Q9g fun _ _ _ _ _ _ _ q=>sub_int q
theorem EZ:OpR X (binaryOp .Mod) (rI (fun _ j=>0<j) fun i j=>.int (i % j)):=opI fun i j _ _ _ _ _ hc q=>by
 have h1:(0:Int)<j:=hc
 exact mod_int' (by omega) (by rw [Int.fmod_eq_emod_of_nonneg i (by omega)];exact q)
theorem TZ:OpR X (binaryOp .Pow) (rI V2i fun i j=>.int (i ^ j.toNat)):=opI fun _ _ _ _ _ _ _ hc q=>pow_int_small hc.1 hc.2.1 hc.2.2 q
theorem unI {f:Value->Sem Value}{g:Int->Int}
 (rule:∀ (i:Int) (t:Tok) (s:Shared) (Q:Value->Shared->Prop) (E:Value->Shared->Prop),Q (.int (g i) s.toks) { s with toks:=s.toks+1 }->wpAny (model X.prog X.w) X.A (f (.int i t)) Q E s) :
 UnR X f (rU fun i=>.int (g i)):=by
 intro pins s σ H x v Q I rx h
 obtain ⟨i,rfl,q⟩:=h
 obtain ⟨t,rfl⟩:=rx
 exact rule i t s _ _ ⟨.int (g i),H,I.tok _,⟨_,rfl⟩,q⟩
theorem Q4i:UnR X (unaryOp .USub) (rU fun i=>.int (-i)):=unI fun _ _ _ _ _ q=>neg_int q
end
def Q8x:V->V->Bool
 | .non,.non=>true|.non,.int _=>true|.int _,.non=>true|.non,.bl _=>true|.bl _,.non=>true|.non,.str _=>true|.str _,.non=>true
 | .int _,.int _=>true|.bl _,.bl _=>true|.str _,.str _=>true|.byt _,.byt _=>true
 | .int _,.str _=>true|.str _,.int _=>true|.bl _,.str _=>true|.str _,.bl _=>true
 | _,_=>false
noncomputable def rEq:R2:=fun x y H Q=>Q8x x y=true/\Q (.bl (decide (x=y))) H
noncomputable def rNe:R2:=fun x y H Q=>Q8x x y=true/\Q (.bl (!decide (x=y))) H
theorem J1p {i j:Int}:decide (V.int i=V.int j)=(i==j):=by
 rw [B1u]
 simp
theorem J7r {i j:Bool}:decide (V.bl i=V.bl j)=(i==j):=by
 rw [B1u]
 simp
theorem J1o {i j:Str}:decide (V.str i=V.str j)=(i==j):=by
 rw [B1u]
 simp
theorem J1q {i j:Array UInt8}:decide (V.byt i=V.byt j)=(i.toList==j.toList):=by
 rw [B1u]
 cases i
 cases j
 simp
section
variable {X:Cx}{a b c:Expr}{ta tb tc:TE}{pos:Pos}
theorem AD {pins:List (Addr×Obj)}{σ:St}{H:Hp}{s:Shared}{Q:VK}{k k':Bool}(I:Inv X pins σ H s)(q:Q (.bl k) H)(e:k=k'):EP X pins σ Q (.bool k') s:=by
 subst e
 exact ⟨.bl k,H,I,rfl,q⟩
theorem DD:OpR X (compareOp .Eq) rEq:=by
 intro pins s σ H x y v u Q I rx ry h
 obtain ⟨hs,q⟩:=h
 cases x with
 | non =>
   cases rx
   cases y with
   | non=>cases ry;exact PySem.EqNone.eq_none_none (AD I q (by simp))
   | bl j=>cases ry;exact PySem.EqNone.eq_none_bool (AD I q (by simp))
   | int j=>obtain ⟨t',rfl⟩:=ry;exact PySem.EqNone.eq_none_int (AD I q (by simp))
   | str j=>obtain ⟨t',rfl⟩:=ry;exact PySem.EqNone.eq_none_str (AD I q (by simp))
   | _=>exact absurd (show false=true from hs) L9
 | bl i =>
   cases rx
   cases y with
   | non=>cases ry;exact PySem.EqNone.eq_bool_none (AD I q (by simp))
   | bl j=>cases ry;exact eq_bool (AD I q J7r)
   | str j=>obtain ⟨t',rfl⟩:=ry;exact PySem.EqMixed.eq_bool_str (AD I q (by simp))
   | _=>exact absurd (show false=true from hs) L9
 | int i =>
   obtain ⟨t,rfl⟩:=rx
   cases y with
   | non=>cases ry;exact PySem.EqNone.eq_int_none (AD I q (by simp))
   | int j=>obtain ⟨t',rfl⟩:=ry;exact eq_int (AD I q J1p)
   | str j=>obtain ⟨t',rfl⟩:=ry;exact PySem.EqMixed.eq_int_str (AD I q (by simp))
   | _=>exact absurd (show false=true from hs) L9
 | str i =>
   obtain ⟨t,rfl⟩:=rx
   cases y with
   | non=>cases ry;exact PySem.EqNone.eq_str_none (AD I q (by simp))
   | bl j=>cases ry;exact PySem.EqMixed.eq_str_bool (AD I q (by simp))
   | int j=>obtain ⟨t',rfl⟩:=ry;exact PySem.EqMixed.eq_str_int (AD I q (by simp))
   | str j=>obtain ⟨t',rfl⟩:=ry;exact eq_str (AD I q J1o)
   | _=>exact absurd (show false=true from hs) L9
 | byt i =>
   obtain ⟨t,rfl⟩:=rx
   cases y with
   | byt j=>obtain ⟨t',rfl⟩:=ry;exact PySem.W.eq_bytes (AD I q J1q)
   | _=>exact absurd (show false=true from hs) L9
 | _=>cases y<;>exact absurd (show false=true from hs) L9
theorem J1d:OpR X (compareOp .NotEq) rNe:=by
 intro pins s σ H x y v u Q I rx ry h
 obtain ⟨hs,q⟩:=h
 cases x with
 | non =>
   cases rx
   cases y with
   | non=>cases ry;exact PySem.EqNone.ne_none_none (AD I q (by simp))
   | bl j=>cases ry;exact PySem.EqNone.ne_none_bool (AD I q (by simp))
   | int j=>obtain ⟨t',rfl⟩:=ry;exact PySem.EqNone.ne_none_int (AD I q (by simp))
   | str j=>obtain ⟨t',rfl⟩:=ry;exact PySem.EqNone.ne_none_str (AD I q (by simp))
   | _=>exact absurd (show false=true from hs) L9
 | bl i =>
   cases rx
   cases y with
   | non=>cases ry;exact PySem.EqNone.ne_bool_none (AD I q (by simp))
   | bl j=>cases ry;exact ne_bool (AD I q (D7 not J7r))
   | str j=>obtain ⟨t',rfl⟩:=ry;exact PySem.EqMixed.ne_bool_str (AD I q (by simp))
   | _=>exact absurd (show false=true from hs) L9
 | int i =>
   obtain ⟨t,rfl⟩:=rx
   cases y with
   | non=>cases ry;exact PySem.EqNone.ne_int_none (AD I q (by simp))
   | int j=>obtain ⟨t',rfl⟩:=ry;exact ne_int (AD I q (D7 not J1p))
   | str j=>obtain ⟨t',rfl⟩:=ry;exact PySem.EqMixed.ne_int_str (AD I q (by simp))
   | _=>exact absurd (show false=true from hs) L9
 | str i =>
   obtain ⟨t,rfl⟩:=rx
   cases y with
   | non=>cases ry;exact PySem.EqNone.ne_str_none (AD I q (by simp))
   | bl j=>cases ry;exact PySem.EqMixed.ne_str_bool (AD I q (by simp))
   | int j=>obtain ⟨t',rfl⟩:=ry;exact PySem.EqMixed.ne_str_int (AD I q (by simp))
   | str j=>obtain ⟨t',rfl⟩:=ry;exact ne_str (AD I q (D7 not J1o))
   | _=>exact absurd (show false=true from hs) L9
 | byt i =>
   obtain ⟨t,rfl⟩:=rx
   cases y with
   | byt j=>obtain ⟨t',rfl⟩:=ry;exact PySem.W.ne_bytes (AD I q (D7 not J1q))
   | _=>exact absurd (show false=true from hs) L9
 | _=>cases y<;>exact absurd (show false=true from hs) L9
theorem MX:OpR X (compareOp .Lt) (rI0 fun i j=>.bl (decide (i<j))):=Q5h fun _ _ _ _ _ _ _ q=>lt_int q
theorem Q2y:OpR X (compareOp .LtE) (rI0 fun i j=>.bl (decide (i<=j))):=Q5h fun _ _ _ _ _ _ _ q=>le_int q
theorem WP:OpR X (compareOp .Gt) (rI0 fun i j=>.bl (decide (j<i))):=Q5h fun _ _ _ _ _ _ _ q=>gt_int q
theorem Y5 (b:Expr){op:CmpOp}(h:op≠.In:=by decide)(h2:op≠.NotIn:=by decide):behindInMarks op b=false:=by
 have e1:(op==CmpOp.In)=false:=by cases op<;>first|rfl|exact absurd rfl h
 have e2:(op==CmpOp.NotIn)=false:=by cases op<;>first|rfl|exact absurd rfl h2
 cases b<;>simp [behindInMarks,e1,e2]
theorem J0z {op:CmpOp}{r:R2}(ho:OpR X (compareOp op) r)(ha:PE X a ta)(hb:PE X b tb)(hm:behindInMarks op b=false):PE X (.Compare a [op] [b] pos) (tOp r ta tb):=by
 intro pins s σ H Q I h
 exact wpAny_Compare1 (Q7s ha hb I h fun v u s2 x y H2 I2 rx ry q=>ho pins s2 σ H2 x y v u Q I2 rx ry q) hm
noncomputable def Q8l (t:TE):TT:=fun σ H Q=>t σ H fun x H'=>∃ k,x=.bl k/\Q k H'
theorem GR {op:CmpOp}{r:R2}(ho:OpR X (compareOp op) r)(ha:PE X a ta)(hb:PE X b tb)(hm:behindInMarks op b=false):PT X (.Compare a [op] [b] pos) (Q8l (tOp r ta tb)):=by
 intro pins s σ H Q I h
 refine wpAny_isTrue_Compare1 (thn (ha pins s σ H _ I h) fun v s1 ⟨x,H1,I1,r1,q1⟩=>thn (hb pins s1 σ H1 _ I1 q1) fun u s2 ⟨y,H2,I2,r2,q2⟩ =>
  thn (ho pins s2 σ H2 x y v u _ I2 r1 r2 q2) fun c s3 ⟨z,H3,I3,r3,k,e,q3⟩=>?_) hm
 subst e
 cases r3
 exact B0r ⟨H3,I3,q3⟩
noncomputable def Q4p (r r':R2)(ta tb tc:TE):TE:=fun σ H Q=>ta σ H fun x H1=>tb σ H1 fun y H2=>r x y H2 fun z H3=>∃ k,z=.bl k /\
 (if k=true then tc σ H3 fun w' H4=>r' y w' H4 Q else Q (.bl false) H3)
theorem J6e {op op':CmpOp}{r r':R2}(ho:OpR X (compareOp op) r)(ho':OpR X (compareOp op') r')(ha:PE X a ta)(hb:PE X b tb)(hc:PE X c tc)
 (hm:lastMarks [op,op'] [b,c]=false:=by with_unfolding_all rfl):PE X (.Compare a [op,op'] [b,c] pos) (Q4p r r' ta tb tc):=by
 intro pins s σ H Q I h
 refine Compare_chain (thn (ha pins s σ H _ I h) fun v s1 ⟨x,H1,I1,r1,q1⟩=>chain_link (thn (hb pins s1 σ H1 _ I1 q1) fun u s2 ⟨y,H2,I2,r2,q2⟩ =>
  thn (ho pins s2 σ H2 x y v u _ I2 r1 r2 q2) fun d s3 ⟨z,H3,I3,r3,k,e,q3⟩=>?_)) hm
 subst e
 cases r3
 refine B0r ?_
 cases k with
 | false=>exact ite_ff ⟨.bl false,H3,I3,rfl,q3⟩
 | true=>exact ite_tt (chain_last (thn (hc pins s3 σ H3 _ I3 q3) fun w' s4 ⟨z',H4,I4,r4,q4⟩=>ho' pins s4 σ H4 y z' u w' Q I4 r2 r4 q4))
def Q7u (K:Fg)(x:V)(H:Hp)(k:Bool):Prop :=
 match x with
 | .non=>k=false
 | .bl b=>k=b
 | .int i=>k=(i != 0)
 | .str y=>y.length<=sizeLine/\k=((y.length:Int)!=0)
 | .byt y=>y.size<=sizeLine/\k=((y.size:Int)!=0)
 | .ref p=>(∃ xs,SqL K H p xs/\k = !xs.isEmpty)\/(∃ xs,SqT K H p xs/\k = !xs.isEmpty)\/∃ kvs,H p=some (.dK kvs)/\k = !kvs.isEmpty
 | _=>False
theorem ZU {κ:Type}{kvs:List (κ×V)}{vs:List (κ×Value)}(r:KV kvs vs):(!vs.isEmpty) = !kvs.isEmpty:=by
 cases r<;>rfl
theorem PZ {xs:List V}{its:List Value}(r:Vals xs its):(!its.toArray.isEmpty) = !xs.isEmpty:=by
 cases r<;>simp
theorem MD:(sizeLine:Nat)<2 ^ 63:=by rw [sizeLine_eq];decide
theorem Q4k:V2g X (fun x H Q=>∃ k,Q7u X.K x H k/\Q k H):=by
 intro pins s σ H x v Q I rx h
 obtain ⟨k,e,q⟩:=h
 have hl:=MD
 have hs:sizeLine=16777216:=sizeLine_eq
 cases x with
 | non =>
   cases rx
   have e':k=false:=e
   subst e'
   exact truthy_none ⟨H,I,q⟩
 | bl b =>
   cases rx
   have e':k=b:=e
   subst e'
   exact B0r ⟨H,I,q⟩
 | int i =>
   obtain ⟨t,rfl⟩:=rx
   have e':k=(i != 0):=e
   subst e'
   exact PySem.P.truthy_int ⟨H,I,q⟩
 | str y =>
   obtain ⟨t,rfl⟩:=rx
   obtain ⟨hy,e'⟩:y.length<=sizeLine/\k=((y.length:Int)!=0):=e
   subst e'
   exact PySem.P.truthy_str (by omega) ⟨H,I.tok _,q⟩
 | byt y =>
   obtain ⟨t,rfl⟩:=rx
   obtain ⟨hy,e'⟩:y.size<=sizeLine/\k=((y.size:Int)!=0):=e
   subst e'
   exact PySem.W.truthy_bytes (by omega) ⟨H,I.tok _,q⟩
 | ref p =>
   cases rx
   have e':(∃ xs,SqL X.K H p xs/\k = !xs.isEmpty)\/(∃ xs,SqT X.K H p xs/\k = !xs.isEmpty)\/∃ kvs,H p=some (.dK kvs)/\k = !kvs.isEmpty:=e
   rcases e' with ⟨xs,hx,e'⟩|⟨xs,hx,e'⟩|⟨kvs,hx,e'⟩
   · subst e'
     obtain ⟨its,r,pl,hz⟩:=I.list hx
     have hlen:=r.length
     exact wpAny_truthy_list pl.isList (by simp only [M8];omega) ⟨H,I.tok _,by rw [PZ r];exact q⟩
   · subst e'
     obtain ⟨its,r,pl,hz⟩:=I.tuple hx
     have hlen:=r.length
     exact truthy_tuple pl (by simp only [M8];omega) ⟨H,I.tok _,by rw [PZ r];exact q⟩
   · subst e'
     obtain ⟨hz,hS,vs,r,m⟩:kvs.length<=sizeLine/\(p==sysModules)=false/\∃ vs,KV kvs vs/\s.heap.DictOf (UL X.prog X.w) p vs:=I.hok p _ hx
     have hlen:kvs.length=vs.length:=Paired.length r
     exact wpAny_truthy_dict hS m (by omega) ⟨H,I.tok _,by rw [ZU r];exact q⟩
 | _=>exact (show False from e).elim
theorem J5s (ha:PE X a ta)(he:∀ whole,isTrue a X.env whole=(do let v <- whole;standAt a.pos;holding [v] (truthy v))) :
 PT X a (fun σ H Q=>ta σ H fun x H'=>∃ k,Q7u X.K x H' k/\Q k H'):=by
 intro pins s σ H Q I h
 exact isTrue_plain (thn (ha pins s σ H _ I h) fun v s1 ⟨x,H1,I1,r1,q1⟩=>Q4k pins s1 σ H1 x v Q I1 r1 q1) (he _)
theorem KG {x:V}{us:List Value}(r:Vals [x] us):∃ u,us=[u]/\RelV x u:=by
 cases r with
 | cons r1 r2=>cases r2;exact ⟨_,rfl,r1⟩
theorem RQ {x y:V}{us:List Value}(r:Vals [x,y] us):∃ u w',us=[u,w']/\RelV x u/\RelV y w':=by
 cases r with
 | cons r1 r2 =>
   cases r2 with
   | cons r3 r4=>cases r4;exact ⟨_,_,rfl,r1,r3⟩
theorem IA:CB X (.builtin "abs") (fun xs H Q=>∃ i,xs=[.int i]/\Q (.int (if i<0 then -i else i)) H):=by
 intro pins s σ H xs us Q I r h
 obtain ⟨i,rfl,q⟩:=h
 obtain ⟨u,rfl,t,rfl⟩:=KG r
 exact call_abs_int fun u tk=>⟨.int (if i<0 then -i else i),H,I.tok _,⟨_,rfl⟩,q⟩
theorem CV (hc:X.calm=true):CB X (.builtin "min") (fun xs H Q=>∃ i j,xs=[.int i,.int j]/\Q (.int (if j<i then j else i)) H):=by
 intro pins s σ H xs us Q I r h
 obtain ⟨i,j,rfl,q⟩:=h
 obtain ⟨u,w',rfl,⟨t,rfl⟩,⟨t',rfl⟩⟩:=RQ r
 refine min_two_ints (I.ok.hd hc) fun h' tk k=>⟨_,H,I.kept k,?_,q⟩
 by_cases hj:j<i
 · rw [if_pos hj,if_pos hj];exact ⟨_,rfl⟩
 · rw [if_neg hj,if_neg hj];exact ⟨_,rfl⟩
end
structure ObjM (h:Heap)(x dx C:Addr)(mA:Str->Option Value):Prop where
 obj:h.get? x=some (PySem.W.instObj C dx)
 ns:h.Ns1 dx mA
 ne:dx≠x
theorem J3o {h:Heap}{dx:Addr}{mA:Str->Option Value}(n:h.Ns1 dx mA):∃ od,h.get? dx=some od/\∀ name,PySem.W.lookIn name od=some (mA name):=by
 obtain ⟨o,es,ep,ho,hd,hk,_,hm⟩:=n
 refine ⟨o,ho,fun name=>?_⟩
 have e:=hm name
 unfold nsFind findBy at e
 rw [<- Array.find?_toList] at e
 unfold PySem.W.lookIn
 rw [hd]
 dsimp only
 split
 · rename_i y q
   rw [q] at e
   exact D7 some e
 · rename_i q
   rw [q] at e
   have a:es.toList.any (·.refKey)=false:=by
    rw [List.any_eq_false]
    intro y hy
    obtain ⟨z,t,hkey⟩:=hk y (Array.mem_toList_iff.mp hy)
    simp [DictEntry.refKey,hkey]
   have a':¬ es.toList.any (·.refKey)=true:=by rw [a];exact L9
   rw [if_neg a']
   exact D7 some e
theorem ObjM.look {h:Heap}{x dx C:Addr}{mA:Str->Option Value}(I:ObjM h x dx C mA):∃ od,PySem.W.InstAt h x (PySem.W.instObj C dx) C (some od)/\∀ name,PySem.W.lookIn name od=some (mA name) :=
 let ⟨od,ho,hl⟩:=J3o I.ns
 ⟨od,⟨I.obj,rfl,rfl,ho⟩,hl⟩
section
variable {P:Program}{w:World}{H:Hp}{h:Heap}{a C dx:Addr}{fs:List (Str×V)}
theorem Q1k (hok:HOk P w H h)(e:H a=some (.ins C dx fs)):∃ mA,ObjM h a dx C mA/\(∀ f,Q7x (fs.lookup f) (mA f))/\PySem.Within mA (fs.map (·.1))/\fs.length<=1000/\H dx=some (.own a):=by
 obtain ⟨d,z,ne,ob,mA,n,r,q⟩:=(show ObjOk P w H h a (.ins C dx fs) from hok a _ e)
 exact ⟨mA,⟨ob,n,ne⟩,r,q,z,d⟩
end
structure Cls (K:Fg)(C:Addr):Prop where
 pg:PySem.W.plainGet K C Str.empty=true
 hd:PySem.W.hasDictIn K C=true
 po:PySem.W.plainOver K C=true
 sa:PySem.W.findIn K (.ref C) "__setattr__" = some (some (.builtin "object.__setattr__"))
theorem Cls.get {C:Addr}(c:Cls K C)(f:Str):PySem.W.plainGet K C f=true:=c.pg
def Q8a (K:Fg)(C:Addr)(f:Str):Prop:=PySem.W.findIn K (.ref C) f=some none
noncomputable def V2l (K:Fg)(ta:TE)(f:Str):TE:=fun σ H Q=>ta σ H fun x H1=>∃ a C dx fs v,x=.ref a/\H1 a=some (.ins C dx fs)/\Cls K C/\Q8a K C f/\fs.lookup f=some v/\Q v H1
section
variable {X:Cx}{pins:List (Addr×Obj)}{σ:St}{H:Hp}{s:Shared}{A:Around}{E:Value->Shared->Prop}{Q:Value->Shared->Prop}{c:Value}{b:Bool}
inductive TyOf (K:Fg)(H:Hp):V->Value->Prop where
 | non:TyOf K H .non (.type "NoneType")
 | bl (x:Bool):TyOf K H (.bl x) (.type "bool")
 | int (i:Int):TyOf K H (.int i) (.type "int")
 | str (x:Str):TyOf K H (.str x) (.type "str")
 | flt (x:UInt64):TyOf K H (.flt x) (.type "float")
 | lst {a:Addr} {xs:List V} (e:H a=some (.lst xs)):TyOf K H (.ref a) (.type "list")
 | frz {a:Addr} {o:Obj} {xs:List V} (e:H a=some (.frz o (.lst xs))):TyOf K H (.ref a) (.type "list")
 | tup {a:Addr} {xs:List V} (e:H a=some (.tup xs)):TyOf K H (.ref a) (.type "tuple")
 | dK {a:Addr} {kvs:List (Key×V)} (e:H a=some (.dK kvs)):TyOf K H (.ref a) (.type "dict")
 | dT {a:Addr} {kvs:List (List Key×V)} (e:H a=some (.dT kvs)):TyOf K H (.ref a) (.type "dict")
 | ins {a C dx:Addr} {fs:List (Str×V)} (e:H a=some (.ins C dx fs)) (cl:Cls K C) (ha:PySem.W.findIn K (.ref C) "__class__" = some (some (.builtin "object.__class__")))
  (hn:PySem.W.specialIn K (.builtin "object.__class__") "__get__" = some (some (.builtin "getset_descriptor.__get__"))) (htk:PySem.W.takesIn K (.builtin "object.__class__")=some true)
  (hm:PySem.W.mroIn K C (.type "object")=some true):TyOf K H (.ref a) (.ref C)
theorem J4c {x:V}{u t:Value}(I:Inv X pins σ H s)(rx:RelV x u)(ty:TyOf X.K H x t)(e:PySem.W.kitOne X.K t c=some b)(h:∀ tk,Q (.bool b) { s with toks:=tk }) :
 wpAny (model X.prog X.w) A (call (.builtin "isinstance") [u,c]) Q E s:=by
 cases ty with
 | non=>cases (show u=Value.none from rx);exact D4 PySem.W.kitx_none I.kIn True.intro e (fun z=>nomatch z) h
 | bl y=>cases (show u=Value.bool y from rx);exact D4 PySem.W.kitx_bool I.kIn True.intro e (fun z=>nomatch z) h
 | int i=>obtain ⟨t,q⟩:=(show ∃ t,u=Value.int i t from rx);cases q;exact D4 PySem.W.kitx_int I.kIn True.intro e (fun z=>nomatch z) h
 | str y=>obtain ⟨t,q⟩:=(show ∃ t,u=Value.str y t from rx);cases q;exact D4 PySem.W.kitx_str I.kIn True.intro e (fun z=>nomatch z) h
 | flt y=>obtain ⟨t,q⟩:=(show ∃ t,u=Value.float y t from rx);cases q;exact D4 PySem.W.kitx_float I.kIn True.intro e (fun z=>nomatch z) h
 | @lst a xs ea =>
   cases (show u=Value.ref a from rx)
   obtain ⟨_,_,n,_,h1⟩:=(show ObjOk X.prog X.w H s.heap a (.lst xs) from I.hok a _ ea)
   exact D4 PySem.W.kitx_list I.kIn ⟨_,h1,rfl⟩ e (fun z=>nomatch z) h
 | @frz a ob xs ea =>
   cases (show u=Value.ref a from rx)
   obtain ⟨_,_,_,n,_,h1⟩:=(show ObjOk X.prog X.w H s.heap a (.frz ob (.lst xs)) from I.hok a _ ea)
   exact D4 PySem.W.kitx_list I.kIn ⟨_,h1,rfl⟩ e (fun z=>nomatch z) h
 | @tup a xs ea =>
   cases (show u=Value.ref a from rx)
   obtain ⟨_,_,_,p⟩:=(show ObjOk X.prog X.w H s.heap a (.tup xs) from I.hok a _ ea)
   obtain ⟨o,h1,h2,_⟩:=p
   exact D4 PySem.W.kitx_tuple I.kIn ⟨o,h1,h2⟩ e (fun z=>nomatch z) h
 | @dK a kvs ea =>
   cases (show u=Value.ref a from rx)
   obtain ⟨_,_,vs,_,p⟩:=(show ObjOk X.prog X.w H s.heap a (.dK kvs) from I.hok a _ ea)
   obtain ⟨o,es,ep,h1,h2,_⟩:=p
   exact D4 PySem.W.kitx_dict I.kIn ⟨o,h1,h2.1⟩ e (fun z=>nomatch z) h
 | @dT a kvs ea =>
   cases (show u=Value.ref a from rx)
   obtain ⟨_,_,xs,_,o,es,ep,h1,h2,_⟩:=(show ObjOk X.prog X.w H s.heap a (.dT kvs) from I.hok a _ ea)
   exact D4 PySem.W.kitx_dict I.kIn ⟨o,h1,h2.1⟩ e (fun z=>nomatch z) h
 | @ins a C dx fs ea cl ha hn htk hm =>
   cases (show u=Value.ref a from rx)
   obtain ⟨mA,O,_⟩:=Q1k I.hok ea
   obtain ⟨od,J,_⟩:=O.look
   exact D4 (PySem.W.kitx_own (cl.get _) cl.hd ha hn htk hm) I.kIn J e (fun z=>nomatch z) h
end
structure Room (k:Nat)(A:Around):Prop where
 hd:A.handled=none
 dp:A.depth+3*k+5<recursionLimit
 un:A.units+16*k+200<cLine
theorem Room.mono {j k:Nat}{A:Around}(r:Room k A)(h:j<=k):Room j A:=⟨r.hd,by have:=r.dp;omega,by have:=r.un;omega⟩
theorem Room.deeper {k:Nat}{A:Around}(r:Room (k+1) A)(env:Env):Room k (A.deeper env) :=
 ⟨r.hd,by have:=r.dp;show A.depth+1+3*k+5<_;omega,by have:=r.un;show A.units+3+16*k+200<_;omega⟩
theorem Room.depth {k:Nat}{A:Around}(r:Room k A):A.depth<recursionLimit:=by have:=r.dp;omega
theorem Room.units {k:Nat}{A:Around}(r:Room k A):A.units+64<cLine:=by have:=r.un;omega
noncomputable def J9v:TA:=fun _ H Q=>Q [] H
noncomputable def RT (ta:TE)(tr:TA):TA:=fun σ H Q=>ta σ H fun x H1=>tr σ H1 fun xs H2=>Q (x::xs) H2
section
variable {X:Cx}{e:Expr}{es:List Expr}{te:TE}{t:TA}{pos:Pos}
theorem Z0:PA X [] J9v:=fun _ _ _ _ H Q I h=>Calls.spliced_nil ⟨[],H,I,.nil,h⟩
theorem Q8 (ha:PE X e te)(hr:PA X es t)(hs:starEach (e::es) X.env=(false,eval e X.env)::starEach es X.env:=by rfl):PA X (e::es) (RT te t):=by
 intro pos pins s σ H Q I h
 rw [hs]
 show wpAny _ _ (spliced ((false,eval e X.env)::backTo pos (starEach es X.env))) _ _ s
 refine Calls.spliced_cons (thn (ha pins s σ H _ I h) fun u s1 ⟨x,H1,I1,r1,q1⟩=>?_)
 exact thn (hr pos pins s1 σ H1 _ I1 q1) fun us s2 ⟨xs,H2,I2,r2,q2⟩=>⟨x::xs,H2,I2,.cons r1 r2,q2⟩
noncomputable def V1h (t:TA):TE:=fun σ H Q=>t σ H fun xs H1=>xs.length<=sizeLine/\∀ p,H1 p=none->Q (.ref p) (upd H1 p (.tup xs))
noncomputable def Q8q (t:TA):TE:=fun σ H Q=>t σ H fun xs H1=>xs.length<=sizeLine/\∀ p,H1 p=none->Q (.ref p) (upd H1 p (.lst xs))
theorem J6a {x1}(h:PA X es t):PE X (.Tuple es x1 pos) (V1h t):=by
 intro pins s σ H Q I hq
 refine wpAny_Tuple_spliced (thn (h pos pins s σ H _ I hq) fun us s1 ⟨xs,H1,I1,r,z,q⟩=>⟨by rw [<- r.length];exact z,?_⟩)
 have hf:H1 s1.heap.objs.size=none:=I1.hok.fresh (L8 _)
 refine ⟨.ref s1.heap.objs.size,upd H1 s1.heap.objs.size (.tup xs),I1.laid (t':=s1.toks) (fun b u e=>B2 _ e) (L8 _) ?_,rfl,q _ hf⟩
 exact ⟨z,us,r,⟨_,L7 _ rfl,rfl,_,rfl⟩⟩
theorem GV (h:PA X es t):PE X (.List es pos) (Q8q t):=by
 intro pins s σ H Q I hq
 refine wpAny_List_spliced (thn (h pos pins s σ H _ I hq) fun us s1 ⟨xs,H1,I1,r,z,q⟩=>⟨by rw [<- r.length];exact z,?_⟩)
 have hf:H1 s1.heap.objs.size=none:=I1.hok.fresh (L8 _)
 refine ⟨.ref s1.heap.objs.size,upd H1 s1.heap.objs.size (.lst xs),I1.laid (t':=s1.toks) (fun b u e=>B2 _ e) (L8 _) ?_,rfl,q _ hf⟩
 exact ⟨z,us,0,r,L7 _ rfl⟩
end
abbrev Sp:=List V->Hp->VK->XK->Prop
abbrev CXT:=List Env->Hp->Shared->XK->Value->Shared->Prop
structure Env0 (P:Program)(w:World)(K:Fg)(mg:Str->Option Value)(base:Heap)(A:Around)(outer:List Env)(s:Shared)(H:Hp):Prop where
 frames:A.frames=some outer
 mod:Mod K mg base
 bs:∀ b o,base.get? b=some o->s.heap.get? b=some o/\H b=none
 bsz:base.objs.size<=s.heap.objs.size
 funs:s.heap.FunFrames base outer
 frf:∀ b∈frs outer,H b=none
 hok:HOk P w H s.heap
 bare:AllBare s.gens
def CE (outer:List Env)(P:Program)(w:World)(H:Hp)(s:Shared)(Q:VK)(u:Value)(s':Shared):Prop :=
 ∃ v H',s'.os=s.os/\AllBare s'.gens/\Un (frs outer) [] H H' s.heap s'.heap/\HOk P w H' s'.heap/\RelV v u/\Q v H'
def CR (CX:CXT)(outer:List Env)(P:Program)(w:World)(H:Hp)(s:Shared)(Q:VK)(E:XK)(r:Result)(s':Shared):Prop :=
 match r with
 | .ok (.ret u)=>CE outer P w H s Q u s'
 | .ok _=>False
 | .error e=>CX outer H s E e s'
structure FnOk (P:Program)(w:World)(K:Fg)(mg:Str->Option Value)(base:Heap)(CX:CXT)(k:Nat)(f:Addr)(fd:FuncData)(ps:List Str)(sp:Sp):Prop where
 len:∀ vs H Q E,sp vs H Q E->vs.length=ps.length
 run:∀ (A:Around) (outer:List Env) (s:Shared) (H:Hp) (args:Args) (us:List Value) (vs:List V) (Q:VK) (E:XK),Room k A->Env0 P w K mg base A outer s H->BindsTo s fd args (ps.zip us)->Vals vs us->sp vs H Q E ->
  codeAny (model P w) A (.call (.ref f) args) (CR CX outer P w H s Q E) s
theorem FnOk.imp {CX:CXT}{k:Nat}{f:Addr} {ps:List Str}{sp sp':Sp}(F:FnOk P w K mg base CX k f fd ps sp)
 (h:∀ vs H Q E,sp' vs H Q E->sp vs H Q E):FnOk P w K mg base CX k f fd ps sp' :=
 ⟨fun vs H Q E q=>F.len vs H Q E (h _ _ _ _ q),fun A outer s H args us vs Q E hr he hb hv hs=>F.run A outer s H args us vs Q E hr he hb hv (h _ _ _ _ hs)⟩
section
variable {X:Cx}{pins:List (Addr×Obj)}{σ:St}{H:Hp}{s s':Shared}
theorem Inv.env0 (I:Inv X pins σ H s):Env0 X.prog X.w X.K X.mg X.base X.A X.stack s H :=
 ⟨I.ok.frames,I.ok.mod,I.bs,R5 I.ok.bsz I.sz,I.stack,I.stkFree,I.hok,I.bare⟩
theorem Inv.after {Q:VK}{u:Value}(I:Inv X pins σ H s)(h:CE X.stack X.prog X.w H s Q u s'):EP X pins σ Q u s':=by
 obtain ⟨v,H',os,bare,un,hok,r,q⟩:=h
 obtain ⟨hh,g,d,t,os'⟩:=s'
 obtain rfl:os'=s.os:=os
 exact ⟨v,H',I.call (h':=hh) (g':=g) (d':=d) (t':=t) (ch:=[]) un hok bare (fun b z=>absurd z (by simp)),r,q⟩
end
noncomputable def MS (sp:Sp)(dvs:List V)(E:XK)(t:TA):TE:=fun σ H Q=>t σ H fun vs H1=>sp (vs++dvs) H1 Q E
noncomputable def V2j (C:Addr)(m:Str)(sp:Sp)(dvs:List V)(E:XK)(ta:TE)(t:TA):TE:=fun σ H Q=>ta σ H fun x H1=>∃ a dx fs,x=.ref a/\H1 a=some (.ins C dx fs)/\fs.lookup m=none /\
 t σ H1 fun vs H2=>sp (x::(vs++dvs)) H2 Q E
noncomputable def V2k (C:Addr)(sp:Sp)(dvs:List V)(E:XK)(t:TA):TE:=fun σ H Q=>t σ H fun vs H1=>∀ x dx,H1 x=none->H1 dx=none->dx≠x ->
 sp (.ref x::(vs++dvs)) (upd (upd H1 dx (.own x)) x (.ins C dx [])) (fun v H2=>v=.non/\Q (.ref x) H2) E
def Binds (K:Fg)(fd:FuncData)(ps:List Str)(ds:List Value):Prop :=
 ∀ (s:Shared) (us:List Value),K.In s.heap->(us++ds).length=ps.length->BindsTo s fd ⟨us,[]⟩ (ps.zip (us++ds))
theorem Binds.all {ps:List Str}(h:∀ us:List Value,us.length=ps.length->bindArgs fd ⟨us,[]⟩=pure (ps.zip us)):Binds K fd ps []:=fun s us _ hl=>by
 rw [D5] at hl ⊢
 exact .of_eq (h us hl)
def DQ (CX:CXT)(X:Cx)(E:XK):Prop:=∀ (pins:List (Addr×Obj)) (σ:St) (H:Hp) (s:Shared) (e:Value) (s':Shared),Inv X pins σ H s->CX X.stack H s E e s'->X.xe e s'
section
variable {X:Cx}{CX:CXT}{k:Nat}{f:Addr}{fd:FuncData}{ps:List Str}{sp:Sp}{dvs:List V}{ds:List Value}{E:XK}{x:Str}{p pos:Pos}{e:Expr}{es:List Expr}{t:TA}
theorem Q4v {pins:List (Addr×Obj)}{σ:St}{H:Hp}{s:Shared}{Q:VK}{us:List Value}{vs:List V}(F:FnOk X.prog X.w X.K X.mg X.base CX k f fd ps sp)(hr:Room k X.A)(hb:Binds X.K fd ps ds)(hd:Vals dvs ds)(hx:DQ CX X E)
 (I:Inv X pins σ H s) (r:Vals vs us) (h:sp (vs++dvs) H Q E):wpAny (model X.prog X.w) X.A (call (.ref f) us) (EP X pins σ Q) X.xe s:=by
 have r2:Vals (vs++dvs) (us++ds):=r.append hd
 have hl:(us++ds).length=ps.length:=by rw [<- r2.length];exact F.len _ _ _ _ h
 refine wpAny_call (B3b (F.run X.A X.stack s H ⟨us,[]⟩ (us++ds) (vs++dvs) Q E hr I.env0 (hb s us I.kIn hl) r2 h) fun r s' hq=>?_)
 cases r with
 | error e=>exact hx pins σ H s e s' I hq
 | ok fl =>
   cases fl with
   | ret u=>exact I.after hq
   | next=>exact False.elim hq
   | brk=>exact False.elim hq
   | cont=>exact False.elim hq
theorem J1a (F:FnOk X.prog X.w X.K X.mg X.base CX k f fd ps sp)(hr:Room k X.A)(hg:Gl X x)(hm:X.mg x=some (.ref f))(hk:PySem.W.keepIn X.K (.ref f)=true)(hb:Binds X.K fd ps ds)(hd:Vals dvs ds)(hx:DQ CX X E)
 (ha:PA X (e::es) t) (hdb:(x==("__debug__" : Str))=false:=by decide) (he:starEach (e::es) X.env=(false,eval e X.env)::starEach es X.env:=by rfl) (hpl:(backTo pos (starEach es X.env)).any (·.1)=false:=by rfl) :
 PE X (.Call (.Name x p) (e::es) [] pos) (MS sp dvs E t):=by
 intro pins s σ H Q I h
 refine B3d (KZ I hg hm ?_ hdb)
 refine PySem.W.callWith_K (h₀:=X.base) I.ok.mod.kin hk (thn (ha pos pins s σ H _ I h) fun us s1 ⟨vs,H1,I1,r,q⟩=>⟨I1.kIn,?_⟩) he hpl
 exact Q4v F hr hb hd hx I1 r q
end
structure FnScope (N P:List Str)(sc:Scope):Prop where
 kind:sc.kind=.function
 co:sc.isCoroutine=false
 gen:sc.isGenerator=false
 nd:N.Nodup
 pre:N.take P.length=P
 par:∀ x∈P,sc.names.lookup x=some .local\/sc.names.lookup x=some .cell
 nofree:∀ y∈sc.names,y.2≠.free
theorem SZ {kindOf:Str->Option NameKind}{x:Str}:∀ {binds:List (Str×Value)} {m:Str->Option Value},(∀ v,(x,v)∉binds)->bindL kindOf binds m x=m x
 | [],_,_=>rfl
 | (n,v)::r,m,h=>by
   unfold bindL
   rw [SZ fun w hw=>h w (B5 _ hw)]
   split
   · have:x≠n:=by rintro rfl;exact h v B8
     simp [this]
   · rfl
theorem TB {kindOf:Str->Option NameKind}{x:Str}:∀ {binds:List (Str×Value)} {m:Str->Option Value},(∀ v,(x,v)∉binds)->bindC kindOf binds m x=m x
 | [],_,_=>rfl
 | (n,v)::r,m,h=>by
   unfold bindC
   rw [TB fun w hw=>h w (B5 _ hw)]
   split
   · rfl
   · have:x≠n:=by rintro rfl;exact h v B8
     simp [this]
theorem MO {kindOf:Str->Option NameKind}{x:Str}{v:Value}:∀ {P:List Str} {vs:List Value} {i:Nat} {m:Str->Option Value},P.Nodup->P[i]?=some x->vs[i]?=some v->kindOf x=some .local ->
 bindL kindOf (P.zip vs) m x=some v
 | [],_,_,_,_,h,_,_=>by simp at h
 | _::_,[],_,_,_,_,h,_=>by simp at h
 | p::P,w::vs,0,m,nd,h1,h2,hk=>by
   simp at h1 h2;subst h1;subst h2
   show bindL kindOf ((p,w)::P.zip vs) m p=_
   unfold bindL
   rw [SZ fun v hv=>(R7.mp nd).1 (B3h hv).1,if_pos hk]
   simp
 | p::P,w::vs,i+1,m,nd,h1,h2,hk=>by
   show bindL kindOf ((p,w)::P.zip vs) m x=_
   unfold bindL
   exact MO (i:=i) (R7.mp nd).2 (by simpa using h1) (by simpa using h2) hk
theorem MP {kindOf:Str->Option NameKind}{x:Str}{v:Value}:∀ {P:List Str} {vs:List Value} {i:Nat} {m:Str->Option Value},P.Nodup->P[i]?=some x->vs[i]?=some v->kindOf x≠some .local ->
 bindC kindOf (P.zip vs) m x=some v
 | [],_,_,_,_,h,_,_=>by simp at h
 | _::_,[],_,_,_,_,h,_=>by simp at h
 | p::P,w::vs,0,m,nd,h1,h2,hk=>by
   simp at h1 h2;subst h1;subst h2
   show bindC kindOf ((p,w)::P.zip vs) m p=_
   unfold bindC
   rw [TB fun v hv=>(R7.mp nd).1 (B3h hv).1,if_neg hk]
   simp
 | p::P,w::vs,i+1,m,nd,h1,h2,hk=>by
   show bindC kindOf ((p,w)::P.zip vs) m x=_
   unfold bindC
   exact MP (i:=i) (R7.mp nd).2 (by simpa using h1) (by simpa using h2) hk
def BF (N:List Str)(vs:List V):St:=vs.map some++List.replicate (N.length - vs.length) none
def BW (CX:CXT)(P:Program)(w:World)(K:Fg)(mg:Str->Option Value)(base:Heap)(N:List Str)(qual:Str)(scope:Scope)(f:Addr)(cd:Value)(A:Around)(outer:List Env)(s:Shared)(H:Hp)(E:XK):Cx where
 prog:=P
 w:=w
 K:=K
 mg:=mg
 base:=base
 A:=A.deeper (envOfC qual scope s.heap.objs.size f cd)
 N:=N
 s₀:=s
 H₀:=H
 env:=envOfC qual scope s.heap.objs.size f cd
 outer:=outer
 stack:=envOfC qual scope s.heap.objs.size f cd::outer
 ex:=[]
 calm:=true
 fn:=fun _=>true
 pn:=[]
 xe:=fun e s'=>wpAny (model P w) (A.deeper (envOfC qual scope s.heap.objs.size f cd)) (leaving (envOfC qual scope s.heap.objs.size f cd) e) (fun _ s''=>CX outer H s E e s'') (fun e' s''=>CX outer H s E e' s'') s'
theorem LH {sc:Scope}{n:Nat}{x:Str}(h:sc.names.lookup x=some .cell):∃ c,(cellsFrom n sc.names []).lookup x=some c:=by
 have q:=B2a sc.names n [] (.inl h)
 exact B3c.mp q
theorem J4d {CX:CXT}{P:Program}{w:World}{K:Fg}{mg:Str->Option Value}{base:Heap}{N ps:List Str}{qual:Str}{scope:Scope}{f:Addr}{cd:Value}{A:Around}{outer:List Env}{s s1:Shared}{H:Hp}{E:XK}{us:List Value}{vs:List V}
 (S:FnScope N ps scope) (hd:A.handled=none) (e0:Env0 P w K mg base A outer s H) (hl:vs.length=ps.length) (r:Vals vs us)
 (x:InCallC s s.heap.objs.size (bindL (envOfC qual scope s.heap.objs.size f cd).kindOf (ps.zip us) fun _=>none) (cellsFrom (s.heap.objs.size+1) scope.names []) (bindC (envOfC qual scope s.heap.objs.size f cd).kindOf (ps.zip us) fun _=>none) s1) :
 Inv (BW CX P w K mg base N qual scope f cd A outer s H E) [] (BF N vs) H s1:=by
 have hpl:ps.length<=N.length:=by have:=D7 List.length S.pre;rw [B2k] at this;omega
 obtain ⟨h1,tk,rfl,hk⟩:=x.done
 have noA:∀ b:Addr,b∉(BW CX P w K mg base N qual scope f cd A outer s H E).ex:=fun b z=>absurd (show b∈([]:List Addr) from z) (by simp)
 refine ⟨⟨e0.mod,S.kind,rfl,rfl,L8 _,fun y z c h1 h2=>?_,fun y hy=>?_,fun y c _ h=>?_,fun _=>hd,Around.frames_deeper e0.frames,.inr ⟨rfl,rfl⟩,fun b z=>absurd z (noA b),e0.bs,e0.bsz,fun b _ _=>noA b,fun b z=>absurd z (noA b),e0.funs,e0.frf⟩,
  rfl,e0.bare,Un.kept hk,⟨_,x.toInCall.ns,fun i y v h1 h2 h3=>?_⟩,fun y c h=>⟨_,x.cell y c h⟩,e0.hok.fresh (L8 _),fun y c h=>?_,fun p hp=>absurd (show p∈([]:List (Addr×Obj)) from hp) (by simp),e0.hok.kept hk,?_⟩
 · exact name_of_addr x.apart (T8 h1) (T8 h2)
 · have hy:scope.names.lookup y=some .cell\/scope.names.lookup y=some .free:=hy
   rcases hy with hy|hy
   · exact LH hy
   · exact absurd rfl (S.nofree _ (T8 hy))
 · exact B2b (x.above y c (T8 h))
 · have hi:i<vs.length:=by
    unfold BF at h2
    by_cases hi:i<vs.length
    · exact hi
    · rw [B0h (by simpa using hi)] at h2
      rw [E8] at h2
      split at h2<;>cases h2
   have ha:vs[i]?=some v:=by
    unfold BF at h2
    rw [W9 (by simpa using hi),M1] at h2
    cases e:vs[i]? with
    | none=>rw [e] at h2;cases h2
    | some a=>rw [e] at h2;cases h2;rfl
   obtain ⟨u,hu,rv⟩:=r.get ha
   have hp:ps[i]?=some y:=by
    rw [<- S.pre,List.getElem?_take_of_lt (by omega)];exact h1
   have ndP:ps.Nodup:=by rw [<- S.pre];exact S.nd.sublist (List.take_sublist _ _)
   refine ⟨u,rv,?_⟩
   rcases S.par y (L4 hp) with k|k
   · exact .inl ⟨k,MO ndP hp hu k⟩
   · obtain ⟨c,e⟩:=LH (n:=s.heap.objs.size+1) k
     refine .inr ⟨.inl k,c,e,?_⟩
     have q:=x.cell y c e
     rw [MP ndP hp hu (by show scope.names.lookup y≠_;rw [k];decide)] at q
     exact q
 · exact e0.hok.fresh (B2b (x.above y c (T8 h)))
 · unfold BF
   show _=N.length
   rw [B0d,B9,B2j]
   omega
theorem Q3f {CX:CXT}{P:Program}{w:World}{K:Fg}{mg:Str->Option Value}{base:Heap}{k:Nat}{f:Addr}{name qual:Str}{params:Arguments}{body:List Stmt}{scope:Scope}{dV kV doc pm cdv ct oc:Value}{an od:Option Addr}
 {osl:Array (Option Value)} {N ps:List Str} {sp:Sp} (lk:K.lookup f=some ⟨oc,od,.func (PySem.W.fnOf name qual params body scope dV kV doc pm an cdv ct),osl⟩) (hcd:PySem.W.codeIn K cdv qual=true) (S:FnScope N ps scope)
 (len:∀ vs H Q E,sp vs H Q E->vs.length=ps.length)
 (hbody:∀ (A:Around) (outer:List Env) (s:Shared) (H:Hp) (vs:List V) (Q:VK) (E:XK),Room k (A.deeper (envOfC qual scope s.heap.objs.size f cdv))->sp vs H Q E ->
  ∃ t,PSs (BW CX P w K mg base N qual scope f cdv A outer s H E) body t/\t { nx:=fun _ H'=>Q .non H',rt:=Q } (BF N vs) H) :
 FnOk P w K mg base CX (k+1) f (PySem.W.fnOf name qual params body scope dV kV doc pm an cdv ct) ps sp:=by
 refine ⟨len,fun A outer s H args us vs Q E hr e0 hb r hsp=>?_⟩
 have hl:=len _ _ _ _ hsp
 have KX:K.In s.heap:=e0.mod.kin.keeps fun b o e=>(e0.bs b o e).1
 have lim:s.heap.NoLimit:=e0.mod.nolimit.keeps fun b o e=>(e0.bs b o e).1
 have hkind:∀ y∈ps.zip us,scope.names.lookup y.1=some .local\/(scope.names.lookup y.1=some .cell/\((cellsFrom (s.heap.objs.size+1) scope.names []).lookup y.1).isSome=true):=fun ⟨n,v⟩ hy=>by
  rcases S.par n (B3h hy).1 with q|q
  · exact .inl q
  · exact .inr ⟨q,B2a _ _ _ (.inl q)⟩
 refine codeAny_call_function hr.depth (KX _ _ lk) rfl S.co S.gen rfl (PySem.W.codeRec_of KX hcd) (hb _ _ _ _ ?_)
 refine wpAny_newFunctionEnv_cells S.kind hkind fun env he s1 x=>?_
 subst he
 refine ⟨lim.keeps x.toInCall.keep,codeAny_func ?_⟩
 obtain ⟨t,ht,hq⟩:=hbody A outer s H vs Q E (hr.deeper _) hsp
 have I:Inv (BW CX P w K mg base N qual scope f cdv A outer s H E) [] (BF N vs) H s1:=J4d S hr.hd e0 hl r x
 refine W0 (ht [] s1 (BF N vs) H _ I hq) (fun fl s' hs=>?_) fun e s' hs=>hs
 have fin:∀ {σ':St} {H':Hp} {v:V} {u:Value},Inv (BW CX P w K mg base N qual scope f cdv A outer s H E) [] σ' H' s'->RelV v u->Q v H'->CE outer P w H s Q u s' :=
  fun {σ' H' v u} J rv q=>⟨v,H',J.os,J.bare,J.base,J.hok,rv,q⟩
 cases fl with
 | ret u =>
   obtain ⟨v,σ',H',J,rv,q⟩:=hs
   exact fin J rv q
 | next =>
   obtain ⟨σ',H',J,q⟩:=hs
   exact fin (v:=V.non) (u:=Value.none) J rfl q
 | brk =>
   obtain ⟨_,_,_,q⟩:=hs
   exact False.elim q
 | cont =>
   obtain ⟨_,_,_,q⟩:=hs
   exact False.elim q
section
variable {X:Cx}{x:Str}{p pos:Pos}{e:Expr}{es:List Expr}{t:TA}{id T:String}{r:List V->Hp->VK->Prop}
noncomputable def tCB (r:List V->Hp->VK->Prop)(t:TA):TE:=fun σ H Q=>t σ H fun vs H1=>r vs H1 Q
theorem Z8 (hc:CB X (.builtin id) r)(hg:Gl X x)(hm:X.mg x=none)(hv:bootBuiltins x=some (.builtin id))(ha:PA X (e::es) t)(hn:x≠"__name__":=by decide) (hdb:(x==("__debug__" : Str))=false:=by decide)
 (he:starEach (e::es) X.env=(false,eval e X.env)::starEach es X.env:=by rfl) (hpl:(backTo pos (starEach es X.env)).any (·.1)=false:=by rfl):PE X (.Call (.Name x p) (e::es) [] pos) (tCB r t):=by
 intro pins s σ H Q I h
 refine B3d (GX I hg hm hv ?_ hn hdb)
 exact PyProof.Rows.callWith_builtin1 (thn (ha pos pins s σ H _ I h) fun us s1 ⟨vs,H1,I1,r1,q1⟩=>hc pins s1 σ H1 vs us Q I1 r1 q1) he hpl
theorem J3e (hc:CB X (.type T) r)(hg:Gl X x)(hm:X.mg x=none)(hv:bootBuiltins x=some (.type T))(ha:PA X (e::es) t)(hn:x≠"__name__":=by decide) (hdb:(x==("__debug__" : Str))=false:=by decide)
 (he:starEach (e::es) X.env=(false,eval e X.env)::starEach es X.env:=by rfl) (hpl:(backTo pos (starEach es X.env)).any (·.1)=false:=by rfl):PE X (.Call (.Name x p) (e::es) [] pos) (tCB r t):=by
 intro pins s σ H Q I h
 refine B3d (GX I hg hm hv ?_ hn hdb)
 exact E6 (thn (ha pos pins s σ H _ I h) fun us s1 ⟨vs,H1,I1,r1,q1⟩=>hc pins s1 σ H1 vs us Q I1 r1 q1) he hpl
end
end L2
namespace HT
open PySem PyProof.Rows
section
variable {prog:Program}{w:World}{A:Around}{E:Value->Shared->Prop}{s:Shared}
noncomputable def sIx (n d:Nat):Option Int->Nat
 | none=>d
 | some v=>if v<0 then (v+(n:Int)).toNat else min v.toNat n
theorem Q4u (n d:Nat)(hd:d<=n)(o:Option Int):sIx n d o<=n:=by
 cases o with
 | none=>exact hd
 | some v =>
   show (if v<0 then (v+(n:Int)).toNat else min v.toNat n)<=n
   by_cases hv:v<0
   · rw [if_pos hv];omega
   · rw [if_neg hv];exact Nat.min_le_right _ _
theorem J1t (v:Int)(n d:Nat):(if v<0 then max (v+(n:Int)) 0 else min v (n:Int))=((sIx n d (some v):Nat):Int):=by
 show (if v<0 then max (v+(n:Int)) 0 else min v (n:Int))=(((if v<0 then (v+(n:Int)).toNat else min v.toNat n):Nat):Int)
 by_cases hv:v<0
 · simp only [if_pos hv];omega
 · simp only [if_neg hv];omega
theorem J0e (lo hi:Option Int)(n:Nat):Builtin.Slice.sliceAdjust lo hi 1 (n:Int)=(((sIx n 0 lo:Nat):Int),((sIx n n hi:Nat):Int)):=by
 have h1:¬ ((1:Int)<0):=by omega
 unfold Builtin.Slice.sliceAdjust
 simp only [h1,B0g]
 refine Prod.ext ?_ ?_
 · cases lo with
   | none=>rfl
   | some v=>exact J1t v n 0
 · cases hi with
   | none=>rfl
   | some v=>exact J1t v n n
theorem YZ (i j:Nat):Builtin.Slice.slicePlaces (i:Int) (j:Int) 1=j - i:=by
 unfold Builtin.Slice.slicePlaces
 have h1:(1:Int)>0:=by omega
 simp only [h1,if_true,Int.ediv_one]
 split<;>omega
theorem OE {v:Value}{o:Option Int}{Q:Option Int->Shared->Prop}(p:IsPart v o)(h:Q o s):wpAny (model prog w) A (Builtin.Slice.slicePartIndex v) Q E s:=by
 cases p with
 | none=>exact slicePart_none h
 | int i t=>exact slicePart_int h
theorem LM {sl:Addr}{vl vu:Value}{lo hi:Option Int}{n:Nat}{Q:Int×Int×Nat->Shared->Prop}(hs:s.heap.IsSliceOf sl vl vu .none)(pl:IsPart vl lo)(pu:IsPart vu hi)
 (h:Q (((sIx n 0 lo:Nat):Int),1,sIx n n hi - sIx n 0 lo) s):wpAny (model prog w) A (Builtin.Slice.sliceApplied (.ref sl) (pure (n:Int))) Q E s:=by
 obtain ⟨os,hos,hcs,hds⟩:=id hs
 unfold Builtin.Slice.sliceApplied Builtin.Slice.sliceFields
 refine B0 (B0 (T6 hos hds (x:=vl) rfl (B0 (T6 hos hds (x:=vu) rfl (B0 (T6 hos hds (x:=.none) rfl (B1 ?_)))))))
 refine B0 (slicePart_none ?_)
 show wpAny _ _ (if ((1:Int)==0)=true then _ else _) _ _ s
 rw [if_neg (by decide)]
 refine B0 (OE pl (B0 (OE pu (B0 (B1 ?_)))))
 show wpAny _ _ (match Builtin.Slice.sliceAdjust lo hi 1 (n:Int) with|(lo,hi)=>pure (lo,(1:Int),Builtin.Slice.slicePlaces lo hi 1)) _ _ s
 rw [J0e lo hi n]
 show wpAny _ _ (pure (((sIx n 0 lo:Nat):Int),(1:Int),Builtin.Slice.slicePlaces ((sIx n 0 lo:Nat):Int) ((sIx n n hi:Nat):Int) 1)) _ _ s
 rw [YZ]
 exact B1 h
theorem J5y (xs:Array Value)(i k:Nat):((List.range k).filterMap fun (m:Nat)=>xs[((i:Int)+(m:Int)*1).toNat]?).toArray=((xs.toList.drop i).take k).toArray:=by
 have e:(fun (m:Nat)=>xs[((i:Int)+(m:Int)*1).toNat]?)=fun m=>xs[i+m]?:=by
  funext m
  have:((i:Int)+(m:Int)*1).toNat=i+m:=by omega
  rw [this]
 rw [e]
 have:=pick_run xs i k
 rw [List.filterMap_map] at this
 have e2:((fun x=>xs[x]?)∘fun x=>i+x)=fun m=>xs[i+m]?:=rfl
 rw [e2] at this
 rw [this]
theorem getItem_tuple_cut {t sl:Addr}{items:Array Value}{vl vu:Value}{lo hi:Option Int}{Q:Value->Shared->Prop}(ht:IsTup s.heap t items)(hs:s.heap.IsSliceOf sl vl vu .none)(pl:IsPart vl lo)(pu:IsPart vu hi)
 (hw:¬ (sIx items.size 0 lo=0/\sIx items.size items.size hi=items.size))
 (h:Q (.ref s.heap.objs.size) { s with heap:=s.heap.push { cls:=.type "tuple",data:=.seq ((items.toList.drop (sIx items.size 0 lo)).take (sIx items.size items.size hi - sIx items.size 0 lo)).toArray } })
 (hsz:items.size<=sizeLine):wpAny (model prog w) A (getItem (.ref t) (.ref sl)) Q E s:=by
 have htake:sizeOk (.seq ((items.toList.drop (sIx items.size 0 lo)).take (sIx items.size items.size hi - sIx items.size 0 lo)).toArray):=by
  show ((items.toList.drop (sIx items.size 0 lo)).take (sIx items.size items.size hi - sIx items.size 0 lo)).toArray.size<=sizeLine
  rw [M8,B2k,List.length_drop,B3o]
  omega
 have hj:sIx items.size items.size hi<=items.size:=Q4u _ _ (L8 _) hi
 obtain ⟨os,hos,hcs,hds⟩:=id hs
 have hTs:s.TypeIs (.ref sl) "slice":=⟨os,hos,hcs⟩
 unfold getItem
 try with_reducible refine W1 ?_
 first|refine B0 (B1 ?_)|skip
 refine B0 (wpAny_sequenceKey ht.typeIs (by decide) ?_)
 refine B0 (wpAny_callSpecial?_slot (name:=Str.ofString "__getitem__") ht.typeIs B2i
  (E7 B2i ht.typeIs entry_tuple_getitem ?_ (args_tuple_getitem _ _)))
 show wpAny _ _ (Builtin.Tuple.tupleItemsOf (.ref t) >>= _) _ _ s
 refine B0 (tupleItemsOf_ ht ?_)
 refine B0 (wpAny_typeOf hTs ?_)
 rw [if_pos (by decide)]
 refine B0 (LM hs pl pu ?_)
 have hno:¬ ((((sIx items.size 0 lo:Nat):Int)==0&&(1:Int)==1&&(sIx items.size items.size hi - sIx items.size 0 lo)==items.size)=true):=by
  intro q
  rw [R4,R4] at q
  have q1:((sIx items.size 0 lo:Nat):Int)=0:=eq_of_beq q.1.1
  have q2:sIx items.size items.size hi - sIx items.size 0 lo=items.size:=eq_of_beq q.2
  exact hw ⟨by omega,by omega⟩
 show wpAny _ _ (if (((sIx items.size 0 lo:Nat):Int)==0&&(1:Int)==1&&(sIx items.size items.size hi - sIx items.size 0 lo)==items.size)=true then _ else _) _ _ s
 rw [if_neg hno,J5y]
 first
  | exact B0 (m:=Builtin.Tuple.tupleExact _) (R9 (B1 ⟨_,rfl,B1 h⟩) htake)
  | exact B0 (m:=Builtin.Tuple.tupleExact _) (R9 (B0 (B1 (B1 ⟨_,rfl,B1 h⟩))) htake)
  | exact B0 (B0 (m:=Builtin.Tuple.tupleExact _) (R9 (B1 (B1 ⟨_,rfl,B1 h⟩)) htake))
  | exact B0 (B0 (m:=Builtin.Tuple.tupleExact _) (R9 (B1 ⟨_,rfl,B1 h⟩) htake))
end
end HT
namespace L2
open PySem PySem.Spec PyProof.Rows
abbrev TO:=St->Hp->(Option Int->Hp->Prop)->Prop
def PO (X:Cx)(e:Option Expr)(t:TO):Prop :=
 ∀ (pins:List (Addr×Obj)) (s:Shared) (σ:St) (H:Hp) (Q:Option Int->Hp->Prop),Inv X pins σ H s->t σ H Q ->
  wpAny (model X.prog X.w) X.A (evalPart e X.env) (fun u s'=>∃ o H',Inv X pins σ H' s'/\IsPart u o/\Q o H') X.xe s
noncomputable def J9u:TO:=fun _ H Q=>Q none H
noncomputable def Q8n (t:TE):TO:=fun σ H Q=>t σ H fun x H1=>∃ i,x=.int i/\Q (some i) H1
section
variable {X:Cx}{e:Expr}{te:TE}{lo hi:Option Expr}{tl th:TO}{pos p2:Pos}
theorem Q0j:PO X none J9u:=by
 intro pins s σ H Q I h
 rw [evalPart_none]
 exact B1 ⟨none,H,I,.none,h⟩
theorem Q0i (h:PE X e te):PO X (some e) (Q8n te):=by
 intro pins s σ H Q I hw
 rw [evalPart_some]
 refine thn (h pins s σ H _ I hw) fun u s1 ⟨x,H1,I1,r1,q1⟩=>?_
 obtain ⟨i,rfl,q⟩:=q1
 obtain ⟨t,rfl⟩:=r1
 exact ⟨some i,H1,I1,.int i t,q⟩
def SlR (X:Cx)(r:V->Option Int->Option Int->Hp->VK->Prop):Prop :=
 ∀ (pins:List (Addr×Obj)) (s:Shared) (σ:St) (H:Hp) (x:V) (v vl vu:Value) (lo hi:Option Int) (sl:Addr) (Q:VK),Inv X pins σ H s->RelV x v->s.heap.IsSliceOf sl vl vu .none->IsPart vl lo->IsPart vu hi->r x lo hi H Q ->
  ∃ T id,typeLookup (.type T) "__getitem__" = pure (some (.builtin id))/\s.TypeIs v T/\wpAny (model X.prog X.w) X.A (getItem v (.ref sl)) (EP X pins σ Q) X.xe s
theorem SlR.or {r r':V->Option Int->Option Int->Hp->VK->Prop}(h:SlR X r)(h':SlR X r'):SlR X (fun x lo hi H Q=>r x lo hi H Q\/r' x lo hi H Q):=by
 intro pins s σ H x v vl vu lo hi sl Q I rx hs pl pu q
 rcases q with q|q
 · exact h pins s σ H x v vl vu lo hi sl Q I rx hs pl pu q
 · exact h' pins s σ H x v vl vu lo hi sl Q I rx hs pl pu q
noncomputable def tSl (r:V->Option Int->Option Int->Hp->VK->Prop)(te:TE)(tl th:TO):TE:=fun σ H Q=>te σ H fun x H1=>tl σ H1 fun l H2=>th σ H2 fun u H3=>r x l u H3 Q
theorem J6b {r:V->Option Int->Option Int->Hp->VK->Prop}(hr:SlR X r)(he:PE X e te)(hl:PO X lo tl)(hu:PO X hi th):PE X (.Subscript e (.Slice lo hi none p2) pos) (tSl r te tl th):=by
 intro pins s σ H Q I h
 refine Subscript_ (thn (he pins s σ H _ I h) fun v s1 ⟨x,H1,I1,r1,q1⟩=>?_)
 refine wpAny_Slice (thn (hl pins s1 σ H1 _ I1 q1) fun vl s2 ⟨l,H2,I2,pl,q2⟩=>thn (hu pins s2 σ H2 _ I2 q2) fun vu s3 ⟨u,H3,I3,pu,q3⟩=>?_)
 rw [evalPart_none]
 refine B1 ?_
 have I4:Inv X pins σ H3 { s3 with heap:=s3.heap.push { cls:=.type "slice",data:=.fields #[vl,vu,.none] } }:=I3.kept (t':=s3.toks) fun b ob q=>B2 _ q
 obtain ⟨T,id,hT,ht,hg⟩:=hr pins { s3 with heap:=s3.heap.push { cls:=.type "slice",data:=.fields #[vl,vu,.none] } } σ H3 x v vl vu l u s3.heap.objs.size Q I4 r1 (Heap.IsSliceOf.new ..) pl pu q3
 show wpAny (model X.prog X.w) X.A (subscriptTail e (.Slice lo hi none p2) v (.ref s3.heap.objs.size)) (EP X pins σ Q) X.xe { s3 with heap:=s3.heap.push { cls:=.type "slice",data:=.fields #[vl,vu,.none] } }
 exact tail_any (ops:=[.ref s3.heap.objs.size,v]) ht hT hg (by with_unfolding_all rfl)
noncomputable def XT (xs:List V)(lo hi:Option Int):List V:=(xs.drop (HT.sIx xs.length 0 lo)).take (HT.sIx xs.length xs.length hi - HT.sIx xs.length 0 lo)
theorem NB (xs:List V)(lo hi:Option Int):(XT xs lo hi).length<=xs.length:=by
 unfold XT
 rw [B2k,List.length_drop]
 omega
noncomputable def J5o (K:Fg):V->Option Int->Option Int->Hp->VK->Prop:=fun x lo hi H Q=>∃ a xs,x=.ref a/\SqT K H a xs /\
 ¬ (HT.sIx xs.length 0 lo=0/\HT.sIx xs.length xs.length hi=xs.length)/\∀ p,H p=none->Q (.ref p) (upd H p (.tup (XT xs lo hi)))
theorem Q4s:SlR X (J5o X.K):=by
 intro pins s σ H x v vl vu lo hi sl Q I rx hs pl pu h
 obtain ⟨a,xs,rfl,hx,hw,q⟩:=h
 cases rx
 obtain ⟨its,r,ht,hz⟩:=I.tuple hx
 have hlen:its.toArray.size=xs.length:=by rw [M8];exact r.length.symm
 refine ⟨"tuple",_,B2i.lookup,ht.typeIs,?_⟩
 refine HT.getItem_tuple_cut ht hs pl pu (by rw [hlen];exact hw) ?_ (by rw [hlen];exact hz)
 rw [hlen]
 refine ⟨.ref s.heap.objs.size,_,I.laid (t':=s.toks) (o:=.tup (XT xs lo hi)) (fun b ob q=>B2 _ q) (L8 _) ?_,rfl,q _ (I.hok.fresh (L8 _))⟩
 exact ⟨R5 (NB xs lo hi) hz,_,(r.drop (HT.sIx xs.length 0 lo)).take (HT.sIx xs.length xs.length hi - HT.sIx xs.length 0 lo),IsTup.new _ _⟩
end
def ixN (n:Nat)(i:Int):Option Nat:=if 0<=i then (if i<n then some i.toNat else none) else if -(n:Int)<=i then some (i+n).toNat else none
def atI {α:Type}(xs:List α)(i:Int):Option α:=(ixN xs.length i).bind fun j=>xs[j]?
theorem J1g {n:Nat}{i:Int}{j:Nat}(h:ixN n i=some j):seqIndex? i n=some j/\j<n/\-(n:Int)<=i/\i<n:=by
 unfold ixN at h
 by_cases h0:0<=i
 · rw [if_pos h0] at h
   by_cases h1:i<n
   · rw [if_pos h1] at h
     have e:i.toNat=j:=Option.some.inj h
     exact ⟨by rw [seqIndex_of h0 h1,e],by omega,by omega,h1⟩
   · rw [if_neg h1] at h;cases h
 · rw [if_neg h0] at h
   by_cases h1 : -(n:Int)<=i
   · rw [if_pos h1] at h
     have e:(i+n).toNat=j:=Option.some.inj h
     exact ⟨by rw [seqIndex_neg (by omega) h1,e],by omega,h1,by omega⟩
   · rw [if_neg h1] at h;cases h
theorem J1y {α:Type}{xs:List α}{i:Int}{v:α}(h:atI xs i=some v):∃ j,seqIndex? i xs.length=some j/\xs[j]?=some v/\j<xs.length/\-(xs.length:Int)<=i/\i<xs.length:=by
 unfold atI at h
 cases e:ixN xs.length i with
 | none=>rw [e] at h;cases h
 | some j =>
   rw [e] at h
   obtain ⟨h1,h2,h3,h4⟩:=J1g e
   exact ⟨j,h1,h,h2,h3,h4⟩
theorem IQ {α:Type}{xs:List α}{j:Nat}{v:α}(h:xs[j]?=some v):atI xs (j:Int)=some v:=by
 have hj:j<xs.length:=(B7.mp h).1
 have e:ixN xs.length (j:Int)=some j:=by
  unfold ixN
  rw [if_pos (by omega),if_pos (by omega)];simp
 unfold atI;rw [e];exact h
def VQ (b:Expr):Prop:=∀ o i,subscripted b false o i=operate [o,i] (getItem o i)
def IxR (X:Cx)(r:R2):Prop :=
 ∀ (value slice:Expr) (pins:List (Addr×Obj)) (s:Shared) (σ:St) (H:Hp) (x y:V) (v u:Value) (Q:VK),Inv X pins σ H s->RelV x v->RelV y u->r x y H Q ->
  subscripted slice false v u=operate [v,u] (getItem v u)->wpAny (model X.prog X.w) X.A (subscriptTail value slice v u) (EP X pins σ Q) X.xe s
def MtR (X:Cx)(id:String)(r:V->List V->Hp->VK->Prop):Prop :=
 ∀ (pins:List (Addr×Obj)) (s:Shared) (σ:St) (H:Hp) (x:V) (xs:List V) (v:Value) (us:List Value) (Q:VK),Inv X pins σ H s->RelV x v->Vals xs us->r x xs H Q ->
  wpAny (model X.prog X.w) X.A (call (.builtin id) (v::us)) (EP X pins σ Q) X.xe s
section
variable {X:Cx}{a b:Expr}{ta tb:TE}{pos:Pos}
theorem IxR.or {r r':R2}(h:IxR X r)(h':IxR X r'):IxR X (fun x y H Q=>r x y H Q\/r' x y H Q):=by
 intro value slice pins s σ H x y v u Q I rx ry q hs
 rcases q with q|q
 · exact h value slice pins s σ H x y v u Q I rx ry q hs
 · exact h' value slice pins s σ H x y v u Q I rx ry q hs
theorem FW {r:R2}(hr:IxR X r)(ha:PE X a ta)(hb:PE X b tb)(hs:VQ b):PE X (.Subscript a b pos) (tOp r ta tb):=by
 intro pins s σ H Q I h
 exact Subscript_ (Q7s ha hb I h fun v u s2 x y H2 I2 rx ry q=>hr a b pins s2 σ H2 x y v u Q I2 rx ry q (hs _ _))
noncomputable def J5q (K:Fg):R2:=fun x y H Q=>∃ p xs i v,x=.ref p/\y=.int i/\SqL K H p xs/\atI xs i=some v/\Q v H
noncomputable def J3a (K:Fg):R2:=fun x y H Q=>∃ p xs i v,x=.ref p/\y=.int i/\SqT K H p xs/\atI xs i=some v/\Q v H
theorem UR:IxR X (J5q X.K):=by
 intro value slice pins s σ H x y v u Q I rx ry h hs
 obtain ⟨p,xs,i,z,rfl,rfl,hq,he,q⟩:=h
 cases rx
 obtain ⟨t,rfl⟩:=ry
 obtain ⟨its,r,pl,hz⟩:=I.list hq
 obtain ⟨j,h1,h2,h3,h4,h5⟩:=J1y he
 obtain ⟨w,ew,rw'⟩:=r.get h2
 have hl:=r.length
 have hn:=MD
 have fin:EP X pins σ Q w s:=⟨z,H,I,rw',q⟩
 by_cases h0:0<=i
 · have hj:i.toNat=j:=by
    rw [seqIndex_of h0 h5] at h1
    exact Option.some.inj h1
   exact item_listR pl.isList h0 (by omega) (by rw [hj];simpa using ew) fin hs
 · have hj:(i+(its.toArray.size:Int)).toNat=j:=by
    rw [seqIndex_neg (by omega) h4] at h1
    rw [M8,<- hl]
    exact Option.some.inj h1
   exact subscriptTail_builtinR (x:=w) pl.isList.typeIs slot_list_getitem.lookup
    (wpAny_getItem_list_neg (Q:=fun r s'=>r=w/\EP X pins σ Q r s') pl.isList (by omega) (by rw [M8]<;>omega) (by omega) (by rw [hj];simpa using ew) ⟨rfl,fin⟩) hs
theorem Q5q:IxR X (J3a X.K):=by
 intro value slice pins s σ H x y v u Q I rx ry h hs
 obtain ⟨p,xs,i,z,rfl,rfl,hq,he,q⟩:=h
 cases rx
 obtain ⟨t,rfl⟩:=ry
 obtain ⟨its,r,pl,hz⟩:=I.tuple hq
 obtain ⟨j,h1,h2,h3,h4,h5⟩:=J1y he
 obtain ⟨w,ew,rw'⟩:=r.get h2
 have hl:=r.length
 have hn:=MD
 have fin:EP X pins σ Q w s:=⟨z,H,I,rw',q⟩
 exact subscriptTail_builtinR (x:=w) pl.typeIs slot_tuple_getitem.lookup
  (getItem_tuple (j:=j) (Q:=fun r s'=>r=w/\EP X pins σ Q r s') pl (by omega) (by omega) (by rw [M8,<- hl];exact h1) (by simpa using ew) ⟨rfl,fin⟩) hs
theorem ZP (its:List Value)(n j:Nat)(u:Value):Obj.mapSeq (·.setIfInBounds j u) { cls:=.type "list",data:=.seq its.toArray n }={ cls:=.type "list",data:=.seq (its.set j u).toArray n }:=by
 simp [Obj.mapSeq]
theorem Inv.lst {pins:List (Addr×Obj)}{σ:St}{H:Hp}{s:Shared}{p:Addr}{xs:List V}(I:Inv X pins σ H s)(h:H p=some (.lst xs)) :
 ∃ (its:List Value) (n:Nat),Vals xs its/\s.heap.get? p=some { cls:=.type "list",data:=.seq its.toArray n }/\xs.length<=sizeLine:=by
 obtain ⟨z,its,n,r,e⟩:=I.hok p _ h
 exact ⟨its,n,r,e,z⟩
theorem Inv.lstUpd {pins:List (Addr×Obj)}{σ:St}{H:Hp}{s:Shared}{p:Addr}{xs ys:List V}{its its':List Value}{n n':Nat}{f:Obj->Obj}(I:Inv X pins σ H s)(h:H p=some (.lst xs))
 (ho:s.heap.get? p=some { cls:=.type "list",data:=.seq its.toArray n }) (hf:f { cls:=.type "list",data:=.seq its.toArray n }={ cls:=.type "list",data:=.seq its'.toArray n' }) (r:Vals ys its') (hz:ys.length<=sizeLine) (t:Nat) :
 Inv X pins σ (upd H p (.lst ys)) { s with heap:=s.heap.update p f,toks:=t }:=by
 have e:(s.heap.update p f).get? p=some { cls:=.type "list",data:=.seq its'.toArray n' }:=by
  rw [B0e f ho (by rw [hf]<;>rfl),hf]
 refine I.write (x:=p) (e:=p) (by rw [h];trivial) (.inl rfl) (fun b u hb q=>(U0 _ _ (B0q hb)).trans q) ⟨_,e⟩ ?_
 exact ⟨hz,its',n',r,e⟩
noncomputable def Q2u:V->V->V->Hp->(Hp->Prop)->Prop:=fun o i v H Q=>∃ p xs k j,o=.ref p/\i=.int k/\H p=some (.lst xs)/\ixN xs.length k=some j/\Q (upd H p (.lst (xs.set j v)))
theorem KI:Q7y X Q2u:=by
 intro pins s σ H o i v ov iv u Q I ro ri rv h
 obtain ⟨p,xs,k,j,rfl,rfl,hp,hj,q⟩:=h
 cases ro
 obtain ⟨t,rfl⟩:=ri
 obtain ⟨its,n,r,ho,hz⟩:=I.lst hp
 obtain ⟨h1,h2,h3,h4⟩:=J1g hj
 have hl:=r.length
 have hn:=MD
 have I':Inv X pins σ (upd H p (.lst (xs.set j v))) { s with heap:=s.heap.update p (Obj.mapSeq (·.setIfInBounds j u)) } :=
  I.lstUpd hp ho (ZP its n j u) (r.set rv j) (by rw [List.length_set];exact hz) s.toks
 by_cases h0:0<=k
 · have hk:k.toNat=j:=by
    rw [seqIndex_of h0 h4] at h1
    exact Option.some.inj h1
   exact PySem.W.ki_setAt ho h0 (by omega) (by rw [M8,<- hl];exact h4) (by rw [hk];exact ⟨_,I',q⟩)
 · have hk:(k+(its.toArray.size:Int)).toNat=j:=by
    rw [seqIndex_neg (by omega) h3] at h1
    rw [M8,<- hl]
    exact Option.some.inj h1
   exact PySem.W.ki_setBack ho (by omega) (by rw [M8,<- hl];exact h3) (by omega) (by rw [hk];exact ⟨_,I',q⟩)
theorem TM (lo hi:Option Int)(n:Nat):(sliceBounds lo hi none n).1=((HT.sIx n 0 lo:Nat):Int)/\(sliceBounds lo hi none n).2.1=((HT.sIx n n hi:Nat):Int)/\(sliceBounds lo hi none n).2.2=1:=by
 refine ⟨?_,?_,rfl⟩
 · cases lo with
   | none=>simp [sliceBounds,HT.sIx]
   | some i =>
     simp only [sliceBounds,HT.sIx,Option.getD_none,show (1:Int)>0 by decide,if_true]
     by_cases h:i<0
     · simp only [h,if_true]<;>omega
     · simp only [h,B0g]<;>omega
 · cases hi with
   | none=>simp [sliceBounds,HT.sIx]
   | some i =>
     simp only [sliceBounds,HT.sIx,Option.getD_none,show (1:Int)>0 by decide,if_true]
     by_cases h:i<0
     · simp only [h,if_true]<;>omega
     · simp only [h,B0g]<;>omega
theorem QU (its:List Value)(lo hi:Option Int):slicePick its.toArray lo hi none=((its.drop (HT.sIx its.length 0 lo)).take (HT.sIx its.length its.length hi - HT.sIx its.length 0 lo)).toArray:=by
 obtain ⟨h1,h2,h3⟩:=TM lo hi its.toArray.size
 unfold slicePick
 rw [h1,h2,h3]
 simp only [sliceRange_one,pick_run,M8]<;>rfl
noncomputable def J5p (K:Fg):V->Option Int->Option Int->Hp->VK->Prop:=fun x lo hi H Q=>∃ a xs,x=.ref a/\SqL K H a xs/\∀ p,H p=none->Q (.ref p) (upd H p (.lst (XT xs lo hi)))
theorem J9z:SlR X (J5p X.K):=by
 intro pins s σ H x v vl vu lo hi sl Q I rx hs pl pu h
 obtain ⟨a,xs,rfl,hx,q⟩:=h
 cases rx
 obtain ⟨its,r,ht,hz⟩:=I.list hx
 have hlen:=r.length
 refine ⟨"list",_,slot_list_getitem.lookup,ht.isList.typeIs,?_⟩
 refine wpAny_getItem_list_slice ht.isList hs pl pu .none (by simp) ?_ (by rw [M8]<;>omega)
 rw [QU,<- hlen]
 refine ⟨.ref s.heap.objs.size,_,I.laid (t':=s.toks) (o:=.lst (XT xs lo hi)) (fun b ob q=>B2 _ q) (L8 _) ?_,rfl,q _ (I.hok.fresh (L8 _))⟩
 exact ⟨R5 (NB xs lo hi) hz,_,0,(r.drop (HT.sIx xs.length 0 lo)).take (HT.sIx xs.length xs.length hi - HT.sIx xs.length 0 lo),L7 _ rfl⟩
theorem VF:CB X (.builtin "len") (fun xs H Q=>∃ p ys,xs=[.ref p]/\(SqL X.K H p ys\/SqT X.K H p ys)/\Q (.int ys.length) H):=by
 intro pins s σ H xs us Q I r h
 obtain ⟨p,ys,rfl,hq,q⟩:=h
 obtain ⟨u,rfl,rx⟩:=KG r
 cases rx
 have hn:=MD
 rcases hq with hq|hq
 · obtain ⟨its,r',pl,hz⟩:=I.list hq
   have hlen:=r'.length
   exact Calls.call_len_list pl.isList (by simp only [M8]<;>omega) ⟨.int ys.length,H,I.tok _,⟨s.toks+1,by rw [M8,hlen]⟩,q⟩
 · obtain ⟨its,r',pl,hz⟩:=I.tuple hq
   have hlen:=r'.length
   exact len_tuple pl (by simp only [M8]<;>omega) ⟨.int ys.length,H,I.tok _,⟨s.toks+1,by rw [M8,hlen]⟩,q⟩
theorem VE:CB X (.type "list") (fun xs H Q=>∃ p ys,xs=[.ref p]/\(SqL X.K H p ys\/SqT X.K H p ys)/\∀ l,H l=none->Q (.ref l) (upd H l (.lst ys))):=by
 intro pins s σ H xs us Q I r h
 obtain ⟨p,ys,rfl,hq,q⟩:=h
 obtain ⟨u,rfl,rx⟩:=KG r
 cases rx
 have fin:∀ (its:List Value),Vals ys its->ys.length<=sizeLine->∀ (h':Heap) (c':Nat),(∀ b o',s.heap.get? b=some o'->h'.get? b=some o') ->
  h'.get? s.heap.objs.size=some { cls:=.type "list",dict:=none,data:=.seq its.toArray c',slots:=#[] }->EP X pins σ Q (.ref s.heap.objs.size) { s with heap:=h' }:=fun its r' hz h' c' kp e =>
  ⟨.ref s.heap.objs.size,_,I.laid (t':=s.toks) kp (L8 _) (show ObjOk X.prog X.w _ h' _ (.lst ys) from ⟨hz,its,c',r',e⟩),rfl,q _ (I.hok.fresh (L8 _))⟩
 rcases hq with hq|hq
 · obtain ⟨its,r',pl,hz⟩:=I.list hq
   have hlen:=r'.length
   obtain ⟨o,ho,hc,n,hd⟩:=pl.isList
   exact call_list_seq p (.inl rfl) ho hc hd (fun h' c' kp e=>fin its r' hz h' c' kp e) (by simp only [M8]<;>omega)
 · obtain ⟨its,r',pl,hz⟩:=I.tuple hq
   have hlen:=r'.length
   obtain ⟨o,ho,hc,n,hd⟩:=pl
   exact call_list_seq p (.inr rfl) ho hc hd (fun h' c' kp e=>fin its r' hz h' c' kp e) (by simp only [M8]<;>omega)
def tyV (K:Fg)(T:String)(x:V)(H:Hp):Prop:=match x with
 | .str _=>T = "str"
 | .int _=>T = "int"
 | .ref p=>(T = "list"/\∃ xs,SqL K H p xs)\/(T = "tuple"/\∃ o,K.lookup p=some o/\o.cls=.type "tuple"/\o.dict=none) \/
  (T = "dict"/\((∃ kvs,H p=some (.dK kvs))\/∃ kvs,H p=some (.dT kvs)))\/(T = "set"/\∃ S n,H p=some (.set S n))
 | _=>False
theorem Q4j {pins:List (Addr×Obj)}{σ:St}{H:Hp}{s:Shared}{T:String}{x:V}{v:Value}(I:Inv X pins σ H s)(r:RelV x v)(ty:tyV X.K T x H) :
 s.TypeIs v T/\∀ a,v=.ref a->∃ ob,s.heap.get? a=some ob/\ob.dict=none:=by
 cases x with
 | str z =>
   obtain ⟨t,rfl⟩:=r
   cases (show T = "str" from ty)
   exact ⟨typeIs_str s z t,fun _ e=>nomatch e⟩
 | int i =>
   obtain ⟨t,rfl⟩:=r
   cases (show T = "int" from ty)
   exact ⟨typeIs_int s i t,fun _ e=>nomatch e⟩
 | ref p =>
   cases r
   rcases ty with ⟨rfl,xs,hq⟩|⟨rfl,o,hk,hc,hd⟩|⟨rfl,hk⟩|⟨rfl,S,n,hk⟩
   · obtain ⟨its,_,pl,_⟩:=I.list hq
     refine ⟨pl.isList.typeIs,fun a e=>?_⟩
     cases e
     obtain ⟨o,n,e,c,hd,_⟩:=pl
     exact ⟨o,e,hd⟩
   · refine ⟨⟨o,I.kIn p o hk,hc⟩,fun a e=>?_⟩
     cases e
     exact ⟨o,I.kIn _ o hk,hd⟩
   · have z:∃ o,s.heap.get? p=some o/\o.ExactDict:=by
      rcases hk with ⟨kvs,hk⟩|⟨kvs,hk⟩
      · obtain ⟨_,_,_,_,o,_,_,e,ex,_⟩:=I.hok p _ hk
        exact ⟨o,e,ex⟩
      · obtain ⟨_,_,_,_,o,_,_,e,ex,_⟩:=I.hok p _ hk
        exact ⟨o,e,ex⟩
     obtain ⟨o,e,ex⟩:=z
     refine ⟨⟨o,e,ex.1⟩,fun a e2=>?_⟩
     cases e2
     exact ⟨o,e,ex.2.1⟩
   · obtain ⟨o,_,_,_,e,ex,_⟩:=I.hok p _ hk
     refine ⟨⟨o,e,ex.1⟩,fun a e2=>?_⟩
     cases e2
     exact ⟨o,e,ex.2.1⟩
 | _=>exact False.elim ty
noncomputable def tBM (K:Fg)(T:String)(r:V->List V->Hp->VK->Prop)(to:TE)(t:TA):TE:=fun σ H Q=>to σ H fun x H1=>tyV K T x H1/\t σ H1 fun xs H2=>r x xs H2 Q
variable {o e:Expr}{es:List Expr}{to:TE}{t:TA}{name:Str}{apos cpos:Pos}{T id:String}{r:V->List V->Hp->VK->Prop}
theorem WO (pa:PlainAttrs T)(slot:Slot T name id)(hty:typeOf (.builtin id)=pure (.type "method_descriptor")) (hm:MtR X id r) (ho:PE X o to) (ha:PA X (e::es) t)
 (hbase:attributeBase o name X.env (eval o X.env)=eval o X.env:=by rfl)
 (hfew:((backTo cpos (starEach (e::es) X.env)).all (fun x=>!x.1)&&(backToKw cpos (keywordEach [] X.env)).all (fun x=>x.1.isSome)
  && decide ((e::es).length+([]:List Keyword).length+(if ([]:List Keyword).isEmpty then 0 else 1)<30))=true:=by rfl)
 (hline:(apos.endLine==cpos.line)=true:=by rfl) (hs:starEach (e::es) X.env=(false,eval e X.env)::starEach es X.env:=by rfl) (hplain:(backTo cpos (starEach es X.env)).any (·.1)=false:=by rfl) :
 PE X (.Call (.Attribute o name apos) (e::es) [] cpos) (tBM X.K T r to t):=by
 intro pins s σ H Q I h
 refine wpAny_Call_method_late hbase hfew hline rfl (thn (ho pins s σ H _ I h) fun v s1 ⟨x,H1,I1,r1,ty,q1⟩=>?_)
 obtain ⟨h1,h2⟩:=Q4j I1 r1 ty
 refine ⟨T,id,pa,slot,hty,h1,h2,?_⟩
 have hA:=ha cpos pins s1 σ H1 _ I1 q1
 rw [hs] at hA ⊢
 refine Calls.callWith_builtin (by show (false||(backTo cpos (starEach es X.env)).any (·.1))=false;rw [hplain]<;>rfl) (Calls.evalArgs_plain ?_)
 exact thn hA fun us s2 ⟨vs,H2,I2,r2,q2⟩=>hm pins s2 σ H2 x vs v us Q I2 r1 r2 q2
end
def MtM (X:Cx)(id:String)(r:V->List V->Hp->VK->Prop):Prop :=
 ∀ (pins:List (Addr×Obj)) (s:Shared) (σ:St) (H:Hp) (x:V) (xs:List V) (v:Value) (us:List Value) (Q:VK),Inv X pins σ H s->RelV x v->Vals xs us->r x xs H Q ->
  wpAny (model X.prog X.w) X.A (call (.builtin id) (v::us)) (EP X pins σ Q) X.xe s
theorem Vals.one:∀ {x:V} {us:List Value},Vals [x] us->∃ u,us=[u]/\RelV x u
 | _,_,.cons r .nil=>⟨_,rfl,r⟩
theorem Vals.two:∀ {x y:V} {us:List Value},Vals [x,y] us->∃ u v,us=[u,v]/\RelV x u/\RelV y v
 | _,_,_,.cons r (.cons q .nil)=>⟨_,_,rfl,r,q⟩
theorem Vals.rep {xs:List V}{us:List Value}(h:Vals xs us):∀ k:Nat,Vals (List.replicate k xs).flatten (List.replicate k us).flatten
 | 0=>.nil
 | k+1=>by
   rw [B0i,B0i,B0x,B0x]
   exact Vals.append h (Vals.rep h k)
theorem SM (its:List Value):∀ (k:Nat) (acc:List Value),
 List.foldl (fun x1 x2=>x1++x2) acc.toArray (List.replicate k its.toArray)=(acc++(List.replicate k its).flatten).toArray
 | 0,acc=>by simp
 | k+1,acc=>by
   have e:acc.toArray++its.toArray=(acc++its).toArray:=by simp
   have e2:(acc++its)++(List.replicate k its).flatten=acc++(List.replicate (k+1) its).flatten:=by
    rw [B0i,B0x,B3a]
   rw [<- e2,<- SM its k (acc++its),<- e,B0i,List.foldl_cons]
section
variable {X:Cx}{pins:List (Addr×Obj)}{σ:St}{H:Hp}{s:Shared}{l:Addr}{xs ys:List V}
theorem Inv.lset {its its':List Value}{n:Nat}{f:Array Value->Array Value}{t':Nat}(I:Inv X pins σ H s)(hH:H l=some (.lst xs))
 (e:s.heap.get? l=some { cls:=.type "list",data:=.seq its.toArray n }) (hf:f its.toArray=its'.toArray) (hv:Vals ys its') (hz:ys.length<=sizeLine) :
 Inv X pins σ (upd H l (.lst ys)) { s with heap:=s.heap.update l (Obj.mapSeq f),toks:=t' }:=by
 have q:=PySem.IsL.update e f
 rw [hf] at q
 refine I.write (x:=l) (e:=l) (by rw [hH];exact trivial) (.inl rfl) (fun b' u hb hu=>(U0 s.heap (Obj.mapSeq f) (B0q hb)).trans hu) ⟨_,q⟩ ?_
 exact ⟨hz,its',_,hv,q⟩
theorem Inv.lnew {its:List Value}{t':Nat}(I:Inv X pins σ H s)(hv:Vals ys its)(hz:ys.length<=sizeLine) :
 Inv X pins σ (upd H s.heap.objs.size (.lst ys)) { s with heap:=s.heap.push { cls:=.type "list",data:=.seq its.toArray },toks:=t' } :=
 I.laid (fun _ _ q=>B2 _ q) (L8 _) ⟨hz,its,0,hv,L7 _ rfl⟩
theorem Inv.fresh (I:Inv X pins σ H s):H s.heap.objs.size=none:=I.hok.fresh (L8 _)
theorem Inv.lstM (I:Inv X pins σ H s)(hH:H l=some (.lst xs)):xs.length<=sizeLine/\∃ (its:List Value) (n:Nat),Vals xs its/\xs.length=its.length/\s.heap.get? l=some { cls:=.type "list",data:=.seq its.toArray n }:=by
 obtain ⟨z,its,n,r,e⟩:=I.hok l _ hH
 exact ⟨z,its,n,r,r.length,e⟩
theorem WX {n:Nat}(h:n<=sizeLine):Builtin.List.listTooLong n=false:=by
 unfold Builtin.List.listTooLong
 exact B0b (by omega)
end
section
variable {X:Cx}
noncomputable def KP:V->List V->Hp->VK->Prop:=fun x vs H Q=>∃ l xs y,x=.ref l/\vs=[y]/\H l=some (.lst xs)/\xs.length<sizeLine/\Q .non (upd H l (.lst (xs++[y])))
theorem IJ:MtM X "list.append" KP:=by
 intro pins s σ H x vs v us Q I rx rv h
 obtain ⟨l,xs,y,rfl,rfl,hH,hz,q⟩:=h
 cases rx
 obtain ⟨u,rfl,ru⟩:=rv.one
 obtain ⟨z,its,n,r,hl,e⟩:=I.lstM hH
 refine call_meets F.slot_list_append ⟨_,e,rfl⟩ F.entry_list_append (F.args_list_append_2 _ _) (PySem.list_append l its.toArray n u (by rw [M8];omega)) ⟨e,?_⟩
 refine ⟨.non,_,I.lset (its':=its++[u]) hH e (by simp) (r.append (.cons ru .nil)) ?_,rfl,q⟩
 rw [B0d,List.length_singleton]
 omega
noncomputable def TW:V->List V->Hp->VK->Prop:=fun x vs H Q=>∃ l b xs zs,x=.ref l/\vs=[.ref b]/\H l=some (.lst xs)/\H b=some (.lst zs)/\xs.length+zs.length<=sizeLine/\Q .non (upd H l (.lst (xs++zs)))
theorem J3m:MtM X "list.extend" TW:=by
 intro pins s σ H x vs v us Q I rx rv h
 obtain ⟨l,b,xs,zs,rfl,rfl,hH,hB,hz,q⟩:=h
 cases rx
 obtain ⟨u,rfl,ru⟩:=rv.one
 cases ru
 obtain ⟨z,its,n,r,hl,e⟩:=I.lstM hH
 obtain ⟨z2,its2,n2,r2,hl2,e2⟩:=I.lstM hB
 have hsz:its.toArray.size+its2.toArray.size<=sizeLine:=by rw [M8,M8];omega
 have hlong:¬ (!its.toArray.isEmpty&&Builtin.List.listTooLong (its.toArray.size+its2.toArray.size))=true:=by
  rw [WX hsz,Bool.and_false]
  exact L9
 refine call_meets F.slot_list_extend ⟨_,e,rfl⟩ F.entry_list_extend (F.args_list_extend_2 _ _)
  (AutoSeq1.list_extend_list_list_0 l its.toArray n b its2.toArray n2 hlong (by rw [M8];omega) (by omega)) ⟨e,e2,?_⟩
 refine ⟨.non,_,I.lset (its':=its++its2) hH e (by simp) (r.append r2) ?_,rfl,q⟩
 rw [B0d]
 omega
noncomputable def Q9b:R2:=fun x y H Q=>∃ l b xs zs,x=.ref l/\y=.ref b/\H l=some (.lst xs)/\H b=some (.lst zs)/\xs.length+zs.length<=sizeLine/\∀ p,H p=none->Q (.ref p) (upd H p (.lst (xs++zs)))
theorem JP:OpR X (binaryOp .Add) Q9b:=by
 intro pins s σ H x y v u Q I rx ry h
 obtain ⟨l,b,xs,zs,rfl,rfl,hH,hB,hz,q⟩:=h
 cases rx
 cases ry
 obtain ⟨z,its,n,r,hl,e⟩:=I.lstM hH
 obtain ⟨z2,its2,n2,r2,hl2,e2⟩:=I.lstM hB
 refine PySem.P.add_list e e2 ?_ (by rw [M8,M8];omega)
 have ea:its.toArray++its2.toArray=(its++its2).toArray:=by simp
 rw [ea]
 exact ⟨.ref _,_,I.lnew (t':=s.toks) (r.append r2) (by rw [B0d];omega),rfl,q _ I.fresh⟩
noncomputable def V1q:R2:=fun x y H Q=>∃ l k xs,x=.ref l/\y=.int k/\H l=some (.lst xs)/\-(2 ^ 63)<=k/\k<2 ^ 63/\xs.length*k.toNat<=sizeLine /\
 ∀ p,H p=none->Q (.ref p) (upd H p (.lst (List.replicate k.toNat xs).flatten))
theorem Q0v {α:Type}(xs:List α)(k:Nat):(List.replicate k xs).flatten.length=k*xs.length:=by
 induction k with
 | zero=>simp
 | succ k ih=>rw [B0i,B0x,B0d,ih,Nat.succ_mul,Nat.add_comm]
theorem Q5g:OpR X (binaryOp .Mult) V1q:=by
 intro pins s σ H x y v u Q I rx ry h
 obtain ⟨l,k,xs,rfl,rfl,hH,h1,h2,hz,q⟩:=h
 cases rx
 obtain ⟨t,rfl⟩:=ry
 obtain ⟨z,its,n,r,hl,e⟩:=I.lstM hH
 have hlen:its.toArray.size*k.toNat<=sizeLine:=by rw [M8,<- hl];exact hz
 have hcap:¬ its.toArray.size*k.toNat>(2 ^ 63 - 1) / 8:=by
  have:(sizeLine:Nat)<=(2 ^ 63 - 1) / 8:=by decide
  omega
 have hfit:¬ (!Builtin.List.listFitsIndex k)=true:=by
  rw [fitsIndex_both h1 h2]
  exact L9
 have hlong:¬ Builtin.List.listTooLong (its.toArray.size*k.toNat)=true:=by
  rw [WX hlen]
  exact L9
 have hnew:List.foldl (fun x1 x2=>x1++x2) #[] (List.replicate (if its.toArray.isEmpty=true then 0 else k.toNat) its.toArray)=(List.replicate k.toNat its).flatten.toArray:=by
  have f0:∀ m:Nat,List.foldl (fun x1 x2=>x1++x2) #[] (List.replicate m its.toArray)=(List.replicate m its).flatten.toArray:=fun m=>by
   have:=SM its m []
   rw [B2o] at this
   exact this
  rw [f0]
  cases its with
  | nil=>simp
  | cons a r'=>rw [if_neg (by simp)]
 refine wpAny_binaryOp_repeat_ref (T:="list") (U:="int") (by decide) ⟨_,e,rfl⟩ (fun s'=>typeIs_int s' k t) noFill_list_mul F.fills_int_mul F.slot_int_rmul repeat_list F.slot_int_index.lookup
  (call_meets F.slot_int_rmul (typeIs_int s k t) F.entry_int_rmul (F.args_int_rmul_2 _ _) (int___rmul___int_list k t l its.toArray n)
   ⟨e,rfl,⟨_,e,rfl⟩,call_meets F.slot_list_mul ⟨_,e,rfl⟩ F.entry_list_mul (F.args_list_mul_2 _ _) (AutoListH.list___mul___list_int_3 l its.toArray n k t hfit hcap hlong) ⟨e,?_⟩⟩)
 rw [hnew]
 exact ⟨.ref _,_,I.lnew (t':=s.toks) (r.rep k.toNat) (by rw [Q0v,Nat.mul_comm];exact hz),rfl,q _ I.fresh⟩
end
end L2
namespace Att
open PySem PySem.W PySem.Calls PyProof.Rows
theorem NQ {P:Params}{h:Heap}:∀ (ns:List Int) (vs:List Value),WellAll P h vs (ns.map WData.int)->IntsAre vs ns:=by
 intro ns
 induction ns with
 | nil =>
   intro vs w
   rw [B2c] at w
   cases w
   exact .nil
 | cons n ns ih =>
   intro vs w
   rw [T4] at w
   cases w with
   | cons a b =>
     cases a
     exact .cons _ _ (ih _ b)
theorem J2u {l:OpenLaw}{n:Nat}(hn:l.most=some n){P:Params}{h:Heap}{args:List WData}{vals:List Value}
 (hpre:l.row.toRowW.claim.pre args=true) (hwl:WellAll P h vals args) :
 ∃ a vs ns,vals=[Value.ref a]/\args=[WData.list (ns.map WData.int)]/\h.get? a=some { cls:=.type "list",data:=.seq vs.toArray }/\IntsAre vs ns/\ns.length<=n:=by
 have hsh:WShape.hasAll [] args [.list .int]=true:=(pre_splitW hpre).1
 have hc:l.pre.holds [] { args:=args }=true:=(pre_splitW hpre).2
 obtain ⟨d,r,rfl,h1,h2⟩:=hasAllW_cons hsh
 obtain rfl:=hasAllW_nil h2
 obtain ⟨xs,rfl,h3⟩:=hasW_list h1
 obtain ⟨ns,rfl⟩:=items_int h3
 have hlen:ns.length<=n:=by
  unfold OpenLaw.pre at hc
  have h4:(WTm.not (.lt (.lit (.int (n:Int))) (.len (.arg 0)))).holds [] { args:=[.list (ns.map .int)] }=true:=by
   have h4:=(holds_andW hc).1
   rw [hn] at h4
   exact h4
  have h5:=condW_of h4 (w_not (w_lt w_lit (w_len_list (w_arg rfl))))
  rw [B9] at h5
  refine Nat.le_of_not_lt fun q=>?_
  have q':(n:Int)<((ns.length:Nat):Int):=by omega
  first
   | (rw [B1a q'] at h5;exact absurd h5 (by decide))
   | (simp at h5;omega)
 cases hwl with
 | cons w1 w2 =>
   cases w2
   cases w1 with
   | list ho hall=>exact ⟨_,_,ns,rfl,rfl,ho,NQ ns _ hall,hlen⟩
theorem J3b (l:OpenLaw)(args:List WData):l.row.toRowW.claim.post args (.bool true) args=true :=
 postW_of (r:=l.row.toRowW) (X:=(true==true))
  (show WShape.has [] (.bool true) .bool=true by first|rfl|decide|simp [WShape.has,WShape.arms,WShape.armsAll])
  (show (WTm.eq .res (.lit (.bool true))).value [] { args:=args,res:=some (.bool true),after:=args }=some (.bool (true==true)) from w_eq_bool (w_res rfl) w_lit) rfl
theorem attach_call {l:OpenLaw}{n:Nat}{q:Program}{loose:List Str}{XP:(Str->Option Value)->Heap->Prop}{YP:World->Heap->Prop}{d:DefRec}
 (hn:l.most=some n) (hdf:d.params.defaults=[])
 (call:∀ (w:World) (s₀ s₁:Shared) (mg mb:Str->Option Value) (fa:Addr) (o:Obj) (pm cd doc:Value) (a:Addr) (vs:List Value) (ns:List Int),
  Ground q loose [] XP w s₀ mg mb s₁.heap->YP w s₁.heap ->
  s₁.heap.get? fa=some o->o.data=.func (docDef d.name d.params d.body d.scope pm cd doc)->s₁.heap.CodeRec cd d.name->mg d.name=some (.ref fa) ->
  s₁.heap.get? a=some { cls:=.type "list",data:=.seq vs.toArray }->IntsAre vs ns->ns.length<=n->s₁.gens=#[] ->
  codeAny (model l.prog w) callerA (.call (.ref fa) ⟨[.ref a],[]⟩) (fun r s'=>r=.ok (.ret (.bool true))/\OldK s₁.heap s'.heap/\s'.os=s₁.os/\AllBare s'.gens) s₁) :
 WalkO q loose XP YP l.row.toRowW d [] (fun f vs=>PySem.call f vs):=by
 intro w s₀ s₁ mg mb G Y fa o pm cd doc dV kV ho hd hcd hD hmg hg args vals as hpre hlay hrd hwl hlo
 obtain rfl:dV=.none:=Dflts.none hD hdf
 obtain rfl:kV=.none:=Dflts.noKw hD
 obtain ⟨a,vs,ns,rfl,rfl,hobj,hints,hlen⟩:=J2u hn hpre hwl
 refine enter_call (B3b (call w s₀ s₁ mg mb fa o pm cd doc a vs ns G Y ho (fd_plain hd) hcd hmg hobj hints hlen hg) fun r s' hq=>?_)
 obtain ⟨rfl,h2,h3,h4⟩:=hq
 exact ⟨.inl ⟨.bool true,.bool true,[],rfl,fun _=>rfl,.bool true,J3b l _,fun _=>⟨List.Pairwise.nil,fun _ hm=>(nomatch hm)⟩⟩,h2,h3,h4⟩
section
def V1x (h:Heap)(L d:Addr):List (Addr×Obj):=(List.range h.objs.size).filterMap fun a=>if a=L\/a=d then none else (h.get? a).map fun o=>(a,o)
end
end Att
namespace L2
open PySem PySem.Spec PyProof.Rows
theorem RP:∀ {vs:List Value} {ns:List Int},IntsAre vs ns->Vals (ns.map V.int) vs
 | _,_,.nil=>.nil
 | _,_,.cons n t h=>.cons ⟨t,rfl⟩ (RP h)
def Q7z (H:Hp):Prop:=∀ b,H b=none\/∃ o xs,H b=some (.frz o (.lst xs))
theorem J6m {P:Program}{w:World}{K:Fg}{mg mb:Str->Option Value}{CX:CXT}{k:Nat}{fa a:Addr}{fd:FuncData}{x:Str}{sp:Sp}{s₁:Shared}{vs:List Value}{ns:List Int}
 (KX:K.In s₁.heap) (hns:s₁.heap.Ns mainGlobals mg) (hb:s₁.heap.Ns builtinsNs mb) (hbb:∀ x:Str,x≠"__name__"->mb x=bootBuiltins x) (hlim:s₁.heap.NoLimit) (hg:s₁.gens=#[])
 (ha:s₁.heap.get? a=some { cls:=.type "list",data:=.seq vs.toArray }) (hi:IntsAre vs ns) (hl:ns.length<=sizeLine) (hr:Room k callerA)
 (F:∀ base:Heap,K.In base->base.Ns mainGlobals mg->FnOk P w K mg base CX k fa fd [x] sp) (hbind:∀ (s:Shared) (u:Value),BindsTo s fd ⟨[u],[]⟩ [(x,u)])
 (hsp:∀ H:Hp,Q7z H->SqL K H a (ns.map V.int)->sp [.ref a] H (fun v _=>v=.bl true) fun _ _ _=>False)
 (hCX:∀ H e s',CX [] H s₁ (fun _ _ _=>False) e s'->False) :
 codeAny (model P w) callerA (.call (.ref fa) ⟨[.ref a],[]⟩) (fun r s'=>r=.ok (.ret (.bool true))/\OldK s₁.heap s'.heap/\s'.os=s₁.os/\AllBare s'.gens) s₁:=by
 have rv:=RP hi
 have lenV:=hi.length
 have core:∀ H:Hp,Q7z H->SqL K H a (ns.map V.int)->HOk P w H s₁.heap->(∀ b,H b≠none->b=a)->(H a≠none->K.lookup a=none) ->
  codeAny (model P w) callerA (.call (.ref fa) ⟨[.ref a],[]⟩) (fun r s'=>r=.ok (.ret (.bool true))/\OldK s₁.heap s'.heap/\s'.os=s₁.os/\AllBare s'.gens) s₁:=by
  intro H hO hS hok hA hK
  have base_of:∀ {b:Addr} {o:Obj},s₁.heap.get? b=some o->H b=none->(US s₁.heap H).get? b=some o:=fun e n=>J7b e n
  have noA:∀ {b:Addr} {o:Obj} {es:Array DictEntry} {ep:Nat},s₁.heap.get? b=some o->o.data=.dict es ep->H b=none:=fun {b o es ep} e d=>by
   cases q:H b with
   | none=>rfl
   | some u =>
     have e':b=a:=hA b (by rw [q];simp)
     subst e'
     rw [ha] at e;cases e
     have d':Data.seq vs.toArray _=Data.dict es ep:=d
     cases d'
  have nsK:∀ {b:Addr} {m:Str->Option Value},s₁.heap.Ns b m->(US s₁.heap H).Ns b m:=fun {b m} ⟨o,es,ep,e,d,r⟩=>⟨o,es,ep,base_of e (noA e d),d,r⟩
  have hKb:K.In (US s₁.heap H):=fun b o e=>base_of (KX b o e) (by
   cases q:H b with
   | none=>rfl
   | some u =>
     have e':b=a:=hA b (by rw [q];simp)
     subst e'
     rw [hK (by rw [q];simp)] at e;cases e)
  have hM:Mod K mg (US s₁.heap H):=⟨hKb,nsK hns,⟨mb,nsK hb,hbb⟩,let ⟨mc,h1,h2⟩:=hlim;⟨mc,nsK h1,h2⟩⟩
  have e0:Env0 P w K mg (US s₁.heap H) callerA [] s₁ H:=⟨rfl,hM,fun b o e=>Q0s e,Nat.le_of_eq (J4f _ _),trivial,fun b hb=>absurd (show b∈([]:List Addr) from hb) (by simp),hok,.of_eq hg⟩
  refine B3b ((F _ hKb (nsK hns)).run callerA [] s₁ H ⟨[.ref a],[]⟩ [.ref a] [.ref a] _ _ hr e0 (hbind s₁ (.ref a)) (.cons rfl .nil) (hsp H hO hS)) fun r s' h=>?_
  cases r with
  | error e=>exact (hCX H e s' h).elim
  | ok fl =>
    cases fl with
    | next=>exact False.elim h
    | brk=>exact False.elim h
    | cont=>exact False.elim h
    | ret u =>
      obtain ⟨v,H',os,bare,un,hok',r',q⟩:=h
      have q':v=.bl true:=q
      subst q'
      obtain rfl:u=Value.bool true:=r'
      refine ⟨rfl,OldK.of_keep fun b o e=>?_,os,bare⟩
      cases q:H b with
      | none=>exact un.keep b o e q (by intro z;exact absurd (show b∈([]:List Addr) from z) (by simp)) (by simp)
      | some u =>
        rcases hO b with z|⟨ob,xs,z⟩
        · rw [q] at z;cases z
        · have z2:=un.frzs b ob _ z
          obtain ⟨e1,_⟩:=hok b _ z
          obtain ⟨e2,_⟩:=hok' b _ z2
          rw [e] at e1;cases e1
          exact e2
 cases hk:K.lookup a with
 | some o =>
   have e:=KX a o hk
   rw [ha] at e
   cases e
   refine core (fun _=>none) (fun _=>.inl rfl) (.inr ⟨_,vs.toArray,_,hk,rfl,rfl,rfl,by rw [M8,lenV];exact hl,by simpa using rv⟩) (fun b u z=>by have z':(none:Option HO)=some u:=z;cases z') (fun b z=>absurd rfl z) fun z=>absurd rfl z
 | none =>
   refine core (fun b=>if b=a then some (.frz { cls:=.type "list",data:=.seq vs.toArray } (.lst (ns.map V.int))) else none) (fun b=>?_) (.inl (.inr ⟨{ cls:=.type "list",data:=.seq vs.toArray },if_pos rfl⟩)) (fun b u z=>?_) (fun b z=>?_) fun _=>hk
   · by_cases hb:b=a
     · exact .inr ⟨_,_,if_pos hb⟩
     · exact .inl (if_neg hb)
   · by_cases hb:b=a
     · have z':=(if_pos hb).symm.trans z
       cases z'
       subst hb
       exact ⟨ha,by rw [B9];exact hl,vs,_,rv,ha⟩
     · have z':=(if_neg hb).symm.trans z
       cases z'
   · by_cases hb:b=a
     · exact hb
     · exact absurd (if_neg hb) z
theorem J9p {l:PySem.W.OpenLaw}{n k:Nat}{q:Program}{loose:List Str}{XP:(Str->Option Value)->Heap->Prop}{YP:World->Heap->Prop}{d:DefRec}{K:Params->Fg}{CX:World->CXT}{sp:World->Sp}{x:Str}
 (hn:l.most=some n) (hn2:n<=sizeLine) (hdf:d.params.defaults=[]) (hr:Room k callerA)
 (hY:∀ (w:World) (h:Heap),YP w h->(K w.params).In h)
 (F:∀ (w:World) (mg:Str->Option Value) (fa:Addr) (h:Heap),(K w.params).In h->h.Ns mainGlobals mg->mg d.name=some (.ref fa) ->
  ∃ fd:FuncData,(∀ (s:Shared) (u:Value),BindsTo s fd ⟨[u],[]⟩ [(x,u)]) /\
   ∀ base:Heap,(K w.params).In base->base.Ns mainGlobals mg->FnOk l.prog w (K w.params) mg base (CX w) k fa fd [x] (sp w))
 (hsp:∀ (w:World) (H:Hp) (a:Addr) (ns:List Int),ns.length<=n->Q7z H->SqL (K w.params) H a (ns.map V.int)->sp w [.ref a] H (fun v _=>v=.bl true) fun _ _ _=>False)
 (hCX:∀ (w:World) (H:Hp) (s:Shared) (e:Value) (s':Shared),CX w [] H s (fun _ _ _=>False) e s'->False) :
 PySem.W.WalkO q loose XP YP l.row.toRowW d [] (fun f vs=>PySem.call f vs):=by
 refine Att.attach_call hn hdf fun w s₀ s₁ mg mb fa o pm cd doc a vs ns G Y ho hd hcd hmg hobj hints hlen hg=>?_
 have KX:=hY w _ Y
 obtain ⟨fd,hb,hF⟩:=F w mg fa _ KX G.T.g hmg
 exact J6m KX G.T.g G.T.b G.T.builtins G.T.nolimit hg hobj hints (R5 hlen hn2) hr hF hb (fun H hO hS=>hsp w H a ns hlen hO hS) fun H e s'=>hCX w H s₁ e s'
def LG (s:Stmt):Arguments:=match s with
 | .FunctionDef _ a _ _ _ _ _ _ _ _=>a
 | _=>{ posonlyargs:=[],args:=[],vararg:=none,kwonlyargs:=[],kw_defaults:=[],kwarg:=none,defaults:=[] }
def BN (s:Stmt):List Stmt:=match s with
 | .FunctionDef _ _ b _ _ _ _ _ _ _=>b
 | _=>[]
def J7 (s:Stmt):Scope:=match s with
 | .FunctionDef _ _ _ _ _ _ sc _ _ _=>sc
 | _=>{ kind:=.function,names:=[],isGenerator:=false,isCoroutine:=false }
abbrev CX0:CXT:=fun _ _ _ _ _ _=>False
abbrev E0:XK:=fun _ _ _=>False
theorem Q9f {X:Cx}:DQ CX0 X E0:=fun _ _ _ _ _ _ _ h=>h.elim
structure Fun (K:Fg)(x qual:Str)(st:Stmt)(f:Addr)(fd:FuncData):Prop where
 ex:∃ (oc:Value) (od:Option Addr) (kV doc pm:Value) (an:Option Addr) (cdv ct:Value) (osl:Array (Option Value)),
  fd=PySem.W.fnOf x qual (LG st) (BN st) (J7 st) .none kV doc pm an cdv ct/\K.lookup f=some ⟨oc,od,.func fd,osl⟩/\PySem.W.codeIn K cdv qual=true
 kp:PySem.W.keepIn K (.ref f)=true
section
variable {P:Program}{w:World}{K:Fg}{mg:Str->Option Value}{base:Heap}
theorem Fun.ok {x qual:Str}{st:Stmt}{f:Addr} {N ps:List Str}{k:Nat}{sp:Sp}(F:Fun K x qual st f fd)(S:FnScope N ps (J7 st))(len:∀ vs H Q E,sp vs H Q E->vs.length=ps.length)
 (hbody:∀ (cdv:Value) (A:Around) (outer:List Env) (s:Shared) (H:Hp) (vs:List V) (Q:VK) (E:XK),Room k (A.deeper (envOfC qual (J7 st) s.heap.objs.size f cdv))->sp vs H Q E ->
  ∃ t,PSs (BW CX0 P w K mg base N qual (J7 st) f cdv A outer s H E).nox (BN st) t/\t { nx:=fun _ H'=>Q .non H',rt:=Q } (BF N vs) H):FnOk P w K mg base CX0 (k+1) f fd ps sp:=by
 obtain ⟨oc,od,kV,doc,pm,an,cdv,ct,osl,rfl,lk,hcd⟩:=F.ex
 refine Q3f lk hcd S len fun A outer s H vs Q E hr hsp=>?_
 obtain ⟨t,h,q⟩:=hbody cdv A outer s H vs Q E hr hsp
 exact ⟨t,h.nox,q⟩
theorem Fun.binds {x qual:Str}{st:Stmt}{f:Addr} {ps:List Str}(F:Fun K x qual st f fd)
 (h:∀ (kV doc pm:Value) (an:Option Addr) (cdv ct:Value) (us:List Value),us.length=ps.length->bindArgs (PySem.W.fnOf x qual (LG st) (BN st) (J7 st) .none kV doc pm an cdv ct) ⟨us,[]⟩=pure (ps.zip us)):Binds K fd ps []:=by
 obtain ⟨oc,od,kV,doc,pm,an,cdv,ct,osl,rfl,lk,hcd⟩:=F.ex
 exact .all (h kV doc pm an cdv ct)
theorem Q5y {x qual:Str}{st:Stmt}{f:Addr}{oc:Value}{od an:Option Addr}{osl:Array (Option Value)}{kV doc pm cdv ct:Value}(l:K.lookup f=some ⟨oc,od,.func (PySem.W.fnOf x qual (LG st) (BN st) (J7 st) .none kV doc pm an cdv ct),osl⟩)
 (c:PySem.W.codeIn K cdv qual=true) (k:PySem.W.keepIn K (.ref f)=true):Fun K x qual st f (PySem.W.fnOf x qual (LG st) (BN st) (J7 st) .none kV doc pm an cdv ct):=⟨⟨oc,od,kV,doc,pm,an,cdv,ct,osl,rfl,l,c⟩,k⟩
end
section
variable {X:Cx}
theorem pv (i:Nat) {x:Str} {pos:Pos} (hN:X.N[i]?=some x:=by rfl) (hv:Vis X.env.scope x:=by first|exact Or.inl rfl|exact Or.inr (Or.inl rfl)|exact Or.inr (Or.inr rfl)) (hd:(x==("__debug__" : Str))=false:=by decide)
 (hcd:(x==("__classdict__" : Str))=false:=by decide):PE X (.Name x pos) (IZ i):=J5z hN hv hd hcd
end
theorem V1z {A B:Prop}(h:B):if false=true then A else B:=by
 rw [if_neg L9]
 exact h
theorem Q9r {A B:Prop}(h:A):if true=true then A else B:=by
 rw [if_pos rfl]
 exact h
def Same (H H':Hp):Prop:=∀ b o,H b=some o->H' b=some o
theorem Same.refl (H:Hp):Same H H:=fun _ _ h=>h
theorem Same.trans {H H1 H2:Hp}(a:Same H H1)(b:Same H1 H2):Same H H2:=fun c o h=>b c o (a c o h)
end L2
set_option maxHeartbeats 4000000
namespace L2
open PySem PySem.Spec PyProof.Rows
theorem VC {x:Str}{lo:Nat}:∀ (names:List (Str×NameKind)) (n:Nat) (acc:List (Str×Addr)),lo<=n->(∀ c,acc.lookup x=some c->lo<=c)->∀ c,(cellsFrom n names acc).lookup x=some c->lo<=c
 | [],_,_,_,h,c,e=>h c e
 | (y,k)::r,n,acc,hn,h,c,e=>by
   unfold cellsFrom at e
   split at e
   · refine VC r (n+1) ((y,n)::acc) (by omega) (fun c' e'=>?_) c e
     rw [T7] at e'
     cases hb:x==y with
     | true=>rw [hb] at e';cases e';exact hn
     | false=>rw [hb] at e';exact h c' e'
   · exact VC r n acc hn h c e
theorem ZZ {x:Str}{lo:Nat}:∀ (names:List (Str×NameKind)) (n:Nat) (acc:List (Str×Addr)),lo<=n->(x,NameKind.cell)∈names->∀ c,(cellsFrom n names acc).lookup x=some c->lo<=c
 | [],_,_,_,hm,_,_=>by cases hm
 | (y,k)::r,n,acc,hn,hm,c,e=>by
   unfold cellsFrom at e
   split at e
   · rcases B6.mp hm with z|z
     · cases z
       refine VC r (n+1) ((x,n)::acc) (by omega) (fun c' e'=>?_) c e
       rw [T7,beq_self_eq_true] at e'
       cases e'
       exact hn
     · exact ZZ r (n+1) ((y,n)::acc) (by omega) z c e
   · rename_i hk
     rcases B6.mp hm with z|z
     · cases z
       exact absurd rfl hk
     · exact ZZ r n acc hn z c e
theorem J0a {x:Str}:∀ (names:List (Str×NameKind)) (n:Nat) (acc:List (Str×Addr)),¬ (x,NameKind.cell)∈names->(cellsFrom n names acc).lookup x=acc.lookup x
 | [],_,_,_=>rfl
 | (y,k)::r,n,acc,hm=>by
   unfold cellsFrom
   have hr:¬ (x,NameKind.cell)∈r:=fun z=>hm (B5 _ z)
   split
   · rename_i hk
     rw [J0a r (n+1) _ hr,T7]
     have hxy:(x==y)=false:=by
      cases hb:x==y with
      | false=>rfl
      | true =>
        have e1:x=y:=B0s.mp hb
        have e2:k=NameKind.cell:=B0s.mp hk
        subst e1 e2
        exact absurd B8 hm
     rw [hxy]
   · exact J0a r n acc hr
theorem J0b:∀ (names:List (Str×NameKind)) (n:Nat) (acc:List (Str×Addr)),(∀ x c,acc.lookup x=some c->c<n)->(∀ x y c,acc.lookup x=some c->acc.lookup y=some c->x=y) ->
 ∀ x y c,(cellsFrom n names acc).lookup x=some c->(cellsFrom n names acc).lookup y=some c->x=y
 | [],_,_,_,h,x,y,c,e1,e2=>h x y c e1 e2
 | (z,k)::r,n,acc,hb,h,x,y,c,e1,e2=>by
   unfold cellsFrom at e1 e2
   split at e1
   · rename_i hk
     rw [if_pos hk] at e2
     refine J0b r (n+1) ((z,n)::acc) (fun x' c' e'=>?_) (fun x' y' c' e1' e2'=>?_) x y c e1 e2
     · rw [T7] at e'
       cases q:x'==z with
       | true=>rw [q] at e';cases e';exact E3 _
       | false=>rw [q] at e';exact B1j (hb x' c' e')
     · rw [T7] at e1' e2'
       cases q1:x'==z with
       | true =>
         rw [q1] at e1'
         cases e1'
         cases q2:y'==z with
         | true=>rw [B0s.mp q1,B0s.mp q2]
         | false =>
           rw [q2] at e2'
           exact absurd (hb y' _ e2') (M9 _)
       | false =>
         rw [q1] at e1'
         cases q2:y'==z with
         | true =>
           rw [q2] at e2'
           cases e2'
           exact absurd (hb x' _ e1') (M9 _)
         | false =>
           rw [q2] at e2'
           exact h x' y' c' e1' e2'
   · rename_i hk
     rw [if_neg hk] at e2
     exact J0b r n acc hb h x y c e1 e2
theorem XZ:∀ (names:List (Str×NameKind)) (n:Nat) (acc:List (Str×Addr)) (x:Str) (c:Addr),(cellsFrom n names acc).lookup x=some c->acc.lookup x=some c\/n<=c
 | [],_,_,_,_,e=>.inl e
 | (z,k)::r,n,acc,x,c,e=>by
   unfold cellsFrom at e
   split at e
   · rcases XZ r (n+1) ((z,n)::acc) x c e with q|q
     · rw [T7] at q
       cases hb:x==z with
       | true=>rw [hb] at q;cases q;exact .inr (L8 _)
       | false=>rw [hb] at q;exact .inl q
     · exact .inr (by omega)
   · exact XZ r n acc x c e
theorem VD:∀ (names:List (Str×NameKind)) (h:Heap) (acc:List (Str×Addr)),(∀ x c,acc.lookup x=some c->∃ v,h.IsCell c v) ->
 ∀ x c,(cellsFrom h.objs.size names acc).lookup x=some c->∃ v,(pushCells h names).IsCell c v
 | [],_,_,hh,x,c,e=>hh x c e
 | (z,k)::r,h,acc,hh,x,c,e=>by
   unfold cellsFrom at e
   unfold pushCells
   split at e
   · rename_i hk
     rw [if_pos hk]
     have e':(cellsFrom (h.push { cls:=.type "cell",data:=.cell none }).objs.size r ((z,h.objs.size)::acc)).lookup x=some c:=by rw [D8];exact e
     refine VD r _ _ (fun x' c' q=>?_) x c e'
     rw [T7] at q
     cases hb:x'==z with
     | true =>
       rw [hb] at q
       cases q
       exact ⟨none,_,L7 _ rfl,rfl⟩
     | false =>
       rw [hb] at q
       obtain ⟨v,w⟩:=hh x' c' q
       exact ⟨v,w.keeps fun b o e=>B2 _ e⟩
   · rename_i hk
     rw [if_neg hk]
     exact VD r h acc hh x c e
theorem VB {env:Env}(f:Str×NameKind->List (Str×Addr)->Sem (ForInStep (List (Str×Addr))))
 (hf:∀ name kind cs,f (name,kind) cs=if kind==.free then (do let a <- cellOf env name;pure (.yield ((name,a)::cs))) else pure (.yield cs)) :
 ∀ (names:List (Str×NameKind)) (acc:List (Str×Addr)),(∀ x,(x,NameKind.free)∈names->∃ c,env.cells.lookup x=some c)->(∀ x c,acc.lookup x=some c->env.cells.lookup x=some c) ->
  ∃ cl,forIn names acc f=pure cl/\(∀ x c,cl.lookup x=some c->env.cells.lookup x=some c)/\∀ x,((acc.lookup x).isSome=true\/(x,NameKind.free)∈names)->(cl.lookup x).isSome=true
 | [],acc,_,ha=>⟨acc,by rw [B2v],ha,fun x h=>h.elim id fun z=>by cases z⟩
 | (name,kind)::r,acc,hn,ha=>by
   have hr:∀ x,(x,NameKind.free)∈r->∃ c,env.cells.lookup x=some c:=fun x hx=>hn x (B5 _ hx)
   by_cases hk:(kind==NameKind.free)=true
   · have ek:kind=NameKind.free:=B0s.mp hk
     subst ek
     obtain ⟨c,hc⟩:=hn name B8
     obtain ⟨cl,e1,e2,e3⟩:=VB f hf r ((name,c)::acc) hr (fun x c' e=>by
      rw [T7] at e
      cases hb:x==name with
      | true=>rw [hb] at e;cases e;rw [B0s.mp hb];exact hc
      | false=>rw [hb] at e;exact ha x c' e)
     refine ⟨cl,?_,e2,fun x hx=>e3 x ?_⟩
     · rw [B1t,hf,if_pos hk]
       unfold cellOf
       rw [hc]
       simpa using e1
     · rcases hx with hx|hx
       · left
         rw [T7]
         cases hb:x==name with
         | true=>rfl
         | false=>exact hx
       · rcases B6.mp hx with z|z
         · cases z
           left
           rw [T7,beq_self_eq_true]
           rfl
         · exact .inr z
   · obtain ⟨cl,e1,e2,e3⟩:=VB f hf r acc hr ha
     refine ⟨cl,?_,e2,fun x hx=>e3 x ?_⟩
     · rw [B1t,hf,if_neg hk]
       simpa using e1
     · rcases hx with hx|hx
       · exact .inl hx
       · rcases B6.mp hx with z|z
         · cases z
           exact absurd rfl hk
         · exact .inr z
theorem IX {scope:Scope}{env:Env}(hn:∀ x,(x,NameKind.free)∈scope.names->∃ c,env.cells.lookup x=some c) :
 ∃ cl,closureFor scope env=pure cl/\(∀ x c,cl.lookup x=some c->env.cells.lookup x=some c)/\∀ x,(x,NameKind.free)∈scope.names->(cl.lookup x).isSome=true:=by
 obtain ⟨cl,e1,e2,e3⟩:=VB (env:=env) (fun x cs=>match x with
  | (name,kind)=>if (kind==NameKind.free)=true then (do let a <- cellOf env name;pure (ForInStep.yield ((name,a)::cs))) else pure (ForInStep.yield cs)) (fun name kind cs=>rfl) scope.names [] hn (fun x c e=>by cases e)
 refine ⟨cl,?_,e2,fun x hx=>e3 x (.inr hx)⟩
 show (forIn scope.names [] _ >>= fun r=>pure r)=_
 refine Eq.trans (D7 (fun m=>m >>= fun r=>pure r) e1) ?_
 simp
def J0p (ifs:List Expr)(env:Env):Sem Bool:=forIn ifs true fun c r=>if r=true then do let ok <- isTrue c env (eval c env);pure (ForInStep.yield ok) else pure (ForInStep.yield r)
theorem VA {prog:Program}{w:World}{A:Around}{R:Result->Shared->Prop}{s:Shared}{elt target iter:Expr}{ifs:List Expr}{scope:Scope}{pos:Pos}{it acc:Value}{env:Env}(J:Nat->Shared->Prop)
 (turn:∀ n s,J n s->wpAny (model prog w) A (pyNext it) (fun r s₁=>match r with
  | none=>R (.ok .next) s₁
  | some v=>wpAny (model prog w) A (letOwnedTupleGo target it v) (fun _ s₁'=>wpAny (model prog w) A (assign target env v) (fun _ s₂=>wpAny (model prog w) A (J0p ifs env) (fun ok s₃ =>
   if ok=true then wpAny (model prog w) A (eval elt env) (fun x s₄=>wpAny (model prog w) A (call (.builtin "list.append") [acc,x]) (fun _ s₅=>∃ m,m<n/\J m s₅) (notedBy (model prog w) A env fun e s'=>R (.error e) s') s₄)
    (notedBy (model prog w) A env fun e s'=>R (.error e) s') s₃
   else ∃ m,m<n/\J m s₃) (notedBy (model prog w) A env fun e s'=>R (.error e) s') s₂) (notedBy (model prog w) A env fun e s'=>R (.error e) s') s₁') (notedBy (model prog w) A env fun e s'=>R (.error e) s') s₁)
   (notedBy (model prog w) A env fun e s'=>R (.error e) s') s) (n:Nat) (h:J n s) :
 codeAny (model prog w) A (.compLoop (.ListComp elt [⟨target,iter,ifs,0⟩] scope pos) 0 it acc env) R s:=by
 refine codeAny_loop rfl J (fun n s hJ=>?_) n h
 show wpAny _ _ (Sem.onRaise (compTurn (.ListComp elt [⟨target,iter,ifs,0⟩] scope pos) 0 it acc env) fun x=>do noteFrame x env;theTreesLotGoes x) _ _ _
 refine wpAny_noted ?_
 rw [compTurn_list]
 refine B0 (B0o (B0 (thn (turn n s hJ) fun r s₁ h₁=>?_)))
 cases r with
 | none=>exact B1 h₁
 | some v =>
   refine B0 (thn h₁ fun _ s₁' h₁'=>B0 (thn h₁' fun _ s₂ h₂=>B0 (thn h₂ fun ok s₃ h₃=>?_)))
   cases ok with
   | true=>exact B0 (B0 (thn h₃ fun x s₄ h₄=>B0 (thn h₄ fun _ s₅ h₅=>B1 (B1 ⟨rfl,h₅⟩))))
   | false=>exact B1 ⟨rfl,h₃⟩
def Q8c (X:Cx)(C:Addr)(e:Value)(s':Shared):Prop :=
 ∃ m,s'.heap.Ns C m/\∀ h',Heap.SameBut C s'.heap h'->∀ cenv:Env,cenv.locals=C->wpAny (model X.prog X.w) X.A (passOn "comprehension.variables-let-go" e cenv:Sem Value) (fun _ _=>False) X.xe { s' with heap:=h' }
def Q7 (X:Cx)(N:List Str)(scope:Scope)(cells:List (Str×Addr))(C:Addr)(fp:List Addr)(s:Shared)(H:Hp):Cx where
 prog:=X.prog
 w:=X.w
 K:=X.K
 mg:=X.mg
 base:=X.base
 A:=X.A
 N:=N
 s₀:=s
 H₀:=H
 env:=compEnvC scope cells C X.env
 outer:=X.stack
 stack:=X.stack
 ex:=fp
 fn:=fun x=>decide (scope.names.lookup x=some NameKind.cell)
 calm:=X.calm
 pn:=[]
 xe:=notedBy (model X.prog X.w) X.A (compEnvC scope cells C X.env) (Q8c X C)
def capt (σ:St)(map:List (Option Nat)):St:=map.map fun o=>o.bind fun i=>(σ[i]?).join
def CapOk (X:Cx)(scope:Scope):List (Option Nat)->List Str->Prop
 | [],[]=>True
 | none::m,_::n=>CapOk X scope m n
 | some i::m,x::n=>(X.N[i]?=some x/\scope.names.lookup x=some .free/\(scope.names.all fun p=>!(p.1==x&&p.2==NameKind.cell))=true/\(X.env.kindOf x=some .cell\/X.env.kindOf x=some .free))/\CapOk X scope m n
 | _,_=>False
theorem CapOk.length {X:Cx}{scope:Scope}:∀ {m:List (Option Nat)} {n:List Str},CapOk X scope m n->m.length=n.length
 | [],[],_=>rfl
 | none::m,_::n,h=>by simp [CapOk.length (m:=m) (n:=n) h]
 | some i::m,x::n,h=>by simp [CapOk.length (m:=m) (n:=n) h.2]
 | [],_::_,h=>h.elim
 | some _::_,[],h=>h.elim
 | none::_,[],h=>h.elim
theorem CapOk.get {X:Cx}{scope:Scope}:∀ {m:List (Option Nat)} {n:List Str} {j i:Nat} {x:Str},CapOk X scope m n->m[j]?=some (some i)->n[j]?=some x ->
 X.N[i]?=some x/\scope.names.lookup x=some .free/\¬ (x,NameKind.cell)∈scope.names/\(X.env.kindOf x=some .cell\/X.env.kindOf x=some .free)
 | [],[],_,_,_,_,e,_=>by simp at e
 | none::m,_::n,0,_,_,_,e,_=>by simp at e
 | none::m,_::n,j+1,i,x,h,e,e'=>CapOk.get (m:=m) (n:=n) (j:=j) h (by simpa using e) (by simpa using e')
 | some k::m,y::n,0,i,x,h,e,e'=>by
   have e1:k=i:=by simpa using e
   have e2:y=x:=by simpa using e'
   subst e1 e2
   obtain ⟨⟨h1,h2,h3,h4⟩,_⟩:=h
   refine ⟨h1,h2,fun hm=>?_,h4⟩
   have q:=E5.mp h3 _ hm
   simp at q
 | some k::m,y::n,j+1,i,x,h,e,e'=>CapOk.get (m:=m) (n:=n) (j:=j) h.2 (by simpa using e) (by simpa using e')
 | [],_::_,_,_,_,h,_,_=>h.elim
 | some _::_,[],_,_,_,h,_,_=>h.elim
 | none::_,[],_,_,_,h,_,_=>h.elim
def IB (g:TG)(map:List (Option Nat)):Prop:=∀ v σ H Q,g v σ H Q->g v σ H fun σ' H'=>(σ'.length=σ.length/\∀ j i:Nat,map[j]?=some (some i)->σ'[j]?=σ[j]?)/\Q σ' H'
def PIf (X:Cx)(ifs:List Expr)(t:TT):Prop :=
 ∀ (pins:List (Addr×Obj)) (s:Shared) (σ:St) (H:Hp) (Q:Bool->Hp->Prop),Inv X pins σ H s->t σ H Q->wpAny (model X.prog X.w) X.A (J0p ifs X.env) (TP X pins σ Q) X.xe s
noncomputable def Q8k:TT:=fun _ H Q=>Q true H
theorem Q0k {X:Cx}:PIf X [] Q8k:=fun _ _ _ H _ I h=>B1 ⟨H,I,h⟩
theorem J0w {X:Cx}{c:Expr}{t:TT}(hc:PT X c t):PIf X [c] t:=fun pins s σ H Q I h=>by
 unfold J0p
 simp only [B1t,B2v,if_true]
 exact B0 (B0 (thn (hc pins s σ H Q I h) fun b s' hb=>B1 (B1 hb)))
theorem DF {env:Env}{x:Str}{k:NameKind}:∀ {names:List (Str×NameKind)},
 (names.map fun (p:Str×NameKind)=>match p with|(n,k)=>if (k==NameKind.free&&env.scope.kind==.function&&env.kindOf n==some .cell) then (n,NameKind.cell) else (n,k)).lookup x=some k ->
 ∃ k',names.lookup x=some k'/\(k'=k\/(k'=.free/\k=.cell))
 | [],h=>by simp at h
 | (n,k')::r,h=>by
   rw [T4] at h
   by_cases hc:(k'==NameKind.free&&env.scope.kind==.function&&env.kindOf n==some .cell)=true
   · simp only [if_pos hc,T7] at h
     rw [T7]
     cases hx:x==n with
     | true =>
       rw [hx] at h
       cases h
       refine ⟨k',rfl,.inr ⟨?_,rfl⟩⟩
       simp only [R4,B0s] at hc
       exact hc.1.1
     | false =>
       rw [hx] at h
       exact DF h
   · simp only [if_neg hc,T7] at h
     rw [T7]
     cases hx:x==n with
     | true =>
       rw [hx] at h
       cases h
       exact ⟨_,rfl,.inl rfl⟩
     | false =>
       rw [hx] at h
       exact DF h
theorem GP {env:Env}{x:Str}:∀ {names:List (Str×NameKind)},names.lookup x=some .free ->
 (names.map fun (p:Str×NameKind)=>match p with|(n,k)=>if (k==NameKind.free&&env.scope.kind==.function&&env.kindOf n==some .cell) then (n,NameKind.cell) else (n,k)).lookup x=some .cell \/
 (names.map fun (p:Str×NameKind)=>match p with|(n,k)=>if (k==NameKind.free&&env.scope.kind==.function&&env.kindOf n==some .cell) then (n,NameKind.cell) else (n,k)).lookup x=some .free
 | [],h=>by simp at h
 | (n,k')::r,h=>by
   rw [T4]
   rw [T7] at h
   by_cases hc:(k'==NameKind.free&&env.scope.kind==.function&&env.kindOf n==some .cell)=true
   · simp only [if_pos hc,T7]
     cases hx:x==n with
     | true=>exact .inl rfl
     | false =>
       rw [hx] at h
       exact GP h
   · simp only [if_neg hc,T7]
     cases hx:x==n with
     | true =>
       rw [hx] at h
       cases h
       exact .inr rfl
     | false =>
       rw [hx] at h
       exact GP h
section
variable {X:Cx}{elt iter tg:Expr}{ifs:List Expr}{scope:Scope}{pos:Pos}{N':List Str}{map:List (Option Nat)}{wi:TI}{g:TG}{tt:TT}{te:TE}
def LK (J:It)(g:TG)(tt:TT)(te:TE)(σc:St)(Fin:List V->Hp->Prop)(W:Nat->Nat->List V->Hp->Prop):Prop :=
 ∀ i m acc H2,W i m acc H2->(J.stop i H2/\acc.length<=sizeLine/\Fin acc H2) \/
  (J.go i H2/\acc.length<sizeLine/\∃ N:List V->Hp->Prop,(∀ acc' H',N acc' H'->∃ m',m'<m/\W (i+1) m' acc' H')/\∀ x H3,J.yld i H2 x H3->g x σc H3 fun σ4 H4=>tt σ4 H4 fun b H5=>if b=true then te σ4 H5 fun v H6=>N (acc++[v]) H6 else N acc H5)
structure TurnG (R:Cx->Prop)(P:Program)(w:World)(K:Fg)(tg:Expr)(J:It)(fp:List Addr)(it:Addr)(tn:Nat->Heap->Prop):Prop where
 mem:it∈fp
 obj:∀ i h,tn i h->∀ b∈fp,∃ o,h.get? b=some o/\∀ v,o.data≠.cell v
 keep:∀ i h h',tn i h->(∀ b∈fp,∀ o,h.get? b=some o->h'.get? b=some o)->tn i h'
 item:∀ (X:Cx),X.prog=P->X.w=w->X.K=K->R X->∀ (i:Nat) (pins:List (Addr×Obj)) (s:Shared) (σ:St) (H:Hp) (E:Value->Shared->Prop),Inv X pins σ H s->(∀ b∈fp,HF X pins H b)->tn i s.heap->J.go i H->wpAny (model P w) X.A (pyNext (.ref it)) (fun r s1=>∃ u,r=some u /\
  wpAny (model P w) X.A (letOwnedTupleGo tg (.ref it) u) (fun _ s2=>∃ x H',Inv X pins σ H' s2/\RelV x u/\J.yld i H x H'/\tn (i+1) s2.heap/\∀ b∈fp,H' b=none) E s1) E s
 done:∀ (X:Cx),X.prog=P->X.w=w->X.K=K->R X->∀ (i:Nat) (pins:List (Addr×Obj)) (s:Shared) (σ:St) (H:Hp) (E:Value->Shared->Prop),Inv X pins σ H s->(∀ b∈fp,HF X pins H b)->tn i s.heap->J.stop i H->wpAny (model P w) X.A (pyNext (.ref it)) (fun r s1=>r=none/\Inv X pins σ H s1) E s
 self:∀ (A:Around) (i:Nat) (s:Shared) (Q:Value->Shared->Prop) (E:Value->Shared->Prop),tn i s.heap->Q (.ref it) s->wpAny (model P w) A (pyIter (.ref it)) Q E s
theorem Turn.gen {tg:Expr}{J:It}{fp:List Addr}{it:Addr}{tn:Nat->Heap->Prop}(T:Turn P w K tg J fp it tn):TurnG (fun X=>X.calm=true) P w K tg J fp it tn:=⟨T.mem,T.obj,T.keep,T.item,T.done,T.self⟩
structure BlkM (X:Cx)(N':List Str)(scope:Scope)(map:List (Option Nat))(tg elt:Expr)(ifs:List Expr)(g:TG)(tt:TT)(te:TE):Prop where
 kind:scope.kind=.function
 loc:∀ x∈scope.names,x.2=.local->scope.names.lookup x.1=some .local
 free:(scope.names.all fun p=>!(p.2==NameKind.free)||(X.env.kindOf p.1==some .cell||X.env.kindOf p.1==some .free))=true
 cap:CapOk X scope map N'
 keep:IB g map
 run:∀ cells C fp s H,PG (Q7 X N' scope cells C fp s H) tg g/\PIf (Q7 X N' scope cells C fp s H) ifs tt/\PE (Q7 X N' scope cells C fp s H) elt te
structure Blk (X:Cx)(N':List Str)(scope:Scope)(map:List (Option Nat))(tg elt:Expr)(ifs:List Expr)(g:TG)(tt:TT)(te:TE):Prop where
 calm:X.calm=true
 kind:scope.kind=.function
 loc:∀ x∈scope.names,x.2=.local->scope.names.lookup x.1=some .local
 free:(scope.names.all fun p=>!(p.2==NameKind.free)||(X.env.kindOf p.1==some .cell||X.env.kindOf p.1==some .free))=true
 cap:CapOk X scope map N'
 keep:IB g map
 run:∀ cells C fp s H,PG (Q7 X N' scope cells C fp s H) tg g/\PIf (Q7 X N' scope cells C fp s H) ifs tt/\PE (Q7 X N' scope cells C fp s H) elt te
theorem Blk.m (B:Blk X N' scope map tg elt ifs g tt te):BlkM X N' scope map tg elt ifs g tt te:=⟨B.kind,B.loc,B.free,B.cap,B.keep,B.run⟩
theorem J1w {pins:List (Addr×Obj)}{σ:St}{H1:Hp}{s2:Shared}{cl:List (Str×Addr)}{fp:List Addr}(I:Inv X pins σ H1 s2)(B:BlkM X N' scope map tg elt ifs g tt te)
 (hsub:∀ x c,cl.lookup x=some c->X.env.cells.lookup x=some c) (hhas:∀ x,(x,NameKind.free)∈scope.names->(cl.lookup x).isSome=true)
 (hf:∀ b∈fp,HF X pins H1 b) (hfo:∀ b∈fp,∃ o,s2.heap.get? b=some o) (C:Addr) (h3:Heap) (hC:s2.heap.objs.size<=C) (k3:∀ b o,s2.heap.get? b=some o->h3.get? b=some o) (hCsz:C<h3.objs.size) (hns:h3.Ns C fun _=>none) (tk:Nat) :
 Inv (Q7 X N' scope (cellsFrom h3.objs.size scope.names cl) C fp s2 H1) [] (capt σ map) H1 { s2 with heap:=pushCells h3 scope.names,toks:=tk }:=by
 have kk:∀ b o,s2.heap.get? b=some o->(pushCells h3 scope.names).get? b=some o:=fun b o e=>B0y _ _ b o (k3 b o e)
 have fsz:∀ b∈fp,b<s2.heap.objs.size:=fun b hb=>by obtain ⟨o,e⟩:=hfo b hb;exact B4 e
 have clz:∀ x c,cl.lookup x=some c->c<s2.heap.objs.size:=fun x c e=>by
  obtain ⟨v,o,ho,_⟩:=I.cell x c (hsub x c e)
  exact B4 ho
 have h3sz:s2.heap.objs.size<h3.objs.size:=Nat.lt_of_le_of_lt hC hCsz
 have cof:∀ x c,(cellsFrom h3.objs.size scope.names cl).lookup x=some c->X.env.cells.lookup x=some c\/h3.objs.size<=c:=fun x c e=>(XZ _ _ _ x c e).imp (hsub x c) id
 have cnb:∀ x c,(cellsFrom h3.objs.size scope.names cl).lookup x=some c->∀ b∈fp,c≠b:=fun x c e b hb z=>by
  rcases cof x c e with q|q
  · exact (hf b hb).2.2.2.2.1 x c q z
  · have h1:=fsz b hb
    rw [<- z] at h1
    exact absurd (M4 (Nat.lt_trans h1 h3sz) q) (M9 _)
 have fnf:∀ b∈fp,b∉frs X.stack:=fun b hb hm=>by
  obtain ⟨_,f1,f2,_⟩:=hf b hb
  rcases B6.mp (I.stkSub b hm) with z|z
  · exact f1 z
  · exact f2 z
 have cellI:∀ x c,(cellsFrom h3.objs.size scope.names cl).lookup x=some c->∃ v,(pushCells h3 scope.names).IsCell c v:=fun x c e =>
  VD scope.names h3 cl (fun x' c' q=>by
   obtain ⟨v,w⟩:=I.cell x' c' (hsub x' c' q)
   exact ⟨v,w.keeps k3⟩) x c e
 have hC0:H1 C=none:=I.hok.fresh hC
 have ok:(Q7 X N' scope (cellsFrom h3.objs.size scope.names cl) C fp s2 H1).Ok :=
  { mod:=I.ok.mod
    kind:=B.kind
    glob:=I.ok.glob
    blt:=I.ok.blt
    above:=hC
    inj:=J0b scope.names h3.objs.size cl (fun x c e=>Nat.lt_trans (clz x c e) h3sz) fun x y c e1 e2=>I.ok.inj x y c (hsub x c e1) (hsub y c e2)
    has:=fun x hx=>by
     have hx:(relabel scope X.env).names.lookup x=some .cell\/(relabel scope X.env).names.lookup x=some .free:=hx
     have goal:(scope.names.lookup x=some .cell\/(cl.lookup x).isSome=true):=by
      rcases hx with q|q
      · obtain ⟨k',e1,e2⟩:=DF q
        rcases e2 with z|⟨z,_⟩
        · exact .inl (by rw [e1,z])
        · exact .inr (hhas x (T8 (by rw [e1,z])))
      · obtain ⟨k',e1,e2⟩:=DF q
        rcases e2 with z|⟨z,z'⟩
        · exact .inr (hhas x (T8 (by rw [e1,z])))
        · cases z'
     exact B3c.mp (B2a scope.names h3.objs.size cl goal)
    cab:=fun x c hx e=>B2b (M4 h3sz (ZZ scope.names h3.objs.size cl (L8 _) (T8 (B0a hx)) c e))
    hd:=I.ok.hd
    frames:=I.ok.frames
    stk:=.inl rfl
    exf:=fun b hb=>⟨fun z=>absurd (fsz b hb) (by rw [z];exact Nat.not_lt.mpr hC),fun x c e=>cnb x c e b hb⟩
    bs:=I.bs
    bsz:=R5 I.ok.bsz I.sz
    noex:=fun b o e hb=>by
     rcases (hf b hb).2.2.2.1 with z|z
     · exact I.ok.noex b o e z
     · exact absurd (B4 (I.ok.bs b o e).1) (Nat.not_lt.mpr z)
    exfs:=fnf
    funs:=I.stack
    frf:=I.stkFree }
 refine ⟨ok,rfl,I.bare,Un.kept kk,⟨fun _=>none,hns.keeps fun b o e=>B0y _ _ b o e,fun j x v e1 e2 e3=>?_⟩,cellI,hC0,fun x c e=>?_,fun p hp=>absurd (show p∈([]:List (Addr×Obj)) from hp) (by simp),I.hok.kept kk,?_⟩
 · have e2':(capt σ map)[j]?=some (some v):=e2
   unfold capt at e2'
   rw [M1] at e2'
   cases hm:map[j]? with
   | none=>rw [hm] at e2';cases e2'
   | some o =>
     rw [hm] at e2'
     cases o with
     | none=>simp at e2'
     | some i =>
       have e2'':(σ[i]?).join=some v:=by simpa using e2'
       have hσ:σ[i]?=some (some v):=by
        cases q:σ[i]? with
        | none=>rw [q] at e2'';cases e2''
        | some o' =>
          rw [q] at e2''
          have:o'=some v:=by simpa using e2''
          rw [this]
       obtain ⟨c1,c2,c3,c4⟩:=B.cap.get hm e1
       obtain ⟨m,hn,hl⟩:=I.loc
       have vis:Vis X.env.scope x:=by
        rcases c4 with z|z
        · exact .inr (.inl z)
        · exact .inr (.inr z)
       obtain ⟨u,r,l⟩:=hl i x v c1 hσ vis
       refine ⟨u,r,?_⟩
       rcases l with ⟨z,_⟩|⟨_,c,ec,hcell⟩
       · rcases c4 with q|q
         · rw [q] at z;cases z
         · rw [q] at z;cases z
       · right
         refine ⟨GP c2,c,?_,hcell.keeps kk⟩
         show (cellsFrom h3.objs.size scope.names cl).lookup x=some c
         rw [J0a _ _ _ c3]
         obtain ⟨c',hc'⟩:=B3c.mp (hhas x (T8 c2))
         have:=hsub x c' hc'
         rw [ec] at this
         cases this
         exact hc'
 · rcases cof x c e with q|q
   · exact I.freeC x c q
   · exact I.hok.fresh (R5 (B2b h3sz) q)
 · show (capt σ map).length=N'.length
   unfold capt
   rw [B9]
   exact B.cap.length
theorem VL {pins:List (Addr×Obj)}{σ:St}{H1:Hp}{s2:Shared}{cl:List (Str×Addr)}{fp:List Addr}{it:Addr}{tn:Nat->Heap->Prop}{J:It}{E:Value->Shared->Prop}(I:Inv X pins σ H1 s2)(B:BlkM X N' scope map tg elt ifs g tt te)
 (hsub:∀ x c,cl.lookup x=some c->X.env.cells.lookup x=some c) (hhas:∀ x,(x,NameKind.free)∈scope.names->(cl.lookup x).isSome=true)
 {R:Cx->Prop} (hR:∀ cells C fp s H,R (Q7 X N' scope cells C fp s H)) (T:TurnG R X.prog X.w X.K tg J fp it tn) (st:tn 0 s2.heap) (hf:∀ b∈fp,HF X pins H1 b) {Fin:List V->Hp->Prop} {W:Nat->Nat->List V->Hp->Prop} {m0:Nat} (w0:W 0 m0 [] H1) (ht:LK J g tt te (capt σ map) Fin W)
 {RR:Value->Addr->Result->Shared->Prop}
 (hOk:∀ D C acc H' s' m,Inv X pins σ (upd H' D (.lst acc)) s'->H' D=none->s'.heap.Ns C m->upd H' D (.lst acc) C=none->C≠X.env.locals->X.s₀.heap.objs.size<=C->(∀ x c,X.env.cells.lookup x=some c->c≠C)->(∀ p∈X.pn++pins,p.1≠C)->Fin acc H'->RR (.ref D) C (.ok .next) s')
 (hErr:∀ D C e s',Q8c X C e s'->RR (.ref D) C (.error e) s') :
 wpAny (model X.prog X.w) X.A (newList []) (fun acc s3=>wpAny (model X.prog X.w) X.A (newFunctionEnv scope X.env.globals cl [] X.env.qual none .none (some X.env)) (fun cenv s4 =>
  codeAny (model X.prog X.w) X.A (.compStart (.ListComp elt [⟨tg,iter,ifs,0⟩] scope pos) 0 (.ref it) acc { cenv with scope:=relabel scope X.env }) (RR acc cenv.locals) s4) E s3) E s2:=by
 have fo:∀ b∈fp,∃ o,s2.heap.get? b=some o:=fun b hb=>by obtain ⟨o,e,_⟩:=T.obj 0 _ st b hb;exact ⟨o,e⟩
 refine R9 ?_
 generalize hH2:s2.heap.push { cls:=.type "list",dict:=none,data:=.seq ([]:List Value).toArray }=H2
 have szD:H2.objs.size=s2.heap.objs.size+1:=by rw [<- hH2,D8]
 have kD:∀ b o,s2.heap.get? b=some o->H2.get? b=some o:=fun b o e=>hH2▸B2 _ e
 simp only [newFunctionEnv,Option.isSome_some,if_true]
 refine B0 (wpAny_alloc ?_)
 refine B0 (wpAny_layCells _ (fun name kind cells=>by cases hkc:kind==NameKind.cell<;>simp [hkc]) _ _ _ _ ?_)
 dsimp only
 generalize hH3:H2.push { cls:=.type "dict",dict:=none,data:=.dict #[] }=h3
 have sz3:h3.objs.size=H2.objs.size+1:=by rw [<- hH3,D8]
 have kC:∀ b o,H2.get? b=some o->h3.get? b=some o:=fun b o e=>hH3▸B2 _ e
 have nsC:h3.Ns H2.objs.size fun _=>none:=hH3▸Heap.Ns.new H2 (.type "dict")
 refine B0 (B1 (B1 ?_))
 show codeAny _ _ (.compStart (.ListComp elt [⟨tg,iter,ifs,0⟩] scope pos) 0 (.ref it) (.ref s2.heap.objs.size) (compEnvC scope (cellsFrom h3.objs.size scope.names cl) H2.objs.size X.env)) _ _
 generalize hX':Q7 X N' scope (cellsFrom h3.objs.size scope.names cl) H2.objs.size fp s2 H1=X'
 have I4:Inv X' [] (capt σ map) H1 { s2 with heap:=pushCells h3 scope.names }:=hX'▸J1w I B hsub hhas hf fo H2.objs.size h3 (by rw [szD];exact Nat.le_succ _) (fun b o e=>kC b o (kD b o e)) (by rw [sz3];exact E3 _) nsC s2.toks
 obtain ⟨pg,pif,pel⟩:=B.run (cellsFrom h3.objs.size scope.names cl) H2.objs.size fp s2 H1
 rw [hX'] at pg pif pel
 have eprog:X'.prog=X.prog:=by rw [<- hX'];rfl
 have ew:X'.w=X.w:=by rw [<- hX'];rfl
 have eK:X'.K=X.K:=by rw [<- hX'];rfl
 have eA:X'.A=X.A:=by rw [<- hX'];rfl
 have ecalm:R X':=by rw [<- hX'];exact hR _ _ _ _ _
 have eenv:X'.env=compEnvC scope (cellsFrom h3.objs.size scope.names cl) H2.objs.size X.env:=by rw [<- hX'];rfl
 have exe:X'.xe=notedBy (model X.prog X.w) X.A (compEnvC scope (cellsFrom h3.objs.size scope.names cl) H2.objs.size X.env) (Q8c X H2.objs.size):=by rw [<- hX'];rfl
 have es0:X'.s₀=s2:=by rw [<- hX'];rfl
 have eH0:X'.H₀=H1:=by rw [<- hX'];rfl
 have eex:X'.ex=fp:=by rw [<- hX'];rfl
 have efs:X'.fs=frs X.stack:=by rw [<- hX'];rfl
 have epn:X'.pn=[]:=by rw [<- hX'];rfl
 have eL:X'.env.locals=H2.objs.size:=by rw [eenv];rfl
 generalize hDd:s2.heap.objs.size=D at *
 have fD:∀ b∈fp,b≠D:=fun b hb=>by obtain ⟨o,e⟩:=fo b hb;exact R8 (hDd▸B4 e)
 have nfsD:D∉X'.fs:=fun hb=>by
  rw [efs] at hb
  have h1:=I.stkSub D hb
  rcases B6.mp h1 with z|z
  · have:=I.lt;rw [hDd,<- z] at this;exact M9 _ this
  · exact I.nofs (by rw [hDd];exact L8 _) z
 have ncD:∀ x c,X'.env.cells.lookup x=some c->c≠D:=fun x c e z=>by
  rw [eenv] at e
  rcases XZ _ _ _ x c e with q|q
  · obtain ⟨v,o,ho,_⟩:=I.cell x c (hsub x c q)
    have:=B4 ho
    rw [hDd,z] at this
    exact M9 _ this
  · rw [z,sz3,szD] at q
    exact absurd (M4 (B1j (E3 D)) q) (M9 _)
 have f4:∀ {H':Hp} {pl:List (Addr×Obj)},(∀ b∈fp,H' b=none)->(∀ p∈pl,p.1=D)->∀ b∈fp,HF X' pl H' b:=fun {H' pl} hn hpl b hb=>by
  have q:=hf b hb
  refine ⟨hn b hb,?_,?_,.inl (by rw [eex];exact hb),fun x c e=>?_,fun p hp=>?_⟩
  · rw [eL]
    obtain ⟨o,e⟩:=fo b hb
    have:=B4 e
    rw [hDd] at this
    intro z
    rw [z,szD] at this
    exact absurd (B0n this) (M9 _)
  · have:=I4.ok.exfs b (by rw [eex];exact hb)
    exact this
  · exact (I4.ok.exf b (by rw [eex];exact hb)).2 x c e
  · rw [epn] at hp
    have hp:p∈pl:=by simpa using hp
    rw [hpl p hp]
    exact (fD b hb).symm
 have noCell:∀ {its:Array Value} {n:Nat} (v:Option Value),({ cls:=.type "list",data:=.seq its n }:Obj).data≠.cell v:=fun v z=>by cases z
 have hD4:(pushCells h3 scope.names).get? D=some { cls:=.type "list",data:=.seq ([]:List Value).toArray 0 }:=B0y _ _ _ _ (kC _ _ (by rw [<- hH2,<- hDd];exact L7 _ rfl))
 have loop:codeAny (model X.prog X.w) X.A (.compLoop (.ListComp elt [⟨tg,iter,ifs,0⟩] scope pos) 0 (.ref it) (.ref D) (compEnvC scope (cellsFrom h3.objs.size scope.names cl) H2.objs.size X.env)) (RR (.ref D) H2.objs.size) { s2 with heap:=pushCells h3 scope.names }:=by
  refine VA (fun n s'=>∃ i acc H' its k,Inv X' [] (capt σ map) H' s'/\tn i s'.heap/\(∀ b∈fp,H' b=none)/\H' D=none/\s'.heap.get? D=some { cls:=.type "list",data:=.seq (List.toArray its) k }/\Vals acc its/\W i n acc H') ?_ m0
   ⟨0,[],H1,[],0,I4,T.keep _ _ _ st fun b hb o e=>B0y _ _ _ _ (kC _ _ (kD _ _ e)),fun b hb=>(hf b hb).1,I.hok.fresh (by rw [hDd];exact L8 _),hD4,.nil,w0⟩
  rintro n s5 ⟨i,acc,H5,its,k,I5,st5,fr5,hD5,oD5,rv5,w5⟩
  have pinD:Inv X' [(D,{ cls:=.type "list",data:=.seq (List.toArray its) k })] (capt σ map) H5 s5:=I5.pins_of fun p hp=>by
   have e:p=(D,{ cls:=.type "list",data:=.seq (List.toArray its) k }):=by simpa using hp
   subst e
   refine ⟨oD5,hD5,?_,nfsD,fun v=>noCell v⟩
   rw [eL,szD]
   exact R8 (E3 _)
  have plD:∀ p∈[(D,({ cls:=.type "list",data:=.seq (List.toArray its) k }:Obj))],p.1=D:=fun p hp=>by
   have e:p=(D,{ cls:=.type "list",data:=.seq (List.toArray its) k }):=by simpa using hp
   rw [e]
  have err:∀ e s',X'.xe e s'->notedBy (model X.prog X.w) X.A (compEnvC scope (cellsFrom h3.objs.size scope.names cl) H2.objs.size X.env) (fun e s'=>RR (.ref D) H2.objs.size (.error e) s') e s':=fun e s' he=>by
   rw [exe] at he
   exact W0 he (fun _ s'' q=>hErr D _ e s'' q) fun e'' s'' q=>hErr D _ e'' s'' q
  rcases ht i n acc H5 w5 with ⟨stop,hsz,fin⟩|⟨go,hsz,NN,hNN,step⟩
  · have dn:=T.done X' eprog ew eK ecalm i _ s5 (capt σ map) H5 (notedBy (model X.prog X.w) X.A (compEnvC scope (cellsFrom h3.objs.size scope.names cl) H2.objs.size X.env) fun e s'=>RR (.ref D) H2.objs.size (.error e) s') pinD (f4 fr5 plD) st5 stop
    rw [eA] at dn
    refine thn dn fun r s6 ⟨hr,I6⟩=>?_
    subst hr
    obtain ⟨oD6,hD6,_⟩:=I6.pin (D,_) (by rw [epn];exact B8)
    obtain ⟨m,nsm,_⟩:=I6.loc
    rw [eL] at nsm
    have un:=I6.base
    rw [efs,eex,eH0,es0] at un
    have hok:=I6.hok
    rw [eprog,ew] at hok
    have os6:=I6.os
    rw [es0] at os6
    have fC:H5 H2.objs.size=none:=by rw [<- eL];exact I6.free
    have nDC:H2.objs.size≠D:=by rw [szD];exact B1e (E3 _)
    refine hOk D H2.objs.size acc H5 s6 m (I.call' (ch:=fp) os6 ?_ ?_ I6.bare fun b hb=>?_) hD5 nsm (by rw [V4 nDC];exact fC) ?_ ?_ ?_ ?_ fin
    · refine ⟨un.keep,un.slot,fun b o e n hx=>?_,un.there,fun b xs e=>?_,fun b o u e=>?_,fun b ps e=>?_⟩
      · rw [V4 (R8 (hDd▸B4 e))]
        exact un.free b o e n hx
      · have:=un.tups b xs e
        rw [V4 (V9 this hD5)]
        exact this
      · have:=un.frzs b o u e
        rw [V4 (V9 this hD5)]
        exact this
      · obtain ⟨more,this⟩:=un.tbls b ps e
        exact ⟨more,by rw [V4 (V9 this hD5)];exact this⟩
    · intro b o e
      by_cases hb:b=D
      · subst hb
        rw [V5] at e
        cases e
        exact ⟨hsz,its,k,rv5,oD6⟩
      · rw [V4 hb] at e
        exact (hok b o e).stay (fun _ _ _ q=>q) (fun c q=>by rw [V4 (V9 q hD5)];exact q) fun c xs q=>by rw [V4 (V9 q hD5)];exact q
    · obtain ⟨f0,f1,f2,f3,f4',f5⟩:=hf b hb
      exact ⟨f3,f1,f4',f5⟩
    · have:=I.lt
      rw [hDd] at this
      intro z
      rw [<- z,szD] at this
      exact absurd (B0n this) (M9 _)
    · have:=I.sz
      rw [hDd] at this
      omega
    · intro x c e z
      obtain ⟨v,o,ho,_⟩:=I.cell x c e
      have:=B4 ho
      rw [hDd,z,szD] at this
      exact absurd (B0n this) (M9 _)
    · intro p hp z
      have:=B4 (I.pin p hp).1
      rw [hDd,z,szD] at this
      exact absurd (B0n this) (M9 _)
  · have im:=T.item X' eprog ew eK ecalm i _ s5 (capt σ map) H5 (notedBy (model X.prog X.w) X.A (compEnvC scope (cellsFrom h3.objs.size scope.names cl) H2.objs.size X.env) fun e s'=>RR (.ref D) H2.objs.size (.error e) s') pinD (f4 fr5 plD) st5 go
    rw [eA] at im
    refine thn im fun r s6 ⟨u,hr,h6⟩=>?_
    subst hr
    refine thn h6 fun _ s7 ⟨x,H7,I7,r7,y7,st7,fr7⟩=>?_
    have I7':=I7.pinned (f4 fr7 plD) (T.obj _ _ st7)
    have stp:=B.keep _ _ _ _ (step x H7 y7)
    have pgx:=pg _ s7 (capt σ map) H7 x u _ I7' r7 stp
    rw [eprog,ew,eA,eenv] at pgx
    refine W0 pgx (fun _ s8 ⟨σ8,H8,I8,⟨kl,k8⟩,q8⟩=>?_) err
    have pix:=pif _ s8 σ8 H8 _ I8 q8
    rw [eprog,ew,eA,eenv] at pix
    refine W0 pix (fun b s9 ⟨H9,I9,q9⟩=>?_) err
    have wk:∀ {σa:St} {Ha:Hp} {sa:Shared},σa=σ8->Inv X' ([(D,({ cls:=.type "list",data:=.seq (List.toArray its) k }:Obj))]++GT fp s7.heap) σa Ha sa ->
     Inv X' [] (capt σ map) Ha sa/\tn (i+1) sa.heap/\(∀ b∈fp,Ha b=none)/\Ha D=none/\sa.heap.get? D=some { cls:=.type "list",data:=.seq (List.toArray its) k }:=fun {σa Ha sa} ea Ia=>by
     subst ea
     refine ⟨(Ia.pins_of (pins':=[]) fun p hp=>absurd hp (by simp)).weak kl.symm fun j v e=>?_,T.keep _ _ _ st7 fun b hb o e=>(Ia.pin (b,o) (L5 _ (L5 _ (CA hb e)))).1,fun b hb=>?_,?_,?_⟩
     · have e':=e
       unfold capt at e'
       rw [M1] at e'
       cases hm:map[j]? with
       | none=>rw [hm] at e';cases e'
       | some o =>
         rw [hm] at e'
         cases o with
         | none=>simp at e'
         | some i'=>rw [k8 j i' hm];exact e
     · obtain ⟨o,e,d⟩:=T.obj _ _ st7 b hb
       exact (Ia.pin (b,o) (L5 _ (L5 _ (CA hb e)))).2.1
     · exact (Ia.pin (D,_) (L5 _ (T9 _ B8))).2.1
     · exact (Ia.pin (D,_) (L5 _ (T9 _ B8))).1
    cases b with
    | false =>
      rw [if_neg L9] at q9 ⊢
      obtain ⟨m',hm',w9⟩:=hNN _ _ q9
      obtain ⟨a1,a2,a3,a4,a5⟩:=wk rfl I9
      exact ⟨m',hm',i+1,acc,H9,its,k,a1,a2,a3,a4,a5,rv5,w9⟩
    | true =>
      rw [if_pos rfl] at q9 ⊢
      have pex:=pel _ s9 σ8 H9 _ I9 q9
      rw [eprog,ew,eA,eenv] at pex
      refine W0 pex (fun v s10 ⟨y,H10,I10,r10,q10⟩=>?_) err
      obtain ⟨m',hm',w10⟩:=hNN _ _ q10
      obtain ⟨a1,a2,a3,a4,a5⟩:=wk rfl I10
      have hl:=rv5.length
      refine wpAny_list_append_plain (items:=List.toArray its) ⟨k,a5⟩ (fun h11 pl11 sb11=>?_) (by simp only [M8];omega)
      obtain ⟨k',e11⟩:=pl11
      refine ⟨m',hm',i+1,acc++[y],H10,its++[v],k',a1.turned (t':=s10.toks) (it:=D) (fun b o hb e=>(sb11.2 b hb).trans e) a4 ?_ (.inr (by rw [es0,hDd];exact L8 _)) ncD (fun p hp=>absurd hp (by rw [epn];simp)),T.keep _ _ _ a2 fun b hb o e=>(sb11.2 b (fD b hb)).trans e,a3,a4,?_,rv5.append (.cons r10 .nil),w10⟩
      · rw [eL,szD]
        exact R8 (E3 _)
      · rw [e11,List.push_toArray]
 exact codeAny_compStart_list loop (T.self _ 0 _ _ _ (T.keep _ _ _ st fun b hb o e=>B0y _ _ _ _ (kC _ _ (kD _ _ e))) loop)
theorem Blk.clos {pins:List (Addr×Obj)}{σ:St}{H:Hp}{s:Shared}(B:Blk X N' scope map tg elt ifs g tt te)(I:Inv X pins σ H s) :
 ∃ cl,closureFor scope X.env=pure cl/\(∀ x c,cl.lookup x=some c->X.env.cells.lookup x=some c)/\∀ x,(x,NameKind.free)∈scope.names->(cl.lookup x).isSome=true :=
 IX fun x hx=>I.ok.has x (by
  have q:=E5.mp B.free _ hx
  simpa using q)
noncomputable def Q8t (wi:TI)(map:List (Option Nat))(g:TG)(tt:TT)(te:TE):TE:=fun σ H Q=>wi σ H fun J H1=>∃ W:Nat->Nat->List V->Hp->Prop,(∃ m,W 0 m [] H1) /\
 LK J g tt te (capt σ map) (fun acc H'=>∀ D,H' D=none->Q (.ref D) (upd H' D (.lst acc))) W
theorem J0y (B:Blk X N' scope map tg elt ifs g tt te)(hi:PI X tg iter wi)(hs:∀ x,foldedSetIterable iter X.env x=pure x:=by intro _;rfl):PE X (.ListComp elt [⟨tg,iter,ifs,0⟩] scope pos) (Q8t wi map g tt te):=by
 intro pins s σ H Q I h
 obtain ⟨cl,hcl,hsub,hhas⟩:=B.clos I
 rw [eval_ListComp]
 refine B1z (use:=none) rfl hs hcl B.kind B.loc (thn (hi pins s σ H _ I h) fun v s1 h1=>thn h1 fun itv s2 h2=>?_)
 obtain ⟨it,fp,tn,J,H2,e,I2,T,st2,f2,W,⟨m0,w0⟩,turn⟩:=h2
 subst e
 refine VL (RR:=fun acc C=>compPost (model X.prog X.w) X.A X.xe none (EP X pins σ Q) acc C) I2 B.m hsub hhas (R:=fun X=>X.calm=true) (fun _ _ _ _ _=>B.calm) T.gen st2 f2 w0 turn (fun D C acc H' s' m I' hD nsm fC c1 c2 c3 c4 fin=>?_) fun D C e s' z=>z
 refine ⟨m,nsm,fun h' sb=>⟨.ref D,_,?_,rfl,fin D hD⟩⟩
 exact I'.turned (t':=s'.toks) (fun b o hb e=>(sb.2 b hb).trans e) fC c1 (.inr c2) c3 c4
noncomputable def WA (i:Nat)(wi:TI)(map:List (Option Nat))(g:TG)(tt:TT)(te:TE):TS:=fun D σ H=>wi σ H fun J H1=>∃ W:Nat->Nat->List V->Hp->Prop,(∃ m,W 0 m [] H1) /\
 LK J g tt te (capt σ map) (fun acc H'=>∀ d,H' d=none->D.nx (σ.set i (some (.ref d))) (upd H' d (.lst acc))) W
theorem OP {i:Nat}{y:Str}{py spos:Pos}(hN:X.N.Nodup)(hiN:X.N[i]?=some y)(hy:Loc X.env.scope y)(B:Blk X N' scope map tg elt ifs g tt te)(hi:PI X tg iter wi)
 (hsw:swapsWith (.ListComp elt [⟨tg,iter,ifs,0⟩] scope pos) (some (.Name y py)) spos.line X.env=pure true:=by rfl) (hfn:X.fn y=true\/X.env.scope.names.lookup y=some .local:=by first|exact .inl rfl|exact .inr rfl)
 (hs:∀ x,foldedSetIterable iter X.env x=pure x:=by intro _;rfl):PS X (.Assign [.Name y py] (.ListComp elt [⟨tg,iter,ifs,0⟩] scope pos) spos) (WA i wi map g tt te):=by
 intro pins s σ H D I h
 obtain ⟨cl,hcl,hsub,hhas⟩:=B.clos I
 rw [exec_Assign_Name_used _ _ _ _ hsw]
 refine B0 (B0o (B0 ?_))
 show wpAny _ _ (do let _ <- comprehension (.ListComp elt [⟨tg,iter,ifs,0⟩] scope pos) scope X.env _ (newList []) false (eval iter X.env) (some (assign (.Name y py) X.env))) _ _ _
 refine B0 (thn (B1z (use:=some (assign (.Name y py) X.env)) (Q:=fun _ s'=>SP X pins D .next s') rfl hs hcl B.kind B.loc (thn (hi pins s σ H _ I h) fun v s1 h1=>thn h1 fun itv s2 h2=>?_)) fun _ s' hq=>B1 (B1 hq))
 obtain ⟨it,fp,tn,J,H2,e,I2,T,st2,f2,W,⟨m0,w0⟩,turn⟩:=h2
 subst e
 refine VL (RR:=fun acc C=>compPost (model X.prog X.w) X.A X.xe (some (assign (.Name y py) X.env)) (fun _ s'=>SP X pins D .next s') acc C) I2 B.m hsub hhas (R:=fun X=>X.calm=true) (fun _ _ _ _ _=>B.calm) T.gen st2 f2 w0 turn (fun d C acc H' s' m I' hD nsm fC c1 c2 c3 c4 fin=>?_) fun D C e s' z=>z
 refine wpAny_assign_Name (LL I' hN hiN hy (v:=.ref d) rfl (fun s'' I'' ⟨a,sb,ha⟩=>?_) hfn)
 have hCa:C≠a:=by
  rcases ha with z|z
  · rw [z];exact c1
  · exact (c3 y a z).symm
 refine ⟨m,nsm.sameBut sb hCa,fun h' sb'=>⟨_,_,?_,fin d hD⟩⟩
 exact I''.turned (t':=s''.toks) (fun b o hb e=>(sb'.2 b hb).trans e) fC c1 (.inr c2) c3 c4
end
theorem gkeep_name {j:Nat}{map:List (Option Nat)}(h:map[j]?=some none):IB (XJ j) map:=fun v σ H Q q=>by
 refine ⟨⟨by simp,fun j' i hm=>?_⟩,q⟩
 have:j≠j':=fun z=>by rw [z,hm] at h;cases h
 rw [L6 this]
def Bd (n:Nat)(i:Int):Prop:=i.natAbs<2 ^ n
theorem Bd.mono {m n:Nat}{i:Int}(h:Bd m i)(k:m<=n):Bd n i:=M4 h (Nat.pow_le_pow_right (by decide) k)
theorem Bd.mul {m n:Nat}{i j:Int}(h:Bd m i)(k:Bd n j):Bd (m+n) (i*j):=by
 unfold Bd at *
 rw [Int.natAbs_mul,Nat.pow_add]
 exact Nat.mul_lt_mul'' h k
theorem Bd.add {m n:Nat}{i j:Int}(h:Bd m i)(k:Bd n j):Bd (max m n+1) (i+j):=by
 have h':Bd (max m n) i:=h.mono (Nat.le_max_left _ _)
 have k':Bd (max m n) j:=k.mono (Nat.le_max_right _ _)
 unfold Bd at *
 rw [Nat.pow_succ]
 have:=Int.natAbs_add_le i j
 omega
theorem Bd.sub {m n:Nat}{i j:Int}(h:Bd m i)(k:Bd n j):Bd (max m n+1) (i - j):=by
 have h':Bd (max m n) i:=h.mono (Nat.le_max_left _ _)
 have k':Bd (max m n) j:=k.mono (Nat.le_max_right _ _)
 unfold Bd at *
 rw [Nat.pow_succ]
 have:=Int.natAbs_sub_le i j
 omega
theorem Bd.neg {m:Nat}{i:Int}(h:Bd m i):Bd m (-i):=by
 unfold Bd at *
 rw [Int.natAbs_neg]
 exact h
theorem Bd.of {n:Nat}{i:Int}(h1 : -(2 ^ n:Nat)<i)(h2:i<(2 ^ n:Nat)):Bd n i:=by
 unfold Bd
 omega
theorem Bd.lt {n:Nat}{i:Int}(h:Bd n i) : -((2 ^ n:Nat):Int)<i/\i<((2 ^ n:Nat):Int):=by
 unfold Bd at h
 omega
theorem Bd.ediv {n:Nat}{i:Int}(h:Bd n i){d:Int}(hd:0<d):Bd n (i / d):=by
 have h1:=h.lt
 have hp:(0:Int)<((2 ^ n:Nat):Int):=by
  have:0<2 ^ n:=Nat.pow_pos (by decide)
  omega
 refine Bd.of ?_ ?_
 · by_cases hi:0<=i
   · have:=B0w hi (B1m hd)
     omega
   · have h3 : -((2 ^ n:Nat):Int)*d<=-((2 ^ n:Nat):Int)*1:=by
      rw [Int.neg_mul,Int.neg_mul]
      exact Int.neg_le_neg (U9 (by omega) (B1m hp))
     have h4 : -((2 ^ n:Nat):Int)*d<=i - 1+1:=by omega
     have h5:i / d > -((2 ^ n:Nat):Int)\/i / d<=-((2 ^ n:Nat):Int):=by omega
     rcases h5 with q|q
     · exact q
     · have h6:=B1g i d
       have h7:=B0p i (Int.ne_of_gt hd)
       have h8:=B0u i hd
       have h9:d*(i / d)<=d*(-((2 ^ n:Nat):Int)):=U9 q (B1m hd)
       have h10:d*(-((2 ^ n:Nat):Int)) = -((2 ^ n:Nat):Int)*d:=Int.mul_comm _ _
       have h11:d*((2 ^ n:Nat):Int)>=d*1+(((2 ^ n:Nat):Int) - 1):=by
        have:(d - 1)*(((2 ^ n:Nat):Int) - 1)>=0:=B0m (by omega) (by omega)
        rw [Int.sub_mul,Int.mul_sub,Int.mul_sub] at this
        omega
       have h12:d*(-((2 ^ n:Nat):Int)) = -(d*((2 ^ n:Nat):Int)):=Int.mul_neg _ _
       omega
 · by_cases hi:0<=i
   · exact Int.lt_of_le_of_lt (Int.ediv_le_self d hi) h1.2
   · have:i / d<0:=Int.ediv_neg_of_neg_of_pos (by omega) hd
     omega
theorem VM {n:Nat}{i:Int}(h:Bd n i):Builtin.Int.intBits i<=n:=by
 unfold Builtin.Int.intBits
 split
 · exact D2 _
 · rename_i hz
   have h0:i.natAbs≠0:=fun z=>hz (by have:i=0:=Int.natAbs_eq_zero.mp z;simp [this])
   exact (Nat.log2_lt h0).mpr h
def CMulB (i j:Int):Prop:=(∃ m n,Bd m i/\Bd n j/\m+n<=100000000)\/Bd 64 j
def V1e (i j:Int):Prop:=0<j/\∃ n,Bd n j/\n<=9000
section
variable {X:Cx}
theorem Q9:OpR X (binaryOp .Mult) (rI CMulB fun i j=>.int (i*j)):=opI fun i j _ _ _ _ _ hc q=>mul_int q (by
 rcases hc with ⟨m,n,h1,h2,h3⟩|h1
 case inr=>exact .of_right (VM h1)
 have e1:=VM h1
 have e2:=VM h2
 unfold IntMulOk
 have e3:Builtin.Int.intTooBig (Builtin.Int.intBits i+Builtin.Int.intBits j)=false:=by
  unfold Builtin.Int.intTooBig
  refine B0b ?_
  have:bitsLine=134217728:=by unfold bitsLine;decide
  rw [this]
  omega
 rw [e3]
 simp)
theorem EB:OpR X (binaryOp .FloorDiv) (rI V1e fun i j=>.int (i / j)):=opI fun i j _ _ _ _ _ hc q=>by
 obtain ⟨h1,n,h2,h3⟩:=hc
 refine floordiv_int (by omega) (by rw [Int.fdiv_eq_ediv_of_nonneg i (by omega)];exact q) (.inl (PyProof.noPylong_of_log2 ?_))
 have h0:j.natAbs≠0:=by omega
 exact (Nat.log2_lt h0).mpr (h2.mono h3)
end
theorem Same.upd {H:Hp}{p:Addr}{o:HO}(h:H p=none):Same H (upd H p o):=fun b u e=>by rw [V4 (V9 e h)];exact e
def Keep (p:Addr)(H H':Hp):Prop:=∀ b o,b≠p->H b=some o->H' b=some o
theorem Keep.upd {p:Addr}{H:Hp}{o:HO}:Keep p H (upd H p o):=fun b u n e=>by rw [V4 n];exact e
structure Callee (P:Program)(w:World)(K:Fg)(mg:Str->Option Value)(base:Heap)(CX:CXT)(x:Str)(k:Nat)(ps:List Str)(sp:Sp):Prop where
 ex:∃ f fd,FnOk P w K mg base CX k f fd ps sp/\mg x=some (.ref f)/\PySem.W.keepIn K (.ref f)=true/\Binds K fd ps []
section
variable {X:Cx}{k:Nat}{ps:List Str}{sp:Sp}{x:Str}{p pos:Pos}{e:Expr}{es:List Expr}{t:TA}
theorem JL (G:Callee X.prog X.w X.K X.mg X.base CX0 x k ps sp)(hr:Room k X.A)(hg:Gl X x)(ha:PA X (e::es) t)(hdb:(x==("__debug__" : Str))=false:=by decide) (he:starEach (e::es) X.env=(false,eval e X.env)::starEach es X.env:=by rfl) (hpl:(backTo pos (starEach es X.env)).any (·.1)=false:=by rfl) :
 PE X (.Call (.Name x p) (e::es) [] pos) (MS sp [] E0 t):=by
 obtain ⟨f,fd,F,hm,hk,hb⟩:=G.ex
 exact J1a F hr hg hm hk hb .nil Q9f ha hdb he hpl
theorem YB:CB X (.builtin "isinstance") (fun xs H Q=>∃ y c t b,xs=[y,.ty c]/\TyOf X.K H y t/\PySem.W.kitOne X.K t (.type c)=some b/\Q (.bl b) H):=by
 intro pins s σ H xs us Q I r h
 obtain ⟨y,c,t,b,rfl,ty,e,q⟩:=h
 obtain ⟨u,w',rfl,r1,r2⟩:=RQ r
 cases (show w'=Value.type c from r2)
 exact J4c I r1 ty e fun tk=>⟨.bl b,H,I.tok _,rfl,q⟩
end
theorem Callee.mk' {CX:CXT}{x qual:Str}{st:Stmt}{f:Addr} {k:Nat}{ps:List Str}{sp:Sp}(F:Fun K x qual st f fd)(G:FnOk P w K mg base CX k f fd ps sp)(hm:mg x=some (.ref f))(hb:Binds K fd ps []) :
 Callee P w K mg base CX x k ps sp:=⟨f,fd,G,hm,F.kp,hb⟩
theorem J4a {c:Bool}{A B:Prop}(h1:c=true->A)(h2:c=false->B):if c=true then A else B:=by
 cases c with
 | true=>exact Q9r (h1 rfl)
 | false=>exact V1z (h2 rfl)
theorem QO:bootBuiltins "abs" = some (.builtin "abs"):=by decide +kernel
theorem HE:bootBuiltins "len" = some (.builtin "len"):=by decide +kernel
theorem V1:bootBuiltins "isinstance" = some (.builtin "isinstance"):=by decide +kernel
theorem VG:bootBuiltins "max" = some (.builtin "max"):=by decide +kernel
theorem HC:bootBuiltins "min" = some (.builtin "min"):=by decide +kernel
theorem Q7r:bootBuiltins "sum" = some (.builtin "sum"):=by decide +kernel
theorem J0d:bootBuiltins "all" = some (.builtin "all"):=by decide +kernel
theorem J8l:bootBuiltins "any" = some (.builtin "any"):=by decide +kernel
theorem J8k:bootBuiltins "int" = some (.type "int"):=by decide +kernel
theorem J1v:bootBuiltins "bool" = some (.type "bool"):=by decide +kernel
theorem YC:bootBuiltins "tuple" = some (.type "tuple"):=by decide +kernel
theorem VH:bootBuiltins "list" = some (.type "list"):=by decide +kernel
theorem Q7q:bootBuiltins "zip" = some (.type "zip"):=by decide +kernel
theorem VI:bootBuiltins "enumerate" = some (.type "enumerate"):=by decide +kernel
theorem RO:bootBuiltins "ValueError" = some (.type "ValueError"):=by decide +kernel
theorem Same.get {H H':Hp}{a:Addr}{o:HO}(S:Same H H')(h:H a=some o):H' a=some o:=S a o h
theorem Keep.get {p:Addr}{H H':Hp}{a:Addr}{o:HO}(S:Keep p H H')(n:a≠p)(h:H a=some o):H' a=some o:=S a o n h
theorem rd_mul {i j:Int}{m n:Nat}{Q:Prop}(h1:Bd m i)(h2:Bd n j)(h3:m+n<=100000000)(q:Q):CMulB i j/\Q:=⟨.inl ⟨m,n,h1,h2,h3⟩,q⟩
theorem Bd.num (i:Int)(h:i.natAbs<18446744073709551616):Bd 64 i:=h
theorem AF:1000<=sizeLine:=by decide
theorem J7q {p:Prop}[Decidable p](h:decide p=true):p:=B0a h
theorem V0h {p:Prop}[Decidable p](h:decide p=false):¬ p:=of_decide_eq_false h
def Bag (H:Hp)(p:Addr):Prop:=∃ f m:Int,H p=some (.lst [.int f,.int m])/\0<=f/\0<=m/\m<2147483647
theorem Bag.mk' {H:Hp}{p:Addr}{f m:Int}(h0:0<=f)(h1:0<=m)(h2:m<2147483647):Bag (upd H p (.lst [.int f,.int m])) p:=⟨f,m,V5,h0,h1,h2⟩
theorem Bag.ne {H:Hp}{p a:Addr}{xs:List V}(b:Bag H p)(h:H a=some (.tup xs)):a≠p:=by
 obtain ⟨f,m,e,_⟩:=b
 exact Q9p h e (by intro z;cases z)
def J9e (p:Addr)(many:Int)(H:Hp)(Q:VK):Prop:=∀ (r:Int) H',0<=r->r<many->Bag H' p->Keep p H H'->Q (.int r) H'
theorem CMulB.right {i j:Int}(h:Bd 64 j):CMulB i j:=.inr h
theorem Keep.tup {p:Addr}{H H':Hp}{a:Addr}{xs:List V}(S:Keep p H H')(b:Bag H p)(h:H a=some (.tup xs)):H' a=some (.tup xs):=S a _ (b.ne h) h
theorem J7e {a b:Int}(ha:0<=a)(hb:0<b):Int.gcd b (a % b)=Int.gcd a b:=by
 rw [Int.gcd_comm a b]
 have e:a % b=a - b*(a / b):=by have:=B1g a b;omega
 rw [e]
 apply Nat.dvd_antisymm
 · apply Int.dvd_gcd
   · exact B3f ..
   · have h1:((Int.gcd b (a - b*(a / b)):Nat):Int) ∣ b:=B3f ..
     have h2:((Int.gcd b (a - b*(a / b)):Nat):Int) ∣ a - b*(a / b):=Int.gcd_dvd_right ..
     have h3:=Int.dvd_add h2 (Int.dvd_trans h1 (Int.dvd_mul_right b (a / b)))
     have e3:a - b*(a / b)+b*(a / b)=a:=by omega
     rw [e3] at h3
     exact h3
 · apply Int.dvd_gcd
   · exact B3f ..
   · have h1:((Int.gcd b a:Nat):Int) ∣ b:=B3f ..
     have h2:((Int.gcd b a:Nat):Int) ∣ a:=Int.gcd_dvd_right ..
     exact Int.dvd_sub h2 (Int.dvd_trans h1 (Int.dvd_mul_right b (a / b)))
theorem Z4 (l:List Str)(h:l.Nodup):l.Nodup:=h
section
variable {X:Cx}{l:Expr}
theorem J1f (K:Fg)(h:X.K=K):IxR X (J3a K):=by subst h;exact Q5q
theorem CL (K:Fg)(h:X.K=K):IxR X (J5q K):=by subst h;exact UR
theorem AO {es:List Expr}{k:Nat}{t:TGs}{n:Nat}{pos:Pos}(K:Fg)(h:X.K=K)(hc:X.calm=true)(hs:PGs X es t)(hn:(assignEach es X.env).length=n:=by rfl)(hst:(assignEach es X.env).findIdx? (·.1)=none:=by rfl):PG X (.Tuple es k pos) (Q5w K n t):=by subst h;exact Q5b hc hs hn hst
theorem BC (K:Fg)(h:X.K=K):CB X (.builtin "len") (fun xs H Q=>∃ p ys,xs=[.ref p]/\(SqL K H p ys\/SqT K H p ys)/\Q (.int ys.length) H):=by subst h;exact VF
theorem RM (K:Fg)(h:X.K=K):CB X (.type "list") (fun xs H Q=>∃ p ys,xs=[.ref p]/\(SqL K H p ys\/SqT K H p ys)/\∀ l,H l=none->Q (.ref l) (upd H l (.lst ys))):=by subst h;exact VE
theorem LW {a:Expr}{ta:TE}(K:Fg)(h:X.K=K)(ha:PE X a ta)(he:∀ whole,isTrue a X.env whole=(do let v <- whole;standAt a.pos;holding [v] (truthy v))):PT X a (fun σ H Q=>ta σ H fun x H'=>∃ k,Q7u K x H' k/\Q k H'):=by subst h;exact J5s ha he
end
theorem FC:∀ {ns:List Int} {us:List Value},Vals (ns.map V.int) us->∃ xs:List (Int×Tok),us=xs.map (fun p=>Value.int p.1 p.2)/\xs.map (·.1)=ns
 | [],us,r=>by
   cases r
   exact ⟨[],rfl,rfl⟩
 | n::ns,us,r=>by
   cases r with
   | cons r1 r2 =>
     obtain ⟨t,rfl⟩:=r1
     obtain ⟨xs,e1,e2⟩:=FC r2
     exact ⟨(n,t)::xs,by rw [e1];rfl,by rw [<- e2];rfl⟩
theorem CH (xs:List (Int×Tok)):intItems xs.toArray=(xs.map fun p=>Value.int p.1 p.2).toArray:=by simp [intItems]
theorem BP (xs:List (Int×Tok))(i:Nat):numAt xs.toArray i=((xs.map (·.1))[i]?).getD 0:=by simp [numAt]
section
variable {X:Cx}
theorem ML (K:Fg)(hK:X.K=K)(hc:X.calm=true):CB X (.builtin "max") (fun xs H Q=>∃ (p:Addr) (ns:List Int),xs=[.ref p]/\SqL K H p (ns.map V.int)/\0<ns.length/\∀ M:Int,M∈ns->(∀ a∈ns,a<=M)->Q (.int M) H):=by
 subst hK
 intro pins s σ H xs us Q I r h
 obtain ⟨p,ns,rfl,hq,hn,q⟩:=h
 obtain ⟨u,rfl,rx⟩:=KG r
 cases rx
 obtain ⟨its,rv,pl,hz⟩:=I.list hq
 obtain ⟨ps,e1,e2⟩:=FC rv
 subst e1
 have hlen:ps.length=ns.length:=by rw [<- e2,B9]
 have hl:=pl.isList
 rw [<- CH] at hl
 refine max_intList (xs:=ps.toArray) (I.ok.hd hc) hl (by simp;omega) fun v h' tk hv k=>?_
 obtain ⟨t,e⟩:=intItems_at hv
 obtain ⟨b1,b2⟩:=argBest_gt (numAt ps.toArray) (ps.toArray.size - 1)
 subst e
 refine ⟨.int _,H,I.kept k,⟨t,rfl⟩,q _ ?_ ?_⟩
 · rw [BP,e2]
   have hj:argBest (fun i j=>decide (numAt ps.toArray i>numAt ps.toArray j)) (ps.toArray.size - 1)<ns.length:=by
    have:ps.toArray.size=ns.length:=by simp [hlen]
    omega
   rw [M5 hj]
   exact W5 hj
 · intro a ha
   obtain ⟨j,hj,rfl⟩:=B3k.mp ha
   have:=b2 j (by have:ps.toArray.size=ns.length:=(by simp [hlen]);omega)
   rw [BP,e2,M5 hj] at this
   exact this
end
section
variable {X:Cx}
theorem J4q (K:Fg)(hK:X.K=K)(hc:X.calm=true):CB X (.builtin "sum") (fun xs H Q=>∃ (p:Addr) (ns:List Int),xs=[.ref p]/\SqL K H p (ns.map V.int)/\Q (.int ns.sum) H):=by
 subst hK
 intro pins s σ H xs us Q I r h
 obtain ⟨p,ns,rfl,hq,q⟩:=h
 obtain ⟨u,rfl,rx⟩:=KG r
 cases rx
 obtain ⟨its,rv,pl,hz⟩:=I.list hq
 obtain ⟨ps,e1,e2⟩:=FC rv
 subst e1
 have hl:=pl.isList
 rw [<- CH] at hl
 refine sum_intListG (xs:=ps.toArray) (I.ok.hd hc) hl fun h' tk t' k=>?_
 refine ⟨.int ns.sum,H,I.kept k,⟨t',?_⟩,q⟩
 rw [preSum_eq,List.take_of_length_le (by simp)]
 show Value.int ((ps.map (·.1)).sum) t'=_
 rw [e2]
theorem MN:∀ {bs:List Bool} {us:List Value},Vals (bs.map V.bl) us->us=bs.map Value.bool
 | [],us,r=>by
   cases r
   rfl
 | b::bs,us,r=>by
   cases r with
   | cons r1 r2 =>
     cases r1
     rw [MN r2]
     rfl
theorem MT (bs:List Bool):(List.range bs.length).map (fun i=>bs[i]?.getD false)=bs:=by
 apply List.ext_getElem
 · simp
 · intro i h1 h2
   simp at h1
   simp [h1]
theorem MM (K:Fg)(hK:X.K=K)(hc:X.calm=true):CB X (.builtin "all") (fun xs H Q=>∃ (p:Addr) (bs:List Bool),xs=[.ref p]/\SqL K H p (bs.map V.bl)/\Q (.bl (bs.all id)) H):=by
 subst hK
 intro pins s σ H xs us Q I r h
 obtain ⟨p,bs,rfl,hq,q⟩:=h
 obtain ⟨u,rfl,rx⟩:=KG r
 cases rx
 obtain ⟨its,rv,pl,hz⟩:=I.list hq
 have e1:=MN rv
 subst e1
 have hl:=pl.isList
 have hlt:p<s.heap.objs.size:=by obtain ⟨_,e,_⟩:=hl;exact B4 e
 refine call_all_walk (B2m hl ?_)
 refine ⟨_,_,_,_,_,_,(fun i=>bs[i]?.getD false),rfl,Walks.list (A:=X.A.in1) (I.ok.hd hc) _ p (R8 hlt) (bs.map Value.bool).toArray,⟨⟨_,L7 _ rfl,rfl,rfl⟩,hl.push _⟩,?_,fun h' tk hk=>?_⟩
 · intro i v s' Q' E' hv hq'
   have e:bs[i]?.map Value.bool=some v:=by simpa using hv
   cases hb:bs[i]? with
   | none=>rw [hb] at e;cases e
   | some b =>
     rw [hb] at e
     cases e
     have hq'':Q' (bs[i]?.getD false) s':=hq'
     rw [hb] at hq''
     exact B0r hq''
 · have ea:(List.range (bs.map Value.bool).toArray.size).all (fun i=>bs[i]?.getD false)=bs.all id:=by
    have:=D7 (fun l:List Bool=>l.all id) (MT bs)
    simpa [List.all_map] using this
   rw [ea]
   refine ⟨.bl (bs.all id),H,I.kept fun b o e=>hk b o (fun hm=>?_) (B2 _ e),rfl,q⟩
   have:b=s.heap.objs.size:=by simpa using hm
   exact absurd (this▸B4 e) (M9 _)
theorem SY (K:Fg)(hK:X.K=K)(hc:X.calm=true):CB X (.builtin "any") (fun xs H Q=>∃ (p:Addr) (bs:List Bool),xs=[.ref p]/\SqL K H p (bs.map V.bl)/\Q (.bl (bs.any id)) H):=by
 subst hK
 intro pins s σ H xs us Q I r h
 obtain ⟨p,bs,rfl,hq,q⟩:=h
 obtain ⟨u,rfl,rx⟩:=KG r
 cases rx
 obtain ⟨its,rv,pl,hz⟩:=I.list hq
 have e1:=MN rv
 subst e1
 have hl:=pl.isList
 have hlt:p<s.heap.objs.size:=by obtain ⟨_,e,_⟩:=hl;exact B4 e
 refine call_any_walk (B2m hl ?_)
 refine ⟨_,_,_,_,_,_,(fun i=>bs[i]?.getD false),rfl,Walks.list (A:=X.A.in1) (I.ok.hd hc) _ p (R8 hlt) (bs.map Value.bool).toArray,⟨⟨_,L7 _ rfl,rfl,rfl⟩,hl.push _⟩,?_,fun h' tk hk=>?_⟩
 · intro i v s' Q' E' hv hq'
   have e:bs[i]?.map Value.bool=some v:=by simpa using hv
   cases hb:bs[i]? with
   | none=>rw [hb] at e;cases e
   | some b =>
     rw [hb] at e
     cases e
     have hq'':Q' (bs[i]?.getD false) s':=hq'
     rw [hb] at hq''
     exact B0r hq''
 · have ea:(List.range (bs.map Value.bool).toArray.size).any (fun i=>bs[i]?.getD false)=bs.any id:=by
    have:=D7 (fun l:List Bool=>l.any id) (MT bs)
    simpa [List.any_map] using this
   rw [ea]
   refine ⟨.bl (bs.any id),H,I.kept fun b o e=>hk b o (fun hm=>?_) (B2 _ e),rfl,q⟩
   have:b=s.heap.objs.size:=by simpa using hm
   exact absurd (this▸B4 e) (M9 _)
end
section
variable {X:Cx}
theorem J4s (K:Fg)(hK:X.K=K)(hc:X.calm=true):CB X (.builtin "min") (fun xs H Q=>∃ (p:Addr) (ns:List Int),xs=[.ref p]/\SqL K H p (ns.map V.int)/\0<ns.length/\∀ M:Int,M∈ns->(∀ a∈ns,M<=a)->Q (.int M) H):=by
 subst hK
 intro pins s σ H xs us Q I r h
 obtain ⟨p,ns,rfl,hq,hn,q⟩:=h
 obtain ⟨u,rfl,rx⟩:=KG r
 cases rx
 obtain ⟨its,rv,pl,hz⟩:=I.list hq
 obtain ⟨ps,e1,e2⟩:=FC rv
 subst e1
 have hlen:ps.length=ns.length:=by rw [<- e2,B9]
 have hl:=pl.isList
 rw [<- CH] at hl
 refine min_intList (xs:=ps.toArray) (I.ok.hd hc) hl (by simp;omega) fun v h' tk hv k=>?_
 obtain ⟨t,e⟩:=intItems_at hv
 obtain ⟨b1,b2⟩:=argBest_lt (numAt ps.toArray) (ps.toArray.size - 1)
 subst e
 refine ⟨.int _,H,I.kept k,⟨t,rfl⟩,q _ ?_ ?_⟩
 · rw [BP,e2]
   have hj:argBest (fun i j=>decide (numAt ps.toArray i<numAt ps.toArray j)) (ps.toArray.size - 1)<ns.length:=by
    have:ps.toArray.size=ns.length:=by simp [hlen]
    omega
   rw [M5 hj]
   exact W5 hj
 · intro a ha
   obtain ⟨j,hj,rfl⟩:=B3k.mp ha
   have:=b2 j (by have:ps.toArray.size=ns.length:=(by simp [hlen]);omega)
   rw [BP ps j,e2,M5 hj] at this
   exact this
end
section
variable {prog:Program}{w:World}{A:Around}{E:Value->Shared->Prop}{s:Shared}
theorem ZL {u t:Addr}{j:Nat}{its}{v:Value}{Q:Value->Shared->Prop}(a1:s.heap.IsTupleIter u t j)(a2:s.heap.IsTuple t its)(a3:its[j]?=some v)
 (q:∀ h',h'.IsTupleIter u t (j+1)->Heap.SameBut u s.heap h'->Q v { s with heap:=h' }):wpAny (model prog w) A (Builtin.SmallTypes.nextOf (.ref u)) Q E s:=by
 obtain ⟨oi,b1,b2,b3⟩:=id a1
 obtain ⟨ot,c1,_,nt,c2⟩:=a2
 unfold Builtin.SmallTypes.nextOf
 refine B0 (wpAny_callSpecial?_slot (name:=Str.ofString "__next__") a1.typeIs B1s (E7 B1s a1.typeIs F.entry_tuple_iterator_next ?_ (F.args_tuple_iterator_next_1 _)))
 show wpAny _ _ (field (.ref u) 0 >>= _) _ _ s
 refine B0 (T6 b1 b3 (x:=.ref t) rfl ?_)
 show wpAny _ _ (if (Value.ref t==Value.none)=true then _ else _) _ _ s;rw [if_neg (show ¬ ((Value.ref t==Value.none)=true) from L9)]
 show wpAny _ _ (field (.ref u) 1 >>= _) _ _ s
 refine B0 (T6 b1 b3 (x:=.int j 0) rfl ?_)
 show wpAny _ _ (seqItems? (.ref t) >>= _) _ _ s;refine B0 (B1p c1 c2 ?_)
 simp only [W8,a3]
 refine B0 (B0f b1 b3 (by simp) (B1 ⟨v,rfl,B1 (q _ ⟨_,B0e _ b1 (B0l (W3 b3 _)),(B2n ..).trans b2,by rw [W3 b3];simp [rawInt]⟩ (B0v ..))⟩))
theorem J3l {u t:Addr}{j:Nat}{its}{Q:Value->Shared->Prop}(a0:A.handled=none)(a1:s.heap.IsTupleIter u t j)(a2:s.heap.IsTuple t its)(a3:its[j]?=none)
 (q:∀ h' e,Heap.ExtBut u s.heap h'->(∃ o,h'.get? e=some o/\o.cls=.type "StopIteration")->E (.ref e) { s with heap:=h' }):wpAny (model prog w) A (Builtin.SmallTypes.nextOf (.ref u)) Q E s:=by
 obtain ⟨oi,b1,b2,b3⟩:=id a1
 obtain ⟨ot,c1,_,nt,c2⟩:=a2
 unfold Builtin.SmallTypes.nextOf
 refine B0 (wpAny_callSpecial?_slot (name:=Str.ofString "__next__") a1.typeIs B1s (E7 B1s a1.typeIs F.entry_tuple_iterator_next ?_ (F.args_tuple_iterator_next_1 _)))
 show wpAny _ _ (field (.ref u) 0 >>= _) _ _ s
 refine B0 (T6 b1 b3 (x:=.ref t) rfl ?_)
 show wpAny _ _ (if (Value.ref t==Value.none)=true then _ else _) _ _ s;rw [if_neg (show ¬ ((Value.ref t==Value.none)=true) from L9)]
 show wpAny _ _ (field (.ref u) 1 >>= _) _ _ s
 refine B0 (T6 b1 b3 (x:=.int j 0) rfl ?_)
 show wpAny _ _ (seqItems? (.ref t) >>= _) _ _ s;refine B0 (B1p c1 c2 ?_)
 simp only [W8,a3]
 refine B0 (B2h (B0 (B0f b1 b3 (by simp) ?_)))
 show wpAny _ _ (newExc (.type "StopIteration") [] >>= _) _ _ _;refine B0 ?_;simp only [newExc,newTuple]
 refine B0 (R9 ?_ (by size_fits));refine B0 (m:=firstArgMember _ _) (B3g (a:=Value.none) (by first|rfl|(simp only [firstArgMember];rfl)) ?_)
 refine R9 ?_ (by size_fits);simp only [raiseNew];refine B0 (wpAny_handled ?_)
 first|rw [show A.in1.handled=none from a0]|rw [a0]
 refine B0 (B1 (wpAny_throw (q _ _ (((B0v ..).extBut.push _).push _) ⟨_,L7 _ rfl,rfl⟩)))
def ItAt (b:Bool)(h:Heap)(u l:Addr)(j:Nat):Prop:=match b with|false=>h.IsListIter u l j|true=>h.IsTupleIter u l j
def SeqAt (b:Bool)(h:Heap)(l:Addr)(xs:Array Value):Prop:=match b with|false=>h.IsList l xs|true=>h.IsTuple l xs
theorem ItAt.at {b:Bool}{h h':Heap}{u l:Addr}{j:Nat}(x:ItAt b h u l j)(k:∀ o,h.get? u=some o->h'.get? u=some o):ItAt b h' u l j:=by
 cases b with
 | false=>exact Heap.IsListIter.at x k
 | true=>exact Heap.IsTupleIter.at x k
theorem SeqAt.at {b:Bool}{h h':Heap}{l:Addr}{xs:Array Value}(x:SeqAt b h l xs)(k:∀ o,h.get? l=some o->h'.get? l=some o):SeqAt b h' l xs:=by
 cases b with
 | false=>obtain ⟨o,e,r⟩:=x;exact ⟨o,k o e,r⟩
 | true=>obtain ⟨o,e,r⟩:=x;exact ⟨o,k o e,r⟩
theorem ItAt.obj {b:Bool}{h:Heap}{u l:Addr}{j:Nat}(x:ItAt b h u l j):∃ o,h.get? u=some o/\∀ v,o.data≠.cell v:=by
 cases b with
 | false=>obtain ⟨o,e,c,d⟩:=x;exact ⟨o,e,fun v z=>by rw [d] at z;cases z⟩
 | true=>obtain ⟨o,e,c,d⟩:=x;exact ⟨o,e,fun v z=>by rw [d] at z;cases z⟩
theorem WC {b:Bool}{u l:Addr}{j:Nat}{xs:Array Value}{v:Value}{Q:Value->Shared->Prop}(a1:ItAt b s.heap u l j)(a2:SeqAt b s.heap l xs)(a3:xs[j]?=some v)
 (q:∀ h',ItAt b h' u l (j+1)->Heap.SameBut u s.heap h'->Q v { s with heap:=h' }):wpAny (model prog w) A (Builtin.SmallTypes.nextOf (.ref u)) Q E s:=by
 cases b with
 | false=>exact wpAny_nextOf_list_item a1 a2 a3 q
 | true=>exact ZL a1 a2 a3 q
theorem J9w {b:Bool}{u l:Addr}{j:Nat}{xs:Array Value}{Q:Value->Shared->Prop}(a0:A.handled=none)(a1:ItAt b s.heap u l j)(a2:SeqAt b s.heap l xs)(a3:xs[j]?=none)
 (q:∀ h' e,Heap.ExtBut u s.heap h'->(∃ o,h'.get? e=some o/\o.cls=.type "StopIteration")->E (.ref e) { s with heap:=h' }):wpAny (model prog w) A (Builtin.SmallTypes.nextOf (.ref u)) Q E s:=by
 cases b with
 | false=>exact wpAny_nextOf_list_end a0 a1 a2 a3 q
 | true=>exact J3l a0 a1 a2 a3 q
abbrev DJ (h:Heap)(T:Addr)(vs:Array Value):Prop:=h.get? T=some { cls:=.type "tuple",data:=.seq vs }
theorem RS {T:Addr}{vs:Array Value}{v:Value}{k:Nat}{Q:Unit->Shared->Prop}(hv:vs.size<=1000)(hT:DJ s.heap T vs)
 (q:∀ h',DJ h' T (vs.setIfInBounds k v)->Heap.SameBut T s.heap h'->Q () { s with heap:=h' }):wpAny (model prog w) A (updateSeq T (·.setIfInBounds k v)) Q E s:=by
 have z1:vs.size<=sizeLine:=R5 hv AF
 refine wpAny_updateSeq hT rfl (q _ ?_ (B0v ..)) (hz:=z1) (_hz':=by simp;omega)
 show Heap.get? _ T=_
 rw [B0e _ hT rfl];simp [Obj.mapSeq]
end
section
variable {X:Cx}{pins:List (Addr×Obj)}{σ:St}{H:Hp}{s:Shared}{h':Heap}
theorem Inv.zipped {fp:List Addr}{T:Addr}{o:HO}{t':Nat}(I:Inv X pins σ H s)(hf:∀ b∈fp,HF X pins H b)(k:∀ b o,b∉fp->s.heap.get? b=some o->h'.get? b=some o)(hT:s.heap.objs.size<=T)
 (new:ObjOk X.prog X.w (upd H T o) h' T o):Inv X pins σ (upd H T o) { s with heap:=h',toks:=t' }:=by
 have hn:H T=none:=I.hok.fresh hT
 have ne:∀ b u,s.heap.get? b=some u->b≠T:=fun b u e z=>absurd (B4 e) (by rw [z];exact Nat.not_lt.mpr hT)
 have nfp:∀ b u,H b=some u->b∉fp:=fun b u e hb=>by rw [(hf b hb).1] at e;cases e
 refine I.step (g':=s.gens) (d':=s.drawn) (ch:=fp) (fun b hb=>?_) (fun b o _ _ hc e _=>k b o hc e) (fun b o _ _ hc e _=>⟨o.slots,k b o hc e⟩) (fun b u _ e n=>by rw [V4 (ne b u e)];exact n)
  (fun b o hc e=>⟨o,k b o hc e⟩) (fun b xs e=>by rw [V4 (V9 e hn)];exact e) (fun b o u e=>by rw [V4 (V9 e hn)];exact e) (fun b ps e=>⟨#[],by rw [V4 (V9 e hn),e];simp⟩) (fun m hm=>?_) (fun b u e=>?_) I.bare
 · obtain ⟨_,f1,_,f3,f4,f5⟩:=hf b hb
   exact ⟨f3,f1,f4,f5⟩
 · obtain ⟨o,es,ep,ho,r⟩:=hm
   exact ⟨o,es,ep,k _ o (fun hb=>(hf _ hb).2.1 rfl) ho,r⟩
 · by_cases hb:b=T
   · subst hb
     rw [V5] at e
     cases e
     exact new
   · rw [V4 hb] at e
     refine (I.hok b u e).stay (fun c v hc q=>k c v ?_ q) (fun c q=>by rw [V4 (V9 q hn)];exact q) fun c xs q=>by rw [V4 (V9 q hn)];exact q
     rcases hc with z|z
     · rw [z];exact nfp b u e
     · exact nfp c _ z
theorem Inv.turnedL {fp:List Addr}{t':Nat}(I:Inv X pins σ H s)(hf:∀ b∈fp,HF X pins H b)(k:∀ b o,b∉fp->s.heap.get? b=some o->h'.get? b=some o):Inv X pins σ H { s with heap:=h',toks:=t' }:=by
 have nfp:∀ b u,H b=some u->b∉fp:=fun b u e hb=>by rw [(hf b hb).1] at e;cases e
 refine I.step (g':=s.gens) (d':=s.drawn) (ch:=fp) (fun b hb=>?_) (fun b o _ _ hc e _=>k b o hc e) (fun b o _ _ hc e _=>⟨o.slots,k b o hc e⟩) (fun b u _ e n=>n)
  (fun b o hc e=>⟨o,k b o hc e⟩) (fun b xs e=>e) (fun b o u e=>e) (fun b ps e=>⟨#[],by rw [e];simp⟩) (fun m hm=>?_) (fun b u e=>?_) I.bare
 · obtain ⟨_,f1,_,f3,f4,f5⟩:=hf b hb
   exact ⟨f3,f1,f4,f5⟩
 · obtain ⟨o,es,ep,ho,r⟩:=hm
   exact ⟨o,es,ep,k _ o (fun hb=>(hf _ hb).2.1 rfl) ho,r⟩
 · refine (I.hok b u e).stay (fun c v hc q=>k c v ?_ q) (fun c q=>q) fun c xs q=>q
   rcases hc with z|z
   · rw [z];exact nfp b u e
   · exact nfp c _ z
def SqX (K:Fg)(b:Bool)(H:Hp)(a:Addr)(xs:List V):Prop:=match b with|false=>SqL K H a xs|true=>SqT K H a xs
theorem Inv.seqX {b:Bool}{a:Addr}{xs:List V}(I:Inv X pins σ H s)(h:SqX X.K b H a xs):∃ its:List Value,Vals xs its/\SeqAt b s.heap a its.toArray/\xs.length<=sizeLine:=by
 cases b with
 | false=>obtain ⟨its,r,p,z⟩:=I.list h;exact ⟨its,r,p.isList,z⟩
 | true=>obtain ⟨its,r,p,z⟩:=I.tuple h;exact ⟨its,r,p,z⟩
theorem Inv.seqX_inj {b:Bool}{a:Addr}{xs ys:List V}(I:Inv X pins σ H s)(h:SqX X.K b H a xs)(h':SqX X.K b H a ys):xs=ys:=by
 cases b with
 | false=>exact I.list_inj h h'
 | true=>exact I.tuple_inj h h'
theorem Inv.seqX_ne {b:Bool}{a:Addr}{xs:List V}{c:Addr}(I:Inv X pins σ H s)(h:SqX X.K b H a xs)(f:HF X pins H c):a≠c:=by
 intro e
 subst e
 have base:∀ {o:Obj},X.base.get? a=some o->False:=fun {o} q=>by
  rcases f.2.2.2.1 with z|z
  · exact I.ok.noex a o q z
  · exact absurd (B4 (I.ok.bs a o q).1) (Nat.not_lt.mpr z)
 cases b with
 | false =>
   rcases h with (h|⟨o,h⟩)|⟨o,_,_,h,_⟩
   · rw [f.1] at h;cases h
   · rw [f.1] at h;cases h
   · exact base (I.ok.mod.kin _ _ h)
 | true =>
   rcases h with (h|⟨o,h⟩)|⟨o,_,_,h,_⟩
   · rw [f.1] at h;cases h
   · rw [f.1] at h;cases h
   · exact base (I.ok.mod.kin _ _ h)
end
section
variable {prog:Program}{w:World}{A:Around}{E:Value->Shared->Prop}{s:Shared}
structure ZAp2 (z TI TO i1 i2 l1 l2:Addr):Prop where
 z_TI:z≠TI
 z_TO:z≠TO
 z_i1:z≠i1
 z_i2:z≠i2
 TI_z:TI≠z
 TI_TO:TI≠TO
 TI_i1:TI≠i1
 TI_i2:TI≠i2
 TO_z:TO≠z
 TO_TI:TO≠TI
 TO_i1:TO≠i1
 TO_i2:TO≠i2
 i1_z:i1≠z
 i1_TI:i1≠TI
 i1_TO:i1≠TO
 i1_i2:i1≠i2
 i2_z:i2≠z
 i2_TI:i2≠TI
 i2_TO:i2≠TO
 i2_i1:i2≠i1
 l1_z:l1≠z
 l1_TI:l1≠TI
 l1_TO:l1≠TO
 l1_i1:l1≠i1
 l1_i2:l1≠i2
 l2_z:l2≠z
 l2_TI:l2≠TI
 l2_TO:l2≠TO
 l2_i1:l2≠i1
 l2_i2:l2≠i2
theorem J2h {b1 b2:Bool}{z TI TO i1 i2 l1 l2:Addr}{k:Nat}{xs1 xs2:Array Value}{x1 x2 a1 a2:Value}{Q:Value->Shared->Prop}(D:ZAp2 z TI TO i1 i2 l1 l2)(hz:IsZip s.heap z TI TO .none)(hI:DJ s.heap TI #[.ref i1,.ref i2])(hO:DJ s.heap TO #[a1,a2])(d1:ItAt b1 s.heap i1 l1 k)(g1:SeqAt b1 s.heap l1 xs1)(d2:ItAt b2 s.heap i2 l2 k)(g2:SeqAt b2 s.heap l2 xs2)
 (e1:xs1[k]?=some x1) (e2:xs2[k]?=some x2)
 (q:∀ h',IsZip h' z TI TO (rawInt s.heap.objs.size)->DJ h' TO #[x1,x2]->ItAt b1 h' i1 l1 (k+1)->ItAt b2 h' i2 l2 (k+1)->DJ h' s.heap.objs.size #[x1,x2]->(∀ c o,c≠z->c≠TO->c≠i1->c≠i2->s.heap.get? c=some o->h'.get? c=some o)->Q (.ref s.heap.objs.size) { s with heap:=h' }) :
 wpAny (model prog w) A (Builtin.«zip.__next__» ⟨[.ref z],[]⟩) (fun fin s'=>∃ v,fin=.done (.ret v)/\Q v s') E s:=by
 show wpAny _ _ (field (.ref z) 2 >>= _) _ _ _;refine B0 (T6 hz rfl (x:=.bool false) rfl ?_)
 show wpAny _ _ (field (.ref z) 3 >>= _) _ _ _;refine B0 (T6 hz rfl (x:=.ref TI) rfl ?_)
 refine B0 (B1p hI rfl ?_)
 show wpAny _ _ (Builtin.SmallTypes.ownedTupleIsFree (.ref z) >>= _) _ _ _;refine B0 ?_;unfold Builtin.SmallTypes.ownedTupleIsFree
 refine B0 (T6 hz rfl (x:=.none) rfl (B1 ?_));simp only [if_true];refine B0 (B2h ?_)
 refine B0 (T6 hz rfl (x:=.ref TO) rfl ?_);refine B0 (B2g hz (by simp) fun p0 z0 m0=>?_)
 replace z0:IsZip p0 z TI TO .ellipsis:=z0
 have y0:DJ p0 TO #[a1,a2]:=m0.extBut _ _ D.TO_z hO
 have w0:∀ c o,c≠z->c≠TO->c≠i1->c≠i2->s.heap.get? c=some o->p0.get? c=some o:=fun c o c1 _ _ _ e=>m0.extBut _ _ c1 e
 have r0:p0.objs.size=s.heap.objs.size:=m0.1
 have d1_0:ItAt b1 p0 i1 l1 k:=d1.at fun o e=>m0.extBut _ _ D.i1_z e
 have g1_0:SeqAt b1 p0 l1 xs1:=g1.at fun o e=>m0.extBut _ _ D.l1_z e
 have d2_0:ItAt b2 p0 i2 l2 k:=d2.at fun o e=>m0.extBut _ _ D.i2_z e
 have g2_0:SeqAt b2 p0 l2 xs2:=g2.at fun o e=>m0.extBut _ _ D.l2_z e
 refine B0 ?_;simp only [List.zipIdx_cons,List.zipIdx_nil,B1t,B2v]
 refine B0 (B0 (wpAny_onRaise ?_));show wpAny _ _ (Builtin.SmallTypes.nextOf (.ref i1) >>= _) _ _ _
 refine B0 (WC d1_0 g1_0 e1 fun u1 t1 n1=>B1 ?_)
 have v1:DJ u1 TO #[a1,a2]:=n1.extBut _ _ D.TO_i1 y0
 refine B0 (B1p v1 rfl ?_);refine B0 (RS (R3 rfl) v1 fun p1 y1 m1=>?_)
 replace y1:DJ p1 TO #[x1,a2]:=y1
 have z1:IsZip p1 z TI TO .ellipsis:=m1.extBut _ _ D.z_TO (n1.extBut _ _ D.z_i1 z0)
 have w1:∀ c o,c≠z->c≠TO->c≠i1->c≠i2->s.heap.get? c=some o->p1.get? c=some o:=fun c o c1 c2 c3 c4 e=>m1.extBut _ _ c2 (n1.extBut _ _ c3 (w0 c o c1 c2 c3 c4 e))
 have r1:p1.objs.size=s.heap.objs.size:=by rw [m1.1,n1.1];exact r0
 have d1_1:ItAt b1 p1 i1 l1 (k+1):=t1.at fun o e=>m1.extBut _ _ D.i1_TO e
 have d2_1:ItAt b2 p1 i2 l2 k:=(d2_0.at fun o e=>n1.extBut _ _ D.i2_i1 e).at fun o e=>m1.extBut _ _ D.i2_TO e
 have g2_1:SeqAt b2 p1 l2 xs2:=(g2_0.at fun o e=>n1.extBut _ _ D.l2_i1 e).at fun o e=>m1.extBut _ _ D.l2_TO e
 refine B0 (wpAny_letGo (B1 ?_))
 refine B0 (B0 (wpAny_onRaise ?_));show wpAny _ _ (Builtin.SmallTypes.nextOf (.ref i2) >>= _) _ _ _
 refine B0 (WC d2_1 g2_1 e2 fun u2 t2 n2=>B1 ?_)
 have v2:DJ u2 TO #[x1,a2]:=n2.extBut _ _ D.TO_i2 y1
 refine B0 (B1p v2 rfl ?_);refine B0 (RS (R3 rfl) v2 fun p2 y2 m2=>?_)
 replace y2:DJ p2 TO #[x1,x2]:=y2
 have z2:IsZip p2 z TI TO .ellipsis:=m2.extBut _ _ D.z_TO (n2.extBut _ _ D.z_i2 z1)
 have w2:∀ c o,c≠z->c≠TO->c≠i1->c≠i2->s.heap.get? c=some o->p2.get? c=some o:=fun c o c1 c2 c3 c4 e=>m2.extBut _ _ c2 (n2.extBut _ _ c4 (w1 c o c1 c2 c3 c4 e))
 have r2:p2.objs.size=s.heap.objs.size:=by rw [m2.1,n2.1];exact r1
 have d1_2:ItAt b1 p2 i1 l1 (k+1):=(d1_1.at fun o e=>n2.extBut _ _ D.i1_i2 e).at fun o e=>m2.extBut _ _ D.i1_TO e
 have d2_2:ItAt b2 p2 i2 l2 (k+1):=t2.at fun o e=>m2.extBut _ _ D.i2_TO e
 refine B0 (wpAny_letGo (B1 (B1 ?_)))
 refine B0 (B1p y2 rfl ?_);refine B0 (wpAny_newTuple ?_)
 have zl:z<p2.objs.size:=B4 z2
 show wpAny _ _ (Builtin.SmallTypes.ownedTupleHandOut (.ref z) (.ref p2.objs.size) >>= _) _ _ _;refine B0 ?_;unfold Builtin.SmallTypes.ownedTupleHandOut
 have za:IsZip (p2.push { cls:=.type "tuple",data:=.seq #[x1,x2] }) z TI TO .ellipsis:=B2 _ z2
 refine B0 (B2g za (by simp) fun pa zb ma=>?_)
 replace zb:IsZip pa z TI TO (rawInt p2.objs.size):=zb
 refine B2g zb (by simp) fun pb zc mb=>?_
 replace zc:IsZip pb z TI TO (rawInt p2.objs.size):=zc
 have up:∀ c o,c≠z->p2.get? c=some o->pb.get? c=some o:=fun c o c1 e=>mb.extBut _ _ c1 (ma.extBut _ _ c1 (B2 _ e))
 have tt:DJ pb p2.objs.size #[x1,x2]:=mb.extBut _ _ (B1e zl) (ma.extBut _ _ (B1e zl) (L7 _ rfl))
 rw [r2] at zc tt
 refine B1 ⟨_,rfl,?_⟩
 show Q (.ref p2.objs.size) _
 rw [r2]
 exact q pb zc (up _ _ D.TO_z y2) (d1_2.at fun o e=>up _ o D.i1_z e) (d2_2.at fun o e=>up _ o D.i2_z e) tt fun c o c1 c2 c3 c4 e=>up c o c1 (w2 c o c1 c2 c3 c4 e)
theorem J4v {b1 b2:Bool}{z TI TO i1 i2 l1 l2:Addr}{k:Nat}{xs1 xs2:Array Value}{a1 a2:Value}{Q:Fin->Shared->Prop}(hh:A.handled=none)(D:ZAp2 z TI TO i1 i2 l1 l2)(hz:IsZip s.heap z TI TO .none)(hI:DJ s.heap TI #[.ref i1,.ref i2])(hO:DJ s.heap TO #[a1,a2])(d1:ItAt b1 s.heap i1 l1 k)(g1:SeqAt b1 s.heap l1 xs1)(d2:ItAt b2 s.heap i2 l2 k)(g2:SeqAt b2 s.heap l2 xs2)
 (e1:xs1[k]?=none) (q:∀ h' e,(∀ c o,c≠z->c≠TO->c≠i1->c≠i2->s.heap.get? c=some o->h'.get? c=some o)->(∃ o,h'.get? e=some o/\o.cls=.type "StopIteration")->E (.ref e) { s with heap:=h' }) :
 wpAny (model prog w) A (Builtin.«zip.__next__» ⟨[.ref z],[]⟩) Q E s:=by
 show wpAny _ _ (field (.ref z) 2 >>= _) _ _ _;refine B0 (T6 hz rfl (x:=.bool false) rfl ?_)
 show wpAny _ _ (field (.ref z) 3 >>= _) _ _ _;refine B0 (T6 hz rfl (x:=.ref TI) rfl ?_)
 refine B0 (B1p hI rfl ?_)
 show wpAny _ _ (Builtin.SmallTypes.ownedTupleIsFree (.ref z) >>= _) _ _ _;refine B0 ?_;unfold Builtin.SmallTypes.ownedTupleIsFree
 refine B0 (T6 hz rfl (x:=.none) rfl (B1 ?_));simp only [if_true];refine B0 (B2h ?_)
 refine B0 (T6 hz rfl (x:=.ref TO) rfl ?_);refine B0 (B2g hz (by simp) fun p0 z0 m0=>?_)
 replace z0:IsZip p0 z TI TO .ellipsis:=z0
 have y0:DJ p0 TO #[a1,a2]:=m0.extBut _ _ D.TO_z hO
 have w0:∀ c o,c≠z->c≠TO->c≠i1->c≠i2->s.heap.get? c=some o->p0.get? c=some o:=fun c o c1 _ _ _ e=>m0.extBut _ _ c1 e
 have r0:p0.objs.size=s.heap.objs.size:=m0.1
 have d1_0:ItAt b1 p0 i1 l1 k:=d1.at fun o e=>m0.extBut _ _ D.i1_z e
 have g1_0:SeqAt b1 p0 l1 xs1:=g1.at fun o e=>m0.extBut _ _ D.l1_z e
 have d2_0:ItAt b2 p0 i2 l2 k:=d2.at fun o e=>m0.extBut _ _ D.i2_z e
 have g2_0:SeqAt b2 p0 l2 xs2:=g2.at fun o e=>m0.extBut _ _ D.l2_z e
 refine B0 ?_;simp only [List.zipIdx_cons,List.zipIdx_nil,B1t,B2v]
 refine B0 (B0 (wpAny_onRaise ?_));show wpAny _ _ (Builtin.SmallTypes.nextOf (.ref i1) >>= _) _ _ _
 refine B0 (J9w hh d1_0 g1_0 e1 fun u1 e n1 he=>?_)
 obtain ⟨oe,f1,f2⟩:=he
 have z1:IsZip u1 z TI TO .ellipsis:=n1 _ _ D.z_i1 z0
 have ez:e≠z:=fun x=>by subst x;rw [z1] at f1;cases f1;simp at f2
 refine B2g z1 (by simp) fun p1 _ m1=>q p1 e (fun c o c1 c2 c3 c4 x=>m1.extBut _ _ c1 (n1 _ _ c3 (w0 c o c1 c2 c3 c4 x))) ⟨oe,m1.extBut _ _ ez f1,f2⟩
end
section
variable {prog:Program}{w:World}{A:Around}{E:Value->Shared->Prop}{s:Shared}
def CT (b:Bool)(l:Addr):Obj:=match b with
 | false=>{ cls:=.type "list_iterator",data:=.fields #[.ref l,.int 0 0] }
 | true=>{ cls:=.type "tuple_iterator",data:=.fields #[.ref l,.int 0 0] }
theorem XI {b:Bool}{h:Heap}{u l:Addr}(e:h.get? u=some (CT b l)):ItAt b h u l 0:=by
 cases b with
 | false=>exact ⟨_,e,rfl,rfl⟩
 | true=>exact ⟨_,e,rfl,rfl⟩
theorem PY (b:Bool)(l:Addr):(CT b l).isFreed=false:=by cases b<;>rfl
theorem WB {b:Bool}{l:Addr}{xs:Array Value}{Q:Value->Shared->Prop}(a:SeqAt b s.heap l xs)(q:Q (.ref s.heap.objs.size) { s with heap:=s.heap.push (CT b l) }):wpAny (model prog w) A (pyIter (.ref l)) Q E s:=by
 cases b with
 | false=>exact B2m a q
 | true=>exact wpAny_pyIter_tuple a q
end
section
variable {prog:Program}{w:World}{A:Around}{E:Value->Shared->Prop}{s:Shared}
abbrev zH2 (b1 b2:Bool)(l1 l2:Addr)(s:Shared):Heap:=(((((s.heap.push (CT b1 l1)).push (CT b2 l2)).push { cls:=.type "tuple",data:=.seq #[.ref s.heap.objs.size,.ref (s.heap.objs.size+1)] }).push { cls:=.type "tuple",data:=.seq #[.none,.none] }).push { cls:=.type "zip",data:=.fields #[.none,.bool false,.bool false,.ref (s.heap.objs.size+2),.ref (s.heap.objs.size+3)] })
theorem ZN (b1 b2:Bool)(l1 l2:Addr)(xs1 xs2:Array Value) :
 Meets (Builtin.«zip.__new__» ⟨[.type "zip",.ref l1,.ref l2],[]⟩) (fun _ R s=>SeqAt b1 s.heap l1 xs1/\SeqAt b2 s.heap l2 xs2/\R (.ok (.ret (.ref (s.heap.objs.size+4)))) { s with heap:=zH2 b1 b2 l1 l2 s }) :=
 .of_wp fun prog w A R s h=>by
  obtain ⟨hp,g,d,tk,os⟩:=s;obtain ⟨k1,k2,h⟩:=h
  have hs:=sub_zip
  have K1:SeqAt b1 (Shared.heap ⟨hp,g,d,tk,os⟩) l1 xs1:=k1.at fun o e=>e
  have K2:SeqAt b2 (Shared.heap ⟨(hp.push (CT b1 l1)),g,d,tk,os⟩) l2 xs2:=k2.at fun o e=>B2 _ (e)
  wp_walk using WB K1,WB K2
  simp only [D8] at *
  exact ⟨_,rfl,h⟩
theorem J4p {b1 b2:Bool}{l1 l2:Addr}{xs1 xs2:Array Value}{Q:Value->Shared->Prop}(k1:SeqAt b1 s.heap l1 xs1)(k2:SeqAt b2 s.heap l2 xs2)
 (q:∀ h',IsZip h' (s.heap.objs.size+4) (s.heap.objs.size+2) (s.heap.objs.size+3) .none->DJ h' (s.heap.objs.size+2) #[.ref s.heap.objs.size,.ref (s.heap.objs.size+1)]->DJ h' (s.heap.objs.size+3) #[.none,.none]->ItAt b1 h' (s.heap.objs.size) l1 0->ItAt b2 h' (s.heap.objs.size+1) l2 0->(∀ c o,s.heap.get? c=some o->h'.get? c=some o)->Q (.ref (s.heap.objs.size+4)) { s with heap:=h' }) :
 wpAny (model prog w) A (call (.type "zip") [.ref l1,.ref l2]) Q E s:=by
 refine callType_new F.called_zip (by decide) (F.typeCall_zip_2 _ _) (F.newCall_zip_2 _ _) (fun obj=>F.args_object_init_3 obj _ _) F.entry_zip_new (ZN b1 b2 l1 l2 xs1 xs2) ⟨k1,k2,?_⟩
 have z1:(s.heap.push (CT b1 l1)).objs.size=s.heap.objs.size+1:=by exact D8 ..
 have z2:((s.heap.push (CT b1 l1)).push (CT b2 l2)).objs.size=s.heap.objs.size+2:=by rw [D8,z1]
 have z3:(((s.heap.push (CT b1 l1)).push (CT b2 l2)).push { cls:=.type "tuple",data:=.seq #[.ref s.heap.objs.size,.ref (s.heap.objs.size+1)] }).objs.size=s.heap.objs.size+3:=by rw [D8,z2]
 have z4:((((s.heap.push (CT b1 l1)).push (CT b2 l2)).push { cls:=.type "tuple",data:=.seq #[.ref s.heap.objs.size,.ref (s.heap.objs.size+1)] }).push { cls:=.type "tuple",data:=.seq #[.none,.none] }).objs.size=s.heap.objs.size+4:=by rw [D8,z3]
 have g0:(zH2 b1 b2 l1 l2 s).get? s.heap.objs.size=some _:=B2 _ (B2 _ (B2 _ (B2 _ (L7 _ (PY _ _)))))
 have g1:(zH2 b1 b2 l1 l2 s).get? (s.heap.push (CT b1 l1)).objs.size=some _:=B2 _ (B2 _ (B2 _ (L7 _ (PY _ _))))
 rw [z1] at g1
 have g2:(zH2 b1 b2 l1 l2 s).get? ((s.heap.push (CT b1 l1)).push (CT b2 l2)).objs.size=some _:=B2 _ (B2 _ (L7 _ rfl))
 rw [z2] at g2
 have g3:(zH2 b1 b2 l1 l2 s).get? (((s.heap.push (CT b1 l1)).push (CT b2 l2)).push { cls:=.type "tuple",data:=.seq #[.ref s.heap.objs.size,.ref (s.heap.objs.size+1)] }).objs.size=some _:=B2 _ (L7 _ rfl)
 rw [z3] at g3
 have g4:(zH2 b1 b2 l1 l2 s).get? ((((s.heap.push (CT b1 l1)).push (CT b2 l2)).push { cls:=.type "tuple",data:=.seq #[.ref s.heap.objs.size,.ref (s.heap.objs.size+1)] }).push { cls:=.type "tuple",data:=.seq #[.none,.none] }).objs.size=some _:=L7 _ rfl
 rw [z4] at g4
 exact ⟨⟨_,g4,rfl⟩,q _ g4 g2 g3 (XI g0) (XI g1) fun c o x=>B2 _ (B2 _ (B2 _ (B2 _ (B2 _ x))))⟩
end
def Q8b (K:Fg)(b1 b2:Bool)(l1 l2:Addr):It :=
 ⟨fun i H=>∃ ys1 ys2 y1 y2,SqX K b1 H l1 ys1/\ys1[i]?=some y1/\SqX K b2 H l2 ys2/\ys2[i]?=some y2,
  fun i H v H'=>∃ t y1 y2,v=.ref t/\H t=none/\H'=upd H t (.tup [y1,y2])/\(∀ ys,SqX K b1 H l1 ys->ys[i]?=some y1)/\(∀ ys,SqX K b2 H l2 ys->ys[i]?=some y2),
  fun i H=>(∃ ys,SqX K b1 H l1 ys/\ys.length<=i)/\(∃ ys,SqX K b2 H l2 ys)⟩
structure ZFp2 (z TI TO i1 i2:Addr):Prop where
 z_TI:z≠TI
 z_TO:z≠TO
 z_i1:z≠i1
 z_i2:z≠i2
 TI_z:TI≠z
 TI_TO:TI≠TO
 TI_i1:TI≠i1
 TI_i2:TI≠i2
 TO_z:TO≠z
 TO_TI:TO≠TI
 TO_i1:TO≠i1
 TO_i2:TO≠i2
 i1_z:i1≠z
 i1_TI:i1≠TI
 i1_TO:i1≠TO
 i1_i2:i1≠i2
 i2_z:i2≠z
 i2_TI:i2≠TI
 i2_TO:i2≠TO
 i2_i1:i2≠i1
def V2f (b1 b2:Bool)(z TI TO i1 i2 l1 l2:Addr)(i:Nat)(h:Heap):Prop:=IsZip h z TI TO .none/\DJ h TI #[.ref i1,.ref i2]/\(∃ a1 a2,DJ h TO #[a1,a2])/\ItAt b1 h i1 l1 i/\ItAt b2 h i2 l2 i
theorem J2p {elts:List Expr}{c1}{tpos:Pos}{b1 b2:Bool}{z TI TO i1 i2 l1 l2:Addr}(Z:ZFp2 z TI TO i1 i2):Turn P w K (.Tuple elts c1 tpos) (Q8b K b1 b2 l1 l2) [z,TI,TO,i1,i2] z (V2f b1 b2 z TI TO i1 i2 l1 l2) where
 mem:=by simp
 obj:=fun i h st b hb=>by
  obtain ⟨s1,s2,⟨a1,a2,s3⟩,d1,d2⟩:=st
  simp only [B6,R1,W4] at hb
  rcases hb with rfl|rfl|rfl|rfl|rfl
  · exact ⟨_,s1,fun v q=>by cases q⟩
  · exact ⟨_,s2,fun v q=>by cases q⟩
  · exact ⟨_,s3,fun v q=>by cases q⟩
  · exact d1.obj
  · exact d2.obj
 keep:=fun i h h' st k=>by
  obtain ⟨s1,s2,⟨a1,a2,s3⟩,d1,d2⟩:=st
  exact ⟨k z (by simp) _ s1,k TI (by simp) _ s2,⟨a1,a2,k TO (by simp) _ s3⟩,d1.at fun o e=>k i1 (by simp) o e,d2.at fun o e=>k i2 (by simp) o e⟩
 item:=by
  intro X hP hw hK hc i pins s σ H E I hf st hg
  subst hP hw hK
  obtain ⟨ys1,ys2,y1,y2,h1,q1,h2,q2⟩:=hg
  obtain ⟨s1,s2,⟨a1,a2,s3⟩,d1,d2⟩:=st
  obtain ⟨v1,r1,p1,_⟩:=I.seqX h1
  obtain ⟨u1,m1,t1⟩:=r1.get q1
  obtain ⟨v2,r2,p2,_⟩:=I.seqX h2
  obtain ⟨u2,m2,t2⟩:=r2.get q2
  have D:ZAp2 z TI TO i1 i2 l1 l2:={ z_TI:=Z.z_TI,z_TO:=Z.z_TO,z_i1:=Z.z_i1,z_i2:=Z.z_i2,TI_z:=Z.TI_z,TI_TO:=Z.TI_TO,TI_i1:=Z.TI_i1,TI_i2:=Z.TI_i2,TO_z:=Z.TO_z,TO_TI:=Z.TO_TI,TO_i1:=Z.TO_i1,TO_i2:=Z.TO_i2,i1_z:=Z.i1_z,i1_TI:=Z.i1_TI,i1_TO:=Z.i1_TO,i1_i2:=Z.i1_i2,i2_z:=Z.i2_z,i2_TI:=Z.i2_TI,i2_TO:=Z.i2_TO,i2_i1:=Z.i2_i1,l1_z:=I.seqX_ne h1 (hf z (by simp)),l1_TI:=I.seqX_ne h1 (hf TI (by simp)),l1_TO:=I.seqX_ne h1 (hf TO (by simp)),l1_i1:=I.seqX_ne h1 (hf i1 (by simp)),l1_i2:=I.seqX_ne h1 (hf i2 (by simp)),l2_z:=I.seqX_ne h2 (hf z (by simp)),l2_TI:=I.seqX_ne h2 (hf TI (by simp)),l2_TO:=I.seqX_ne h2 (hf TO (by simp)),l2_i1:=I.seqX_ne h2 (hf i1 (by simp)),l2_i2:=I.seqX_ne h2 (hf i2 (by simp)) }
  have hT:s.TypeIs (.ref z) "zip":=⟨_,s1,rfl⟩
  have szn:∀ b∈[z,TI,TO,i1,i2],b≠s.heap.objs.size:=fun b hb e=>by
   simp only [B6,R1,W4] at hb
   rcases hb with rfl|rfl|rfl|rfl|rfl
   · exact M9 _ (e▸B4 s1)
   · exact M9 _ (e▸B4 s2)
   · exact M9 _ (e▸B4 s3)
   · obtain ⟨_,w1,_⟩:=d1.obj;exact M9 _ (e▸B4 w1)
   · obtain ⟨_,w1,_⟩:=d2.obj;exact M9 _ (e▸B4 w1)
  unfold pyNext
  refine B0 (B1d (wpAny_callSpecial?_slot (name:=Str.ofString "__next__") hT F.slot_zip_next (E7 F.slot_zip_next hT F.entry_zip_next (J2h D s1 s2 s3 d1 p1 d2 p2 (x1:=u1) (by simpa using m1) (x2:=u2) (by simpa using m2) fun h' e1 e2 f1 f2 e3 kp=>B1 ?_) (F.args_zip_next_1 _))))
  refine ⟨_,rfl,wpAny_letOwnedTupleGo_zip (s:={ s with heap:=h' }) e1 fun hq e4 sb=>?_⟩
  have up:∀ b o,b≠z->h'.get? b=some o->hq.get? b=some o:=fun b o hb e=>sb.extBut _ _ hb e
  have I2:Inv X pins σ (upd H s.heap.objs.size (.tup [y1,y2])) { s with heap:=hq }:=I.zipped (t':=s.toks) (fp:=[z,TI,TO,i1,i2]) hf (fun b o hb e=>up b o (fun x=>hb (by simp [x])) (kp b o (fun x=>hb (by simp [x])) (fun x=>hb (by simp [x])) (fun x=>hb (by simp [x])) (fun x=>hb (by simp [x])) e)) (L8 _)
   ⟨R5 (R3 rfl) AF,[u1,u2],.cons t1 (.cons t2 (.nil)),⟨_,up _ _ (B0q (szn z (by simp))) e3,rfl,_,rfl⟩⟩
  refine ⟨.ref s.heap.objs.size,_,I2,rfl,⟨_,y1,y2,rfl,I.hok.fresh (L8 _),rfl,fun ys hy=>by rw [I.seqX_inj hy h1];exact q1,fun ys hy=>by rw [I.seqX_inj hy h2];exact q2⟩,⟨e4,up _ _ D.TI_z (kp _ _ D.TI_z D.TI_TO D.TI_i1 D.TI_i2 s2),⟨_,_,up _ _ D.TO_z e2⟩,f1.at fun o e=>up _ o D.i1_z e,f2.at fun o e=>up _ o D.i2_z e⟩,fun b hb=>?_⟩
  rw [V4 (szn b hb)]
  exact (hf b hb).1
 done:=by
  intro X hP hw hK hc i pins s σ H E I hf st hg
  subst hP hw hK
  obtain ⟨⟨ys1,h1,q1⟩,⟨ys2,h2⟩⟩:=hg
  obtain ⟨s1,s2,⟨a1,a2,s3⟩,d1,d2⟩:=st
  obtain ⟨v1,r1,p1,_⟩:=I.seqX h1
  obtain ⟨v2,r2,p2,_⟩:=I.seqX h2
  have D:ZAp2 z TI TO i1 i2 l1 l2:={ z_TI:=Z.z_TI,z_TO:=Z.z_TO,z_i1:=Z.z_i1,z_i2:=Z.z_i2,TI_z:=Z.TI_z,TI_TO:=Z.TI_TO,TI_i1:=Z.TI_i1,TI_i2:=Z.TI_i2,TO_z:=Z.TO_z,TO_TI:=Z.TO_TI,TO_i1:=Z.TO_i1,TO_i2:=Z.TO_i2,i1_z:=Z.i1_z,i1_TI:=Z.i1_TI,i1_TO:=Z.i1_TO,i1_i2:=Z.i1_i2,i2_z:=Z.i2_z,i2_TI:=Z.i2_TI,i2_TO:=Z.i2_TO,i2_i1:=Z.i2_i1,l1_z:=I.seqX_ne h1 (hf z (by simp)),l1_TI:=I.seqX_ne h1 (hf TI (by simp)),l1_TO:=I.seqX_ne h1 (hf TO (by simp)),l1_i1:=I.seqX_ne h1 (hf i1 (by simp)),l1_i2:=I.seqX_ne h1 (hf i2 (by simp)),l2_z:=I.seqX_ne h2 (hf z (by simp)),l2_TI:=I.seqX_ne h2 (hf TI (by simp)),l2_TO:=I.seqX_ne h2 (hf TO (by simp)),l2_i1:=I.seqX_ne h2 (hf i1 (by simp)),l2_i2:=I.seqX_ne h2 (hf i2 (by simp)) }
  have hT:s.TypeIs (.ref z) "zip":=⟨_,s1,rfl⟩
  have hl:=r1.length
  unfold pyNext
  refine B0 (B1d (wpAny_callSpecial?_slot (name:=Str.ofString "__next__") hT F.slot_zip_next (E7 F.slot_zip_next hT F.entry_zip_next (J4v (I.ok.hd hc) D s1 s2 s3 d1 p1 d2 p2 (by simp;omega) fun h' e kp he=>?_) (F.args_zip_next_1 _))))
  obtain ⟨oe,f1,f2⟩:=he
  refine B0 (B3i (T:="StopIteration") (b:=true) ⟨oe,f1,f2⟩ isSubtype_stop (B1 ⟨rfl,?_⟩))
  exact I.turnedL (t':=s.toks) (fp:=[z,TI,TO,i1,i2]) hf fun b o hb e=>kp b o (fun x=>hb (by simp [x])) (fun x=>hb (by simp [x])) (fun x=>hb (by simp [x])) (fun x=>hb (by simp [x])) e
 self:=fun _ _ _ _ _ st h=>wpAny_pyIter_zip st.1 h
noncomputable def J7a (K:Fg)(b1 b2:Bool)(ta:TA):TI:=fun σ H R=>ta σ H fun vs H1=>∃ l1 l2,vs=[.ref l1,.ref l2]/\(∃ ys,SqX K b1 H1 l1 ys)/\(∃ ys,SqX K b2 H1 l2 ys)/\R (Q8b K b1 b2 l1 l2) H1
theorem Q0l {X:Cx}{elts:List Expr}{c1}{tpos:Pos}(K:Fg)(hK:X.K=K)(b1 b2:Bool){e1 e2:Expr}{ta:TA}{p pos:Pos}(hg:Gl X "zip") (hm:X.mg "zip" = none) (ha:PA X [e1,e2] ta)
 (hs:starEach [e1,e2] X.env=[(false,eval e1 X.env),(false,eval e2 X.env)]:=by rfl) (hs2:starEach [e2] X.env=[(false,eval e2 X.env)]:=by rfl) :
 PI X (.Tuple elts c1 tpos) (.Call (.Name "zip" p) [e1,e2] [] pos) (J7a K b1 b2 ta):=by
 subst hK
 intro pins s σ H R I h
 refine Call_ (GX I hg hm Q7q (E6 (thn (ha pos pins s σ H _ I h) fun us s1 ⟨vs,H1,I1,r1,q1⟩=>?_) (by rw [hs,hs2]) (by rw [hs2];rfl)))
 obtain ⟨l1,l2,e,⟨ys1,h1⟩,⟨ys2,h2⟩,q⟩:=q1
 subst e
 obtain ⟨u1,u2,rfl,t1,t2⟩:=RQ r1
 cases t1
 cases t2
 obtain ⟨v1,r1,p1,_⟩:=I1.seqX h1
 obtain ⟨v2,r2,p2,_⟩:=I1.seqX h2
 refine J4p p1 p2 fun h' f1 f2 f3 g1 g2 kp=>?_
 refine wpAny_pyIter_zip (s:={ s1 with heap:=h' }) f1 ?_
 refine ⟨s1.heap.objs.size+4,[s1.heap.objs.size+4,s1.heap.objs.size+2,s1.heap.objs.size+3,s1.heap.objs.size,s1.heap.objs.size+1],_,_,H1,rfl,I1.kept (t':=s1.toks) kp,J2p (b1:=b1) (TI:=s1.heap.objs.size+2) (TO:=s1.heap.objs.size+3) (i1:=s1.heap.objs.size) (i2:=s1.heap.objs.size+1) (l1:=l1) (l2:=l2) ⟨by show (_:Nat)≠_;omega,by show (_:Nat)≠_;omega,by show (_:Nat)≠_;omega,by show (_:Nat)≠_;omega,by show (_:Nat)≠_;omega,by show (_:Nat)≠_;omega,by show (_:Nat)≠_;omega,by show (_:Nat)≠_;omega,by show (_:Nat)≠_;omega,by show (_:Nat)≠_;omega,by show (_:Nat)≠_;omega,by show (_:Nat)≠_;omega,by show (_:Nat)≠_;omega,by show (_:Nat)≠_;omega,by show (_:Nat)≠_;omega,by show (_:Nat)≠_;omega,by show (_:Nat)≠_;omega,by show (_:Nat)≠_;omega,by show (_:Nat)≠_;omega,by show (_:Nat)≠_;omega⟩,⟨f1,f2,⟨_,_,f3⟩,g1,g2⟩,fun b hb=>?_,q⟩
 have hge:s1.heap.objs.size<=b:=by
  simp only [B6,R1,W4] at hb
  rcases hb with rfl|rfl|rfl|rfl|rfl<;>first|exact L8 _|exact Nat.le_add_right _ _
 exact I1.fpOk hge (I1.hok.fresh hge)
section
variable {X:Cx}
theorem J6d {x:Str}{n:Int}{pos:Pos}(hg:Gl X x)(hm:∃ t,X.mg x=some (.int n t))(hd:(x==("__debug__" : Str))=false:=by decide):PE X (.Name x pos) (tC (.int n)):=by
 obtain ⟨t,e⟩:=hm
 exact J0x hg e ⟨t,rfl⟩ hd
theorem J5u {sts0:List Stmt}{t:TS}(h:PSs X sts0 t):∀ {sts:List Stmt},PSs X sts (fun D σ H=>sts=sts0/\t D σ H):=by
 intro sts pins s σ H D I q
 obtain ⟨e,q⟩:=q
 subst e
 exact h pins s σ H D I q
end
theorem J2s {X:Cx}(K:Fg)(h:X.K=K):SlR X (J5p K):=by subst h;exact J9z
section
variable {X:Cx}{x:Str}{C:Addr}{bm bmN:List Value}{newId Bn inN B nid initId:String}{e0:Expr}{rest:List Expr}{t:TA}{np cpos pos:Pos}
theorem J5w (O:OwnCls x C bm newId X.mg X.base)(Fn:ExcBaseFacts Bn newId inN bmN)(hBn:bm.contains (.type Bn)=true)(FB:ExcBaseFacts B nid initId bm)(hc:X.calm=true)(hg:Gl X x)(E:XK)
 (hx:∀ (pins:List (Addr×Obj)) (σ:St) (H:Hp) (s:Shared) (h':Heap) (e:Addr) (us:List Value),Inv X pins σ H s->Heap.MadeExcOf s.heap h' e (.ref C) us->E (.ref C) none H->X.xe (.ref e) { s with heap:=h' })
 (ha:PA X (e0::rest) t) (hz:∀ σ H Q,t σ H Q->t σ H fun vs H1=>vs.length<=sizeLine/\Q vs H1)
 (he:starEach (e0::rest) X.env=(false,eval e0 X.env)::starEach rest X.env:=by rfl) (hpl:(backTo cpos (starEach rest X.env)).any (·.1)=false:=by rfl) (hd:(x==("__debug__" : Str))=false:=by decide) :
 PS X (.Raise (some (.Call (.Name x np) (e0::rest) [] cpos)) none pos) (fun _ σ H=>t σ H fun _ H1=>E (.ref C) none H1):=by
 intro pins s σ H D I q
 obtain ⟨tl,N,nm,qn,bs,hdct,sn,sub,ab,col,dd,k0,k1,k2,k3,k5,mN,hC,hN,hni,T⟩:=O.obj
 refine wpAny_Raise_call_subU (C:=C) (nm:=nm) (q:=qn) (N:=N) (bs:=bs) (bm:=tl) (hdct:=hdct) (sn:=sn) (sub:=sub) (ab:=ab) (col:=col) (dd:=dd) (k0:=k0) (k1:=k1) (k2:=k2) (k3:=k3) (k5:=k5)
  Fn hBn FB (mN:=mN) (T.hasType FB.hasBase) (I.ok.hd hc) (by rw [he];show (false||(backTo cpos (starEach rest X.env)).any (·.1))=false;rw [hpl];rfl) hni (KZ I hg O.bound ⟨rfl,?_⟩ hd)
 have h1:=ha cpos pins s σ H _ I (hz _ _ _ q)
 rw [he] at h1 ⊢
 refine Calls.evalArgs_plain (W0 h1 (fun us s2 ⟨vs,H1,I1,r,z,w⟩=>⟨rfl,by rw [<- r.length];exact z,I1.bk _ _ hC,hN.keeps I1.bk,T.keeps I1.bk,fun h' e hm=>hx pins σ H1 s2 h' e us I1 hm w⟩) fun _ _ y=>y)
end
section
variable {M:Model}{A:Around}{E:Value->Shared->Prop}{s:Shared}
structure Gone (fs:List Addr)(x:Addr)(ox:Obj)(old:List Addr)(h h':Heap)(T:Addr):Prop where
 keep:∀ b o,b∉fs->b≠x->b∉old->h.get? b=some o->h'.get? b=some o
 slot:∀ b o,b∈fs->h.get? b=some o->∃ sl,h'.get? b=some { o with slots:=sl }
 new:h.objs.size<=T
 exc:h'.get? x=some (ox.mapFields (·.setIfInBounds 1 (.ref T)))
 tr:∃ oT ts,h'.get? T=some oT/\oT.data=.fields ts/\ts[3]?=some .none
theorem JY {env:Env}{outer:List Env}{L x:Addr}{ox:Obj}{vs:Array Value}{hd:Value}{nx:Bool}{Q:Unit->Shared->Prop}(f1:A.frames=some (env::outer))(f2:s.heap.FunFrames base (env::outer))(f3:env.frame=some L)
 (x1:s.heap.get? x=some ox) (x2:ox.data=.fields vs) (x3:1<vs.size) (q:∀ h' T,Gone ((env::outer).filterMap (·.frame)) x ox [] s.heap h' T->Q () { s with heap:=h' }) :
 wpAny M A (do let a <- frameOf env;let pl <- entryPlaceOf L nx;let b <- EntryCells.newEntry hd a .none (rawInt L) .none pl;setField (.ref x) 1 b) (fun _ s'=>wpAny M A (setFlight (.ref x) none) Q E s') E s:=by
 have xf:x∉(env::outer).filterMap (·.frame):=fun hm=>by
  obtain ⟨_,o,e1,e2⟩:=f2.mem hm
  rw [x1] at e1
  cases e1
  exact e2 vs x2
 refine B0 (wpAny_frameOf_fun f1 f2 f3 fun g1 m1=>B0 (wpAny_entryPlaceOf fun pl hpl=>?_))
 unfold EntryCells.newEntry newFields
 refine B0 (R9 ?_ (hpl.sizeOk5 _ _ _ _ _))
 generalize hob:({ cls:=.type "traceback",dict:=none,data:=.fields ([hd,.ref L,.none,rawInt L,.none]++(if pl.isEmpty then List.replicate 6 Value.none else pl)).toArray }:Obj)=ob
 have dob:ob.data=.fields ([hd,.ref L,.none,rawInt L,.none]++(if pl.isEmpty then List.replicate 6 Value.none else pl)).toArray:=by rw [<- hob]
 have lob:ob.isFreed=false:=B0l dob
 have xg1:g1.get? x=some ox:=(m1.2.1 x xf).trans x1
 have xg2:=B2 (h:=g1) ob xg1
 refine B0f xg2 x2 x3 ?_
 have nTx:g1.objs.size≠x:=B1e (B4 xg1)
 have dx:=W3 x2 (·.setIfInBounds 1 (Value.ref g1.objs.size))
 have xg3:=B0e (Obj.mapFields (·.setIfInBounds 1 (Value.ref g1.objs.size))) xg2 (B0l dx)
 have tg3:=(U0 (g1.push ob) (Obj.mapFields (·.setIfInBounds 1 (Value.ref g1.objs.size))) (B0q nTx)).trans (L7 g1 lob)
 unfold setFlight
 refine B0 (T6 xg3 dx (x:=.ref g1.objs.size) (by simp [x3]) ?_)
 rw [if_pos (show (Value.ref g1.objs.size != Value.none)=true from by simp)]
 refine B0f tg3 dob (by simp only [M8,B0d,B1c,List.length_nil]<;>omega) (q _ g1.objs.size ⟨?_,?_,?_,?_,?_⟩)
 · intro b o nf nx' _ e
   have e1:g1.get? b=some o:=(m1.2.1 b nf).trans e
   rw [U0 _ _ (B1e (B4 e1)),U0 _ _ (B0q nx')]
   exact B2 _ e1
 · intro b o hb e
   obtain ⟨sl,e1⟩:=m1.2.2 b o e
   refine ⟨sl,?_⟩
   have nbx:b≠x:=fun z=>xf (z▸hb)
   rw [U0 _ _ (B1e (B4 e1)),U0 _ _ (B0q nbx)]
   exact B2 _ e1
 · rw [m1.1]
   exact L8 _
 · rw [U0 _ _ nTx]
   exact xg3
 · refine ⟨_,_,B0e _ tg3 (B0l (W3 dob _)),W3 dob _,?_⟩
   first|(simp;done)|(rcases hpl with rfl|⟨_,_,_,_,_,_,_,rfl⟩<;>simp)
theorem XA {env:Env}{outer:List Env}{L x:Addr}{ox:Obj}{vs:Array Value}{Q:Unit->Shared->Prop}(f1:A.frames=some (env::outer))(f2:s.heap.FunFrames base (env::outer))(f3:env.frame=some L)
 (x1:s.heap.get? x=some ox) (x2:ox.data=.fields vs) (x3:vs[1]?=some .none) (q:∀ h' T,Gone ((env::outer).filterMap (·.frame)) x ox [] s.heap h' T->Q () { s with heap:=h' }):wpAny M A (leaving env (.ref x)) Q E s:=by
 unfold leaving noteFrame;simp only [f3]
 refine B0 (B0 (T6 x1 x2 x3 ?_));rw [if_neg (by decide)]
 exact JY f1 f2 f3 x1 x2 (W6.mp x3).1 q
theorem ZQ {env:Env}{outer:List Env}{L x T0:Addr}{ox oT:Obj}{vs ts:Array Value}{Q:Unit->Shared->Prop}(f1:A.frames=some (env::outer))(f2:s.heap.FunFrames base (env::outer))(f3:env.frame=some L)
 (x1:s.heap.get? x=some ox) (x2:ox.data=.fields vs) (x3:vs[1]?=some (.ref T0)) (t1:s.heap.get? T0=some oT) (t2:oT.data=.fields ts) (t3:ts[3]?=some .none) (tx:T0≠x)
 (q:∀ h' T,Gone ((env::outer).filterMap (·.frame)) x ox [T0] s.heap h' T->Q () { s with heap:=h' }):wpAny M A (leaving env (.ref x)) Q E s:=by
 unfold leaving noteFrame;simp only [f3]
 refine B0 (B0 (T6 x1 x2 x3 ?_));rw [if_pos (show (Value.ref T0 != Value.none)=true from by simp)]
 refine B0 (T6 t1 t2 t3 ?_);rw [if_neg (show ¬ ((Value.none==rawInt L)=true) from by simp [rawInt])]
 refine B0 (B0f t1 t2 (W6.mp t3).1 ?_)
 have oth:∀ b,b≠T0->(s.heap.update T0 (Obj.mapFields (·.setIfInBounds 3 Value.none))).get? b=s.heap.get? b:=fun b hb=>U0 _ _ (B0q hb)
 have nrec:∀ b o,s.heap.get? b=some o->(∀ vs,o.data≠.fields vs)->b≠T0:=fun b o e n z=>by
  rw [z,t1] at e
  cases e
  exact n ts t2
 have fT:∀ b∈(env::outer).filterMap (·.frame),b≠T0:=fun b hb=>by
  obtain ⟨_,o,e1,e2⟩:=f2.mem hb
  exact nrec b o e1 e2
 refine JY f1 (f2.of_keeps fun b o e n=>⟨o,(oth b (nrec b o e n)).trans e,rfl⟩) f3 ((oth x (B0q tx)).trans x1) x2 (W6.mp x3).1 fun h' T g=>q h' T ⟨?_,?_,?_,g.exc,g.tr⟩
 · intro b o nf nx no e
   exact g.keep b o nf nx (by simp) ((oth b (by simpa using no)).trans e)
 · intro b o hb e
   exact g.slot b o hb ((oth b (fT b hb)).trans e)
 · have:=g.new
   simpa using this
end
theorem ObjOk.ex {H:Hp}{h:Heap}{a:Addr}{o:HO}(x:ObjOk P w H h a o):∃ ob,h.get? a=some ob:=by
 cases o with
 | lst xs=>obtain ⟨_,_,_,_,e⟩:=x;exact ⟨_,e⟩
 | tup xs=>obtain ⟨_,_,_,ob,e,_⟩:=x;exact ⟨_,e⟩
 | dK kvs=>obtain ⟨_,_,_,_,o,_,_,e,_⟩:=x;exact ⟨_,e⟩
 | dT kvs=>obtain ⟨_,_,_,_,o,_,_,e,_⟩:=x;exact ⟨_,e⟩
 | set S n=>obtain ⟨o,_,_,_,e,_⟩:=x;exact ⟨_,e⟩
 | ins C dx fs=>obtain ⟨_,_,_,e,_⟩:=x;exact ⟨_,e⟩
 | own y=>exact x
 | xd fs=>obtain ⟨_,⟨_,_,_,e,_⟩,_⟩:=x;exact ⟨_,e⟩
 | rng lo hi=>obtain ⟨_,_,_,e⟩:=x;exact ⟨_,e⟩
 | frz ob u=>obtain ⟨e,_⟩:=x;exact ⟨_,e⟩
 | tbl ps=>exact ⟨_,(show h.get? a=some _ from x)⟩
 | met f y=>exact ⟨_,(show h.get? a=some _ from x)⟩
 | ext φ=>obtain ⟨_,e,_⟩:=x;exact e
theorem SU (o:Obj)(f:Array Value->Array Value):(o.mapFields f).dict=o.dict:=by unfold Obj.mapFields;split<;>rfl
def Exd (H:Hp)(base g h:Heap)(x C:Addr):Prop:=H x=none/\base.get? x=none/\g.get? x=none/\∃ ox vs T oT ts,h.get? x=some ox/\ox.cls=.ref C/\ox.dict=none/\ox.data=.fields vs/\vs[1]?=some (.ref T)/\vs[2]?=some .none /\
 T≠x/\H T=none/\base.get? T=none/\g.get? T=none/\h.get? T=some oT/\oT.data=.fields ts/\ts[3]?=some .none
def CX1 (P:Program)(w:World)(base:Heap):CXT:=fun outer H s E e s'=>∃ (x C:Addr) (H':Hp),e=.ref x/\s'.os=s.os/\AllBare s'.gens/\Un (frs outer) [] H H' s.heap s'.heap/\HOk P w H' s'.heap/\Exd H' base s.heap s'.heap x C/\E (.ref C) none H'
theorem J4z {P:Program}{w:World}{K:Fg}{mg:Str->Option Value}{base:Heap}{N:List Str}{qual:Str}{scope:Scope}{f:Addr}{cd:Value}{A:Around}{outer:List Env}{s:Shared}{H:Hp}{E:XK}{C:Addr}
 (pins:List (Addr×Obj)) (σ:St) (H1:Hp) (s1:Shared) (h':Heap) (e:Addr) (us:List Value) (I:Inv (BW (CX1 P w base) P w K mg base N qual scope f cd A outer s H E) pins σ H1 s1) (hm:Heap.MadeExcOf s1.heap h' e (.ref C) us) (q:E (.ref C) none H1) :
 (BW (CX1 P w base) P w K mg base N qual scope f cd A outer s H E).xe (.ref e) { s1 with heap:=h' }:=by
 obtain ⟨t,e1,e2,e3⟩:=hm.there
 have nH:∀ b,s1.heap.get? b=none->H1 b=none:=fun b hb=>by
  cases z:H1 b with
  | none=>rfl
  | some o =>
    obtain ⟨ob,eo⟩:∃ ob,s1.heap.get? b=some ob:=(I.hok b o z).ex
    rw [hb] at eo
    cases eo
 have hst:s1.heap.FunFrames base (envOfC qual scope s.heap.objs.size f cd::outer):=I.stack
 have hfree:∀ b∈frs (envOfC qual scope s.heap.objs.size f cd::outer),H1 b=none:=I.stkFree
 show wpAny (model P w) (A.deeper (envOfC qual scope s.heap.objs.size f cd)) (leaving (envOfC qual scope s.heap.objs.size f cd) (.ref e)) _ _ { s1 with heap:=h' }
 refine XA (s:={ s1 with heap:=h' }) (base:=base) I.ok.frames (hst.of_keeps fun b o eb _=>⟨o,hm.keeps b o eb,rfl⟩) rfl e1 rfl rfl fun h2 T g=>?_
 have lt1:∀ b o,s1.heap.get? b=some o->b<h'.objs.size:=fun b o eb=>B4 (hm.keeps b o eb)
 have neE:∀ b o,s1.heap.get? b=some o->b≠e:=fun b o eb z=>by rw [z,hm.new] at eb;cases eb
 have kp:∀ b o,b∉frs (envOfC qual scope s.heap.objs.size f cd::outer)->s1.heap.get? b=some o->h2.get? b=some o:=fun b o nf eb=>g.keep b o nf (neE b o eb) (by simp) (hm.keeps b o eb)
 have sl:∀ b o,b∈frs (envOfC qual scope s.heap.objs.size f cd::outer)->s1.heap.get? b=some o->∃ z,h2.get? b=some { o with slots:=z }:=fun b o hb eb=>g.slot b o hb (hm.keeps b o eb)
 have nTo:∀ b o,s1.heap.get? b=some o->b≠T:=fun b o eb z=>by
  have h1:=lt1 b o eb
  rw [z] at h1
  exact absurd (M4 h1 g.new) (M9 _)
 have baseK:∀ b o,base.get? b=some o->s1.heap.get? b=some o:=I.bk
 have nf:∀ b o,s.heap.get? b=some o->b∉frs outer->b∉frs (envOfC qual scope s.heap.objs.size f cd::outer):=fun b o eb nb hb=>by
  rcases B6.mp (show b∈s.heap.objs.size::frs outer from hb) with z|z
  · exact absurd (B4 eb) (by rw [z];exact M9 _)
  · exact nb z
 have tH:H1 T=none:=by
  cases z:H1 T with
  | none=>rfl
  | some o =>
    obtain ⟨ob,eo⟩:=(I.hok T o z).ex
    exact absurd rfl (nTo T ob eo)
 have U:Un (frs outer) [] H H1 s.heap s1.heap:=I.base
 refine ⟨e,C,H1,rfl,I.os,I.bare,⟨fun b o eb n hb hx=>kp b o (nf b o eb hb) (U.keep b o eb n hb hx),fun b o eb n hb hx=>?_,U.free,fun b o eb hx=>?_,U.tups,U.frzs,U.tbls⟩,fun b o eb=>?_,⟨nH e hm.new,?_,?_,?_⟩,q⟩
 · obtain ⟨z,e4⟩:=U.slot b o eb n hb hx
   obtain ⟨z',e5⟩:=sl b _ (B5 _ hb) e4
   exact ⟨z',e5⟩
 · obtain ⟨o',e4⟩:=U.there b o eb hx
   by_cases hb:b∈frs (envOfC qual scope s.heap.objs.size f cd::outer)
   · obtain ⟨z,e5⟩:=sl b o' hb e4
     exact ⟨_,e5⟩
   · exact ⟨o',kp b o' hb e4⟩
 · refine (I.hok b o eb).stay (fun c v hc ev=>kp c v (fun hb=>?_) ev) (fun _ z=>z) fun _ _ z=>z
   have:=hfree c hb
   rcases hc with z|z
   · rw [z,eb] at this
     cases this
   · rw [z] at this
     cases this
 · cases z:base.get? e with
   | none=>rfl
   | some o=>exact absurd rfl (neE e o (baseK e o z))
 · cases z:s.heap.get? e with
   | none=>rfl
   | some o =>
     obtain ⟨o',e4⟩:=U.there e o z (by simp)
     exact absurd rfl (neE e o' e4)
 · obtain ⟨oT,ts,g1,g2,g3⟩:=g.tr
   refine ⟨_,_,T,oT,ts,g.exc,rfl,rfl,rfl,rfl,rfl,?_,tH,?_,?_,g1,g2,g3⟩
   · intro z
     have:=B4 e1
     rw [<- z] at this
     exact absurd (M4 this g.new) (M9 _)
   · cases z:base.get? T with
     | none=>rfl
     | some o=>exact absurd rfl (nTo T o (baseK T o z))
   · cases z:s.heap.get? T with
     | none=>rfl
     | some o =>
       obtain ⟨o',e4⟩:=U.there T o z (by simp)
       exact absurd rfl (nTo T o' e4)
theorem Inv.raised {X:Cx}{pins:List (Addr×Obj)}{σ:St}{H H2:Hp}{s s':Shared}(I:Inv X pins σ H s)(os:s'.os=s.os)(bare:AllBare s'.gens)(un:Un (frs X.stack) [] H H2 s.heap s'.heap)(hok:HOk X.prog X.w H2 s'.heap):Inv X pins σ H2 s':=by
 obtain ⟨hh,g,d,t,os'⟩:=s'
 obtain rfl:os'=s.os:=os
 exact I.call (h':=hh) (g':=g) (d':=d) (t':=t) (ch:=[]) un hok bare (fun b z=>absurd z (by simp))
theorem TJ {P:Program}{w:World}{K:Fg}{mg:Str->Option Value}{base:Heap}{N:List Str}{qual:Str}{scope:Scope}{f:Addr}{cd:Value}{A:Around}{outer:List Env}{s:Shared}{H:Hp}{E:XK} :
 DQ (CX1 P w base) (BW (CX1 P w base) P w K mg base N qual scope f cd A outer s H E) E:=by
 intro pins σ H1 s1 e s' I h
 obtain ⟨x,C,H2,rfl,os,bare,U2,hok2,⟨hx0,hb0,hg0,ox,vs,T0,oT,ts,x1,xc,xn,xd,v1,v2,tx,hT0,bT0,gT0,t1,t2,t3⟩,q⟩:=h
 have I2:Inv (BW (CX1 P w base) P w K mg base N qual scope f cd A outer s H E) pins σ H2 s':=I.raised os bare U2 hok2
 have hst:s'.heap.FunFrames base (envOfC qual scope s.heap.objs.size f cd::outer):=I2.stack
 have hfree:∀ b∈frs (envOfC qual scope s.heap.objs.size f cd::outer),H2 b=none:=I2.stkFree
 have U1:Un (frs outer) [] H H1 s.heap s1.heap:=I.base
 have U:Un (frs outer) [] H H2 s.heap s'.heap:=I2.base
 show wpAny (model P w) (A.deeper (envOfC qual scope s.heap.objs.size f cd)) (leaving (envOfC qual scope s.heap.objs.size f cd) (.ref x)) _ _ s'
 refine ZQ (s:=s') (base:=base) I2.ok.frames hst rfl x1 xd v1 t1 t2 t3 tx fun h2 T g=>?_
 have ne1:∀ b o,s.heap.get? b=some o->b≠x/\b≠T0:=fun b o eb=>by
  obtain ⟨o',e4⟩:=U1.there b o eb (by simp)
  refine ⟨fun z=>?_,fun z=>?_⟩
  · rw [z,hg0] at e4
    cases e4
  · rw [z,gT0] at e4
    cases e4
 have nf:∀ b o,s.heap.get? b=some o->b∉frs outer->b∉frs (envOfC qual scope s.heap.objs.size f cd::outer):=fun b o eb nb hb=>by
  rcases B6.mp (show b∈s.heap.objs.size::frs outer from hb) with z|z
  · exact absurd (B4 eb) (by rw [z];exact M9 _)
  · exact nb z
 have nTo:∀ b o,s'.heap.get? b=some o->b≠T:=fun b o eb z=>by
  have h1:=B4 eb
  rw [z] at h1
  exact absurd (M4 h1 g.new) (M9 _)
 have tH:H2 T=none:=by
  cases z:H2 T with
  | none=>rfl
  | some o =>
    obtain ⟨ob,eo⟩:=(hok2 T o z).ex
    exact absurd rfl (nTo T ob eo)
 have dx:=W3 xd (·.setIfInBounds 1 (Value.ref T))
 refine ⟨x,C,H2,rfl,I2.os,bare,⟨fun b o eb n hb hx=>g.keep b o (nf b o eb hb) (ne1 b o eb).1 (by simpa using (ne1 b o eb).2) (U.keep b o eb n hb hx),fun b o eb n hb hx=>?_,U.free,fun b o eb hx=>?_,U.tups,U.frzs,U.tbls⟩,fun b o eb=>?_,⟨hx0,hb0,?_,?_⟩,q⟩
 · obtain ⟨z,e4⟩:=U.slot b o eb n hb hx
   obtain ⟨z',e5⟩:=g.slot b _ (B5 _ hb) e4
   exact ⟨z',e5⟩
 · obtain ⟨o',e4⟩:=U.there b o eb hx
   by_cases hb:b∈frs (envOfC qual scope s.heap.objs.size f cd::outer)
   · obtain ⟨z,e5⟩:=g.slot b o' hb e4
     exact ⟨_,e5⟩
   · exact ⟨o',g.keep b o' hb (ne1 b o eb).1 (by simpa using (ne1 b o eb).2) e4⟩
 · have nx:b≠x:=fun z=>by rw [z,hx0] at eb;cases eb
   refine (hok2 b o eb).stay (fun c v hc ev=>g.keep c v (fun hb=>?_) (fun z=>?_) (fun z=>?_) ev) (fun _ z=>z) fun _ _ z=>z
   · have:=hfree c hb
     rcases hc with y|y
     · rw [y,eb] at this;cases this
     · rw [y] at this;cases this
   · rcases hc with y|y
     · rw [<- y,z,hx0] at eb;cases eb
     · rw [z,hx0] at y;cases y
   · have z:c=T0:=by simpa using z
     rcases hc with y|y
     · rw [<- y,z,hT0] at eb;cases eb
     · rw [z,hT0] at y;cases y
 · cases z:s.heap.get? x with
   | none=>rfl
   | some o=>exact absurd rfl (ne1 x o z).1
 · obtain ⟨oT',ts',g1,g2,g3⟩:=g.tr
   refine ⟨_,_,T,oT',ts',g.exc,(B2n ..).trans xc,(SU ..).trans xn,dx,?_,?_,?_,tH,?_,?_,g1,g2,g3⟩
   · have:=(W6.mp v1).1
     simp [this]
   · rw [Array.getElem?_setIfInBounds_ne (by decide)]
     exact v2
   · intro z
     exact nTo x _ x1 z.symm
   · cases z:base.get? T with
     | none=>rfl
     | some o=>exact absurd rfl (nTo T o (I2.bk T o z))
   · cases z:s.heap.get? T with
     | none=>rfl
     | some o =>
       obtain ⟨o',e4⟩:=U.there T o z (by simp)
       exact absurd rfl (nTo T o' e4)
theorem Fun.okX {P:Program}{w:World} {mg:Str->Option Value}{base:Heap}{CX:CXT}{x qual:Str}{st:Stmt}{f:Addr} {N ps:List Str}{k:Nat}{sp:Sp}(F:Fun K x qual st f fd)(S:FnScope N ps (J7 st))(len:∀ vs H Q E,sp vs H Q E->vs.length=ps.length)
 (hbody:∀ (cdv:Value) (A:Around) (outer:List Env) (s:Shared) (H:Hp) (vs:List V) (Q:VK) (E:XK),Room k (A.deeper (envOfC qual (J7 st) s.heap.objs.size f cdv))->sp vs H Q E ->
  ∃ t,PSs (BW CX P w K mg base N qual (J7 st) f cdv A outer s H E) (BN st) t/\t { nx:=fun _ H'=>Q .non H',rt:=Q } (BF N vs) H):FnOk P w K mg base CX (k+1) f fd ps sp:=by
 obtain ⟨oc,od,kV,doc,pm,an,cdv,ct,osl,rfl,lk,hcd⟩:=F.ex
 exact Q3f lk hcd S len fun A outer s H vs Q E hr hsp=>hbody cdv A outer s H vs Q E hr hsp
theorem NS {X:Cx}{CX:CXT}{k:Nat}{ps:List Str}{sp:Sp}{E:XK}{x:Str}{p pos:Pos}{e:Expr}{es:List Expr}{t:TA}(hp:DQ CX X E)(G:Callee X.prog X.w X.K X.mg X.base CX x k ps sp)(hr:Room k X.A)(hg:Gl X x)(ha:PA X (e::es) t)
 (hdb:(x==("__debug__" : Str))=false:=by decide) (he:starEach (e::es) X.env=(false,eval e X.env)::starEach es X.env:=by rfl) (hpl:(backTo pos (starEach es X.env)).any (·.1)=false:=by rfl):PE X (.Call (.Name x p) (e::es) [] pos) (MS sp [] E t):=by
 obtain ⟨f,fd,F,hm,hk,hb⟩:=G.ex
 exact J1a F hr hg hm hk hb .nil hp ha hdb he hpl
theorem RL:entryFor table "proto.unchain" = some Builtin.«proto.unchain»:=entryFor_of_fast (by kernel_rfl)
section
variable {prog:Program}{w:World}{A:Around}{E:Value->Shared->Prop}{s:Shared}
theorem J2z {α:Type}{e x:Addr}{oe ox:Obj}{vs ve:Array Value}{Q:α->Shared->Prop}(hh:A.handled=some (.ref x))(hne:x≠e)(hx:s.heap.get? x=some ox)(xd:ox.data=.fields vs)(x2:vs[2]?=some .none)
 (he:s.heap.get? e=some oe) (ed:oe.data=.fields ve) (e2:2<ve.size) (h:E (.ref e) { s with heap:=s.heap.update e (Obj.mapFields (·.setIfInBounds 2 (.ref x))) }):wpAny (model prog w) A (raiseNew (.ref e):Sem α) Q E s:=by
 unfold raiseNew;refine B0 (wpAny_handled ?_);rw [hh]
 show wpAny _ _ (if (Value.ref x != Value.ref e)=true then _ else _) _ _ s
 rw [if_pos (by simpa using hne)]
 refine B0 (W1 (wpAny_runValue (codeAny_builtin RL ?_)))
 refine B0 (T6 hx xd x2 ?_)
 rw [if_pos (by decide)]
 refine B1 ?_
 show wpAny _ _ (setField (.ref e) 2 (.ref x) >>= fun _=>throw (.ref e)) _ _ s
 exact B0 (B0f he ed e2 (wpAny_throw h))
theorem YW {it x:Addr}{ox:Obj}{vs:Array Value}{n left step:Int}{Q:Option Value->Shared->Prop}(hh:A.handled=some (.ref x))(hx:s.heap.get? x=some ox)(xd:ox.data=.fields vs)(x2:vs[2]?=some .none)
 (hit:IsRangeIter s.heap it n left step) (hleft:left<=0) (hQ:∀ h',(∀ b o,s.heap.get? b=some o->h'.get? b=some o)->Q none { s with heap:=h' }):wpAny (model prog w) A (pyNext (.ref it)) Q E s:=by
 have hT:s.TypeIs (.ref it) "range_iterator":=⟨_,hit,rfl⟩
 unfold pyNext;refine B0 (B1d (wpAny_callSpecial?_slot (name:=Str.ofString "__next__") hT F.slot_range_iterator_next (E7 F.slot_range_iterator_next hT F.entry_range_iterator_next ?_ (F.args_range_iterator_next_1 _))))
 show wpAny _ _ (field (.ref it) 0 >>= _) _ _ s;refine B0 (T6 hit rfl (x:=rawInt n) rfl ?_)
 show wpAny _ _ (field (.ref it) 1 >>= _) _ _ s;refine B0 (T6 hit rfl (x:=rawInt left) rfl ?_)
 show wpAny _ _ (field (.ref it) 2 >>= _) _ _ s;refine B0 (T6 hit rfl (x:=rawInt step) rfl ?_)
 show wpAny _ _ (if left<=0 then _ else _) _ _ s;rw [if_pos hleft]
 refine B0 (B2h ?_);refine B0 ?_
 show wpAny _ _ (newExc (.type "StopIteration") [] >>= _) _ _ _;refine B0 ?_
 simp only [newExc,newTuple];refine B0 (R9 ?_ (by size_fits))
 refine B0 (m:=firstArgMember _ _) (B3g (a:=Value.none) (by first|rfl|(simp only [firstArgMember];rfl)) ?_);refine R9 ?_ (by size_fits)
 have lx:=B4 hx
 refine J2z (x:=x) (by first|exact hh) ?_ (B2 _ (B2 _ hx)) xd x2 (L7 _ rfl) rfl (by rw [Array.size_append];exact M4 (show 2<6 by decide) (Nat.le_add_right 6 _)) ?_
 · rw [D8];exact R8 (B1j lx)
 refine B0 (B3i (T:="StopIteration") (b:=true) ⟨_,B0e _ (L7 _ rfl) (B0l (W3 rfl _)),rfl⟩ isSubtype_stop ?_)
 refine B1 (hQ _ fun b o e=>?_)
 have lb:=B4 e
 rw [U0 _ _ (by rw [D8];exact B1e (B1j lb))]
 exact B2 _ (B2 _ e)
end
def ExcO (x C:Addr):HO:=.ext fun h=>∃ (ox:Obj) (vs:Array Value),h.get? x=some ox/\ox.cls=.ref C/\ox.dict=none/\ox.data=.fields vs/\vs[2]?=some .none
theorem ExcO.ok {H:Hp}{h:Heap}{x C:Addr}{ox:Obj}{vs:Array Value}(e:h.get? x=some ox)(c:ox.cls=.ref C)(d:ox.dict=none)(f:ox.data=.fields vs)(v:vs[2]?=some .none):ObjOk P w H h x (ExcO x C) :=
 ⟨⟨ox,vs,e,c,d,f,v⟩,⟨ox,e⟩,fun h1 h2 ⟨ox',vs',e',c',d',f',v'⟩ k=>⟨ox',vs',k _ e',c',d',f',v'⟩⟩
theorem Inv.exc {X:Cx}{pins:List (Addr×Obj)}{σ:St}{H:Hp}{s:Shared}{x C:Addr}(I:Inv X pins σ H s)(hx:H x=some (ExcO x C)):∃ (ox:Obj) (vs:Array Value),s.heap.get? x=some ox/\ox.cls=.ref C/\ox.dict=none/\ox.data=.fields vs/\vs[2]?=some .none:=(I.hok x _ hx).1
abbrev Q3t (P:Program)(w:World)(K:Fg)(A₀:Around)(tg:Expr)(J:It)(fp:List Addr)(it:Addr)(tn:Nat->Heap->Prop):Prop:=TurnG (fun X=>X.A=A₀) P w K tg J fp it tn
def V1c (X:Cx)(pins:List (Addr×Obj))(σ:St)(tg:Expr)(R:It->Hp->Prop)(itv:Value)(s2:Shared):Prop :=
 ∃ (it:Addr) (fp:List Addr) (tn:Nat->Heap->Prop) (J:It) (H':Hp),itv=.ref it/\Inv X pins σ H' s2/\Q3t X.prog X.w X.K X.A tg J fp it tn/\tn 0 s2.heap/\(∀ b∈fp,HF X pins H' b)/\R J H'
def PIM (X:Cx)(tg iter:Expr)(wi:TI):Prop :=
 ∀ (pins:List (Addr×Obj)) (s:Shared) (σ:St) (H:Hp) (R:It->Hp->Prop),Inv X pins σ H s->wi σ H R->wpAny (model X.prog X.w) X.A (eval iter X.env) (fun v s1=>wpAny (model X.prog X.w) X.A (pyIter v) (V1c X pins σ tg R) X.xe s1) X.xe s
def Q2r (lo:Int)(n:Nat)(x C:Addr):It:=⟨(Itr lo n).go,(Itr lo n).yld,fun i H=>n<=i/\H x=some (ExcO x C)⟩
theorem VZ {A₀:Around}{tg:Expr}{x C:Addr}(hh:A₀.handled=some (.ref x))(it:Addr)(lo:Int)(n:Nat):Q3t P w K A₀ tg (Q2r lo n x C) [it] it (fun i h=>IsRangeIter h it (lo+(i:Nat)*1) ((n:Int) - (i:Nat)) 1) where
 mem:=(ET (P:=P) (w:=w) (K:=K) (tg:=tg) it lo n).mem
 obj:=(ET (P:=P) (w:=w) (K:=K) (tg:=tg) it lo n).obj
 keep:=(ET (P:=P) (w:=w) (K:=K) (tg:=tg) it lo n).keep
 item:=by
  intro X hP hw hK hA i pins s σ H E I hf st hg
  subst hP hw hK
  have hg:i<n:=hg
  obtain ⟨f0,f1,f2,f3,f4,f5⟩:=hf it (by simp)
  refine wpAny_pyNext_range_item st (by omega) fun h' st' sb=>?_
  have I1:Inv X pins σ H { s with heap:=h',toks:=s.toks+1 }:=I.turned (fun b o hb e=>(sb.2 b hb).trans e) f0 f1 f3 f4 f5
  have e1:lo+(i:Nat)*1+1=lo+((i+1:Nat):Int)*1:=by omega
  have e2:(n:Int) - (i:Nat) - 1=(n:Int) - ((i+1:Nat):Int):=by omega
  rw [e1,e2] at st'
  refine ⟨_,rfl,QB (s:={ s with heap:=h',toks:=s.toks+1 }) (n:="range_iterator") st' rfl rfl (by decide) ⟨.int (lo+i),H,I1,⟨s.toks,?_⟩,⟨rfl,rfl⟩,st',fun b hb=>(hf b hb).1⟩⟩
  rw [Int.mul_one]
 done:=by
  intro X hP hw hK hA i pins s σ H E I hf st ⟨hn,ht⟩
  subst hP hw hK hA
  obtain ⟨f0,f1,f2,f3,f4,f5⟩:=hf it (by simp);obtain ⟨ox,vs,x1,_,_,x2,x3⟩:=I.exc ht
  exact YW hh x1 x2 x3 st (by omega) fun h' eb=>⟨rfl,I.turned (t':=s.toks) (fun b o hb e=>eb b o e) f0 f1 f3 f4 f5⟩
 self:=(ET (P:=P) (w:=w) (K:=K) (tg:=tg) it lo n).self
section
variable {X:Cx}{tg:Expr}
theorem J2x {pins:List (Addr×Obj)}{σ:St}{H:Hp}{s:Shared}{R:It->Hp->Prop}{E:Value->Shared->Prop}{lo hi:Int}{t u v:Tok}{tk:Nat}{x C:Addr}(hh:X.A.handled=some (.ref x))(I:Inv X pins σ H s)(h1 : -(2 ^ 62)<=lo)(h2:lo<2 ^ 62)(h3 : -(2 ^ 62)<=hi)(h4:hi<2 ^ 62)
 (q:R (Q2r lo (hi - lo).toNat x C) H):wpAny (model X.prog X.w) X.A (pyIter (.ref s.heap.objs.size)) (V1c X pins σ tg R) E { s with heap:=s.heap.push { cls:=.type "range",data:=.fields #[.int lo t,.int hi u,.int 1 v] },toks:=tk }:=by
 have I1:Inv X pins σ H { s with heap:=s.heap.push { cls:=.type "range",data:=.fields #[.int lo t,.int hi u,.int 1 v] },toks:=tk }:=I.kept fun b o e=>B2 _ e
 refine wpAny_pyIter_range (IsRange.new ..) (small_one h1 h2 h3 h4) ⟨(s.heap.push { cls:=.type "range",data:=.fields #[.int lo t,.int hi u,.int 1 v] }).objs.size,[(s.heap.push { cls:=.type "range",data:=.fields #[.int lo t,.int hi u,.int 1 v] }).objs.size],_,_,H,rfl,I1.kept (t':=tk) fun b o e=>B2 _ e,VZ hh _ lo (hi - lo).toNat,?_,fun b hb=>?_,q⟩
 · have e1:lo+((0:Nat):Int)*1=lo:=by simp
   have e2:(((hi - lo).toNat:Nat):Int) - ((0:Nat):Int)=Builtin.Range.rangeSize lo hi 1:=by rw [rangeSize_one];split<;>omega
   show IsRangeIter _ _ (lo+((0:Nat):Int)*1) ((((hi - lo).toNat:Nat):Int) - ((0:Nat):Int)) 1;rw [e1,e2]
   exact L7 _ rfl
 · have e:b=(s.heap.push { cls:=.type "range",data:=.fields #[.int lo t,.int hi u,.int 1 v] }).objs.size:=by simpa using hb
   subst e
   refine I1.fpOk (L8 _) (I1.hok.fresh (L8 _))
noncomputable def Q5u (x C:Addr)(ta:TA):TI:=fun σ H R=>ta σ H fun vs H1=>∃ j:Int,vs=[.int j]/\-(2 ^ 62)<=j/\j<2 ^ 62/\R (Q2r 0 j.toNat x C) H1
theorem ZA {a:Expr}{ta:TA}{p pos:Pos}{x C:Addr}(hh:X.A.handled=some (.ref x))(hg:Gl X "range") (hm:X.mg "range" = none) (ha:PA X [a] ta) (hs:starEach [a] X.env=[(false,eval a X.env)]:=by rfl):PIM X tg (.Call (.Name "range" p) [a] [] pos) (Q5u x C ta):=by
 intro pins s σ H R I h
 refine Call_ (GX I hg hm boot_range (E6 (thn (ha pos pins s σ H _ I h) fun us s1 ⟨vs,H1,I1,r1,j,e,q1,q2,q⟩=>?_) hs rfl))
 subst e
 cases r1 with
 | cons r rr =>
   cases rr;obtain ⟨t,rfl⟩:=r
   exact call_range_1 (J2x hh I1 (by omega) (by omega) q1 q2 (by simpa using q))
end
section
variable {X:Cx}{elt iter tg:Expr}{ifs:List Expr}{scope:Scope}{pos:Pos}{N':List Str}{map:List (Option Nat)}{wi:TI}{g:TG}{tt:TT}{te:TE}
theorem BlkM.clos {pins:List (Addr×Obj)}{σ:St}{H:Hp}{s:Shared}(B:BlkM X N' scope map tg elt ifs g tt te)(I:Inv X pins σ H s) :
 ∃ cl,closureFor scope X.env=pure cl/\(∀ x c,cl.lookup x=some c->X.env.cells.lookup x=some c)/\∀ x,(x,NameKind.free)∈scope.names->(cl.lookup x).isSome=true :=
 IX fun x hx=>I.ok.has x (by
  have q:=E5.mp B.free _ hx
  simpa using q)
theorem WL {i:Nat}{y:Str}{py spos:Pos}(hN:X.N.Nodup)(hiN:X.N[i]?=some y)(hy:Loc X.env.scope y)(B:BlkM X N' scope map tg elt ifs g tt te)(hi:PIM X tg iter wi)
 (hsw:swapsWith (.ListComp elt [⟨tg,iter,ifs,0⟩] scope pos) (some (.Name y py)) spos.line X.env=pure true:=by rfl) (hfn:X.fn y=true\/X.env.scope.names.lookup y=some .local:=by first|exact .inl rfl|exact .inr rfl)
 (hs:∀ x,foldedSetIterable iter X.env x=pure x:=by intro _;rfl):PS X (.Assign [.Name y py] (.ListComp elt [⟨tg,iter,ifs,0⟩] scope pos) spos) (WA i wi map g tt te):=by
 intro pins s σ H D I h
 obtain ⟨cl,hcl,hsub,hhas⟩:=B.clos I
 rw [exec_Assign_Name_used _ _ _ _ hsw]
 refine B0 (B0o (B0 ?_))
 show wpAny _ _ (do let _ <- comprehension (.ListComp elt [⟨tg,iter,ifs,0⟩] scope pos) scope X.env _ (newList []) false (eval iter X.env) (some (assign (.Name y py) X.env))) _ _ _
 refine B0 (thn (B1z (use:=some (assign (.Name y py) X.env)) (Q:=fun _ s'=>SP X pins D .next s') rfl hs hcl B.kind B.loc (thn (hi pins s σ H _ I h) fun v s1 h1=>thn h1 fun itv s2 h2=>?_)) fun _ s' hq=>B1 (B1 hq))
 obtain ⟨it,fp,tn,J,H2,e,I2,T,st2,f2,W,⟨m0,w0⟩,turn⟩:=h2
 subst e
 refine VL (RR:=fun acc C=>compPost (model X.prog X.w) X.A X.xe (some (assign (.Name y py) X.env)) (fun _ s'=>SP X pins D .next s') acc C) I2 B hsub hhas (R:=fun Y=>Y.A=X.A) (fun _ _ _ _ _=>rfl) T st2 f2 w0 turn (fun d C acc H' s' m I' hD nsm fC c1 c2 c3 c4 fin=>?_) fun D C e s' z=>z
 refine wpAny_assign_Name (LL I' hN hiN hy (v:=.ref d) rfl (fun s'' I'' ⟨a,sb,ha⟩=>?_) hfn)
 have hCa:C≠a:=by
  rcases ha with z|z
  · rw [z];exact c1
  · exact (c3 y a z).symm
 refine ⟨m,nsm.sameBut sb hCa,fun h' sb'=>⟨_,_,?_,fin d hD⟩⟩
 exact I''.turned (t':=s''.toks) (fun b o hb e=>(sb'.2 b hb).trans e) fC c1 (.inr c2) c3 c4
end
theorem XW {lo:Int}{n:Nat}{x C:Addr}{g:TG}{tt:TT}{te:TE}{σc:St}{H:Hp}{Fin:List V->Hp->Prop}(Pv:Nat->List V->Hp->Prop)(hz:n<=sizeLine)(h0:Pv 0 [] H)(hn:∀ i acc H,Pv i acc H->acc.length<=i/\H x=some (ExcO x C))
 (hs:∀ i acc H,i<n->Pv i acc H->g (.int (lo+i)) σc H fun σ4 H4=>tt σ4 H4 fun b H5=>if b=true then te σ4 H5 fun v H6=>Pv (i+1) (acc++[v]) H6 else Pv (i+1) acc H5)
 (hd:∀ acc H,Pv n acc H->Fin acc H):∃ W:Nat->Nat->List V->Hp->Prop,(∃ m,W 0 m [] H)/\LK (Q2r lo n x C) g tt te σc Fin W:=by
 refine ⟨fun i m acc H=>m=n - i/\i<=n/\Pv i acc H,⟨n,by simp,D2 _,h0⟩,?_⟩
 rintro i m acc H ⟨rfl,hi,p⟩
 obtain ⟨hacc,ht⟩:=hn i acc H p
 by_cases hlt:i<n
 · refine .inr ⟨hlt,by omega,Pv (i+1),fun acc' H' p'=>⟨n - (i+1),by omega,rfl,hlt,p'⟩,fun y H' z=>?_⟩
   obtain ⟨e,z⟩:=z;subst e;subst z
   exact hs i acc _ hlt p
 · have e:i=n:=by omega
   subst e
   exact .inl ⟨⟨L8 _,ht⟩,by omega,hd acc H p⟩
structure RoomM (k:Nat)(A:Around):Prop where
 dp:A.depth+3*k+5<recursionLimit
 un:A.units+16*k+200<cLine
theorem RoomM.deeper {k:Nat}{A:Around}(r:RoomM (k+1) A)(env:Env):RoomM k (A.deeper env):=⟨by have:=r.dp;show A.depth+1+3*k+5<_;omega,by have:=r.un;show A.units+3+16*k+200<_;omega⟩
theorem RoomM.depth {k:Nat}{A:Around}(r:RoomM k A):A.depth<recursionLimit:=by have:=r.dp;omega
theorem RoomM.units {k:Nat}{A:Around}(r:RoomM k A):A.units+64<cLine:=by have:=r.un;omega
theorem Room.mark {k:Nat}{A:Around}(r:Room k A)(h:Option Value):RoomM k (A.mark h):=⟨r.dp,r.un⟩
structure FnOkM (P:Program)(w:World)(K:Fg)(mg:Str->Option Value)(base:Heap)(k:Nat)(f:Addr)(fd:FuncData)(ps:List Str)(sp:Addr->Sp):Prop where
 len:∀ x vs H Q E,sp x vs H Q E->vs.length=ps.length
 run:∀ (A:Around) (outer:List Env) (s:Shared) (H:Hp) (args:Args) (us:List Value) (vs:List V) (Q:VK) (x:Addr),RoomM k A->A.handled=some (.ref x)->Env0 P w K mg base A outer s H->BindsTo s fd args (ps.zip us)->Vals vs us->sp x vs H Q E0->codeAny (model P w) A (.call (.ref f) args) (CR CX0 outer P w H s Q E0) s
def QJ (P:Program)(w:World)(K:Fg)(mg:Str->Option Value)(base:Heap)(N:List Str)(qual:Str)(scope:Scope)(f:Addr)(cd:Value)(A:Around)(outer:List Env)(s:Shared)(H:Hp):Cx where
 prog:=P
 w:=w
 K:=K
 mg:=mg
 base:=base
 A:=A.deeper (envOfC qual scope s.heap.objs.size f cd)
 N:=N
 s₀:=s
 H₀:=H
 env:=envOfC qual scope s.heap.objs.size f cd
 outer:=outer
 stack:=envOfC qual scope s.heap.objs.size f cd::outer
 ex:=[]
 calm:=false
 fn:=fun _=>true
 pn:=[]
 xe:=fun _ _=>False
theorem ZV {P:Program}{w:World}{K:Fg}{mg:Str->Option Value}{base:Heap}{N ps:List Str}{qual:Str}{scope:Scope}{f:Addr}{cd:Value}{A:Around}{outer:List Env}{s s1:Shared}{H:Hp}{us:List Value}{vs:List V}
 (S:FnScope N ps scope) (e0:Env0 P w K mg base A outer s H) (hl:vs.length=ps.length) (r:Vals vs us)
 (x:InCallC s s.heap.objs.size (bindL (envOfC qual scope s.heap.objs.size f cd).kindOf (ps.zip us) fun _=>none) (cellsFrom (s.heap.objs.size+1) scope.names []) (bindC (envOfC qual scope s.heap.objs.size f cd).kindOf (ps.zip us) fun _=>none) s1) :
 Inv (QJ P w K mg base N qual scope f cd A outer s H) [] (BF N vs) H s1:=by
 have hpl:ps.length<=N.length:=by have:=D7 List.length S.pre;rw [B2k] at this;omega
 obtain ⟨h1,tk,rfl,hk⟩:=x.done
 have noA:∀ b:Addr,b∉(QJ P w K mg base N qual scope f cd A outer s H).ex:=fun b z=>absurd (show b∈([]:List Addr) from z) (by simp)
 refine ⟨⟨e0.mod,S.kind,rfl,rfl,L8 _,fun y z c h1 h2=>?_,fun y hy=>?_,fun y c _ h=>?_,fun z=>(by cases z),Around.frames_deeper e0.frames,.inr ⟨rfl,rfl⟩,fun b z=>absurd z (noA b),e0.bs,e0.bsz,fun b _ _=>noA b,fun b z=>absurd z (noA b),e0.funs,e0.frf⟩,
  rfl,e0.bare,Un.kept hk,⟨_,x.toInCall.ns,fun i y v h1 h2 h3=>?_⟩,fun y c h=>⟨_,x.cell y c h⟩,e0.hok.fresh (L8 _),fun y c h=>?_,fun p hp=>absurd (show p∈([]:List (Addr×Obj)) from hp) (by simp),e0.hok.kept hk,?_⟩
 · exact name_of_addr x.apart (T8 h1) (T8 h2)
 · have hy:scope.names.lookup y=some .cell\/scope.names.lookup y=some .free:=hy
   rcases hy with hy|hy
   · exact LH hy
   · exact absurd rfl (S.nofree _ (T8 hy))
 · exact B2b (x.above y c (T8 h))
 · have hi:i<vs.length:=by
    unfold BF at h2
    by_cases hi:i<vs.length
    · exact hi
    · rw [B0h (by simpa using hi)] at h2
      rw [E8] at h2
      split at h2<;>cases h2
   have ha:vs[i]?=some v:=by
    unfold BF at h2
    rw [W9 (by simpa using hi),M1] at h2
    cases e:vs[i]? with
    | none=>rw [e] at h2;cases h2
    | some a=>rw [e] at h2;cases h2;rfl
   obtain ⟨u,hu,rv⟩:=r.get ha
   have hp:ps[i]?=some y:=by
    rw [<- S.pre,List.getElem?_take_of_lt (by omega)];exact h1
   have ndP:ps.Nodup:=by rw [<- S.pre];exact S.nd.sublist (List.take_sublist _ _)
   refine ⟨u,rv,?_⟩
   rcases S.par y (L4 hp) with k|k
   · exact .inl ⟨k,MO ndP hp hu k⟩
   · obtain ⟨c,e⟩:=LH (n:=s.heap.objs.size+1) k
     refine .inr ⟨.inl k,c,e,?_⟩
     have q:=x.cell y c e
     rw [MP ndP hp hu (by show scope.names.lookup y≠_;rw [k];decide)] at q
     exact q
 · exact e0.hok.fresh (B2b (x.above y c (T8 h)))
 · unfold BF
   show _=N.length
   rw [B0d,B9,B2j]
   omega
theorem Q5z {P:Program}{w:World}{K:Fg}{mg:Str->Option Value}{base:Heap}{k:Nat}{f:Addr}{name qual:Str}{params:Arguments}{body:List Stmt}{scope:Scope}{dV kV doc pm cdv ct oc:Value}{an od:Option Addr}
 {osl:Array (Option Value)} {N ps:List Str} {sp:Addr->Sp} (lk:K.lookup f=some ⟨oc,od,.func (PySem.W.fnOf name qual params body scope dV kV doc pm an cdv ct),osl⟩) (hcd:PySem.W.codeIn K cdv qual=true) (S:FnScope N ps scope)
 (len:∀ x vs H Q E,sp x vs H Q E->vs.length=ps.length)
 (hbody:∀ (A:Around) (outer:List Env) (s:Shared) (H:Hp) (vs:List V) (Q:VK) (x:Addr),RoomM k (A.deeper (envOfC qual scope s.heap.objs.size f cdv))->A.handled=some (.ref x)->sp x vs H Q E0 ->
  ∃ t,PSs (QJ P w K mg base N qual scope f cdv A outer s H) body t/\t { nx:=fun _ H'=>Q .non H',rt:=Q } (BF N vs) H) :
 FnOkM P w K mg base (k+1) f (PySem.W.fnOf name qual params body scope dV kV doc pm an cdv ct) ps sp:=by
 refine ⟨len,fun A outer s H args us vs Q x hr hh e0 hb r hsp=>?_⟩
 have hl:=len _ _ _ _ _ hsp
 have KX:K.In s.heap:=e0.mod.kin.keeps fun b o e=>(e0.bs b o e).1
 have lim:s.heap.NoLimit:=e0.mod.nolimit.keeps fun b o e=>(e0.bs b o e).1
 have hkind:∀ y∈ps.zip us,scope.names.lookup y.1=some .local\/(scope.names.lookup y.1=some .cell/\((cellsFrom (s.heap.objs.size+1) scope.names []).lookup y.1).isSome=true):=fun ⟨n,v⟩ hy=>by
  rcases S.par n (B3h hy).1 with q|q
  · exact .inl q
  · exact .inr ⟨q,B2a _ _ _ (.inl q)⟩
 refine codeAny_call_function hr.depth (KX _ _ lk) rfl S.co S.gen rfl (PySem.W.codeRec_of KX hcd) (hb _ _ _ _ ?_)
 refine wpAny_newFunctionEnv_cells S.kind hkind fun env he s1 xc=>?_
 subst he
 refine ⟨lim.keeps xc.toInCall.keep,codeAny_func ?_⟩
 obtain ⟨t,ht,hq⟩:=hbody A outer s H vs Q x (hr.deeper _) hh hsp
 have I:Inv (QJ P w K mg base N qual scope f cdv A outer s H) [] (BF N vs) H s1:=ZV S e0 hl r xc
 refine W0 (ht [] s1 (BF N vs) H _ I hq) (fun fl s' hs=>?_) fun e s' hs=>hs.elim
 have fin:∀ {σ':St} {H':Hp} {v:V} {u:Value},Inv (QJ P w K mg base N qual scope f cdv A outer s H) [] σ' H' s'->RelV v u->Q v H'->CE outer P w H s Q u s' :=
  fun {σ' H' v u} J rv q=>⟨v,H',J.os,J.bare,J.base,J.hok,rv,q⟩
 cases fl with
 | ret u =>
   obtain ⟨v,σ',H',J,rv,q⟩:=hs
   exact fin J rv q
 | next =>
   obtain ⟨σ',H',J,q⟩:=hs
   exact fin (v:=V.non) (u:=Value.none) J rfl q
 | brk =>
   obtain ⟨_,_,_,q⟩:=hs
   exact False.elim q
 | cont =>
   obtain ⟨_,_,_,q⟩:=hs
   exact False.elim q
theorem Fun.okM {P:Program}{w:World} {mg:Str->Option Value}{base:Heap}{x qual:Str}{st:Stmt}{f:Addr} {N ps:List Str}{k:Nat}{sp:Addr->Sp}(F:Fun K x qual st f fd)(S:FnScope N ps (J7 st))(len:∀ y vs H Q E,sp y vs H Q E->vs.length=ps.length)
 (hbody:∀ (cdv:Value) (A:Around) (outer:List Env) (s:Shared) (H:Hp) (vs:List V) (Q:VK) (y:Addr),RoomM k (A.deeper (envOfC qual (J7 st) s.heap.objs.size f cdv))->A.handled=some (.ref y)->sp y vs H Q E0 ->
  ∃ t,PSs (QJ P w K mg base N qual (J7 st) f cdv A outer s H) (BN st) t/\t { nx:=fun _ H'=>Q .non H',rt:=Q } (BF N vs) H):FnOkM P w K mg base (k+1) f fd ps sp:=by
 obtain ⟨oc,od,kV,doc,pm,an,cdv,ct,osl,rfl,lk,hcd⟩:=F.ex
 exact Q5z lk hcd S len fun A outer s H vs Q y hr hh hsp=>hbody cdv A outer s H vs Q y hr hh hsp
structure CalleeM (P:Program)(w:World)(K:Fg)(mg:Str->Option Value)(base:Heap)(x:Str)(k:Nat)(ps:List Str)(sp:Addr->Sp):Prop where
 ex:∃ f fd,FnOkM P w K mg base k f fd ps sp/\mg x=some (.ref f)/\PySem.W.keepIn K (.ref f)=true/\Binds K fd ps []
theorem CalleeM.mk' {x qual:Str}{st:Stmt}{f:Addr} {k:Nat}{ps:List Str}{sp:Addr->Sp}(F:Fun K x qual st f fd)(G:FnOkM P w K mg base k f fd ps sp)(hm:mg x=some (.ref f))(hb:Binds K fd ps []) :
 CalleeM P w K mg base x k ps sp:=⟨f,fd,G,hm,F.kp,hb⟩
theorem Q0o {X:Cx}{k:Nat}{ps:List Str}{sp:Addr->Sp}{x:Str}{p pos:Pos}{e:Expr}{es:List Expr}{t:TA}{y:Addr}(hh:X.A.handled=some (.ref y))(G:CalleeM X.prog X.w X.K X.mg X.base x k ps sp)(hr:RoomM k X.A)(hg:Gl X x)(ha:PA X (e::es) t)(hdb:(x==("__debug__" : Str))=false:=by decide)
 (he:starEach (e::es) X.env=(false,eval e X.env)::starEach es X.env:=by rfl) (hpl:(backTo pos (starEach es X.env)).any (·.1)=false:=by rfl):PE X (.Call (.Name x p) (e::es) [] pos) (MS (sp y) [] E0 t):=by
 obtain ⟨f,fd,F,hm,hk,hb⟩:=G.ex
 intro pins s σ H Q I h
 refine B3d (KZ I hg hm ?_ hdb)
 refine PySem.W.callWith_K (h₀:=X.base) I.ok.mod.kin hk (thn (ha pos pins s σ H _ I h) fun us s1 ⟨vs,H1,I1,r,q⟩=>⟨I1.kIn,?_⟩) he hpl
 have q:sp y (vs++[]) H1 Q E0:=q
 rw [D5] at q
 have hl:us.length=ps.length:=by rw [<- r.length];exact F.len _ _ _ _ _ q
 have hb':=hb s1 us I1.kIn (by simpa using hl)
 rw [D5] at hb'
 refine wpAny_call (B3b (F.run X.A X.stack s1 H1 ⟨us,[]⟩ us vs Q y hr hh I1.env0 hb' r q) fun r s' hq=>?_)
 cases r with
 | error e=>exact hq.elim
 | ok fl =>
   cases fl with
   | ret u=>exact I1.after hq
   | next=>exact False.elim hq
   | brk=>exact False.elim hq
   | cont=>exact False.elim hq
structure XCls (K:Fg)(D:Addr):Prop where
 get:PySem.W.findIn K (.ref D) "__getattribute__" = some (some (.builtin "BaseException.__getattribute__"))
 hook:PySem.W.findIn K (.ref D) "__getattr__" = some none
 fnd:PySem.W.findObj K D none "__class__" = some (.bind (.builtin "getset_descriptor.__get__") (.builtin "object.__class__"))
 mro:PySem.W.mroIn K D (.type "object")=some true
 cls:(PySem.W.clsIn K D).isSome=true
 exc:PySem.W.subIn K (.ref D) (.type "BaseException")=some true
theorem J8i {M:Model}{A:Around}{E:Value->Shared->Prop}{s:Shared}{id:String}{args:Args}{Q:Unit->Shared->Prop}(ha:argsOk id args)(h:Q () s):wpAny M A (match Manifest.signature? id with|some sig=>Bind.checkArgs id sig args|x=>pure ()) Q E s:=by
 cases hsig:Manifest.signature? id with
 | none=>exact B1 h
 | some sig =>
   simp only [argsOk,hsig] at ha
   have h2:Bind.checkArgs id sig args=pure ():=ha
   dsimp only
   rw [h2]
   exact B1 h
theorem Q8i {prog:Program}{w:World}{A:Around}{E:Value->Shared->Prop}{s:Shared} {x D:Addr}{ox:Obj}{t:Tok}{Q:Fin->Shared->Prop}(X:K.In s.heap)(I:PySem.W.InstAt s.heap x ox D none)(F:XCls K D)(h:Q (.done (.ret (.ref D))) s) :
 wpAny (model prog w) A (Builtin.«object.__getattribute__» ⟨[.ref x,.str "__class__" t],[]⟩) Q E s:=by
 obtain ⟨h0,g,d,tt,os⟩:=s
 have L0:=I.type (M:=model prog w)
 have L3:=PySem.W.looks_find (M:=model prog w) X I F.fnd
 unfold Builtin.«object.__getattribute__»
 refine B0 (B1 ?_)
 refine B0 (B1 ?_)
 refine B0 (L0.at ?_)
 refine B0 (L3.at ?_)
 dsimp only
 unfold Builtin.ObjectAttr.bindTo
 refine B0 (W1 (wpAny_call (PySem.W.class_get (s:=⟨h0,g,d,tt,os⟩) (ox:=ox) (od:=none) X I F.mro ?_)))
 exact B1 h
theorem V1f {prog:Program}{w:World}{A:Around}{E:Value->Shared->Prop}{s:Shared} {x D:Addr}{ox:Obj}{Q:Option Value->Shared->Prop}(X:K.In s.heap)(I:PySem.W.InstAt s.heap x ox D none)(F:XCls K D)(h:Q (some (.ref D)) { s with toks:=s.toks+1 }) :
 wpAny (model prog w) A (getAttr? (.ref x) "__class__") Q E s:=by
 obtain ⟨h0,g,d,tt,os⟩:=s
 have L0:=I.type (M:=model prog w)
 have L1:=PySem.W.looks_findIn (M:=model prog w) X F.get
 have L2:=PySem.W.looks_findIn (M:=model prog w) X F.hook
 have L3:=PySem.W.looks_find (M:=model prog w) X I F.fnd
 have LB:PySem.W.Looks (model prog w) h0 (isInstance (.ref x) (.type "BaseException")) true:=L0.andThen (B1o X F.exc)
 have f3:=PySem.F.attr_ValueError.ga.bind (.ref x)
 have hx2:(Value.builtin "BaseException.__getattribute__"==Value.builtin "object.__getattribute__")=false:=by decide +kernel
 unfold getAttr? getAttrBy? getAttrBy;refine B0 (wpAny_mkText (B0 (B1d (W1 (B0 (L0.at (B0 (L1.at ?_))))))))
 dsimp only;rw [if_neg (by rw [hx2];simp)]
 unfold getAttrByItsOwn hookBefore;refine B0 ?_
 rw [if_pos (by rfl)];refine L2.at ?_
 refine B0 (B1d (W1 ?_))
 unfold callGetattribute;rw [if_neg (by simp)]
 unfold boundAndCalled;rw [f3];refine B0 (B1 ?_)
 refine wpAny_call (codeAny_call_builtin PySem.F.attr_ValueError.ga.plain PySem.F.entry_bexc_ga ?_)
 have hk:builtinKind "BaseException.__getattribute__" = some .slot:=by decide +kernel
 have hsplit:splitId "BaseException.__getattribute__" = some ("BaseException","__getattribute__"):=by decide +kernel
 have ha:=PySem.F.args_bexc_ga (.ref x) (.str "__class__" tt)
 simp only [checkBuiltinCall,hk,hsplit]
 refine B0 (LB.at ?_)
 simp only [if_true,B2l,U4,B0g]
 refine J8i ha (Q8i X I F ?_)
 dsimp only
 exact PySem.W.handed_on rfl (B1 h)
theorem MC {M:Model}{h:Heap}{C:Addr}(X:K.In h)(e1:(PySem.W.clsIn K C).isSome=true):PySem.W.Looks M h (isType (.ref C)) true:=by
 unfold PySem.W.clsIn at e1
 split at e1
 · rename_i c' d' cd' sl' ho
   intro A' Q' E' s' k q
   unfold isType loadHead;exact B0 (wpAny_loadPart (k _ _ (X _ _ ho)) (B1 q))
 · cases e1
section
variable {prog:Program}{w:World}{A:Around}{E:Value->Shared->Prop}{s:Shared}{K:Fg}{x C D:Addr}{ox:Obj}{T:String}{Q:Value->Shared->Prop}
theorem Q1j (X:K.In s.heap)(I:PySem.W.InstAt s.heap x ox D none)(F:XCls K D)(e:PySem.W.kin_not K D C=true)(h:Q (.bool false) { s with toks:=s.toks+1 }):wpAny (model prog w) A (call (.builtin "isinstance") [.ref x,.ref C]) Q E s:=by
 unfold PySem.W.kin_not at e
 rw [R4,R4,R4] at e
 obtain ⟨⟨⟨e0,e1⟩,e2⟩,e3⟩:=e
 have hne:(Value.ref D==Value.ref C)=false:=Bool.eq_false_iff.mpr fun q=>B0a e0 (Value.ref.inj (B0s.mp q))
 refine call_isinstance_of ?_ (by intro q;cases q)
 obtain ⟨h0,g,d,tt,os⟩:=s
 have L0:=I.type (M:=model prog w)
 have hsub:PySem.W.Looks (model prog w) h0 (isSubtype (.ref D) (.ref C)) false:=B1o X (B0s.mp e3)
 have hty:PySem.W.Looks (model prog w) h0 (typeOf (.ref C)) (.type "type"):=PySem.W.looks_typeIn X (B0s.mp e2)
 have LI:PySem.W.Looks (model prog w) h0 (isInstance (.ref x) (.ref C)) false:=L0.andThen hsub
 unfold Builtin.«isinstance.nested»;refine B0 (L0.at ?_)
 rw [if_neg (fun q=>by rw [hne] at q;exact Bool.noConfusion q)];refine B0 (hty.at ?_)
 rw [if_pos (by decide)];k_delta "plainIsInstance"
 refine B0 (B0 ((MC X e1).at ?_));simp only [B2l,U4,B0g]
 refine B0 (LI.at ?_);simp only [U4,B0g]
 refine B0 (V1f (s:=⟨h0,g,d,tt,os⟩) X I F ?_)
 refine B0 ((MC X F.cls).at ?_);simp only [B2l,U4,B0g]
 refine B0 (B2h ?_);refine hsub.at ?_
 first|exact B1 h|exact B1 (B1 h)|exact B0 (B1 (B1 h))
theorem J6x (I:PySem.W.InstAt s.heap x ox D none)(h:Q (.bool true) s):wpAny (model prog w) A (call (.builtin "isinstance") [.ref x,.ref D]) Q E s:=by
 refine call_isinstance_of ?_ (by intro q;cases q)
 obtain ⟨h0,g,d,tt,os⟩:=s
 have L0:=I.type (M:=model prog w)
 unfold Builtin.«isinstance.nested»;refine B0 (L0.at ?_)
 rw [if_pos (by simp)]
 repeat (first|refine B1 ?_|refine B2h ?_|refine B0 ?_)
 exact h
theorem J6y (X:K.In s.heap)(I:PySem.W.InstAt s.heap x ox D none)(e:PySem.W.subIn K (.ref D) (.type T)=some true)(ht:typeOf (.type T)=pure (.type "type")) (h:Q (.bool true) s):wpAny (model prog w) A (call (.builtin "isinstance") [.ref x,.type T]) Q E s:=by
 refine call_isinstance_of ?_ (by intro q;cases q)
 obtain ⟨h0,g,d,tt,os⟩:=s
 have L0:=I.type (M:=model prog w)
 have LI:PySem.W.Looks (model prog w) h0 (isInstance (.ref x) (.type T)) true:=L0.andThen (B1o X e)
 unfold Builtin.«isinstance.nested»;refine B0 (L0.at ?_)
 rw [if_neg (by intro q;cases eq_of_beq q)];refine B0 (B3g ht ?_)
 rw [if_pos (by decide)];k_delta "plainIsInstance"
 refine B0 (B0 (m:=isType (.type T)) (B1 (a:=true) ?_));simp only [B2l,U4,B0g]
 refine B0 (LI.at ?_);simp only [if_true]
 first|exact B1 h|exact B1 (B1 h)|exact B0 (B1 (B1 h))
end
section
variable {X:Cx}
theorem Inv.instAt {pins:List (Addr×Obj)}{σ:St}{H:Hp}{s:Shared}{x C:Addr}(I:Inv X pins σ H s)(hx:H x=some (ExcO x C)):∃ ox,PySem.W.InstAt s.heap x ox C none:=by
 obtain ⟨ox,vs,e1,e2,e3,e4,e5⟩:=I.exc hx
 exact ⟨ox,e1,e2,by unfold PySem.W.notCls;rw [e4],by rw [e3];trivial⟩
theorem Z3 (K:Fg)(hK:X.K=K):CB X (.builtin "isinstance") (fun xs H Q=>∃ (x D C:Addr) (b:Bool),xs=[.ref x,.ref C]/\H x=some (ExcO x D)/\((b=true/\C=D)\/(b=false/\XCls K D/\PySem.W.kin_not K D C=true))/\Q (.bl b) H):=by
 intro pins s σ H xs us Q I r h
 subst hK
 obtain ⟨x,D,C,b,rfl,hx,hb,q⟩:=h
 obtain ⟨u,w',rfl,r1,r2⟩:=RQ r
 cases r1;cases r2
 obtain ⟨ox,hI⟩:=I.instAt hx
 rcases hb with ⟨rfl,rfl⟩|⟨rfl,F,e⟩
 · exact J6x hI ⟨.bl true,H,I,rfl,q⟩
 · exact Q1j I.kIn hI F e ⟨.bl false,H,I.tok _,rfl,q⟩
theorem RN (K:Fg)(hK:X.K=K):CB X (.builtin "isinstance") (fun xs H Q=>∃ (x D:Addr) (T:String),xs=[.ref x,.ty T]/\H x=some (ExcO x D)/\PySem.W.subIn K (.ref D) (.type T)=some true/\typeOf (.type T)=pure (.type "type")/\Q (.bl true) H):=by
 intro pins s σ H xs us Q I r h
 subst hK
 obtain ⟨x,D,T,rfl,hx,e,ht,q⟩:=h
 obtain ⟨u,w',rfl,r1,r2⟩:=RQ r
 cases r1;cases (show w'=Value.type T from r2)
 obtain ⟨ox,hI⟩:=I.instAt hx
 exact J6y I.kIn hI e ht ⟨.bl true,H,I,rfl,q⟩
theorem AY {x:Str}{C:Addr}{pos:Pos}(hg:Gl X x)(hm:X.mg x=some (.ref C))(hd:(x==("__debug__" : Str))=false:=by decide):PE X (.Name x pos) (tC (.ref C)):=J0x hg hm rfl hd
end
theorem Q1n {M:Model}{A:Around}{E:Value->Shared->Prop}{s:Shared} {x B C:Addr}{ox:Obj}{Q:Bool->Shared->Prop}(X:K.In s.heap)(I:PySem.W.InstAt s.heap x ox C none)(hB:(PySem.W.clsIn K B).isSome=true)(tB:PySem.W.typeIn K (.ref B)=some (.type "type"))
 (bB:PySem.W.subIn K (.ref B) (.type "BaseException")=some true) (cB:PySem.W.subIn K (.ref C) (.ref B)=some true) (h:Q true s):wpAny M A (excMatches (.ref x) (.ref B)) Q E s:=by
 obtain ⟨h0,g,d,tt,os⟩:=s
 have LT:PySem.W.Looks M h0 (isInstance (.ref B) (.type "tuple")) false:=(PySem.W.looks_typeIn X tB).andThen (PySem.W.Looks.of_pure tc_notTuple)
 have LE:PySem.W.Looks M h0 (isExcClass (.ref B)) true:=by
  unfold isExcClass
  exact (MC X hB).andThen (B1o X bB)
 unfold excMatches
 refine B0 (LT.at ?_)
 simp only [U4,B0g]
 refine B0 (B1 ?_)
 simp only [B1t,B2v]
 refine B0 (B0 (B0 (LE.at ?_)))
 simp only [B2l,U4,B0g]
 refine B1 (B1 ?_)
 refine B0 (I.type.at ?_)
 refine B0 (B0 (B0 ((B1o X cB).at ?_)))
 simp only [if_true]
 exact B1 (B1 (B1 h))
abbrev Cx.re (X:Cx)(E:Value->Shared->Prop)(pn:List (Addr×Obj)):Cx:={ X with xe:=E,pn:=pn }
abbrev Cx.marked (X:Cx)(x:Addr):Cx:={ X with A:=X.A.mark (some (.ref x)),calm:=false,xe:=fun _ _=>False }
section
variable {X:Cx}{pins pl:List (Addr×Obj)}{σ:St}{H:Hp}{s:Shared}{E:Value->Shared->Prop}{x:Addr}
theorem Cx.Ok.re (ok:X.Ok)(E:Value->Shared->Prop)(pn:List (Addr×Obj)):(X.re E pn).Ok:=⟨ok.mod,ok.kind,ok.glob,ok.blt,ok.above,ok.inj,ok.has,ok.cab,ok.hd,ok.frames,ok.stk,ok.exf,ok.bs,ok.bsz,ok.noex,ok.exfs,ok.funs,ok.frf⟩
theorem Cx.Ok.unre {pn:List (Addr×Obj)}(ok:(X.re E pn).Ok):X.Ok:=⟨ok.mod,ok.kind,ok.glob,ok.blt,ok.above,ok.inj,ok.has,ok.cab,ok.hd,ok.frames,ok.stk,ok.exf,ok.bs,ok.bsz,ok.noex,ok.exfs,ok.funs,ok.frf⟩
theorem Cx.Ok.marked (ok:X.Ok)(x:Addr):(X.marked x).Ok:=⟨ok.mod,ok.kind,ok.glob,ok.blt,ok.above,ok.inj,ok.has,ok.cab,fun z=>(by cases z),ok.frames,ok.stk,ok.exf,ok.bs,ok.bsz,ok.noex,ok.exfs,ok.funs,ok.frf⟩
theorem Inv.re (I:Inv X pins σ H s)(E:Value->Shared->Prop):Inv (X.re E (X.pn++pins)) [] σ H s:=⟨I.ok.re E _,I.os,I.bare,I.base,I.loc,I.cell,I.free,I.freeC,fun p hp=>I.pin p (by simpa using hp),I.hok,I.len⟩
theorem Inv.unre (I:Inv (X.re E (X.pn++pins)) pl σ H s):Inv X pins σ H s:=⟨I.ok.unre,I.os,I.bare,I.base,I.loc,I.cell,I.free,I.freeC,fun p hp=>I.pin p (T9 _ hp),I.hok,I.len⟩
theorem Inv.marked (I:Inv X pins σ H s)(x:Addr):Inv (X.marked x) pins σ H s:=⟨I.ok.marked x,I.os,I.bare,I.base,I.loc,I.cell,I.free,I.freeC,I.pin,I.hok,I.len⟩
theorem Inv.unmarked (ok:X.Ok)(I:Inv (X.marked x) pins σ H s):Inv X pins σ H s:=⟨ok,I.os,I.bare,I.base,I.loc,I.cell,I.free,I.freeC,I.pin,I.hok,I.len⟩
theorem Inv.forget {i:Nat}{n:Str}{m:Str->Option Value}{u:Option Value}{h':Heap}(I:Inv X pins σ H s)(hN:X.N.Nodup)(hi:X.N[i]?=some n)(hσ:σ[i]?=some none)(hn:s.heap.Ns X.env.locals m)(hn':h'.Ns X.env.locals (fun y=>if y=n then u else m y))(hs:Heap.SameBut X.env.locals s.heap h') :
 Inv X pins σ H { s with heap:=h' }:=by
 obtain ⟨m0,hn0,hl⟩:=id I.loc
 obtain ⟨oL,_,_,hoL,_⟩:=id hn
 have cne:=I.cne
 have mm:m0=m:=by
  obtain ⟨o,es,ep,e1,d1,_,f1⟩:=hn0;obtain ⟨o',es',ep',e2,d2,_,f2⟩:=hn
  rw [e1] at e2;cases e2;rw [d1] at d2;cases d2;funext y;rw [<- f1,<- f2]
 subst mm
 refine ⟨I.ok,I.os,I.bare,⟨fun b o e n hb hx=>?_,fun b o e n hb hx=>?_,I.base.free,fun b o e hx=>?_,I.base.tups,I.base.frzs,I.base.tbls⟩,⟨_,hn',fun j y v' e1 e2 e3=>?_⟩,fun y c e=>?_,I.free,I.freeC,fun p hp=>?_,fun b ob e=>?_,I.len⟩
 · exact (hs.2 b (R8 (M4 (B4 e) I.ok.above))).trans (I.base.keep b o e n hb hx)
 · obtain ⟨sl,e1⟩:=I.base.slot b o e n hb hx
   exact ⟨sl,(hs.2 b (R8 (M4 (B4 e) I.ok.above))).trans e1⟩
 · obtain ⟨o',e1⟩:=I.base.there b o e hx
   exact ⟨o',(hs.2 b (R8 (M4 (B4 e) I.ok.above))).trans e1⟩
 · obtain ⟨u',r',q⟩:=hl j y v' e1 e2 e3
   refine ⟨u',r',?_⟩
   have hj:j≠i:=fun z=>by rw [z,hσ] at e2;cases e2
   rcases q with ⟨k,e⟩|⟨k,c,e,z⟩
   · refine .inl ⟨k,?_⟩
     have:y≠n:=fun e=>hj (PH hN e1 (e▸hi))
     simp [this,e]
   · exact .inr ⟨k,c,e,z.sameBut hs (cne y c e)⟩
 · obtain ⟨w',z⟩:=I.cell y c e
   exact ⟨w',z.sameBut hs (cne y c e)⟩
 · obtain ⟨e,n,ne,nf,d⟩:=I.pin p hp
   exact ⟨(hs.2 p.1 ne).trans e,n,ne,nf,d⟩
 · refine (I.hok b ob e).stay (fun c w' hc q=>(hs.2 c ?_).trans q) (fun _ q=>q) fun _ _ q=>q
   rintro rfl
   rcases hc with rfl|hc
   · rw [I.free] at e;cases e
   · rw [I.free] at hc;cases hc
theorem IC {M:Model}{A:Around}{F:Value->Shared->Prop}{i:Nat}{n:Str}{pos:Pos}{Q:Unit->Shared->Prop}(I:Inv X pins σ H s)(hN:X.N.Nodup)(hi:X.N[i]?=some n)(hx:X.env.scope.names.lookup n=some .local)
 (h:∀ s',Inv X pins (σ.set i none) H s'->Q () s'):wpAny M A (do bindName X.env n .none;unbindBehindTheSuite X.env n pos) Q F s:=by
 have hcls:(X.env.scope.kind==.class||(X.env.scope.kind==.module&&X.env.locals != X.env.globals))=false:=by rw [I.ok.kind];rfl
 have hiσ:i<σ.length:=by rw [I.len];exact (B7.mp hi).1
 refine B0 (wpAny_bindName (EU I hN hi (.inl hx) (v:=V.non) (u:=Value.none) rfl (fun s1 I1=>?_) (.inr hx)))
 unfold unbindBehindTheSuite;refine wpAny_onRaise ?_
 obtain ⟨m,hn,hl⟩:=id I1.loc
 obtain ⟨u,r,q⟩:=hl i n .non hi (by simp [hiσ]) (.inl hx)
 have hv:m n=some u:=by
  rcases q with ⟨_,e⟩|⟨k,_⟩
  · exact e
  · have hx':X.env.kindOf n=some .local:=hx
    rw [hx'] at k
    rcases k with z|z<;>cases z
 refine wpAny_unbindName_local hx hn hv hcls fun h' u' hn' hs=>h _ ?_
 have I2:Inv X pins (σ.set i none) H s1:=I1.weak (by simp) fun j v e=>by
  by_cases hj:j=i
  · subst hj
    rw [B2d hiσ] at e;cases e
  · rw [L6 (B0q hj)] at e ⊢
    exact e
 exact I2.forget hN hi (by rw [B2d hiσ]) hn hn' hs
end
theorem J3i {M:Model}{A:Around}{F:Value->Shared->Prop}{s:Shared} {env:Env}{outer:List Env}{L x T0:Addr}{ox oT:Obj}{vs ts:Array Value}{Q:Unit->Shared->Prop}(f1:A.frames=some (env::outer))(f2:s.heap.FunFrames base (env::outer))(f3:env.frame=some L)
 (x1:s.heap.get? x=some ox) (x2:ox.data=.fields vs) (x3:vs[1]?=some (.ref T0)) (t1:s.heap.get? T0=some oT) (t2:oT.data=.fields ts) (t3:ts[3]?=some .none) (tx:T0≠x)
 (q:∀ h' T,Gone ((env::outer).filterMap (·.frame)) x ox [T0] s.heap h' T->Q () { s with heap:=h' }):wpAny M A (noteFrame (.ref x) env) (fun _ s'=>wpAny M A (setFlight (.ref x) none) Q F s') F s:=by
 unfold noteFrame;simp only [f3]
 refine B0 (T6 x1 x2 x3 ?_);rw [if_pos (show (Value.ref T0 != Value.none)=true from by simp)]
 refine B0 (T6 t1 t2 t3 ?_);rw [if_neg (show ¬ ((Value.none==rawInt L)=true) from by simp [rawInt])]
 refine B0 (B0f t1 t2 (W6.mp t3).1 ?_)
 have oth:∀ b,b≠T0->(s.heap.update T0 (Obj.mapFields (·.setIfInBounds 3 Value.none))).get? b=s.heap.get? b:=fun b hb=>U0 _ _ (B0q hb)
 have nrec:∀ b o,s.heap.get? b=some o->(∀ vs,o.data≠.fields vs)->b≠T0:=fun b o e n z=>by
  rw [z,t1] at e
  cases e
  exact n ts t2
 have fT:∀ b∈(env::outer).filterMap (·.frame),b≠T0:=fun b hb=>by
  obtain ⟨_,o,e1,e2⟩:=f2.mem hb
  exact nrec b o e1 e2
 refine JY f1 (f2.of_keeps fun b o e n=>⟨o,(oth b (nrec b o e n)).trans e,rfl⟩) f3 ((oth x (B0q tx)).trans x1) x2 (W6.mp x3).1 fun h' T g=>q h' T ⟨?_,?_,?_,g.exc,g.tr⟩
 · intro b o nf nx no e
   exact g.keep b o nf nx (by simp) ((oth b (by simpa using no)).trans e)
 · intro b o hb e
   exact g.slot b o hb ((oth b (fT b hb)).trans e)
 · have:=g.new
   simpa using this
structure XBase (K:Fg)(B:Addr):Prop where
 cls:(PySem.W.clsIn K B).isSome=true
 typ:PySem.W.typeIn K (.ref B)=some (.type "type")
 exc:PySem.W.subIn K (.ref B) (.type "BaseException")=some true
noncomputable def Q4m (N:List Str)(K:Fg)(Ba:Addr)(i:Nat)(tb:XK->TS)(th:Addr->TS):TS:=fun D σ H=>∃ E:XK,tb E D σ H/\∀ C H' x,E (.ref C) none H'->H' x=none->PySem.W.subIn K (.ref C) (.ref Ba)=some true /\
 th x { nx:=fun σ' H''=>D.nx (σ'.set i none) H'',rt:=D.rt,bk:=fun σ' H''=>D.bk (σ'.set i none) H'',ct:=fun σ' H''=>D.ct (σ'.set i none) H'' } ((List.replicate N.length none).set i (some (.ref x))) (upd H' x (ExcO x C))
theorem Q4y {X:Cx}{body:List Stmt}{B n:Str}{np hpos pos:Pos}{b₀:Stmt}{suite:List Stmt}{i:Nat}{tb:XK->TS}{th:Addr->TS}{Ba:Addr}(K:Fg)(hK:X.K=K)(hst:X.stack=X.env::X.outer)(hfr:X.env.frame=some X.env.locals)(hg:Gl X B)(hm:X.mg B=some (.ref Ba))(F:XBase K Ba)
 (hN:X.N.Nodup) (hi:X.N[i]?=some n) (hn:X.env.scope.names.lookup n=some .local)
 (hb:∀ (xe:Value->Shared->Prop) (pn:List (Addr×Obj)) (E:XK),DQ (CX1 X.prog X.w X.base) (X.re xe pn) E->PSs (X.re xe pn) body (tb E)) (hs:∀ x,PSs (X.marked x) (b₀::suite) (th x)) (hd:(B==("__debug__" : Str))=false:=by decide) :
 PS X (.Try body [.ExceptHandler (some (.Name B np)) (some n) (b₀::suite) hpos] [] [] pos) (Q4m X.N K Ba i tb th):=by
 intro pins s σ H D I ⟨E,hbody,hcatch⟩
 subst hK
 refine wpAny_Try_except ?_
 have hp:DQ (CX1 X.prog X.w X.base) (X.re (fun e s'=>∃ σ0 H0 s0,Inv X pins σ0 H0 s0/\CX1 X.prog X.w X.base X.stack H0 s0 E e s') (X.pn++pins)) E:=fun pins' σ' H1 s1 e s' I1 h=>⟨σ',H1,s1,I1.unre,h⟩
 refine W0 (hb _ _ E hp [] s σ H D (I.re _) hbody) (fun f s1 q=>?_) (fun e s1 hx=>?_)
 · cases f with
   | next=>obtain ⟨σ',H',I',q⟩:=q;exact B2w ⟨σ',H',I'.unre,q⟩
   | brk=>obtain ⟨σ',H',I',q⟩:=q;exact ⟨σ',H',I'.unre,q⟩
   | cont=>obtain ⟨σ',H',I',q⟩:=q;exact ⟨σ',H',I'.unre,q⟩
   | ret u=>obtain ⟨v,σ',H',I',r,q⟩:=q;exact ⟨v,σ',H',I'.unre,r,q⟩
 obtain ⟨σ0,H0,s0,I0,x,C,H2,rfl,os,bare,U,hok,⟨hx0,hb0,hg0,ox,vs,T0,oT,ts',x1,xc,xn,xd,v1,v2,tx,hT0,bT0,gT0,t1,t2,t3⟩,q⟩:=hx
 obtain ⟨cB,hth⟩:=hcatch C H2 x q hx0
 have I2:Inv X pins σ0 H2 s1:=I0.raised os bare U hok
 have hfrm:X.A.frames=some (X.env::X.outer):=by rw [<- hst];exact I2.ok.frames
 have hstk:s1.heap.FunFrames X.base (X.env::X.outer):=by rw [<- hst];exact I2.stack
 refine J3i (base:=X.base) hfrm hstk hfr x1 xd v1 t1 t2 t3 tx fun h2 T g=>?_
 have hfs:(X.env::X.outer).filterMap (·.frame)=frs X.stack:=by rw [hst];rfl
 rw [hfs] at g
 have ne1:∀ b o,s0.heap.get? b=some o->b≠x/\b≠T0:=fun b o eb=>⟨fun z=>(by rw [z,hg0] at eb;cases eb),fun z=>(by rw [z,gT0] at eb;cases eb)⟩
 have nTo:∀ b o,s1.heap.get? b=some o->b≠T:=fun b o eb z=>by
  have h1:=B4 eb
  rw [z] at h1
  exact absurd (M4 h1 g.new) (M9 _)
 have tH:H2 T=none:=by
  cases z:H2 T with
  | none=>rfl
  | some o =>
    obtain ⟨ob,eo⟩:=(hok T o z).ex
    exact absurd rfl (nTo T ob eo)
 have hTx:T≠x:=fun z=>nTo x ox x1 z.symm
 have dx:=W3 xd (·.setIfInBounds 1 (Value.ref T))
 obtain ⟨oT',tv,g1,g2,g3⟩:=g.tr
 have mk:∀ h3:Heap,(∀ b o,b≠T->h2.get? b=some o->h3.get? b=some o)->Inv X pins σ0 (upd H2 x (ExcO x C)) { s1 with heap:=h3 }:=fun h3 k3=>by
  have nT0:∀ b o,s0.heap.get? b=some o->b≠T:=fun b o eb=>by
   obtain ⟨o',e'⟩:=U.there b o eb (by simp)
   exact nTo b o' e'
  have xg:h3.get? x=some (ox.mapFields (·.setIfInBounds 1 (Value.ref T))):=k3 _ _ (B0q hTx) g.exc
  have hok3:HOk X.prog X.w (upd H2 x (ExcO x C)) h3:=fun b o eb=>by
   by_cases hbx:b=x
   · subst hbx
     rw [V5] at eb
     cases eb
     refine ExcO.ok xg ((B2n ..).trans xc) ((SU ..).trans xn) dx ?_
     rw [Array.getElem?_setIfInBounds_ne (by decide)]
     exact v2
   · rw [V4 hbx] at eb
     refine (hok b o eb).stay (fun c v hc ev=>k3 c v (nTo c v ev) (g.keep c v (fun hb=>?_) (fun z=>?_) (fun z=>?_) ev)) (fun c z=>?_) fun c xs z=>?_
     · have:=I2.stkFree c hb
       rcases hc with y|y
       · rw [y,eb] at this;cases this
       · rw [y] at this;cases this
     · rcases hc with y|y
       · exact hbx (y▸z)
       · rw [z,hx0] at y;cases y
     · have z:c=T0:=by simpa using z
       rcases hc with y|y
       · rw [<- y,z,hT0] at eb;cases eb
       · rw [z,hT0] at y;cases y
     · rw [V4 (V9 z hx0)];exact z
     · rw [V4 (V9 z hx0)];exact z
  refine I0.raised (s':={ s1 with heap:=h3 }) os bare ⟨fun b o eb n hb hx=>?_,fun b o eb n hb hx=>?_,fun b o eb n hx=>?_,fun b o eb hx=>?_,fun b xs e=>?_,fun b o u e=>?_,fun b ps e=>?_⟩ hok3
  · exact k3 b o (nT0 b o eb) (g.keep b o hb (ne1 b o eb).1 (by simpa using (ne1 b o eb).2) (U.keep b o eb n hb hx))
  · obtain ⟨z,e4⟩:=U.slot b o eb n hb hx
    obtain ⟨z',e5⟩:=g.slot b _ hb e4
    exact ⟨z',k3 b _ (nT0 b o eb) e5⟩
  · rw [V4 (ne1 b o eb).1]
    exact U.free b o eb n hx
  · obtain ⟨o',e4⟩:=U.there b o eb hx
    by_cases hb:b∈frs X.stack
    · obtain ⟨z,e5⟩:=g.slot b o' hb e4
      exact ⟨_,k3 b _ (nT0 b o eb) e5⟩
    · exact ⟨o',k3 b _ (nT0 b o eb) (g.keep b o' hb (ne1 b o eb).1 (by simpa using (ne1 b o eb).2) e4)⟩
  · have:=U.tups b xs e
    rw [V4 (V9 this hx0)];exact this
  · have:=U.frzs b o u e
    rw [V4 (V9 this hx0)];exact this
  · obtain ⟨more,this⟩:=U.tbls b ps e
    exact ⟨more,by rw [V4 (V9 this hx0)];exact this⟩
 have I3:=mk h2 fun _ _ _ e=>e
 obtain ⟨o3,hI3⟩:=I3.instAt (x:=x) (C:=C) V5
 refine wpAny_handleBy_cons (codeAny_handlers_test (KZ (X:=X.marked x) (I3.marked x) hg hm ?_ hd)) (by intro z;cases z)
 refine Q1n I3.kIn hI3 F.cls F.typ F.exc cB ?_
 show codeAny _ _ (.handlers (.ref x) [.ExceptHandler none (some n) (b₀::suite) hpos] X.env) _ _
 refine codeAny_handlers_suite_as ?_
 unfold setFlight
 refine B0 (T6 g.exc dx (x:=.ref T) (by have:=(W6.mp v1).1;simp [this]) ?_);rw [if_pos (show (Value.ref T != Value.none)=true from by simp)]
 refine B0f g1 g2 (W6.mp g3).1 ?_
 have I4:=(mk _ fun b o hb e=>(U0 h2 (Obj.mapFields (·.setIfInBounds 3 Value.none)) (B0q hb)).trans e).marked x
 have hiN:i<X.N.length:=(B7.mp hi).1
 have I5:Inv (X.marked x) pins (List.replicate X.N.length none) _ _:=I4.weak (σ':=List.replicate X.N.length none) (by rw [B2j];exact I4.len.symm) fun j v e=>by
  rw [E8] at e
  split at e<;>cases e
 refine EU (X:=X.marked x) I5 hN hi (.inl hn) (v:=V.ref x) (u:=.ref x) rfl (fun s5 I6=>?_) (.inr hn)
 refine W0 (hs x pins s5 _ _ _ I6 hth) (fun f s6 q6=>?_) fun _ _ z=>False.elim z
 cases f with
 | next=>obtain ⟨σ',H',I',q⟩:=q6;exact IC (I'.unmarked I.ok) hN hi hn fun s7 I7=>⟨_,_,I7,q⟩
 | brk=>obtain ⟨σ',H',I',q⟩:=q6;exact IC (I'.unmarked I.ok) hN hi hn fun s7 I7=>⟨_,_,I7,q⟩
 | cont=>obtain ⟨σ',H',I',q⟩:=q6;exact IC (I'.unmarked I.ok) hN hi hn fun s7 I7=>⟨_,_,I7,q⟩
 | ret u=>obtain ⟨v,σ',H',I',r,q⟩:=q6;exact IC (I'.unmarked I.ok) hN hi hn fun s7 I7=>⟨v,_,_,I7,r,q⟩
abbrev bmV:List Value:=[.type "ValueError",.type "Exception",.type "BaseException",.type "object"]
theorem Q2x {x:Str}{C:Addr}{bmB:List Value}{newId:String}(X:K.In base)(G:base.Ns mainGlobals mg)(e:PySem.W.nsIn K mainGlobals x=some (some (.ref C)))(q:PySem.W.excIn K C bmB newId=true):OwnCls x C bmB newId mg base:=by
 refine ⟨B3 X G e,?_⟩
 unfold PySem.W.excIn at q
 split at q
 · rename_i dd cd sl ho
   split at q
   · rename_i C' bm k0 k1 k2 k3 n k5 hm hs
     simp only [R4,B0s,Bool.not_eq_true'] at q;obtain ⟨⟨⟨⟨⟨rfl,rfl⟩,hdel⟩,ht⟩,hok⟩,hni⟩:=q
     obtain ⟨nm,bs,mro,ns,qn,hd,sn,sub,ab,col,del⟩:=cd
     dsimp only at hm hdel hok hni;subst hm hdel
     have hsl:sl=#[k0,k1,k2,k3,some (.builtin n),k5]:=by
      obtain ⟨l⟩:=sl
      simp only at hs;rw [hs]
     subst hsl
     refine ⟨bm,ns,nm,qn,bs,hd,sn,sub,ab,col,dd,k0,k1,k2,k3,k5,_,X _ _ ho,.of_isNs (PySem.W.isNs_of_in X hok),PySem.W.nsMap_none_of_in X hok hni,PySem.W.tail_of_in X ht⟩
   · cases q
 · cases q
theorem ZD {X:Cx}:DQ (CX1 P w base) X E0:=fun _ _ _ _ _ _ _ h=>by
 obtain ⟨_,_,_,_,_,_,_,_,_,q⟩:=h
 exact q.elim
theorem QT:typeOf (.type "ValueError")=pure (.type "type"):=by kernel_rfl
theorem LX {P:Program}{w:World}{K:Fg} {N:List Str}{qual:Str}{scope:Scope}{f:Addr}{cd:Value}{A:Around}{outer:List Env}{s:Shared}{H:Hp}{E:XK}{x m:Str}{C:Addr}{j}{mp np cpos pos:Pos}(O:OwnCls x C bmV "ValueError.__new__" mg base)
 (hg:Gl (BW (CX1 P w base) P w K mg base N qual scope f cd A outer s H E) x) (hd:(x==("__debug__" : Str))=false:=by decide) :
 PS (BW (CX1 P w base) P w K mg base N qual scope f cd A outer s H E) (.Raise (some (.Call (.Name x np) [.Constant (.str m) j mp] [] cpos)) none pos) (fun _ _ H1=>E (.ref C) none H1) :=
 J5w (X:=BW (CX1 P w base) P w K mg base N qual scope f cd A outer s H E) O PySem.F.excBase_ValueError (by decide) PySem.F.excBase_ValueError rfl hg E (fun pins σ H1 s1 h' e us I hm q=>J4z pins σ H1 s1 h' e us I hm q) (Q8 GU Z0) (fun σ H Q q=>⟨R5 (R3 rfl) AF,q⟩) rfl rfl hd
section
variable {X:Cx}
theorem J1c:∀ cs:List (Str×Nat×Pos),PA X (cs.map fun c=>.Constant (.str c.1) c.2.1 c.2.2) (fun σ H Q=>Q (cs.map fun c=>V.str c.1) H)
 | []=>Z0
 | c::cs=>by
   intro pos pins s σ H Q I h
   exact Q8 (e:=.Constant (.str c.1) c.2.1 c.2.2) GU (J1c cs) (by rfl) pos pins s σ H Q I h
theorem ZB {es:List Expr}{pos:Pos}(cs:List (Str×Nat×Pos))(h:es=cs.map fun c=>.Constant (.str c.1) c.2.1 c.2.2):PE X (.List es pos) (Q8q fun σ H Q=>Q (cs.map fun c=>V.str c.1) H):=by
 subst h
 exact GV (J1c cs)
end
section
variable {prog:Program}{w:World}{A:Around}{E:Value->Shared->Prop}{s:Shared}
theorem XQ {it l:Addr}{items:Array Value}(hne:l≠it):∀ (n i:Nat) (s:Shared) (Q:List Value->Shared->Prop),s.heap.IsListIter it l i->s.heap.IsList l items->i+n<=items.size ->
 (∀ h',h'.IsListIter it l (i+n)->Heap.SameBut it s.heap h'->Q ((items.toList.drop i).take n) { s with heap:=h' })->wpAny (model prog w) A (draw (.ref it) n) Q E s
 | 0,i,s,Q,hit,_,_,hQ=>by
   show wpAny _ _ (pure []) Q E s;exact B1 (by simpa using hQ s.heap hit (Heap.SameBut.refl ..))
 | n+1,i,s,Q,hit,ht,hle,hQ=>by
   have hlt:i<items.size:=by omega
   show wpAny _ _ (pyNext (.ref it) >>= _) Q E s;refine B0 (wpAny_pyNext_list_item hit ht (x:=items[i]) (by simp [hlt]) fun h₁ hit₁ hs₁=>?_)
   have ht1:h₁.IsList l items:=by
    obtain ⟨o,e,r⟩:=ht
    exact ⟨o,(hs₁.2 l hne).trans e,r⟩
   refine B0 (W1 (XQ hne n (i+1) _ _ hit₁ ht1 (by omega) fun h₂ hit₂ hs₂=>B1 ?_))
   have hd:items.toList.drop i=items[i]::items.toList.drop (i+1):=by simp [B2y,hlt]
   have:=hQ h₂ (by rw [show i+(n+1)=i+1+n by omega];exact hit₂) (hs₁.trans hs₂)
   rw [hd,List.take_succ_cons] at this
   exact this
theorem NF {l:Addr}{items:Array Value}{Q:List Value->Shared->Prop}(hh:A.handled=none)(ht:s.heap.IsList l items)
 (hQ:∀ h',Heap.ExtBut s.heap.objs.size s.heap h'->Q items.toList { s with heap:=h' }):wpAny (model prog w) A (unpackItems (.ref l) items.size none) Q E s:=by
 have hlt:l≠s.heap.objs.size:=by obtain ⟨o,ho,_⟩:=ht;exact R8 (B4 ho)
 have ty:s.TypeIs (.ref l) "list":=by obtain ⟨o,ho,hc,_⟩:=ht;exact ⟨o,ho,hc⟩
 unfold unpackItems;refine B0 ?_
 unfold notIterableAtAll;refine B0 (wpAny_specialOf ty slot_list_iter.lookup ?_)
 refine B1 ?_;simp only [U4,B0g]
 refine B0 (W1 (B2m ht ?_))
 have hp:∀ ob:Obj,(s.heap.push ob).IsList l items:=fun ob=>by
  obtain ⟨o,e,r⟩:=ht
  exact ⟨o,B2 _ e,r⟩
 refine B0 (W1 (XQ hlt items.size 0 _ _ ⟨_,L7 _ rfl,rfl,rfl⟩ (hp _) (by omega) fun h₁ hit₁ hs₁=>?_))
 have hall:List.take items.size (List.drop 0 items.toList)=items.toList:=by rw [List.drop_zero];exact List.take_of_length_le (by simp)
 rw [hall,if_neg (by simp)]
 have ht₁:h₁.IsList l items:=by
  obtain ⟨o,e,r⟩:=ht
  exact ⟨o,(hs₁.2 l hlt).trans (B2 _ e),r⟩
 refine B0 (W1 (wpAny_pyNext_list_end hh hit₁ ht₁ (by simp) fun h₂ he₂=>?_))
 simp only [Option.isSome_none,U4,B0g]
 refine B1 (hQ h₂ fun b o hb e=>he₂ b o hb (hs₁.extBut b o hb (B2 _ e)))
end
section
variable {X:Cx}
noncomputable def V0d (K:Fg)(n:Nat)(t:TGs):TG:=fun v σ H Q=>∃ a xs,v=.ref a/\SqL K H a xs/\xs.length=n/\t xs σ H Q
theorem AQ {es:List Expr}{k:Nat}{t:TGs}{n:Nat}{pos:Pos}(K:Fg)(hK:X.K=K)(hc:X.calm=true)(h:PGs X es t)(hn:(assignEach es X.env).length=n:=by rfl)(hst:(assignEach es X.env).findIdx? (·.1)=none:=by rfl):PG X (.Tuple es k pos) (V0d K n t):=by
 subst hK
 intro pins s σ H v u Q I r hw
 obtain ⟨a,xs,e1,hq,hl,hw⟩:=hw
 subst e1
 cases r
 obtain ⟨its,rv,p,hz⟩:=I.list hq
 have hl':its.toArray.size=n:=by simp [<- hl,rv.length]
 rw [assign_Tuple];refine B0 (B0o ?_)
 unfold unpack;rw [hn,hst,<- hl']
 refine B0 (W1 (NF (I.ok.hd hc) p.isList fun h' hx=>?_))
 have I1:Inv X pins σ H { s with heap:=h' }:=I.kept (t':=s.toks) fun b o e=>hx b o (R8 (B4 e)) e
 exact h pins _ σ H xs _ Q I1 (by simpa using rv) hw
end
structure Frg where
 ads:List Addr
 R:(Addr->Prop)->Hp->V->Prop
 keep:∀ M H H' v,(∀ c o,(¬ M c\/c∈ads)->H c=some o->H' c=some o)->R M H v->R M H' v
 avoid:∀ M M' H v,(∀ c,M' c->M c\/H c=none)->R M H v->R M' H v
 ref:∀ M H v,R M H v->∃ a,v=.ref a
 nt:∀ M H v,R M H v->∀ c∈ads,∃ o,H c=some o/\∀ vs,o≠.tup vs
abbrev Tg:=List (List Int×Addr×Value)×Nat
inductive D where
 | non|bl (b:Bool)|int (i:Int)|str (x:Str)|ty (n:String)|adr (a:Addr)
 | tup (xs:List D)|lst (xs:List D)|own (xs:List D)|bag|scr (ns:List Int)|dct (t:Tg) (ks:List (List Int)) (xs:List D)|frg (f:Frg) (d:D)
structure BagT where
 ok:Addr->Hp->Prop
 st:∀ p H H',ok p H->(∀ o,H p=some o->H' p=some o)->ok p H'
 dm:∀ p H,ok p H->∃ o,H p=some o
def KTp (K:Fg)(a:Addr)(xs:List V):Prop:=∃ (o:Obj) (its:Array Value) (n:Nat),K.lookup a=some o/\o.cls=.type "tuple"/\o.data=.seq its n/\its.size<=sizeLine/\Vals xs its.toList
def TpA (K:Fg)(M:Addr->Prop)(H:Hp)(a:Addr)(vs:List V):Prop:=(¬ M a/\H a=some (.tup vs))\/KTp K a vs
theorem TpA.sq {H:Hp}{a:Addr}{vs:List V}(h:TpA K M H a vs):SqT K H a vs:=h.elim (fun z=>.inl (.inl z.2)) .inr
theorem TpA.keep {H H':Hp}{a:Addr}{vs:List V}(k:∀ b o,¬ M b->H b=some o->H' b=some o)(h:TpA K M H a vs):TpA K M H' a vs:=h.imp (fun z=>⟨z.1,k _ _ z.1 z.2⟩) id
theorem TpA.avoid {M M':Addr->Prop}{H:Hp}{a:Addr}{vs:List V}(k:∀ b,M' b->M b\/H b=none)(h:TpA K M H a vs):TpA K M' H a vs:=by
 refine h.imp (fun z=>⟨fun m=>?_,z.2⟩) id
 rcases k a m with n|n
 · exact z.1 n
 · rw [n] at z;cases z.2
def KL (K:Fg)(a:Addr)(xs:List V):Prop:=∃ (o:Obj) (its:Array Value) (n:Nat),K.lookup a=some o/\o.cls=.type "list"/\o.dict=none/\o.data=.seq its n/\its.size<=sizeLine/\Vals xs its.toList
def tkH (ns:List Int):Int:=reduceHash (Builtin.Tuple.tupleHashOf (ns.map hashInt))
noncomputable def Q7j (x:List Int×Addr×Value):DictEntry:=⟨tkH x.1,.ref x.2.1,x.2.2⟩
def DOb (a:Addr)(es:List (List Int×Addr×Value))(ep:Nat):HO:=.ext fun h=>((a==sysModules)=false/\es.length<=sizeLine/\(es.map (·.1)).Nodup)/\∃ (o:Obj) (ds:Array DictEntry),h.get? a=some o/\o.ExactDict/\o.data=.dict ds ep/\ds.toList=es.map Q7j
def DctE (K:Fg)(M:Addr->Prop)(H:Hp)(es:List (List Int×Addr×Value))(ks:List (List Int))(vs:List V):Prop:=es.map (·.1)=ks/\(∀ e∈es,TpA K M H e.2.1 (e.1.map V.int))/\Vals vs (es.map (·.2.2))
theorem DctE.keep {H H':Hp}{es:List (List Int×Addr×Value)}{ks:List (List Int)}{vs:List V}(k:∀ b o,¬ M b->H b=some o->H' b=some o)(h:DctE K M H es ks vs):DctE K M H' es ks vs:=⟨h.1,fun e m=>(h.2.1 e m).keep k,h.2.2⟩
theorem DctE.avoid {M M':Addr->Prop}{H:Hp}{es:List (List Int×Addr×Value)}{ks:List (List Int)}{vs:List V}(k:∀ b,M' b->M b\/H b=none)(h:DctE K M H es ks vs):DctE K M' H es ks vs:=⟨h.1,fun e m=>(h.2.1 e m).avoid k,h.2.2⟩
mutual
def Rep (K:Fg)(M:Addr->Prop)(H:Hp):D->V->Prop
 | .non,v=>v=.non
 | .bl b,v=>v=.bl b
 | .int i,v=>v=.int i
 | .str x,v=>v=.str x
 | .ty n,v=>v=.ty n
 | .adr a,v=>v=.ref a
 | .tup xs,v=>∃ a vs,v=.ref a/\TpA K M H a vs/\Reps K M H xs vs
 | .lst xs,v=>∃ a vs,v=.ref a/\(¬ M a/\H a=some (.lst vs))/\Reps K M H xs vs
 | .own _,_=>False
 | .bag,_=>False
 | .frg _ _,_=>False
 | .scr ns,v=>∃ a,v=.ref a/\((¬ M a/\Rd H a (.lst (ns.map V.int)))\/KL K a (ns.map V.int))
 | .dct t ks xs,v=>∃ (a:Addr) (vs:List V),v=.ref a/\(¬ M a/\H a=some (DOb a t.1 t.2)/\DctE K M H t.1 ks vs)/\Reps K M H xs vs
def Reps (K:Fg)(M:Addr->Prop)(H:Hp):List D->List V->Prop
 | [],vs=>vs=[]
 | d::ds,vs=>∃ v r,vs=v::r/\Rep K M H d v/\Reps K M H ds r
end
theorem Rd.keep {H H':Hp}{a:Addr}{u:HO}(k:∀ o,H a=some o->H' a=some o)(h:Rd H a u):Rd H' a u:=by
 rcases h with h|⟨o,h⟩
 · exact .inl (k _ h)
 · exact .inr ⟨o,k _ h⟩
theorem Rd.some {H:Hp}{a:Addr}{u:HO}(h:Rd H a u):H a≠none:=by
 rcases h with h|⟨o,h⟩<;>rw [h]<;>simp
section
variable {K:Fg}{M M':Addr->Prop}{H H':Hp}
mutual
theorem Rep.keep (k:∀ b o,¬ M b->H b=some o->H' b=some o):∀ (d:D) (v:V),Rep K M H d v->Rep K M H' d v
 | .non,_,h=>h
 | .bl _,_,h=>h
 | .int _,_,h=>h
 | .str _,_,h=>h
 | .ty _,_,h=>h
 | .adr _,_,h=>h
 | .tup xs,v,h=>by
   obtain ⟨a,vs,e,z,r⟩:=h
   exact ⟨a,vs,e,z.keep k,Reps.keep k xs vs r⟩
 | .lst xs,v,h=>by
   obtain ⟨a,vs,e,z,r⟩:=h
   exact ⟨a,vs,e,⟨z.1,k _ _ z.1 z.2⟩,Reps.keep k xs vs r⟩
 | .own _,_,h=>h
 | .bag,_,h=>h
 | .frg _ _,_,h=>h
 | .scr ns,v,h=>by
   obtain ⟨a,e,z⟩:=h
   exact ⟨a,e,z.imp (fun q=>⟨q.1,q.2.keep fun o=>k a o q.1⟩) id⟩
 | .dct t ks xs,v,h=>by
   obtain ⟨a,vs,e,z,r⟩:=h
   exact ⟨a,vs,e,⟨z.1,k _ _ z.1 z.2.1,z.2.2.keep k⟩,Reps.keep k xs _ r⟩
theorem Reps.keep (k:∀ b o,¬ M b->H b=some o->H' b=some o):∀ (ds:List D) (vs:List V),Reps K M H ds vs->Reps K M H' ds vs
 | [],_,h=>h
 | d::ds,vs,h=>by
   obtain ⟨v,r,e,h1,h2⟩:=h
   exact ⟨v,r,e,Rep.keep k d v h1,Reps.keep k ds r h2⟩
end
mutual
theorem Rep.avoid (k:∀ b,M' b->M b\/H b=none):∀ (d:D) (v:V),Rep K M H d v->Rep K M' H d v
 | .non,_,h=>h
 | .bl _,_,h=>h
 | .int _,_,h=>h
 | .str _,_,h=>h
 | .ty _,_,h=>h
 | .adr _,_,h=>h
 | .tup xs,v,h=>by
   obtain ⟨a,vs,e,z,r⟩:=h
   exact ⟨a,vs,e,z.avoid k,Reps.avoid k xs vs r⟩
 | .lst xs,v,h=>by
   obtain ⟨a,vs,e,z,r⟩:=h
   refine ⟨a,vs,e,⟨fun m=>?_,z.2⟩,Reps.avoid k xs vs r⟩
   rcases k a m with n|n
   · exact z.1 n
   · rw [n] at z;cases z.2
 | .own _,_,h=>h
 | .bag,_,h=>h
 | .frg _ _,_,h=>h
 | .scr ns,v,h=>by
   obtain ⟨a,e,z⟩:=h
   refine ⟨a,e,z.imp (fun q=>⟨fun m=>?_,q.2⟩) id⟩
   rcases k a m with n|n
   · exact q.1 n
   · exact q.2.some n
 | .dct t ks xs,v,h=>by
   obtain ⟨a,vs,e,z,r⟩:=h
   refine ⟨a,vs,e,⟨fun m=>?_,z.2.1,z.2.2.avoid k⟩,Reps.avoid k xs _ r⟩
   rcases k a m with n|n
   · exact z.1 n
   · rw [n] at z;cases z.2.1
theorem Reps.avoid (k:∀ b,M' b->M b\/H b=none):∀ (ds:List D) (vs:List V),Reps K M H ds vs->Reps K M' H ds vs
 | [],_,h=>h
 | d::ds,vs,h=>by
   obtain ⟨v,r,e,h1,h2⟩:=h
   exact ⟨v,r,e,Rep.avoid k d v h1,Reps.avoid k ds r h2⟩
end
end
abbrev Ev:=List (Option D)
structure Wd where
 K:Fg
 B:BagT
 H0:Hp
 M0:Addr->Prop
 b0:Option Addr
def okB (B:BagT)(b:Option Addr)(H:Hp):Prop:=∀ p,b=some p->B.ok p H
def Kp (b:Option Addr)(H H':Hp):Prop:=∀ c o,b≠some c->H c=some o->H' c=some o
theorem Kp.refl (b:Option Addr)(H:Hp):Kp b H H:=fun _ _ _ h=>h
theorem Kp.trans {H H1 H2:Hp}(x:Kp b H H1)(y:Kp b H1 H2):Kp b H H2:=fun c o n h=>y c o n (x c o n h)
theorem Kp.upd {H:Hp}{p:Addr}{o:HO}(h:H p=none):Kp b H (upd H p o):=fun c u _ e=>Same.upd h c u e
theorem Kp.same {H H':Hp}(h:Same H H'):Kp b H H':=fun c o _ e=>h c o e
def RepX (W:Wd)(M:Addr->Prop)(b:Option Addr)(H:Hp):D->V->Prop
 | .own xs,v=>∃ a vs,v=.ref a/\M a/\b≠some a/\W.H0 a=none/\¬ W.M0 a/\H a=some (.lst vs)/\Reps W.K M H xs vs
 | .bag,v=>∃ p,b=some p/\v=.ref p
 | .frg f d,v=>(∀ c∈f.ads,M c/\b≠some c/\W.H0 c=none/\¬ W.M0 c)/\f.R M H v/\Rep W.K (fun c=>M c/\c∉f.ads) H d v
 | d,v=>Rep W.K M H d v
def plain:D->Bool
 | .own _=>false
 | .bag=>false
 | .frg _ _=>false
 | _=>true
def Z1:D->Bool
 | .own _=>false
 | .frg _ _=>false
 | _=>true
theorem RepX.rep {W:Wd} {H:Hp}{d:D}{v:V}(h:RepX W M b H d v)(p:plain d=true):Rep W.K M H d v:=by
 cases d<;>first|exact h|cases p
theorem Rep.x {W:Wd} {H:Hp}{d:D}{v:V}(h:Rep W.K M H d v):RepX W M b H d v:=by
 cases d<;>first|exact h|exact h.elim
def RepXs (W:Wd)(M:Addr->Prop)(b:Option Addr)(H:Hp):List D->List V->Prop
 | [],vs=>vs=[]
 | d::ds,vs=>∃ v r,vs=v::r/\RepX W M b H d v/\RepXs W M b H ds r
structure Hs (W:Wd)(M:Addr->Prop)(b:Option Addr)(H:Hp):Prop where
 ok:okB W.B b H
 bagM:∀ p,b=some p->M p
 dom:∀ c,M c->∃ o,H c=some o
 m0:∀ c,W.M0 c->M c
theorem RepX.move {W:Wd}{M M':Addr->Prop}{b b':Option Addr}{H H':Hp}{f:Frg}{d:D}{v:V}(h:RepX W M b H (.frg f d) v)(ow:∀ c∈f.ads,M c->b≠some c->M' c/\b'≠some c)(k:∀ c o,(¬ M' c\/c∈f.ads)->H c=some o->H' c=some o)(a:∀ c,M' c->M c\/H c=none):RepX W M' b' H' (.frg f d) v:=by
 refine ⟨fun c m=>?_,f.keep M' H H' v k (f.avoid M M' H v a h.2.1),Rep.keep (fun c o n e=>k c o ?_ e) _ _ (Rep.avoid (fun c m=>(a c m.1).imp (fun z=>⟨z,m.2⟩) id) _ _ h.2.2)⟩
 · obtain ⟨q1,q2,q3,q4⟩:=h.1 c m
   obtain ⟨z1,z2⟩:=ow c m q1 q2
   exact ⟨z1,z2,q3,q4⟩
 · by_cases z:c∈f.ads
   · exact .inr z
   · exact .inl fun m=>n ⟨m,z⟩
theorem RepX.step {W:Wd} {H H':Hp}{d:D}{v:V}(hb:∀ p,b=some p->M p)(k:Kp b H H')(h:RepX W M b H d v):RepX W M b H' d v:=by
 have k':∀ c o,¬ M c->H c=some o->H' c=some o:=fun c o n e=>k c o (fun z=>n (hb c z)) e
 cases d
 case own xs =>
  obtain ⟨a,vs,e,m,n,n0,m0,h1,h2⟩:=h
  exact ⟨a,vs,e,m,n,n0,m0,k _ _ n h1,Reps.keep k' _ _ h2⟩
 case bag=>exact h
 case frg f d=>exact RepX.move h (fun c m m1 n=>⟨m1,n⟩) (fun c o q e=>q.elim (fun n=>k' c o n e) fun m=>k c o (h.1 c m).2.1 e) fun c m=>.inl m
 all_goals exact Rep.keep k' _ _ h
theorem RepXs.reps {W:Wd} {H:Hp}:∀ (ds:List D) (vs:List V),RepXs W M b H ds vs->ds.all plain=true->Reps W.K M H ds vs
 | [],_,h,_=>h
 | d::ds,vs,h,p=>by
   obtain ⟨v,r,e,h1,h2⟩:=h
   simp only [List.all_cons,R4] at p
   exact ⟨v,r,e,h1.rep p.1,RepXs.reps ds r h2 p.2⟩
theorem Reps.length {H:Hp}:∀ (ds:List D) (vs:List V),Reps K M H ds vs->vs.length=ds.length
 | [],_,h=>by cases (show _=_ from h);rfl
 | d::ds,vs,h=>by
   obtain ⟨v,r,rfl,h1,h2⟩:=h
   simp [Reps.length ds r h2]
theorem Reps.get {H:Hp}:∀ {ds:List D} {vs:List V} {i:Nat} {d:D},Reps K M H ds vs->ds[i]?=some d->∃ v,vs[i]?=some v/\Rep K M H d v
 | [],_,_,_,h,e=>by simp at e
 | d::ds,vs,0,_,h,e=>by
   obtain ⟨v,r,rfl,h1,h2⟩:=h
   simp at e;subst e
   exact ⟨v,rfl,h1⟩
 | d::ds,vs,i+1,d',h,e=>by
   obtain ⟨v,r,rfl,h1,h2⟩:=h
   obtain ⟨u,e1,e2⟩:=Reps.get (i:=i) h2 (by simpa using e)
   exact ⟨u,by simpa using e1,e2⟩
theorem Reps.at {H:Hp}{ds:List D}{vs:List V}{i:Int}{d:D}(h:Reps K M H ds vs)(e:atI ds i=some d):∃ v,atI vs i=some v/\Rep K M H d v:=by
 unfold atI at *
 rw [h.length]
 cases q:ixN ds.length i with
 | none=>rw [q] at e;cases e
 | some j =>
   rw [q] at e
   exact Reps.get h e
theorem Reps.append {H:Hp}:∀ {ds es:List D} {vs us:List V},Reps K M H ds vs->Reps K M H es us->Reps K M H (ds++es) (vs++us)
 | [],_,_,_,h,h'=>by cases (show _=_ from h);exact h'
 | d::ds,_,_,_,h,h'=>by
   obtain ⟨v,r,rfl,h1,h2⟩:=h
   exact ⟨v,_,rfl,h1,Reps.append h2 h'⟩
theorem Reps.set {H:Hp}{d:D}{v:V}(h0:Rep K M H d v):∀ {ds:List D} {vs:List V} (j:Nat),Reps K M H ds vs->Reps K M H (ds.set j d) (vs.set j v)
 | [],_,_,h=>by cases (show _=_ from h);exact rfl
 | e::ds,_,0,h=>by
   obtain ⟨v',r,rfl,h1,h2⟩:=h
   exact ⟨v,r,rfl,h0,h2⟩
 | e::ds,_,j+1,h=>by
   obtain ⟨v',r,rfl,h1,h2⟩:=h
   exact ⟨v',_,rfl,h1,Reps.set h0 j h2⟩
theorem Reps.drop {H:Hp}:∀ {ds:List D} {vs:List V} (j:Nat),Reps K M H ds vs->Reps K M H (ds.drop j) (vs.drop j)
 | _,_,0,h=>h
 | [],_,_+1,h=>by cases (show _=_ from h);exact rfl
 | e::ds,_,j+1,h=>by
   obtain ⟨v',r,rfl,h1,h2⟩:=h
   exact Reps.drop j h2
theorem Reps.take {H:Hp}:∀ {ds:List D} {vs:List V} (j:Nat),Reps K M H ds vs->Reps K M H (ds.take j) (vs.take j)
 | _,_,0,h=>rfl
 | [],_,_+1,h=>by cases (show _=_ from h);exact rfl
 | e::ds,_,j+1,h=>by
   obtain ⟨v',r,rfl,h1,h2⟩:=h
   exact ⟨v',_,rfl,h1,Reps.take j h2⟩
def PinR (W:Wd)(M:Addr->Prop)(b:Option Addr)(H:Hp):D->V->Prop
 | .own xs,v=>RepX W M b H (.own xs) v
 | d,v=>Rep W.K M H d v
theorem PinR.x {W:Wd} {H:Hp}{d:D}{v:V}(h:PinR W M b H d v):RepX W M b H d v:=by
 cases d<;>first|exact h|exact h.elim
theorem RepX.pin {W:Wd} {H:Hp}{d:D}{v:V}(h:RepX W M b H d v)(p:plain d=true):PinR W M b H d v:=by
 cases d<;>first|exact h|cases p
theorem PinR.to {W:Wd}{M M':Addr->Prop}{b b':Option Addr}{H H':Hp}{d:D}{v:V}(h:PinR W M b H d v)(rep:∀ d v,Rep W.K M H d v->Rep W.K M' H' d v)(reps:∀ ds vs,Reps W.K M H ds vs->Reps W.K M' H' ds vs)(own:∀ xs a vs,d=.own xs->v=.ref a->M a->b≠some a->H a=some (.lst vs)->M' a/\b'≠some a/\H' a=some (.lst vs)):PinR W M' b' H' d v:=by
 cases d
 case own xs =>
  obtain ⟨a,vs,rfl,m1,m2,m3,m4,hh,r⟩:=h
  obtain ⟨q1,q2,q3⟩:=own xs a vs rfl rfl m1 m2 hh
  exact ⟨a,vs,rfl,q1,q2,m3,m4,q3,reps _ _ r⟩
 case bag=>exact h.elim
 all_goals exact rep _ _ h
def FX:D->V->Addr->Prop
 | .own _,v,c=>v=.ref c
 | .frg f _,_,c=>c∈f.ads
 | _,_,_=>False
def mine:D->Bool
 | .own _=>true
 | .frg _ _=>true
 | _=>false
theorem FX.m {d:D}{v:V}{c:Addr}(h:FX d v c):mine d=true:=by cases d<;>first|rfl|exact h.elim
theorem RepX.mine {W:Wd} {H:Hp}{d:D}{v:V}{c:Addr}(h:RepX W M b H d v)(m:FX d v c):M c/\b≠some c/\W.H0 c=none/\¬ W.M0 c:=by
 cases d
 case own xs =>
  obtain ⟨a,vs,e,m1,n,n0,m0,h1,h2⟩:=h
  cases (e.symm.trans (show v=.ref c from m))
  exact ⟨m1,n,n0,m0⟩
 case frg f d=>exact h.1 c m
 all_goals exact m.elim
structure Sta (W:Wd)(pn:List (D×V))(M:Addr->Prop)(b:Option Addr)(H:Hp)(σ:St)(ρ:Ev):Prop extends Hs W M b H where
 kp:Kp W.b0 W.H0 H
 new:b=W.b0\/(W.b0=none/\∀ p,b=some p->W.H0 p=none)
 env:∀ (i:Nat) d,ρ[i]?=some (some d)->∃ v,σ[i]?=some (some v)/\RepX W M b H d v
 len:ρ.length=σ.length
 pin:∀ q∈pn,PinR W M b H q.1 q.2
theorem Sta.step {W:Wd}{pn:List (D×V)} {H H':Hp}{σ:St}{ρ:Ev}(s:Sta W pn M b H σ ρ)(k:Kp b H H')(o:okB W.B b H'):Sta W pn M b H' σ ρ where
 ok:=o
 bagM:=s.bagM
 dom:=fun c m=>by
  by_cases z:b=some c
  · exact W.B.dm c H' (o c z)
  · obtain ⟨u,e⟩:=s.dom c m
    exact ⟨u,k c u z e⟩
 m0:=s.m0
 kp:=fun c u n e=>by
  refine k c u (fun z=>?_) (s.kp c u n e)
  rcases s.new with q|⟨_,q⟩
  · exact n (q▸z)
  · rw [q c z] at e;cases e
 new:=s.new
 env:=fun i d e=>by
  obtain ⟨v,e1,r⟩:=s.env i d e
  exact ⟨v,e1,r.step s.bagM k⟩
 len:=s.len
 pin:=fun q hq=>(s.pin q hq).to (fun _ _ r=>Rep.keep (fun c o n e=>k c o (fun z=>n (s.bagM c z)) e) _ _ r) (fun _ _ r=>Reps.keep (fun c o n e=>k c o (fun z=>n (s.bagM c z)) e) _ _ r) fun xs a vs _ _ m n hh=>⟨m,n,k _ _ n hh⟩
theorem Hs.new {W:Wd} {H:Hp}(s:Hs W M b H){p:Addr}(h:H p=none):¬ M p:=fun m=>by
 obtain ⟨o,e⟩:=s.dom p m
 rw [h] at e;cases e
theorem Hs.okU {W:Wd} {H:Hp}(s:Hs W M b H){p:Addr}{o:HO}(h:H p=none):okB W.B b (upd H p o):=fun q e=>W.B.st q H _ (s.ok q e) fun u e'=>Same.upd h q u e'
abbrev DE:=Ev->(D->Prop)->Prop
abbrev DT:=Ev->(Bool->Prop)->Prop
abbrev DA:=Ev->(List D->Prop)->Prop
def dn (W:Wd)(d:DE):TE:=fun σ H Q=>∃ pn M b ρ P,Sta W pn M b H σ ρ/\d ρ P/\∀ x v H',P x->RepX W M b H' x v->Kp b H H'->okB W.B b H'->Q v H'
def dnT (W:Wd)(d:DT):TT:=fun σ H Q=>∃ pn M b ρ P,Sta W pn M b H σ ρ/\d ρ P/\∀ x H',P x->Kp b H H'->okB W.B b H'->Q x H'
def dnA (W:Wd)(d:DA):TA:=fun σ H Q=>∃ pn M b ρ P,Sta W pn M b H σ ρ/\d ρ P/\∀ xs vs H',P xs->RepXs W M b H' xs vs->Kp b H H'->okB W.B b H'->Q vs H'
theorem dn.elim {W:Wd}{d:DE}{σ:St}{H:Hp}{Q:VK}{R:Prop}(h:dn W d σ H Q)(f:∀ pn M b ρ P,Sta W pn M b H σ ρ->d ρ P->(∀ x v H',P x->RepX W M b H' x v->Kp b H H'->okB W.B b H'->Q v H')->R):R:=by
 obtain ⟨pn,M,b,ρ,P,st,h,k⟩:=h
 exact f pn M b ρ P st h k
theorem dnT.elim {W:Wd}{d:DT}{σ:St}{H:Hp}{Q:Bool->Hp->Prop}{R:Prop}(h:dnT W d σ H Q)(f:∀ pn M b ρ P,Sta W pn M b H σ ρ->d ρ P->(∀ x H',P x->Kp b H H'->okB W.B b H'->Q x H')->R):R:=by
 obtain ⟨pn,M,b,ρ,P,st,h,k⟩:=h
 exact f pn M b ρ P st h k
theorem dnA.elim {W:Wd}{d:DA}{σ:St}{H:Hp}{Q:List V->Hp->Prop}{R:Prop}(h:dnA W d σ H Q)(f:∀ pn M b ρ P,Sta W pn M b H σ ρ->d ρ P->(∀ xs vs H',P xs->RepXs W M b H' xs vs->Kp b H H'->okB W.B b H'->Q vs H')->R):R:=by
 obtain ⟨pn,M,b,ρ,P,st,h,k⟩:=h
 exact f pn M b ρ P st h k
section
variable {X:Cx}{W:Wd}{e a b c:Expr}{es:List Expr}{pos:Pos}{d da db dc:DE}{dA:DA}{t:TE}
theorem PE.mono {t':TE}(h:PE X e t)(m:∀ σ H Q,t' σ H Q->t σ H Q):PE X e t':=fun pins s σ H Q I q=>h pins s σ H Q I (m σ H Q q)
theorem PT.mono {t t':TT}(h:PT X e t)(m:∀ σ H Q,t' σ H Q->t σ H Q):PT X e t':=fun pins s σ H Q I q=>h pins s σ H Q I (m σ H Q q)
theorem PA.mono {t t':TA}(h:PA X es t)(m:∀ σ H Q,t' σ H Q->t σ H Q):PA X es t':=fun pos pins s σ H Q I q=>h pos pins s σ H Q I (m σ H Q q)
noncomputable def XR (i:Nat):DE:=fun ρ P=>match ρ[i]? with|some (some d)=>P d|_=>False
theorem dv (i:Nat) {x:Str} {pos:Pos} (hN:X.N[i]?=some x:=by rfl) (hv:Vis X.env.scope x:=by first|exact Or.inl rfl|exact Or.inr (Or.inl rfl)|exact Or.inr (Or.inr rfl)) (hd:(x==("__debug__" : Str))=false:=by decide)
 (hcd:(x==("__classdict__" : Str))=false:=by decide):PE X (.Name x pos) (dn W (XR i)):=(J5z hN hv hd hcd).mono fun σ H Q hh=>hh.elim fun pn M b ρ P st h k=>by
 unfold XR at h
 split at h
 case h_1 d e =>
  obtain ⟨v,e1,r⟩:=st.env i d e
  exact ⟨v,e1,k d v H h r (Kp.refl _ _) st.ok⟩
 case h_2=>exact h.elim
noncomputable def dC (d:D):DE:=fun _ P=>P d
theorem J4o {d:D}{v:V}(h:PE X e (tC v))(hr:∀ M H,Rep W.K M H d v):PE X e (dn W (dC d)):=h.mono fun σ H Q hh=>hh.elim fun pn M b ρ P st h k=>k d v H h (Rep.x (hr M H)) (Kp.refl _ _) st.ok
theorem Q6w {i j pos}:PE X (.Constant (.int i) j pos) (dn W (dC (.int i))):=J4o Z7 fun _ _=>rfl
theorem V0m {i j pos}:PE X (.Constant (.bool i) j pos) (dn W (dC (.bl i))):=J4o Q9e fun _ _=>rfl
theorem Q6t {j pos}:PE X (.Constant .none j pos) (dn W (dC .non)):=J4o Q5e fun _ _=>rfl
theorem Q6p {i j pos}:PE X (.Constant (.str i) j pos) (dn W (dC (.str i))):=J4o GU fun _ _=>rfl
theorem J7t {x:Str}{n:Int}{pos:Pos}(hg:Gl X x)(hm:∃ t,X.mg x=some (.int n t))(hd:(x==("__debug__" : Str))=false:=by decide):PE X (.Name x pos) (dn W (dC (.int n))):=J4o (J6d hg hm hd) fun _ _=>rfl
theorem Q2b {x:Str}{T:String}{pos:Pos}(hg:Gl X x)(hm:X.mg x=none)(hv:bootBuiltins x=some (.type T))(hn:x≠"__name__":=by decide) (hd:(x==("__debug__" : Str))=false:=by decide):PE X (.Name x pos) (dn W (dC (.ty T))):=J4o (J1b (v:=.ty T) hg hm hv rfl hn hd) fun _ _=>rfl
def OpD (W:Wd)(r:R2)(o:D->D->(D->Prop)->Prop):Prop:=∀ M b H x y v u P Q,Hs W M b H->RepX W M b H x v->RepX W M b H y u->o x y P->(∀ z w H',P z->RepX W M b H' z w->Kp b H H'->okB W.B b H'->Q w H')->r v u H Q
noncomputable def dOp (o:D->D->(D->Prop)->Prop)(da db:DE):DE:=fun ρ P=>da ρ fun x=>db ρ fun y=>o x y P
theorem J0m {r:R2}{o:D->D->(D->Prop)->Prop}(hd:OpD W r o):∀ σ H Q,dn W (dOp o da db) σ H Q->tOp r (dn W da) (dn W db) σ H Q:=by
 intro σ H Q hh
 refine hh.elim fun pn M b ρ P st h k=>?_
 refine ⟨pn,M,b,ρ,_,st,h,fun x v H1 hx rx k1 o1=>?_⟩
 refine ⟨pn,M,b,ρ,_,st.step k1 o1,hx,fun y u H2 hy ry k2 o2=>?_⟩
 exact hd M b H2 x y v u P Q ((st.step k1 o1).step k2 o2).toHs (rx.step st.bagM k2) ry hy fun z w H' hz rz k3 o3=>k z w H' hz rz ((k1.trans k2).trans k3) o3
theorem V0j {op:Operator}{r:R2}{o:D->D->(D->Prop)->Prop}(ho:OpR X (binaryOp op) r)(hd:OpD W r o)(ha:PE X a (dn W da))(hb:PE X b (dn W db)):PE X (.BinOp a op b pos) (dn W (dOp o da db)):=(BO ho ha hb).mono (J0m hd)
theorem Q6x {op:CmpOp}{r:R2}{o:D->D->(D->Prop)->Prop}(ho:OpR X (compareOp op) r)(hd:OpD W r o)(ha:PE X a (dn W da))(hb:PE X b (dn W db))(hm:behindInMarks op b=false):PE X (.Compare a [op] [b] pos) (dn W (dOp o da db)):=(J0z ho ha hb hm).mono (J0m hd)
theorem V0k {r:R2}{o:D->D->(D->Prop)->Prop}(hr:IxR X r)(hd:OpD W r o)(ha:PE X a (dn W da))(hb:PE X b (dn W db))(hs:VQ b):PE X (.Subscript a b pos) (dn W (dOp o da db)):=(FW hr ha hb hs).mono (J0m hd)
noncomputable def oI (C:Int->Int->Prop)(g:Int->Int->Int):D->D->(D->Prop)->Prop
 | .int i,.int j,P=>C i j/\P (.int (g i j))
 | _,_,_=>False
noncomputable def oI0 (g:Int->Int->Int):D->D->(D->Prop)->Prop
 | .int i,.int j,P=>P (.int (g i j))
 | _,_,_=>False
noncomputable def oB0 (g:Int->Int->Bool):D->D->(D->Prop)->Prop
 | .int i,.int j,P=>P (.bl (g i j))
 | _,_,_=>False
theorem Y9 {C:Int->Int->Prop}{g:Int->Int->Int}:OpD W (rI C fun i j=>.int (g i j)) (oI C g):=by
 intro M b H x y v u P Q hs rx ry ho k
 cases x<;>first|exact ho.elim|skip
 cases y<;>first|exact ho.elim|skip
 cases (show _=_ from rx)
 cases (show _=_ from ry)
 exact ⟨_,_,rfl,rfl,ho.1,k _ _ H ho.2 (show _=_ from rfl) (Kp.refl _ _) hs.ok⟩
theorem V7 {g:Int->Int->Int}:OpD W (rI0 fun i j=>.int (g i j)) (oI0 g):=by
 intro M b H x y v u P Q hs rx ry ho k
 cases x<;>first|exact ho.elim|skip
 cases y<;>first|exact ho.elim|skip
 cases (show _=_ from rx)
 cases (show _=_ from ry)
 exact ⟨_,_,rfl,rfl,k _ _ H ho (show _=_ from rfl) (Kp.refl _ _) hs.ok⟩
theorem IU {g:Int->Int->Bool}:OpD W (rI0 fun i j=>.bl (g i j)) (oB0 g):=by
 intro M b H x y v u P Q hs rx ry ho k
 cases x<;>first|exact ho.elim|skip
 cases y<;>first|exact ho.elim|skip
 cases (show _=_ from rx)
 cases (show _=_ from ry)
 exact ⟨_,_,rfl,rfl,k _ _ H ho (show _=_ from rfl) (Kp.refl _ _) hs.ok⟩
noncomputable def Q9m (neg:Bool):D->D->(D->Prop)->Prop
 | .int i,.int j,P=>P (.bl (decide (i=j)!=neg))
 | .bl i,.bl j,P=>P (.bl (decide (i=j)!=neg))
 | .str i,.str j,P=>P (.bl (decide (i=j)!=neg))
 | .non,.non,P=>P (.bl (true != neg))
 | .non,.int _,P=>P (.bl (false != neg))
 | .int _,.non,P=>P (.bl (false != neg))
 | .str _,.int _,P=>P (.bl (false != neg))
 | .int _,.str _,P=>P (.bl (false != neg))
 | _,_,_=>False
theorem BR:OpD W rEq (Q9m false):=by
 intro M b H x y v u P Q hs rx ry ho k
 cases x<;>cases y<;>first|exact ho.elim|skip
 all_goals (cases (show _=_ from rx);cases (show _=_ from ry);refine ⟨rfl,?_⟩;refine k _ _ H ho ?_ (Kp.refl _ _) hs.ok)
 all_goals (show V.bl _=V.bl _;simp)
theorem ZJ:OpD W rNe (Q9m true):=by
 intro M b H x y v u P Q hs rx ry ho k
 cases x<;>cases y<;>first|exact ho.elim|skip
 all_goals (cases (show _=_ from rx);cases (show _=_ from ry);refine ⟨rfl,?_⟩;refine k _ _ H ho ?_ (Kp.refl _ _) hs.ok)
 all_goals (show V.bl _=V.bl _;simp)
noncomputable def oIx:D->D->(D->Prop)->Prop
 | .tup xs,.int i,P=>(atI xs i).elim False P
 | .lst xs,.int i,P=>(atI xs i).elim False P
 | .own xs,.int i,P=>(atI xs i).elim False P
 | _,_,_=>False
theorem J9 (K:Fg)(h:X.K=K):IxR X (fun x y H Q=>J3a K x y H Q\/J5q K x y H Q):=(J1f K h).or (CL K h)
theorem Q5:OpD W (fun x y H Q=>J3a W.K x y H Q\/J5q W.K x y H Q) oIx:=by
 intro M b H x y v u P Q hs rx ry ho k
 cases x<;>first|exact ho.elim|skip
 all_goals (cases y<;>first|exact ho.elim|skip)
 all_goals cases (show _=_ from ry)
 case tup.int xs i =>
  obtain ⟨a,vs,rfl,hh,r⟩:=rx
  simp only [oIx] at ho
  cases e:atI xs i with
  | none=>rw [e] at ho;exact ho.elim
  | some d =>
    rw [e] at ho
    obtain ⟨w,e1,r1⟩:=r.at e
    exact .inl ⟨a,vs,i,w,rfl,rfl,hh.sq,e1,k d w H ho r1.x (Kp.refl _ _) hs.ok⟩
 case lst.int xs i =>
  obtain ⟨a,vs,rfl,hh,r⟩:=rx
  simp only [oIx] at ho
  cases e:atI xs i with
  | none=>rw [e] at ho;exact ho.elim
  | some d =>
    rw [e] at ho
    obtain ⟨w,e1,r1⟩:=r.at e
    exact .inr ⟨a,vs,i,w,rfl,rfl,SqL.of hh.2,e1,k d w H ho r1.x (Kp.refl _ _) hs.ok⟩
 case own.int xs i =>
  obtain ⟨a,vs,rfl,_,_,_,_,hh,r⟩:=rx
  simp only [oIx] at ho
  cases e:atI xs i with
  | none=>rw [e] at ho;exact ho.elim
  | some d =>
    rw [e] at ho
    obtain ⟨w,e1,r1⟩:=r.at e
    exact .inr ⟨a,vs,i,w,rfl,rfl,SqL.of hh,e1,k d w H ho r1.x (Kp.refl _ _) hs.ok⟩
noncomputable def dUn (o:D->(D->Prop)->Prop)(da:DE):DE:=fun ρ P=>da ρ fun x=>o x P
noncomputable def Q9i:D->(D->Prop)->Prop
 | .int i,P=>P (.int (-i))
 | _,_=>False
theorem Q6u (ha:PE X a (dn W da)):PE X (.UnaryOp .USub a pos) (dn W (dUn Q9i da)):=(Q9c Q4i ha).mono fun σ H Q hh=>hh.elim fun pn M b ρ P st h k=>by
 refine ⟨pn,M,b,ρ,_,st,h,fun x v H1 hx rx k1 o1=>?_⟩
 cases x<;>first|exact hx.elim|skip
 cases (show _=_ from rx)
 exact ⟨_,rfl,k _ _ H1 hx (show _=_ from rfl) k1 o1⟩
inductive IfP (c:Bool)(A B:Prop):Prop
 | t (e:c=true) (h:A):IfP c A B
 | f (e:c=false) (h:B):IfP c A B
theorem IfP.of {c:Bool}{A B:Prop}(h1:c=true->A)(h2:c=false->B):IfP c A B:=by
 cases c
 · exact .f rfl (h2 rfl)
 · exact .t rfl (h1 rfl)
theorem IfP.true_of {A B:Prop}(h:IfP true A B):A:=by
 cases h with
 | t _ h=>exact h
 | f e _=>cases e
theorem QQ {A B:Prop}:IfP true A B=A:=propext ⟨IfP.true_of,fun h=>.t rfl h⟩
noncomputable def V0x (da db:DE):DE:=fun ρ P=>da ρ fun x=>match x with|.bl k=>IfP k (db ρ P) (P (.bl false))|_=>False
noncomputable def dOr (da db:DE):DE:=fun ρ P=>da ρ fun x=>match x with|.bl k=>IfP k (P (.bl true)) (db ρ P)|_=>False
noncomputable def V0s (da:DE):DE:=fun ρ P=>da ρ fun x=>match x with|.bl k=>P (.bl (!k))|_=>False
variable {rest:List Expr}
theorem Q6r {op}(h:PE X a (dn W da)):PE X (.BoolOp op [a] pos) (dn W da):=Q5c h
theorem Q6y (ha:PE X a (dn W da))(hb:PE X (.BoolOp .And (b::rest) pos) (dn W db)):PE X (.BoolOp .And (a::b::rest) pos) (dn W (V0x da db)):=(Q5f ha hb).mono fun σ H Q hh=>hh.elim fun pn M b ρ P st h k=>by
 refine ⟨pn,M,b,ρ,_,st,h,fun x v H1 hx rx k1 o1=>?_⟩
 cases x<;>first|exact hx.elim|skip
 case bl c =>
  cases (show _=_ from rx)
  refine ⟨c,rfl,?_⟩
  cases hx with
  | f e hx=>subst e;rw [if_neg L9];exact k _ _ H1 hx (show _=_ from rfl) k1 o1
  | t e hx=>subst e;rw [if_pos rfl];exact ⟨pn,M,b,ρ,P,st.step k1 o1,hx,fun x v H' hp r k2 o2=>k x v H' hp r (k1.trans k2) o2⟩
theorem V0i (ha:PE X a (dn W da))(hb:PE X (.BoolOp .Or (b::rest) pos) (dn W db)):PE X (.BoolOp .Or (a::b::rest) pos) (dn W (dOr da db)):=(Q9d ha hb).mono fun σ H Q hh=>hh.elim fun pn M b ρ P st h k=>by
 refine ⟨pn,M,b,ρ,_,st,h,fun x v H1 hx rx k1 o1=>?_⟩
 cases x<;>first|exact hx.elim|skip
 case bl c =>
  cases (show _=_ from rx)
  refine ⟨c,rfl,?_⟩
  cases hx with
  | f e hx=>subst e;rw [if_neg L9];exact ⟨pn,M,b,ρ,P,st.step k1 o1,hx,fun x v H' hp r k2 o2=>k x v H' hp r (k1.trans k2) o2⟩
  | t e hx=>subst e;rw [if_pos rfl];exact k _ _ H1 hx (show _=_ from rfl) k1 o1
theorem Q6s (ha:PE X a (dn W da)):PE X (.UnaryOp .Not a pos) (dn W (V0s da)):=(Q5d ha).mono fun σ H Q hh=>hh.elim fun pn M b ρ P st h k=>by
 refine ⟨pn,M,b,ρ,_,st,h,fun x v H1 hx rx k1 o1=>?_⟩
 cases x<;>first|exact hx.elim|skip
 case bl c =>
  cases (show _=_ from rx)
  exact ⟨c,rfl,k _ _ H1 hx (show _=_ from rfl) k1 o1⟩
noncomputable def Q3i (da:DE):DT:=fun ρ P=>da ρ fun x=>match x with|.bl k=>P k|_=>False
theorem Q6e {op:CmpOp}{r:R2}{o:D->D->(D->Prop)->Prop}(ho:OpR X (compareOp op) r)(hd:OpD W r o)(ha:PE X a (dn W da))(hb:PE X b (dn W db))(hm:behindInMarks op b=false):PT X (.Compare a [op] [b] pos) (dnT W (Q3i (dOp o da db))):=(GR ho ha hb hm).mono fun σ H Q hh=>hh.elim fun pn M b ρ P st h k=>by
 refine J0m hd σ H _ ⟨pn,M,b,ρ,_,st,h,fun x v H1 hx rx k1 o1=>?_⟩
 cases x<;>first|exact hx.elim|skip
 case bl c =>
  cases (show _=_ from rx)
  exact ⟨c,rfl,k _ H1 hx k1 o1⟩
noncomputable def V0p (da:DE):DT:=fun ρ P=>da ρ fun x=>match x with
 | .bl k=>P k
 | .int i=>P (i != 0)
 | .non=>P false
 | .tup xs=>P (!xs.isEmpty)
 | .lst xs=>P (!xs.isEmpty)
 | .own xs=>P (!xs.isEmpty)
 | _=>False
theorem Reps.empty {H:Hp}{ds:List D}{vs:List V}(h:Reps K M H ds vs):(!ds.isEmpty) = !vs.isEmpty:=by
 cases ds with
 | nil=>cases (show _=_ from h);rfl
 | cons d ds=>obtain ⟨v,r,rfl,_⟩:=h;rfl
theorem J7k (hK:X.K=W.K)(ha:PE X a (dn W da))(he:∀ whole,isTrue a X.env whole=(do let v <- whole;standAt a.pos;holding [v] (truthy v))):PT X a (dnT W (V0p da)):=(LW W.K hK ha he).mono fun σ H Q hh=>hh.elim fun pn M b ρ P st h k=>by
 refine ⟨pn,M,b,ρ,_,st,h,fun x v H1 hx rx k1 o1=>?_⟩
 cases x<;>first|exact hx.elim|skip
 case bl c=>cases (show _=_ from rx);exact ⟨_,rfl,k _ H1 hx k1 o1⟩
 case int c=>cases (show _=_ from rx);exact ⟨_,rfl,k _ H1 hx k1 o1⟩
 case non=>cases (show _=_ from rx);exact ⟨_,rfl,k _ H1 hx k1 o1⟩
 case tup xs=>obtain ⟨a,vs,rfl,hh,r⟩:=rx;exact ⟨_,.inr (.inl ⟨vs,hh.sq,r.empty⟩),k _ H1 hx k1 o1⟩
 case lst xs=>obtain ⟨a,vs,rfl,hh,r⟩:=rx;exact ⟨_,.inl ⟨vs,SqL.of hh.2,r.empty⟩,k _ H1 hx k1 o1⟩
 case own xs=>obtain ⟨a,vs,rfl,_,_,_,_,hh,r⟩:=rx;exact ⟨_,.inl ⟨vs,SqL.of hh,r.empty⟩,k _ H1 hx k1 o1⟩
noncomputable def J7y (t u:DT):DT:=fun ρ P=>t ρ fun c=>IfP c (u ρ P) (P false)
noncomputable def Q2e (t u:DT):DT:=fun ρ P=>t ρ fun c=>IfP c (P true) (u ρ P)
noncomputable def Q3j (t:DT):DT:=fun ρ P=>t ρ fun c=>P (!c)
variable {ta tb:DT}
theorem Q4h:∀ σ H Q,dnT W (J7y ta tb) σ H Q->Q8v (dnT W ta) (dnT W tb) σ H Q:=by
 intro σ H Q hh
 refine hh.elim fun pn M b ρ P st h k=>?_
 refine ⟨pn,M,b,ρ,_,st,h,fun x H1 hx k1 o1=>?_⟩
 cases hx with
 | t e hx=>rw [if_pos e];exact ⟨pn,M,b,ρ,P,st.step k1 o1,hx,fun x H' hp k2 o2=>k x H' hp (k1.trans k2) o2⟩
 | f e hx=>rw [if_neg (by rw [e];exact L9)];exact k _ H1 hx k1 o1
theorem Q8j:∀ σ H Q,dnT W (Q2e ta tb) σ H Q->tOr (dnT W ta) (dnT W tb) σ H Q:=by
 intro σ H Q hh
 refine hh.elim fun pn M b ρ P st h k=>?_
 refine ⟨pn,M,b,ρ,_,st,h,fun x H1 hx k1 o1=>?_⟩
 cases hx with
 | t e hx=>rw [if_pos e];exact k _ H1 hx k1 o1
 | f e hx=>rw [if_neg (by rw [e];exact L9)];exact ⟨pn,M,b,ρ,P,st.step k1 o1,hx,fun x H' hp k2 o2=>k x H' hp (k1.trans k2) o2⟩
theorem PW.mono {t t':TT}(h:PW X e t)(m:∀ σ H Q,t' σ H Q->t σ H Q):PW X e t':=fun wh pins s σ H Q I q=>h wh pins s σ H Q I (m σ H Q q)
theorem Q1o (ha:PT X a (dnT W ta)):PW X (.BoolOp .And [a] pos) (dnT W ta):=Q0f ha
theorem Q6b (ha:PT X a (dnT W ta)):PW X (.BoolOp .Or [a] pos) (dnT W ta):=J5r ha
theorem Q6c (ha:PT X a (dnT W ta))(hb:PW X (.BoolOp .And (b::rest) pos) (dnT W tb)):PW X (.BoolOp .And (a::b::rest) pos) (dnT W (J7y ta tb)):=(Q4x ha hb).mono Q4h
theorem Q3h (ha:PT X a (dnT W ta))(hb:PW X (.BoolOp .Or (b::rest) pos) (dnT W tb)):PW X (.BoolOp .Or (a::b::rest) pos) (dnT W (Q2e ta tb)):=(Q2w ha hb).mono Q8j
theorem Q6d (ha:PT X a (dnT W ta)):PT X (.UnaryOp .Not a pos) (dnT W (Q3j ta)):=(J5t ha).mono fun σ H Q hh=>hh.elim fun pn M b ρ P st h k=>⟨pn,M,b,ρ,_,st,h,fun x H1 hx k1 o1=>k _ H1 hx k1 o1⟩
noncomputable def dIf (t:DT)(da db:DE):DE:=fun ρ P=>t ρ fun c=>IfP c (da ρ P) (db ρ P)
theorem V0l (hc:PT X c (dnT W ta))(ha:PE X a (dn W da))(hb:PE X b (dn W db)):PE X (.IfExp c a b pos) (dn W (dIf ta da db)):=(J6c hc ha hb).mono fun σ H Q hh=>hh.elim fun pn M b ρ P st h k=>by
 refine ⟨pn,M,b,ρ,_,st,h,fun x H1 hx k1 o1=>?_⟩
 cases hx with
 | t e hx=>rw [if_pos e];exact ⟨pn,M,b,ρ,P,st.step k1 o1,hx,fun x v H' hp r k2 o2=>k x v H' hp r (k1.trans k2) o2⟩
 | f e hx=>rw [if_neg (by rw [e];exact L9)];exact ⟨pn,M,b,ρ,P,st.step k1 o1,hx,fun x v H' hp r k2 o2=>k x v H' hp r (k1.trans k2) o2⟩
noncomputable def J8b (o o':D->D->(D->Prop)->Prop)(da db dc:DE):DE:=fun ρ P=>da ρ fun x=>db ρ fun y=>o x y fun z=>match z with|.bl k=>IfP k (dc ρ fun w=>o' y w P) (P (.bl false))|_=>False
theorem J7u {op op':CmpOp}{r r':R2}{o o':D->D->(D->Prop)->Prop}(ho:OpR X (compareOp op) r)(ho':OpR X (compareOp op') r')(hd:OpD W r o)(hd':OpD W r' o')(ha:PE X a (dn W da))(hb:PE X b (dn W db))(hc:PE X c (dn W dc))
 (hm:lastMarks [op,op'] [b,c]=false:=by with_unfolding_all rfl):PE X (.Compare a [op,op'] [b,c] pos) (dn W (J8b o o' da db dc)):=(J6e ho ho' ha hb hc hm).mono fun σ H Q hh=>hh.elim fun pn M b ρ P st h k=>by
 refine ⟨pn,M,b,ρ,_,st,h,fun x v H1 hx rx k1 o1=>?_⟩
 refine ⟨pn,M,b,ρ,_,st.step k1 o1,hx,fun y u H2 hy ry k2 o2=>?_⟩
 refine hd M b H2 x y v u _ _ ((st.step k1 o1).step k2 o2).toHs (rx.step st.bagM k2) ry hy fun z w H' hz rz k3 o3=>?_
 cases z<;>first|exact hz.elim|skip
 case bl q =>
  cases (show _=_ from rz)
  refine ⟨q,rfl,?_⟩
  cases hz with
  | f e hz=>subst e;rw [if_neg L9];exact k _ _ H' hz (show _=_ from rfl) ((k1.trans k2).trans k3) o3
  | t e hz =>
    subst e
    rw [if_pos rfl]
    refine ⟨pn,M,b,ρ,_,((st.step k1 o1).step k2 o2).step k3 o3,hz,fun w u' H4 hw rw' k4 o4=>?_⟩
    exact hd' M b H4 y w u u' P Q ((((st.step k1 o1).step k2 o2).step k3 o3).step k4 o4).toHs ((ry.step st.bagM k3).step st.bagM k4) rw' hw fun z w H' hz rz k5 o5=>k z w H' hz rz ((((k1.trans k2).trans k3).trans k4).trans k5) o5
noncomputable def V1a:DA:=fun _ P=>P []
noncomputable def Q3s (da:DE)(dr:DA):DA:=fun ρ P=>da ρ fun x=>dr ρ fun xs=>P (x::xs)
theorem Q7a:PA X [] (dnA W V1a):=Z0.mono fun σ H Q hh=>hh.elim fun pn M b ρ P st h k=>k [] [] H h rfl (Kp.refl _ _) st.ok
theorem Q2c {dr:DA}(ha:PE X e (dn W da))(hr:PA X es (dnA W dr))(hs:starEach (e::es) X.env=(false,eval e X.env)::starEach es X.env:=by rfl):PA X (e::es) (dnA W (Q3s da dr)):=(Q8 ha hr hs).mono fun σ H Q hh=>hh.elim fun pn M b ρ P st h k=>by
 refine ⟨pn,M,b,ρ,_,st,h,fun x v H1 hx rx k1 o1=>?_⟩
 refine ⟨pn,M,b,ρ,_,st.step k1 o1,hx,fun xs vs H2 hy ry k2 o2=>?_⟩
 exact k _ _ H2 hy ⟨v,vs,rfl,rx.step st.bagM k2,ry⟩ (k1.trans k2) o2
def JR (xs:List D):Bool:=xs.all plain&&decide (xs.length<=1000)
noncomputable def V0n (dA:DA):DE:=fun ρ P=>dA ρ fun xs=>JR xs=true/\P (.tup xs)
noncomputable def V0t (dA:DA):DE:=fun ρ P=>dA ρ fun xs=>JR xs=true/\P (.lst xs)
theorem JR.len {xs:List D}(h:JR xs=true):xs.length<=sizeLine:=by
 unfold JR at h
 simp only [R4,U6] at h
 exact R5 h.2 AF
theorem JR.pl {xs:List D}(h:JR xs=true):xs.all plain=true:=by
 unfold JR at h
 simp only [R4,U6] at h
 exact h.1
theorem NU {bg:Option Addr}{H:Hp}{xs:List D}{vs:List V}{p:Addr}(hs:Hs W M bg H)(r:Reps W.K M H xs vs)(h:H p=none):RepX W M bg (upd H p (.tup vs)) (.tup xs) (.ref p) :=
 ⟨p,vs,rfl,.inl ⟨hs.new h,V5⟩,Reps.keep (fun c o _ e=>Same.upd h c o e) _ _ r⟩
theorem DY {bg:Option Addr}{H:Hp}{xs:List D}{vs:List V}{p:Addr}(hs:Hs W M bg H)(r:Reps W.K M H xs vs)(h:H p=none):RepX W M bg (upd H p (.lst vs)) (.lst xs) (.ref p) :=
 ⟨p,vs,rfl,⟨hs.new h,V5⟩,Reps.keep (fun c o _ e=>Same.upd h c o e) _ _ r⟩
theorem Q6o {x1}(h:PA X es (dnA W dA)):PE X (.Tuple es x1 pos) (dn W (V0n dA)):=(J6a h).mono fun σ H Q hh=>hh.elim fun pn M b ρ P st h k=>by
 refine ⟨pn,M,b,ρ,_,st,h,fun xs vs H1 hx rx k1 o1=>?_⟩
 have rr:=rx.reps _ _ (JR.pl hx.1)
 refine ⟨by rw [rr.length];exact JR.len hx.1,fun p hp=>k _ _ _ hx.2 (NU (st.step k1 o1).toHs rr hp) (k1.trans (Kp.upd hp)) ((st.step k1 o1).okU hp)⟩
theorem Q6v (h:PA X es (dnA W dA)):PE X (.List es pos) (dn W (V0t dA)):=(GV h).mono fun σ H Q hh=>hh.elim fun pn M b ρ P st h k=>by
 refine ⟨pn,M,b,ρ,_,st,h,fun xs vs H1 hx rx k1 o1=>?_⟩
 have rr:=rx.reps _ _ (JR.pl hx.1)
 refine ⟨by rw [rr.length];exact JR.len hx.1,fun p hp=>k _ _ _ hx.2 (DY (st.step k1 o1).toHs rr hp) (k1.trans (Kp.upd hp)) ((st.step k1 o1).okU hp)⟩
end
abbrev DSp:=List D->(D->Prop)->(Addr->Prop)->Prop
def J9d (K:Fg)(M:Addr->Prop)(b:Option Addr)(H:Hp):D->V->Prop
 | .own _,_=>False
 | .bag,v=>∃ p,b=some p/\v=.ref p
 | d,v=>Rep K M H d v
def RepAs (K:Fg)(M:Addr->Prop)(b:Option Addr)(H:Hp):List D->List V->Prop
 | [],vs=>vs=[]
 | d::ds,vs=>∃ v r,vs=v::r/\J9d K M b H d v/\RepAs K M b H ds r
def Q3 (K:Fg)(B:BagT)(S:DSp):Sp:=fun vs H Q E=>∃ (M:Addr->Prop) (b:Option Addr) (ds:List D) (P:D->Prop) (Ed:Addr->Prop),S ds P Ed/\RepAs K M b H ds vs/\okB B b H/\(∀ p,b=some p->M p)/\(∀ c,M c->∃ o,H c=some o) /\
 (∀ d v H',P d->Rep K M H' d v->Kp b H H'->okB B b H'->Q v H')/\∀ C H',Ed C->Kp b H H'->okB B b H'->E (.ref C) none H'
theorem RepXs.args {W:Wd} {H:Hp}:∀ (ds:List D) (vs:List V),RepXs W M b H ds vs->ds.all Z1=true->RepAs W.K M b H ds vs
 | [],_,h,_=>h
 | d::ds,vs,h,p=>by
   obtain ⟨v,r,e,h1,h2⟩:=h
   simp only [List.all_cons,R4] at p
   refine ⟨v,r,e,?_,RepXs.args ds r h2 p.2⟩
   cases d<;>first|exact h1|cases p.1
theorem RepAs.length {H:Hp}:∀ {ds:List D} {vs:List V},RepAs K M b H ds vs->vs.length=ds.length
 | [],_,h=>by cases (show _=_ from h);rfl
 | d::ds,vs,h=>by
   obtain ⟨v,r,rfl,h1,h2⟩:=h
   simp [RepAs.length h2]
def EI (W:Wd)(E:XK)(Ed:Addr->Prop):Prop:=∀ C H',Ed C->Kp W.b0 W.H0 H'->okB W.B W.b0 H'->E (.ref C) none H'
theorem Sta.ok0 {W:Wd}{pn:List (D×V)} {H:Hp}{σ:St}{ρ:Ev}(s:Sta W pn M b H σ ρ):okB W.B W.b0 H:=by
 rcases s.new with q|⟨q,_⟩
 · rw [<- q];exact s.ok
 · intro p e;rw [q] at e;cases e
section
variable {X:Cx}{W:Wd}{e a b c:Expr}{es:List Expr}{pos p:Pos}{d:DE}{dA:DA}{x:Str}{k:Nat}{ps:List Str}{S:DSp}
noncomputable def XS (S:DSp)(Ed:Addr->Prop)(dA:DA):DE:=fun ρ P=>dA ρ fun ds=>ds.all Z1=true/\S ds P Ed
theorem J0n {E:XK}{Ed:Addr->Prop}(hE:EI W E Ed):∀ σ H Q,dn W (XS S Ed dA) σ H Q->MS (Q3 W.K W.B S) [] E (dnA W dA) σ H Q:=by
 intro σ H Q hh
 refine hh.elim fun pn M b ρ P st h k=>?_
 refine ⟨pn,M,b,ρ,_,st,h,fun xs vs H1 hx rx k1 o1=>?_⟩
 have st1:=st.step k1 o1
 refine ⟨M,b,xs,P,Ed,hx.2,?_,o1,st.bagM,st1.dom,fun d v H' hd rd k2 o2=>k d v H' hd rd.x (k1.trans k2) o2,fun C H' hC k2 o2=>?_⟩
 · rw [D5];exact rx.args _ _ hx.1
 · have st2:=st1.step k2 o2
   exact hE C H' hC st2.kp st2.ok0
theorem UV:EI W E0 (fun _=>False):=fun _ _ h=>h.elim
theorem Q6q (G:Callee X.prog X.w X.K X.mg X.base CX0 x k ps (Q3 W.K W.B S))(hr:Room k X.A)(hg:Gl X x)(ha:PA X (e::es) (dnA W dA))(hdb:(x==("__debug__" : Str))=false:=by decide) (he:starEach (e::es) X.env=(false,eval e X.env)::starEach es X.env:=by rfl) (hpl:(backTo pos (starEach es X.env)).any (·.1)=false:=by rfl) :
 PE X (.Call (.Name x p) (e::es) [] pos) (dn W (XS S (fun _=>False) dA)):=(JL G hr hg ha hdb he hpl).mono (J0n UV)
theorem Q1z {CX:CXT}{E:XK}{Ed:Addr->Prop}(hE:EI W E Ed)(hp:DQ CX X E)(G:Callee X.prog X.w X.K X.mg X.base CX x k ps (Q3 W.K W.B S))(hr:Room k X.A)(hg:Gl X x)(ha:PA X (e::es) (dnA W dA))(hdb:(x==("__debug__" : Str))=false:=by decide) (he:starEach (e::es) X.env=(false,eval e X.env)::starEach es X.env:=by rfl) (hpl:(backTo pos (starEach es X.env)).any (·.1)=false:=by rfl) :
 PE X (.Call (.Name x p) (e::es) [] pos) (dn W (XS S Ed dA)):=(NS hp G hr hg ha hdb he hpl).mono (J0n hE)
def FD (W:Wd)(r:List V->Hp->VK->Prop)(o:List D->(D->Prop)->Prop):Prop:=∀ M b H xs vs P Q,Hs W M b H->RepXs W M b H xs vs->o xs P->(∀ z w H',P z->RepX W M b H' z w->Kp b H H'->okB W.B b H'->Q w H')->r vs H Q
noncomputable def dCB (o:List D->(D->Prop)->Prop)(dA:DA):DE:=fun ρ P=>dA ρ fun xs=>o xs P
variable {r:List V->Hp->VK->Prop}{o:List D->(D->Prop)->Prop}{id T:String}
theorem Q2t (hd:FD W r o):∀ σ H Q,dn W (dCB o dA) σ H Q->tCB r (dnA W dA) σ H Q:=by
 intro σ H Q hh
 refine hh.elim fun pn M b ρ P st h k=>?_
 refine ⟨pn,M,b,ρ,_,st,h,fun xs vs H1 hx rx k1 o1=>?_⟩
 exact hd M b H1 xs vs P Q (st.step k1 o1).toHs rx hx fun z w H' hz rz k2 o2=>k z w H' hz rz (k1.trans k2) o2
theorem J7v (hc:CB X (.builtin id) r)(hd:FD W r o)(hg:Gl X x)(hm:X.mg x=none)(hv:bootBuiltins x=some (.builtin id))(ha:PA X (e::es) (dnA W dA))(hn:x≠"__name__":=by decide) (hdb:(x==("__debug__" : Str))=false:=by decide)
 (he:starEach (e::es) X.env=(false,eval e X.env)::starEach es X.env:=by rfl) (hpl:(backTo pos (starEach es X.env)).any (·.1)=false:=by rfl):PE X (.Call (.Name x p) (e::es) [] pos) (dn W (dCB o dA)):=(Z8 hc hg hm hv ha hn hdb he hpl).mono (Q2t hd)
theorem J4n (hc:CB X (.type T) r)(hd:FD W r o)(hg:Gl X x)(hm:X.mg x=none)(hv:bootBuiltins x=some (.type T))(ha:PA X (e::es) (dnA W dA))(hn:x≠"__name__":=by decide) (hdb:(x==("__debug__" : Str))=false:=by decide)
 (he:starEach (e::es) X.env=(false,eval e X.env)::starEach es X.env:=by rfl) (hpl:(backTo pos (starEach es X.env)).any (·.1)=false:=by rfl):PE X (.Call (.Name x p) (e::es) [] pos) (dn W (dCB o dA)):=(J3e hc hg hm hv ha hn hdb he hpl).mono (Q2t hd)
theorem rx1 {b:Option Addr}{H:Hp}{x:D}{vs:List V}(h:RepXs W M b H [x] vs):∃ v,vs=[v]/\RepX W M b H x v:=by
 obtain ⟨v,r,rfl,h1,h2⟩:=h
 cases (show _=_ from h2)
 exact ⟨v,rfl,h1⟩
theorem rx2 {b:Option Addr}{H:Hp}{x y:D}{vs:List V}(h:RepXs W M b H [x,y] vs):∃ v u,vs=[v,u]/\RepX W M b H x v/\RepX W M b H y u:=by
 obtain ⟨v,r,rfl,h1,h2⟩:=h
 obtain ⟨u,rfl,h3⟩:=rx1 h2
 exact ⟨v,u,rfl,h1,h3⟩
def DH:List D->Option (List Int)
 | []=>some []
 | .int i::r=>(DH r).map (i::·)
 | _=>none
def FZ:List D->Option (List Bool)
 | []=>some []
 | .bl i::r=>(FZ r).map (i::·)
 | _=>none
theorem DH.eq:∀ {ds:List D} {ns:List Int},DH ds=some ns->ds=ns.map D.int
 | [],ns,h=>by cases h;rfl
 | d::r,ns,h=>by
   cases d<;>first|cases h|skip
   case int i =>
    simp only [DH,M7] at h
    obtain ⟨m,e,rfl⟩:=h
    rw [DH.eq e];rfl
theorem FZ.eq:∀ {ds:List D} {ns:List Bool},FZ ds=some ns->ds=ns.map D.bl
 | [],ns,h=>by cases h;rfl
 | d::r,ns,h=>by
   cases d<;>first|cases h|skip
   case bl i =>
    simp only [FZ,M7] at h
    obtain ⟨m,e,rfl⟩:=h
    rw [FZ.eq e];rfl
theorem IP (ns:List Bool):FZ (ns.map D.bl)=some ns:=by
 induction ns with
 | nil=>rfl
 | cons n ns ih=>simp [FZ,ih]
theorem Reps.ints {H:Hp}:∀ {ns:List Int} {vs:List V},Reps K M H (ns.map D.int) vs->vs=ns.map V.int
 | [],_,h=>by cases (show _=_ from h);rfl
 | n::ns,_,h=>by
   obtain ⟨v,r,rfl,h1,h2⟩:=h
   cases (show _=_ from h1)
   rw [Reps.ints h2];rfl
theorem Reps.bls {H:Hp}:∀ {ns:List Bool} {vs:List V},Reps K M H (ns.map D.bl) vs->vs=ns.map V.bl
 | [],_,h=>by cases (show _=_ from h);rfl
 | n::ns,_,h=>by
   obtain ⟨v,r,rfl,h1,h2⟩:=h
   cases (show _=_ from h1)
   rw [Reps.bls h2];rfl
def asL:D->Option (List D)
 | .lst xs=>some xs
 | .own xs=>some xs
 | _=>none
theorem asL.rep {b:Option Addr}{H:Hp}{x:D}{v:V}{xs:List D}(h:RepX W M b H x v)(e:asL x=some xs):∃ a vs,v=.ref a/\H a=some (.lst vs)/\Reps W.K M H xs vs:=by
 cases x<;>first|cases e|skip
 case lst=>obtain ⟨a,vs,rfl,hh,r⟩:=h;exact ⟨a,vs,rfl,hh.2,r⟩
 case own=>obtain ⟨a,vs,rfl,_,_,_,_,hh,r⟩:=h;exact ⟨a,vs,rfl,hh,r⟩
noncomputable def V1r:List D->(D->Prop)->Prop
 | [.lst xs],P=>P (.int xs.length)
 | [.own xs],P=>P (.int xs.length)
 | [.tup xs],P=>P (.int xs.length)
 | [.scr ns],P=>P (.int ns.length)
 | _,_=>False
theorem QL:FD W (fun xs H Q=>∃ p ys,xs=[.ref p]/\(SqL W.K H p ys\/SqT W.K H p ys)/\Q (.int ys.length) H) V1r:=by
 intro M b H xs vs P Q hs rx ho k
 match xs,ho with
 | [.lst xs],ho =>
   obtain ⟨v,rfl,r⟩:=rx1 rx
   obtain ⟨a,us,rfl,hh,r'⟩:=r
   exact ⟨a,us,rfl,.inl (SqL.of hh.2),k _ _ H ho (by show _=_;rw [r'.length]) (Kp.refl _ _) hs.ok⟩
 | [.own xs],ho =>
   obtain ⟨v,rfl,r⟩:=rx1 rx
   obtain ⟨a,us,rfl,_,_,_,_,hh,r'⟩:=r
   exact ⟨a,us,rfl,.inl (SqL.of hh),k _ _ H ho (by show _=_;rw [r'.length]) (Kp.refl _ _) hs.ok⟩
 | [.tup xs],ho =>
   obtain ⟨v,rfl,r⟩:=rx1 rx
   obtain ⟨a,us,rfl,hh,r'⟩:=r
   exact ⟨a,us,rfl,.inr (hh.sq),k _ _ H ho (by show _=_;rw [r'.length]) (Kp.refl _ _) hs.ok⟩
 | [.scr ns],ho =>
   obtain ⟨v,rfl,r⟩:=rx1 rx
   obtain ⟨a,rfl,hh⟩:=r
   refine ⟨a,ns.map V.int,rfl,.inl (hh.imp (·.2) id),k _ _ H ho (by show _=_;rw [B9]) (Kp.refl _ _) hs.ok⟩
noncomputable def Q9j:List D->(D->Prop)->Prop
 | [.lst xs],P=>P (.lst xs)
 | [.own xs],P=>P (.lst xs)
 | [.tup xs],P=>P (.lst xs)
 | _,_=>False
theorem Q2k:FD W (fun xs H Q=>∃ p ys,xs=[.ref p]/\(SqL W.K H p ys\/SqT W.K H p ys)/\∀ l,H l=none->Q (.ref l) (upd H l (.lst ys))) Q9j:=by
 intro M b H xs vs P Q hs rx ho k
 match xs,ho with
 | [.lst xs],ho =>
   obtain ⟨v,rfl,r⟩:=rx1 rx
   obtain ⟨a,us,rfl,hh,r'⟩:=r
   exact ⟨a,us,rfl,.inl (SqL.of hh.2),fun l hl=>k _ _ _ ho (DY hs r' hl) (Kp.upd hl) (hs.okU hl)⟩
 | [.own xs],ho =>
   obtain ⟨v,rfl,r⟩:=rx1 rx
   obtain ⟨a,us,rfl,_,_,_,_,hh,r'⟩:=r
   exact ⟨a,us,rfl,.inl (SqL.of hh),fun l hl=>k _ _ _ ho (DY hs r' hl) (Kp.upd hl) (hs.okU hl)⟩
 | [.tup xs],ho =>
   obtain ⟨v,rfl,r⟩:=rx1 rx
   obtain ⟨a,us,rfl,hh,r'⟩:=r
   exact ⟨a,us,rfl,.inr (hh.sq),fun l hl=>k _ _ _ ho (DY hs r' hl) (Kp.upd hl) (hs.okU hl)⟩
noncomputable def V1v:List D->(D->Prop)->Prop
 | [.int i],P=>P (.int (if i<0 then -i else i))
 | _,_=>False
theorem J8j:FD W (fun xs H Q=>∃ i,xs=[.int i]/\Q (.int (if i<0 then -i else i)) H) V1v:=by
 intro M b H xs vs P Q hs rx ho k
 match xs,ho with
 | [.int i],ho =>
   obtain ⟨v,rfl,r⟩:=rx1 rx
   cases (show _=_ from r)
   exact ⟨i,rfl,k _ _ H ho (show _=_ from rfl) (Kp.refl _ _) hs.ok⟩
def o2I (g:Int->Int->Int):List D->(D->Prop)->Prop
 | [.int i,.int j],P=>P (.int (g i j))
 | _,_=>False
theorem NE {g:Int->Int->Int}:FD W (fun xs H Q=>∃ i j,xs=[.int i,.int j]/\Q (.int (g i j)) H) (o2I g):=by
 intro M b H xs vs P Q hs rx ho k
 match xs,ho with
 | [.int i,.int j],ho =>
   obtain ⟨v,u,rfl,r,r'⟩:=rx2 rx
   cases (show _=_ from r)
   cases (show _=_ from r')
   exact ⟨i,j,rfl,k _ _ H ho (show _=_ from rfl) (Kp.refl _ _) hs.ok⟩
noncomputable def Q9h:List D->(D->Prop)->Prop
 | [x],P=>(asL x).elim False fun xs=>(DH xs).elim False fun ns=>P (.int ns.sum)
 | _,_=>False
theorem Q7p:FD W (fun xs H Q=>∃ (p:Addr) (ns:List Int),xs=[.ref p]/\SqL W.K H p (ns.map V.int)/\Q (.int ns.sum) H) Q9h:=by
 intro M b H xs vs P Q hs rx ho k
 match xs,ho with
 | [x],ho =>
   obtain ⟨v,rfl,r⟩:=rx1 rx
   simp only [Q9h] at ho
   cases ex:asL x with
   | none=>rw [ex] at ho;exact ho.elim
   | some xs =>
     rw [ex] at ho
     simp only [Option.elim] at ho
     cases en:DH xs with
     | none=>rw [en] at ho;exact ho.elim
     | some ns =>
       rw [en] at ho
       cases DH.eq en
       obtain ⟨a,us,rfl,hh,r'⟩:=asL.rep r ex
       cases r'.ints
       exact ⟨a,ns,rfl,SqL.of hh,k _ _ H ho (show _=_ from rfl) (Kp.refl _ _) hs.ok⟩
noncomputable def Q9o (g:List Bool->Bool):List D->(D->Prop)->Prop
 | [x],P=>(asL x).elim False fun xs=>(FZ xs).elim False fun ns=>P (.bl (g ns))
 | _,_=>False
theorem QM {g:List Bool->Bool}:FD W (fun xs H Q=>∃ (p:Addr) (bs:List Bool),xs=[.ref p]/\SqL W.K H p (bs.map V.bl)/\Q (.bl (g bs)) H) (Q9o g):=by
 intro M b H xs vs P Q hs rx ho k
 match xs,ho with
 | [x],ho =>
   obtain ⟨v,rfl,r⟩:=rx1 rx
   simp only [Q9o] at ho
   cases ex:asL x with
   | none=>rw [ex] at ho;exact ho.elim
   | some xs =>
     rw [ex] at ho
     simp only [Option.elim] at ho
     cases en:FZ xs with
     | none=>rw [en] at ho;exact ho.elim
     | some ns =>
       rw [en] at ho
       cases FZ.eq en
       obtain ⟨a,us,rfl,hh,r'⟩:=asL.rep r ex
       cases r'.bls
       exact ⟨a,ns,rfl,SqL.of hh,k _ _ H ho (show _=_ from rfl) (Kp.refl _ _) hs.ok⟩
theorem BB (K:Fg)(h:X.K=K):CB X (.builtin "isinstance") (fun xs H Q=>∃ y c t b,xs=[y,.ty c]/\(TyOf K H y t\/∃ a vs,y=.ref a/\KTp K a vs/\t=.type "tuple")/\PySem.W.kitOne K t (.type c)=some b/\Q (.bl b) H):=by
 subst h
 intro pins s σ H xs us Q I rs q
 obtain ⟨y,c,t,b,rfl,ty,e,q⟩:=q
 rcases ty with ty|⟨a,vs,rfl,⟨o,its,n,hk,hc,hs,hz,r⟩,rfl⟩
 · exact YB pins s σ H _ us Q I rs ⟨y,c,t,b,rfl,ty,e,q⟩
 · obtain ⟨u1,u2,rfl,r1,r2⟩:=RQ rs
   cases (show u2=Value.type c from r2)
   cases (show u1=Value.ref a from r1)
   refine D4 PySem.W.kitx_tuple I.kIn ⟨o,I.kIn a o hk,hc⟩ e (fun z=>nomatch z) fun tk=>?_
   exact ⟨.bl b,H,I.tok _,rfl,q⟩
def ES:D->Option String
 | .non=>some "NoneType"
 | .bl _=>some "bool"
 | .int _=>some "int"
 | .str _=>some "str"
 | .lst _=>some "list"
 | .own _=>some "list"
 | .tup _=>some "tuple"
 | .frg _ (.lst _)=>some "list"
 | _=>none
def V2a (K:Fg)(t c:String)(b:Bool):Prop:=PySem.W.kitOne K (.type t) (.type c)=some b
noncomputable def Q9l (K:Fg):List D->(D->Prop)->Prop
 | [x,.ty c],P=>match ES x with|some t=>∃ b,V2a K t c b/\P (.bl b)|none=>False
 | _,_=>False
theorem CU:FD W (fun xs H Q=>∃ y c t b,xs=[y,.ty c]/\(TyOf W.K H y t\/∃ a vs,y=.ref a/\KTp W.K a vs/\t=.type "tuple")/\PySem.W.kitOne W.K t (.type c)=some b/\Q (.bl b) H) (Q9l W.K):=by
 intro M b H xs vs P Q hs rx ho k
 match xs,ho with
 | [x,.ty c],ho =>
   obtain ⟨v,u,rfl,r,r'⟩:=rx2 rx
   cases (show _=_ from r')
   simp only [Q9l] at ho
   split at ho
   case h_2=>exact ho.elim
   case h_1 t et =>
    obtain ⟨q,hq,hp⟩:=ho
    refine ⟨v,c,.type t,q,rfl,?_,hq,k _ _ H hp (show _=_ from rfl) (Kp.refl _ _) hs.ok⟩
    cases x<;>first|cases et|skip
    case non=>cases (show _=_ from r);exact .inl (.non)
    case bl=>cases (show _=_ from r);exact .inl (.bl _)
    case int=>cases (show _=_ from r);exact .inl (.int _)
    case str=>cases (show _=_ from r);exact .inl (.str _)
    case lst=>obtain ⟨a,us,rfl,hh,r'⟩:=r;exact .inl (.lst hh.2)
    case own=>obtain ⟨a,us,rfl,_,_,_,_,hh,r'⟩:=r;exact .inl (.lst hh)
    case frg f d =>
     cases d<;>first|cases et|skip
     case lst=>obtain ⟨a,us,rfl,hh,r'⟩:=r.2.2;exact .inl (.lst hh.2)
    case tup =>
     obtain ⟨a,us,rfl,hh,r'⟩:=r
     exact hh.elim (fun z=>.inl (.tup z.2)) fun z=>.inr ⟨a,us,rfl,z,rfl⟩
end
theorem Reps.plain {H:Hp}:∀ {ds:List D} {vs:List V},Reps K M H ds vs->ds.all plain=true
 | [],_,_=>rfl
 | d::ds,_,h=>by
   obtain ⟨v,r,rfl,h1,h2⟩:=h
   rw [List.all_cons,Reps.plain h2,Bool.and_true]
   cases d<;>first|rfl|exact h1.elim
theorem Reps.xs {W:Wd} {H:Hp}:∀ {ds:List D} {vs:List V},Reps W.K M H ds vs->RepXs W M b H ds vs
 | [],_,h=>h
 | d::ds,_,h=>by
   obtain ⟨v,r,rfl,h1,h2⟩:=h
   exact ⟨v,r,rfl,h1.x,Reps.xs h2⟩
def KC (W:Wd)(J:It)(need:List (D×V))(items:List D):Prop:=∀ M b H,Hs W M b H->(∀ q∈need,RepX W M b H q.1 q.2) ->
 (∀ (i:Nat) d,items[i]?=some d->J.go i H/\∀ x H3,J.yld i H x H3->Same H H3/\RepX W M b H3 d x)/\∀ i,items.length<=i->J.stop i H
def dnI (W:Wd)(fz:Bool)(di:DA):TI:=fun σ H R=>∃ pn M b ρ P,Sta W pn M b H σ ρ/\di ρ P/\∀ items J need H',P items->items.all plain=true->KC W J need items->(∀ q∈need,RepX W M b H' q.1 q.2/\(fz=true->plain q.1=true))->Kp b H H'->okB W.B b H'->R J H'
theorem dnI.elim {W:Wd}{fz:Bool}{d:DA}{σ:St}{H:Hp}{R:It->Hp->Prop}{Z:Prop}(h:dnI W fz d σ H R)(f:∀ pn M b ρ P,Sta W pn M b H σ ρ->d ρ P->(∀ items J need H',P items->items.all plain=true->KC W J need items->(∀ q∈need,RepX W M b H' q.1 q.2/\(fz=true->plain q.1=true))->Kp b H H'->okB W.B b H'->R J H')->Z):Z:=by
 obtain ⟨pn,M,b,ρ,P,st,h,k⟩:=h
 exact f pn M b ρ P st h k
section
variable {X:Cx}{W:Wd}{tg l e a b:Expr}{pos p:Pos}{d dl:DE}{dA:DA}{fz:Bool}
theorem PI.mono {t t':TI}(h:PI X tg l t)(m:∀ σ H R,t' σ H R->t σ H R):PI X tg l t':=fun pins s σ H R I q=>h pins s σ H R I (m σ H R q)
theorem Q5a {tl:TE}(K:Fg)(h:X.K=K)(hl:PE X l tl):PI X tg l (fun σ H R=>tl σ H fun x H1=>(∃ a,x=.ref a/\(∃ xs,SqL K H1 a xs)/\R (Itl K a) H1)\/(∃ a,x=.ref a/\(∃ xs,SqT K H1 a xs)/\R (Itt K a) H1)):=by
 subst h
 intro pins s σ H R I h
 refine thn (hl pins s σ H _ I h) fun v s1 ⟨x,H1,I1,r1,q1⟩=>?_
 rcases q1 with ⟨a,e,⟨xs,hq⟩,q⟩|⟨a,e,⟨xs,hq⟩,q⟩
 · subst e
   cases r1
   obtain ⟨its,rv,p,hz⟩:=I1.list hq
   refine B2m p.isList ?_
   refine ⟨s1.heap.objs.size,[s1.heap.objs.size],_,_,H1,rfl,I1.kept (t':=s1.toks) fun b o e=>B2 _ e,J2q a _,⟨_,L7 _ rfl,rfl,rfl⟩,fun b hb=>?_,q⟩
   have e:b=s1.heap.objs.size:=by simpa using hb
   subst e
   exact I1.fpOk (L8 _) (I1.hok.fresh (L8 _))
 · subst e
   cases r1
   obtain ⟨its,rv,p,hz⟩:=I1.tuple hq
   refine wpAny_pyIter_tuple (show s1.heap.IsTuple a its.toArray from p) ?_
   refine ⟨s1.heap.objs.size,[s1.heap.objs.size],_,_,H1,rfl,I1.kept (t':=s1.toks) fun b o e=>B2 _ e,YO a _,⟨_,L7 _ rfl,rfl,rfl⟩,fun b hb=>?_,q⟩
   have e:b=s1.heap.objs.size:=by simpa using hb
   subst e
   exact I1.fpOk (L8 _) (I1.hok.fresh (L8 _))
noncomputable def Q9t (fz:Bool)(dl:DE):DA:=fun ρ P=>dl ρ fun x=>match x with
 | .lst xs=>P xs
 | .tup xs=>P xs
 | .own xs=>fz=false/\P xs
 | _=>False
theorem J6w {x:D}{xs:List D}{a:Addr}(hx:asL x=some xs):KC W (Itl W.K a) [(x,.ref a)] xs:=by
 intro M b H hs hn
 obtain ⟨a',vs,e,hh,r⟩:=asL.rep (hn _ (M6.mpr rfl)) hx
 cases e
 refine ⟨fun i d e=>?_,fun i hi=>⟨vs,SqL.of hh,by rw [r.length];exact hi⟩⟩
 obtain ⟨v,e1,r1⟩:=r.get e
 refine ⟨⟨vs,v,SqL.of hh,e1⟩,fun y H3 ⟨eH,hy⟩=>?_⟩
 subst eH
 have:=hy vs (SqL.of hh)
 rw [e1] at this;cases this
 exact ⟨Same.refl _,r1.x⟩
theorem Q5t {xs:List D}{a:Addr}:KC W (Itt W.K a) [(.tup xs,.ref a)] xs:=by
 intro M b H hs hn
 obtain ⟨a',vs,e,hh,r⟩:=hn _ (M6.mpr rfl)
 cases e
 refine ⟨fun i d e=>?_,fun i hi=>⟨vs,hh.sq,by rw [r.length];exact hi⟩⟩
 obtain ⟨v,e1,r1⟩:=r.get e
 refine ⟨⟨vs,v,hh.sq,e1⟩,fun y H3 ⟨eH,hy⟩=>?_⟩
 subst eH
 have:=hy vs (hh.sq)
 rw [e1] at this;cases this
 exact ⟨Same.refl _,r1.x⟩
theorem J6i {b:Option Addr}{H:Hp}{x:D}{v:V}(r:RepX W M b H x v)(h:fz=true->plain x=true):∀ q∈[(x,v)],RepX W M b H q.1 q.2/\(fz=true->plain q.1=true):=fun q hq=>by
 have e:=M6.mp hq
 subst e
 exact ⟨r,h⟩
theorem Q6n (hK:X.K=W.K)(hl:PE X l (dn W dl)):PI X tg l (dnI W fz (Q9t fz dl)):=(Q5a W.K hK hl).mono fun σ H R hh=>hh.elim fun pn M b ρ P st h k=>by
 refine ⟨pn,M,b,ρ,_,st,h,fun x v H1 hx rx k1 o1=>?_⟩
 cases x<;>first|exact hx.elim|skip
 case lst xs =>
  obtain ⟨a,vs,rfl,hh,r⟩:=(show RepX W M b H1 (.lst xs) v from rx)
  exact .inl ⟨a,rfl,⟨vs,SqL.of hh.2⟩,k xs _ _ H1 hx r.plain (J6w (x:=.lst xs) rfl) (J6i rx fun _=>rfl) k1 o1⟩
 case tup xs =>
  obtain ⟨a,vs,rfl,hh,r⟩:=(show RepX W M b H1 (.tup xs) v from rx)
  exact .inr ⟨a,rfl,⟨vs,hh.sq⟩,k xs _ _ H1 hx r.plain Q5t (J6i rx fun _=>rfl) k1 o1⟩
 case own xs =>
  obtain ⟨a,vs,rfl,m1,m2,m3,m4,hh,r⟩:=(show RepX W M b H1 (.own xs) v from rx)
  exact .inl ⟨a,rfl,⟨vs,SqL.of hh⟩,k xs _ _ H1 hx.2 r.plain (J6w (x:=.own xs) rfl) (J6i rx fun z=>by rw [hx.1] at z;cases z) k1 o1⟩
def Y3 (lo:Int)(n:Nat):List D:=(List.range n).map fun (i:Nat)=>.int (lo+i)
theorem KO (lo:Int)(n:Nat):(Y3 lo n).all plain=true:=by
 simp [Y3,plain]
theorem XH {lo:Int}{n:Nat}:KC W (Itr lo n) [] (Y3 lo n):=by
 intro M b H hs _
 refine ⟨fun i d e=>?_,fun i hi=>by show n<=i;simpa [Y3] using hi⟩
 have hi:i<n:=by
  have:=(B7.mp e).1
  simpa [Y3] using this
 refine ⟨hi,fun x H3 ⟨eH,ex⟩=>?_⟩
 subst eH ex
 refine ⟨Same.refl _,?_⟩
 simp [Y3,hi] at e
 subst e
 exact (show _=_ from rfl)
noncomputable def J1j (dA:DA):DA:=fun ρ P=>dA ρ fun xs=>match xs with
 | [.int j]=>(-(2 ^ 62)<=j/\j<2 ^ 62)/\P (Y3 0 j.toNat)
 | _=>False
noncomputable def J1i (dA:DA):DA:=fun ρ P=>dA ρ fun xs=>match xs with
 | [.int i,.int j]=>(-(2 ^ 62)<=i/\i<2 ^ 62/\-(2 ^ 62)<=j/\j<2 ^ 62)/\P (Y3 i (j - i).toNat)
 | _=>False
theorem J4m (hg:Gl X "range") (hm:X.mg "range" = none) (ha:PA X [a] (dnA W dA)) (hs:starEach [a] X.env=[(false,eval a X.env)]:=by rfl):PI X tg (.Call (.Name "range" p) [a] [] pos) (dnI W fz (J1j dA)):=(SC hg hm ha hs).mono fun σ H R hh=>hh.elim fun pn M b ρ P st h k=>by
 refine ⟨pn,M,b,ρ,_,st,h,fun xs vs H1 hx rx k1 o1=>?_⟩
 match xs,hx with
 | [.int j],hx =>
   obtain ⟨v,rfl,r⟩:=rx1 rx
   cases (show _=_ from r)
   exact ⟨j,rfl,hx.1.1,hx.1.2,k _ _ _ H1 hx.2 (KO _ _) XH (fun q hq=>by cases hq) k1 o1⟩
theorem J4l (hg:Gl X "range") (hm:X.mg "range" = none) (ha:PA X [a,b] (dnA W dA)) (hs:starEach [a,b] X.env=[(false,eval a X.env),(false,eval b X.env)]:=by rfl) (hs2:starEach [b] X.env=[(false,eval b X.env)]:=by rfl):PI X tg (.Call (.Name "range" p) [a,b] [] pos) (dnI W fz (J1i dA)):=(J3d hg hm ha hs hs2).mono fun σ H R hh=>hh.elim fun pn M b ρ P st h k=>by
 refine ⟨pn,M,b,ρ,_,st,h,fun xs vs H1 hx rx k1 o1=>?_⟩
 match xs,hx with
 | [.int i,.int j],hx =>
   obtain ⟨v,u,rfl,r,r'⟩:=rx2 rx
   cases (show _=_ from r)
   cases (show _=_ from r')
   exact ⟨i,j,rfl,hx.1,k _ _ _ H1 hx.2 (KO _ _) XH (fun q hq=>by cases hq) k1 o1⟩
def asK (fz t:Bool):D->Option (List D)
 | .tup xs=>if t then some xs else none
 | .lst xs=>if t then none else some xs
 | .own xs=>if t||fz then none else some xs
 | _=>none
theorem asK.rep {b:Option Addr}{H:Hp}{t:Bool}{x:D}{v:V}{xs:List D}(h:RepX W M b H x v)(e:asK fz t x=some xs):(∃ a vs,v=.ref a/\SqX W.K t H a vs/\Reps W.K M H xs vs)/\(fz=true->plain x=true):=by
 cases x<;>first|cases e|skip
 case lst =>
  obtain ⟨a,vs,rfl,hh,r⟩:=h
  cases t<;>cases e
  exact ⟨⟨a,vs,rfl,SqL.of hh.2,r⟩,fun _=>rfl⟩
 case own =>
  obtain ⟨a,vs,rfl,_,_,_,_,hh,r⟩:=h
  cases t<;>cases fz<;>cases e
  exact ⟨⟨a,vs,rfl,SqL.of hh,r⟩,fun z=>by cases z⟩
 case tup =>
  obtain ⟨a,vs,rfl,hh,r⟩:=h
  cases t<;>cases e
  exact ⟨⟨a,vs,rfl,hh.sq,r⟩,fun _=>rfl⟩
def VR (xs ys:List D):List D:=List.zipWith (fun x y=>.tup [x,y]) xs ys
noncomputable def Q3d (fz t1 t2:Bool)(dA:DA):DA:=fun ρ P=>dA ρ fun zs=>match zs with
 | [x,y]=>(match asK fz t1 x,asK fz t2 y with|some xs,some ys=>xs.length<=ys.length/\P (VR xs ys)|_,_=>False)
 | _=>False
theorem NY:∀ (xs ys:List D),(VR xs ys).all plain=true
 | [],_=>rfl
 | _::_,[]=>rfl
 | x::xs,y::ys=>by
   show (plain (.tup [x,y])&&(VR xs ys).all plain)=true
   rw [NY xs ys];rfl
theorem Q5s {t1 t2:Bool}{x y:D}{xs ys:List D}{l1 l2:Addr}(h1:asK fz t1 x=some xs)(h2:asK fz t2 y=some ys)(hl:xs.length<=ys.length):KC W (Q8b W.K t1 t2 l1 l2) [(x,.ref l1),(y,.ref l2)] (VR xs ys):=by
 intro M b H hs hn
 obtain ⟨⟨a1,us,e1,q1,r1⟩,_⟩:=asK.rep (hn _ (.head _)) h1
 obtain ⟨⟨a2,ws,e2,q2,r2⟩,_⟩:=asK.rep (hn _ (.tail _ (.head _))) h2
 cases e1
 cases e2
 have hlen:(VR xs ys).length=xs.length:=by simp [VR];omega
 refine ⟨fun i d e=>?_,fun i hi=>⟨⟨us,q1,by rw [r1.length,<- hlen];exact hi⟩,⟨ws,q2⟩⟩⟩
 have hi:i<xs.length:=by rw [<- hlen];exact (B7.mp e).1
 obtain ⟨u,eu,ru⟩:=r1.get (M5 hi)
 obtain ⟨w,ew,rw'⟩:=r2.get (M5 (M4 hi hl))
 refine ⟨⟨us,ws,u,w,q1,eu,q2,ew⟩,fun v H3 ⟨t,y1,y2,ev,ht,eH,k1,k2⟩=>?_⟩
 subst ev eH
 have z1:=k1 us q1
 have z2:=k2 ws q2
 rw [eu] at z1;cases z1
 rw [ew] at z2;cases z2
 refine ⟨Same.upd ht,?_⟩
 have ed:d=.tup [xs[i],ys[i]'(M4 hi hl)]:=by
  have:(VR xs ys)[i]?=some (.tup [xs[i],ys[i]'(M4 hi hl)]):=by
   simp [VR,List.getElem?_zipWith,hi,M4 hi hl]
  rw [this] at e;exact (Option.some.inj e).symm
 subst ed
 exact NU hs ⟨u,[w],rfl,ru,w,[],rfl,rw',rfl⟩ ht
theorem Q6m {elts:List Expr}{c1}{tpos:Pos}(hK:X.K=W.K)(t1 t2:Bool)(hg:Gl X "zip") (hm:X.mg "zip" = none) (ha:PA X [a,b] (dnA W dA))
 (h:PI X (.Tuple elts c1 tpos) (.Call (.Name "zip" p) [a,b] [] pos) (J7a W.K t1 t2 (dnA W dA))):PI X (.Tuple elts c1 tpos) (.Call (.Name "zip" p) [a,b] [] pos) (dnI W fz (Q3d fz t1 t2 dA)):=h.mono fun σ H R hh=>hh.elim fun pn M b ρ P st h k=>by
 refine ⟨pn,M,b,ρ,_,st,h,fun zs vs H1 hx rx k1 o1=>?_⟩
 match zs,hx with
 | [x,y],hx =>
   obtain ⟨v,u,rfl,r,r'⟩:=rx2 rx
   dsimp only at hx
   split at hx
   case h_2=>exact hx.elim
   case h_1 xs ys e1 e2 =>
    obtain ⟨⟨a1,us,z1,q1,r1⟩,f1⟩:=asK.rep r e1
    obtain ⟨⟨a2,ws,z2,q2,r2⟩,f2⟩:=asK.rep r' e2
    subst z1 z2
    refine ⟨a1,a2,rfl,⟨us,q1⟩,⟨ws,q2⟩,k _ _ _ H1 hx.2 (NY _ _) (Q5s e1 e2 hx.1) (fun q hq=>?_) k1 o1⟩
    rcases B6.mp hq with z|z
    · subst z;exact ⟨r,f1⟩
    · have z:=M6.mp z
      subst z;exact ⟨r',f2⟩
end
def GD (W:Wd)(g:TG)(gd:D->Ev->(Ev->Prop)->Prop):Prop:=∀ pn M b H σ ρ x v Q P,Sta W pn M b H σ ρ->RepX W M b H x v->plain x=true->gd x ρ P->(∀ ρ' σ',P ρ'->Sta W pn M b H σ' ρ'->(∀ (i:Nat) d,mine d=true->ρ'[i]?=some (some d)->ρ[i]?=some (some d)/\σ'[i]?=σ[i]?)->Q σ' H)->g v σ H Q
theorem Sta.set {W:Wd}{pn:List (D×V)} {H:Hp}{σ:St}{ρ:Ev}{x:D}{v:V}(s:Sta W pn M b H σ ρ)(j:Nat)(r:RepX W M b H x v):Sta W pn M b H (σ.set j (some v)) (ρ.set j (some x)) where
 toHs:=s.toHs
 kp:=s.kp
 new:=s.new
 len:=by simp [s.len]
 pin:=s.pin
 env:=fun i d e=>by
  by_cases z:j=i
  · subst z
    rw [R6] at e
    simp at e
    obtain ⟨hl,rfl⟩:=e
    exact ⟨v,by rw [R6];simp [<- s.len,hl],r⟩
  · rw [L6 z] at e
    obtain ⟨w,e1,r1⟩:=s.env i d e
    exact ⟨w,by rw [L6 z];exact e1,r1⟩
theorem NT {ρ:Ev}{σ:St}{j:Nat}{x:D}{v:V}(p:plain x=true):∀ (i:Nat) d,mine d=true->(ρ.set j (some x))[i]?=some (some d)->ρ[i]?=some (some d)/\(σ.set j (some v))[i]?=σ[i]?:=fun i d hm e=>by
 by_cases z:j=i
 · subst z
   rw [R6] at e
   simp at e
   obtain ⟨hl,rfl⟩:=e
   cases x<;>first|(cases hm;done)|(cases p;done)
 · rw [L6 z] at e
   exact ⟨e,by rw [L6 z]⟩
def gdN (j:Nat):D->Ev->(Ev->Prop)->Prop:=fun x ρ P=>P (ρ.set j (some x))
theorem Y2 {W:Wd}(j:Nat):GD W (XJ j) (gdN j):=fun pn M b H σ ρ x v Q P st r p h k=>k _ _ h (st.set j r) (NT p)
def FM:List Nat->List D->Ev->Ev
 | j::js,x::xs,ρ=>FM js xs (ρ.set j (some x))
 | _,_,ρ=>ρ
noncomputable def HX:List Nat->TGs
 | []=>V0c
 | j::js=>Q3e (XJ j) (HX js)
noncomputable def V0b (K:Fg)(n:Nat)(t:TGs):TG:=fun v σ H Q=>Q5w K n t v σ H Q\/V0d K n t v σ H Q
def gdU (js:List Nat):D->Ev->(Ev->Prop)->Prop:=fun x ρ P=>match x with
 | .tup xs=>xs.length=js.length/\P (FM js xs ρ)
 | .lst xs=>xs.length=js.length/\P (FM js xs ρ)
 | _=>False
theorem QC {W:Wd}{pn:List (D×V)} {H:Hp}{Q:St->Hp->Prop}{P:Ev->Prop}:∀ (js:List Nat) (xs:List D) (vs:List V) (σ:St) (ρ:Ev),Sta W pn M b H σ ρ->Reps W.K M H xs vs->xs.length=js.length->P (FM js xs ρ)->(∀ ρ' σ',P ρ'->Sta W pn M b H σ' ρ'->(∀ (i:Nat) d,mine d=true->ρ'[i]?=some (some d)->ρ[i]?=some (some d)/\σ'[i]?=σ[i]?)->Q σ' H)->HX js vs σ H Q
 | [],[],vs,σ,ρ,st,r,hl,h,k=>⟨r,k _ _ h st fun _ _ _ e=>⟨e,rfl⟩⟩
 | j::js,x::xs,vs,σ,ρ,st,r,hl,h,k=>by
   obtain ⟨v,us,rfl,r1,r2⟩:=r
   refine ⟨v,us,rfl,?_⟩
   have p:plain x=true:=by cases x<;>first|rfl|exact r1.elim
   refine QC js xs us _ (ρ.set j (some x)) (st.set j r1.x) r2 (by simpa using hl) h fun ρ' σ' hp st' ho=>k ρ' σ' hp st' fun i xs hm e=>?_
   obtain ⟨z1,z2⟩:=ho i xs hm e
   obtain ⟨z3,z4⟩:=NT (v:=v) (σ:=σ) p i xs hm z1
   exact ⟨z3,z2.trans z4⟩
theorem BE {W:Wd}(js:List Nat):GD W (V0b W.K js.length (HX js)) (gdU js):=fun pn M b H σ ρ x v Q P st r p h k=>by
 cases x<;>first|exact h.elim|skip
 case tup xs =>
  obtain ⟨a,vs,rfl,hh,r⟩:=r
  exact .inl ⟨a,vs,rfl,hh.sq,by rw [r.length];exact h.1,QC js xs vs σ ρ st r h.1 h.2 k⟩
 case lst xs =>
  obtain ⟨a,vs,rfl,hh,r⟩:=r
  exact .inr ⟨a,vs,rfl,SqL.of hh.2,by rw [r.length];exact h.1,QC js xs vs σ ρ st r h.1 h.2 k⟩
theorem PG.or {X:Cx}{tg:Expr}{t u:TG}(h:PG X tg t)(h':PG X tg u):PG X tg (fun v σ H Q=>t v σ H Q\/u v σ H Q):=by
 intro pins s σ H v u' Q I r q
 rcases q with q|q
 · exact h pins s σ H v u' Q I r q
 · exact h' pins s σ H v u' Q I r q
theorem gkeep_seq {js:List Nat}{n:Nat}{map:List (Option Nat)}(hj:∀ j∈js,map[j]?=some none):IB (V0b K n (HX js)) map:=by
 have key:∀ (js:List Nat),(∀ j∈js,map[j]?=some none)->∀ vs σ H Q,HX js vs σ H Q->HX js vs σ H fun σ' H'=>(σ'.length=σ.length/\∀ j i:Nat,map[j]?=some (some i)->σ'[j]?=σ[j]?)/\Q σ' H':=by
  intro js
  induction js with
  | nil=>intro _ vs σ H Q h;exact ⟨h.1,⟨rfl,fun _ _ _=>rfl⟩,h.2⟩
  | cons j js ih =>
    intro hj vs σ H Q h
    obtain ⟨v,r,e,h⟩:=h
    refine ⟨v,r,e,?_⟩
    have q:=ih (fun j' m=>hj j' (.tail _ m)) r _ H _ h
    have mono:∀ (js:List Nat) vs σ H (Q Q':St->Hp->Prop),(∀ s h,Q s h->Q' s h)->HX js vs σ H Q->HX js vs σ H Q':=by
     intro js
     induction js with
     | nil=>intro vs σ H Q Q' m h;exact ⟨h.1,m _ _ h.2⟩
     | cons j js ih=>intro vs σ H Q Q' m ⟨v,r,e,h⟩;exact ⟨v,r,e,ih _ _ _ _ _ m h⟩
    refine mono js r _ H _ _ (fun s h ⟨⟨l,z⟩,w⟩=>⟨⟨by rw [l];simp,fun j' i hm=>?_⟩,w⟩) q
    rw [z j' i hm]
    have n1:j≠j':=fun z=>by
     have:=hj j (.head _)
     rw [z,hm] at this;cases this
    rw [L6 n1]
 intro v σ H Q h
 rcases h with ⟨a,xs,e,s,l,h⟩|⟨a,xs,e,s,l,h⟩
 · exact .inl ⟨a,xs,e,s,l,key js hj _ _ _ _ h⟩
 · exact .inr ⟨a,xs,e,s,l,key js hj _ _ _ _ h⟩
def HH (ρ:Ev)(map:List (Option Nat)):Ev:=map.map fun o=>o.bind fun i=>(ρ[i]?).join
noncomputable def UW (gd:D->Ev->(Ev->Prop)->Prop)(dt:DT)(de:DE)(ρc:Ev):List D->List D->(List D->Prop)->Prop
 | [],acc,P=>P acc
 | x::xs,acc,P=>gd x ρc fun ρ1=>dt ρ1 fun c=>IfP c (de ρ1 fun y=>plain y=true/\UW gd dt de ρc xs (acc++[y]) P) (UW gd dt de ρc xs acc P)
inductive compI (gd:D->Ev->(Ev->Prop)->Prop)(dt:DT)(de:DE)(ρc:Ev)(items:List D)(P:List D->Prop):Prop
 | mk (I:Nat->List D->Prop) (h0:I 0 []) (hs:∀ (i:Nat) x acc,items[i]?=some x->I i acc->gd x ρc fun ρ1=>dt ρ1 fun c=>IfP c (de ρ1 fun y=>plain y=true/\I (i+1) (acc++[y])) (I (i+1) acc)) (hd:∀ acc,I items.length acc->P acc):compI gd dt de ρc items P
theorem J8f {gd:D->Ev->(Ev->Prop)->Prop}{dt:DT}{de:DE}{ρc:Ev}{items:List D}{P:List D->Prop}(h:UW gd dt de ρc items [] P):compI gd dt de ρc items P:=by
 refine ⟨fun i acc=>UW gd dt de ρc (items.drop i) acc P,h,fun i x acc e q=>?_,fun acc q=>?_⟩
 · obtain ⟨hlt,rfl⟩:=B7.mp e
   try dsimp only at q
   rw [B2y hlt] at q
   exact q
 · (try dsimp only at q);rw [List.drop_length] at q;exact q
noncomputable def Q3q (map:List (Option Nat))(gd:D->Ev->(Ev->Prop)->Prop)(di:DA)(dt:DT)(de:DE):DE:=fun ρ P=>di ρ fun items=>items.length<=1000/\compI gd dt de (HH ρ map) items fun acc=>P (.lst acc)
theorem Sta.capt {W:Wd}{pn:List (D×V)} {H:Hp}{σ:St}{ρ:Ev}(s:Sta W pn M b H σ ρ)(map:List (Option Nat)):Sta W pn M b H (capt σ map) (HH ρ map) where
 toHs:=s.toHs
 kp:=s.kp
 new:=s.new
 len:=by simp [L2.capt,HH]
 pin:=s.pin
 env:=fun j d e=>by
  unfold HH at e
  rw [M1] at e
  simp only [M7] at e
  obtain ⟨o,e1,e2⟩:=e
  simp only [B1v] at e2
  obtain ⟨i,rfl,e3⟩:=e2
  have e4:ρ[i]?=some (some d):=by
   cases q:ρ[i]? with
   | none=>rw [q] at e3;cases e3
   | some z=>rw [q] at e3;exact D7 some e3
  obtain ⟨v,e5,r⟩:=s.env i d e4
  exact ⟨v,by unfold L2.capt;rw [M1,e1];simp [e5],r⟩
theorem KA {W:Wd}{pn:List (D×V)}{M:Addr->Prop}{b:Option Addr}{H:Hp}{σ:St}{ρ:Ev}{J:It}{need:List (D×V)}{items:List D}{g:TG}{gd:D->Ev->(Ev->Prop)->Prop}{dt:DT}{de:DE}{P:List D->Prop}{Fin:List V->Hp->Prop}
 (hG:GD W g gd) (st:Sta W pn M b H σ ρ) (hp:items.all plain=true) (hI:KC W J need items) (hn:∀ q∈need,RepX W M b H q.1 q.2) (hl:items.length<=1000) (h:compI gd dt de ρ items P)
 (fin:∀ ds acc H',P ds->Reps W.K M H' ds acc->acc.length<=sizeLine->Kp b H H'->okB W.B b H'->Fin acc H'):∃ Wf:Nat->Nat->List V->Hp->Prop,(∃ m,Wf 0 m [] H)/\LK J g (dnT W dt) (dn W de) σ Fin Wf:=by
 obtain ⟨I,i0,istep,idone⟩:=h
 refine ⟨fun i m acc H2=>m=items.length - i/\i<=items.length/\acc.length<=i/\Kp b H H2/\okB W.B b H2/\∃ ds,Reps W.K M H2 ds acc/\I i ds,⟨items.length,by simp,D2 _,L8 _,Kp.refl _ _,st.ok,[],rfl,i0⟩,?_⟩
 rintro i m acc H2 ⟨rfl,hi,ha,k2,o2,ds,r,q⟩
 have st2:=st.step k2 o2
 obtain ⟨hgo,hstop⟩:=hI M b H2 st2.toHs fun q hq=>(hn q hq).step st.bagM k2
 by_cases hlt:i<items.length
 · have ei:items[i]?=some items[i]:=M5 hlt
   replace q:=istep i _ ds ei q
   refine .inr ⟨(hgo i _ ei).1,by have:=AF;omega,fun acc' H'=>acc'.length<=i+1/\Kp b H H'/\okB W.B b H'/\∃ ds,Reps W.K M H' ds acc'/\I (i+1) ds,fun acc' H' n=>⟨items.length - (i+1),by omega,rfl,hlt,n⟩,fun x H3 y=>?_⟩
   obtain ⟨S3,rx⟩:=(hgo i _ ei).2 x H3 y
   have o3:okB W.B b H3:=fun p e=>W.B.st p H2 H3 (o2 p e) fun o e'=>S3 p o e'
   have k3:Kp b H2 H3:=Kp.same S3
   have st3:=st2.step k3 o3
   refine hG pn M b H3 σ ρ items[i] x _ _ st3 rx (E5.mp hp _ (W5 hlt)) q fun ρ1 σ1 h1 st4 _=>?_
   refine ⟨pn,M,b,ρ1,_,st4,h1,fun c H5 h5 k5 o5=>?_⟩
   cases h5 with
   | t e h5 =>
     rw [if_pos e]
     refine ⟨pn,M,b,ρ1,_,st4.step k5 o5,h5,fun y v H6 h6 ry k6 o6=>?_⟩
     have kk:=((k3.trans k5).trans k6)
     refine ⟨by simp;omega,k2.trans kk,o6,ds++[y],Reps.append (Reps.keep (fun c o n e=>kk c o (fun z=>n (st.bagM c z)) e) _ _ r) ⟨v,[],rfl,ry.rep h6.1,rfl⟩,h6.2⟩
   | f e h5 =>
     rw [if_neg (by rw [e];exact L9)]
     have kk:=k3.trans k5
     exact ⟨by omega,k2.trans kk,o5,ds,Reps.keep (fun c o n e=>kk c o (fun z=>n (st.bagM c z)) e) _ _ r,h5⟩
 · have e:i=items.length:=by omega
   subst e
   exact .inl ⟨hstop _ (L8 _),by have:=AF;omega,fin ds acc H2 (idone _ q) r (by have:=AF;omega) k2 o2⟩
section
variable {X:Cx}{W:Wd}{elt iter tg:Expr}{ifs:List Expr}{scope:Scope}{pos:Pos}{N':List Str}{map:List (Option Nat)}{g:TG}{gd:D->Ev->(Ev->Prop)->Prop}{di:DA}{dt:DT}{de:DE}
theorem Q2a (hG:GD W g gd)(B:Blk X N' scope map tg elt ifs g (dnT W dt) (dn W de))(hi:PI X tg iter (dnI W false di))(hs:∀ x,foldedSetIterable iter X.env x=pure x:=by intro _;rfl):PE X (.ListComp elt [⟨tg,iter,ifs,0⟩] scope pos) (dn W (Q3q map gd di dt de)):=(J0y B hi hs).mono fun σ H Q hh=>hh.elim fun pn M b ρ P st h k=>by
 refine ⟨pn,M,b,ρ,_,st,h,fun items J need H1 hx hp hI hn k1 o1=>?_⟩
 have st1:=st.step k1 o1
 refine KA hG (st1.capt map) hp hI (fun q hq=>(hn q hq).1) hx.1 hx.2 fun ds acc H' hP r hl k2 o2 D hD=>?_
 exact k _ _ _ hP (DY (st1.step k2 o2).toHs r hD) ((k1.trans k2).trans (Kp.upd hD)) ((st1.step k2 o2).okU hD)
noncomputable def QI:DT:=fun _ P=>P true
theorem Q1y:PIf X [] (dnT W QI):=fun pins s σ H Q I hh=>hh.elim fun pn M b ρ P st h k=>Q0k pins s σ H Q I (k true H h (Kp.refl _ _) st.ok)
theorem Q1x {c:Expr}(hc:PT X c (dnT W dt)):PIf X [c] (dnT W dt):=J0w hc
end
structure StS (W:Wd)(pn:List (D×V))(M:Addr->Prop)(b:Option Addr)(H:Hp)(σ:St)(ρ:Ev):Prop extends Sta W pn M b H σ ρ where
 dj:∀ (i j:Nat) d e v u c,ρ[i]?=some (some d)->ρ[j]?=some (some e)->σ[i]?=some (some v)->σ[j]?=some (some u)->FX d v c->FX e u c->i=j
 lj:∀ ys a,(D.own ys,V.ref a)∈pn->∀ (i:Nat) d v,ρ[i]?=some (some d)->σ[i]?=some (some v)->¬ FX d v a
theorem StS.own {W:Wd}{pn:List (D×V)} {H:Hp}{σ:St}{ρ:Ev}(s:StS W pn M b H σ ρ):∀ (i j:Nat) xs ys a,ρ[i]?=some (some (.own xs))->ρ[j]?=some (some (.own ys))->σ[i]?=some (some (.ref a))->σ[j]?=some (some (.ref a))->i=j:=fun i j xs ys a e1 e2 e3 e4=>s.dj i j _ _ _ _ a e1 e2 e3 e4 rfl rfl
theorem StS.lk {W:Wd}{pn:List (D×V)} {H:Hp}{σ:St}{ρ:Ev}(s:StS W pn M b H σ ρ):∀ ys a,(D.own ys,V.ref a)∈pn->∀ (i:Nat) xs,ρ[i]?=some (some (.own xs))->σ[i]?≠some (some (.ref a)):=fun ys a hq i xs e y=>s.lj ys a hq i _ _ e y rfl
theorem StS.step {W:Wd}{pn:List (D×V)} {H H':Hp}{σ:St}{ρ:Ev}(s:StS W pn M b H σ ρ)(k:Kp b H H')(o:okB W.B b H'):StS W pn M b H' σ ρ:=⟨s.toSta.step k o,s.dj,s.lj⟩
theorem StS.of2 {W:Wd}{pn pn':List (D×V)}{M M':Addr->Prop}{b b':Option Addr}{H H':Hp}{σ σ':St}{ρ ρ':Ev}(s:StS W pn M b H σ ρ)(t:Sta W pn' M' b' H' σ' ρ')(hp:∀ ys a,(D.own ys,V.ref a)∈pn'->(D.own ys,V.ref a)∈pn)(h:∀ (i:Nat) d v c,ρ'[i]?=some (some d)->σ'[i]?=some (some v)->FX d v c->∃ d0,ρ[i]?=some (some d0)/\σ[i]?=some (some v)/\FX d0 v c):StS W pn' M' b' H' σ' ρ' :=
 ⟨t,fun i j d e v u c e1 e2 e3 e4 m1 m2=>by
  obtain ⟨d0,z1,z2,z3⟩:=h i d v c e1 e3 m1
  obtain ⟨d1,y1,y2,y3⟩:=h j e u c e2 e4 m2
  exact s.dj i j d0 d1 v u c z1 y1 z2 y2 z3 y3,fun ys a hq i d v e1 e2 m=>by
  obtain ⟨d0,z1,z2,z3⟩:=h i d v a e1 e2 m
  exact s.lj ys a (hp ys a hq) i d0 v z1 z2 z3⟩
theorem StS.of {W:Wd}{pn:List (D×V)}{M M':Addr->Prop}{b b':Option Addr}{H H':Hp}{σ σ':St}{ρ ρ':Ev}(s:StS W pn M b H σ ρ)(t:Sta W pn M' b' H' σ' ρ')(h:∀ (i:Nat) d,mine d=true->ρ'[i]?=some (some d)->ρ[i]?=some (some d)/\σ'[i]?=σ[i]?):StS W pn M' b' H' σ' ρ' :=
 s.of2 t (fun _ _ q=>q) fun i d v c e1 e2 m=>by
  obtain ⟨z1,z2⟩:=h i d m.m e1
  exact ⟨d,z1,z2▸e2,m⟩
theorem StS.add {W:Wd}{pn:List (D×V)}{M M':Addr->Prop}{b b':Option Addr}{H H':Hp}{σ:St}{ρ:Ev}(s:StS W pn M b H σ ρ)(i:Nat){d:D}{v:V}(t:Sta W pn M' b' H' (σ.set i (some v)) (ρ.set i (some d)))(h:∀ c,FX d v c->¬ M c):StS W pn M' b' H' (σ.set i (some v)) (ρ.set i (some d)):=by
 have slot:∀ (j:Nat) e u,(ρ.set i (some d))[j]?=some (some e)->(σ.set i (some v))[j]?=some (some u)->(j=i/\e=d/\u=v)\/(j≠i/\ρ[j]?=some (some e)/\σ[j]?=some (some u)):=fun j e u e1 e2=>by
  by_cases z:i=j
  · subst z
    rw [R6] at e1 e2
    simp at e1 e2
    exact .inl ⟨rfl,e1.2.symm,e2.2.symm⟩
  · rw [L6 z] at e1 e2
    exact .inr ⟨fun y=>z y.symm,e1,e2⟩
 have old:∀ (j:Nat) e u c,ρ[j]?=some (some e)->σ[j]?=some (some u)->FX e u c->M c:=fun j e u c e1 e2 m=>by
  obtain ⟨w,e3,r⟩:=s.env j e e1
  rw [e2] at e3;cases e3
  exact (r.mine m).1
 refine ⟨t,fun j k e f u w c e1 e2 e3 e4 m1 m2=>?_,fun ys a hq j e u e1 e2 m=>?_⟩
 · rcases slot j e u e1 e3 with ⟨z1,z2,z3⟩|⟨z1,z2,z3⟩<;>rcases slot k f w e2 e4 with ⟨y1,y2,y3⟩|⟨y1,y2,y3⟩
   · rw [z1,y1]
   · subst z2 z3;exact absurd (old k f w c y2 y3 m2) (h c m1)
   · subst y2 y3;exact absurd (old j e u c z2 z3 m1) (h c m2)
   · exact s.dj j k e f u w c z2 y2 z3 y3 m1 m2
 · rcases slot j e u e1 e2 with ⟨z1,z2,z3⟩|⟨z1,z2,z3⟩
   · subst z2 z3
     obtain ⟨a2,us2,ev,n1,_⟩:=(s.pin _ hq)
     cases ev
     exact absurd n1 (h a m)
   · exact s.lj ys a hq j e u z2 z3 m
structure DEnds where
 nx:Ev->Prop
 rt:D->Prop
 bk:Ev->Prop:=fun _=>False
 ct:Ev->Prop:=fun _=>False
 ro:List D->Prop:=fun _=>False
abbrev DS:=DEnds->Ev->Prop
structure Link (W:Wd)(pn:List (D×V))(E:Ends)(F:DEnds):Prop where
 nx:∀ M b ρ σ H,StS W pn M b H σ ρ->F.nx ρ->E.nx σ H
 rt:∀ d v H,F.rt d->Rep W.K W.M0 H d v->Kp W.b0 W.H0 H->okB W.B W.b0 H->E.rt v H
 bk:∀ M b ρ σ H,StS W pn M b H σ ρ->F.bk ρ->E.bk σ H
 ct:∀ M b ρ σ H,StS W pn M b H σ ρ->F.ct ρ->E.ct σ H
 ro:∀ xs a vs H,F.ro xs->W.H0 a=none->¬ W.M0 a->H a=some (.lst vs)->Reps W.K (fun c=>W.M0 c\/c=a) H xs vs->Kp W.b0 W.H0 H->okB W.B W.b0 H->E.rt (.ref a) H
def sn (W:Wd)(d:DS):TS:=fun E σ H=>∃ pn M b ρ F,StS W pn M b H σ ρ/\Link W pn E F/\d F ρ
theorem sn.elim {W:Wd}{d:DS}{E:Ends}{σ:St}{H:Hp}{Z:Prop}(h:sn W d E σ H)(f:∀ pn M b ρ F,StS W pn M b H σ ρ->Link W pn E F->d F ρ->Z):Z:=by
 obtain ⟨pn,M,b,ρ,F,s,l,h⟩:=h
 exact f pn M b ρ F s l h
section
variable {X:Cx}{W:Wd}{e a b c tg iter l:Expr}{es:List Expr}{pos p:Pos}{d db de:DE}{dA di:DA}{dt:DT}{st:Stmt}{rest sts:List Stmt}{d1 d2:DS}{t:TS}
theorem PS.mono {t':TS}(h:PS X st t)(m:∀ E σ H,t' E σ H->t E σ H):PS X st t':=fun pins s σ H D I q=>h pins s σ H D I (m D σ H q)
theorem PSs.mono {t':TS}(h:PSs X sts t)(m:∀ E σ H,t' E σ H->t E σ H):PSs X sts t':=fun pins s σ H D I q=>h pins s σ H D I (m D σ H q)
noncomputable def Q3o:DS:=fun F ρ=>F.nx ρ
noncomputable def Q7e (d1 d2:DS):DS:=fun F ρ=>d1 { F with nx:=d2 F } ρ
theorem Q1q:PSs X [] (sn W Q3o):=GS.mono fun E σ H hh=>hh.elim fun pn M b ρ F s l h=>l.nx _ _ _ _ _ s h
theorem Q1p (h:PS X st (sn W d1)):PSs X [st] (sn W d1):=AX h
theorem J7l (h1:PS X st (sn W d1))(h2:PSs X rest (sn W d2)):PSs X (st::rest) (sn W (Q7e d1 d2)):=(Z2 h1 h2).mono fun E σ H hh=>hh.elim fun pn M b ρ F s l h=>⟨pn,M,b,ρ,{ F with nx:=d2 F },s,⟨fun M b ρ σ H s' h'=>⟨pn,M,b,ρ,F,s',l,h'⟩,l.rt,l.bk,l.ct,l.ro⟩,h⟩
noncomputable def V0v:DS:=fun F ρ=>F.ct ρ
theorem XN:PS X (.Continue pos) (sn W V0v):=WM.mono fun E σ H hh=>hh.elim fun pn M b ρ F s l h=>l.ct _ _ _ _ _ s h
noncomputable def V0q (de:DE):DS:=fun F ρ=>de ρ fun x=>match x with|.own xs=>F.rt (.lst xs)|.bag=>False|.frg _ _=>False|x=>F.rt x
theorem Q0d {b:Option Addr}{H:Hp}{x:D}{v:V}(hs:Hs W M b H)(r:Rep W.K M H x v):Rep W.K W.M0 H x v:=Rep.avoid (fun c m=>.inl (hs.m0 c m)) _ _ r
theorem Q6h (he:PE X e (dn W de)):PS X (.Return (some e) pos) (sn W (V0q de)):=(DB he).mono fun E σ H hh=>hh.elim fun pn M b ρ F s l h=>by
 refine ⟨pn,M,b,ρ,_,s.toSta,h,fun x v H' hx rx k o=>?_⟩
 have s':=s.toSta.step k o
 cases x
 case own xs =>
  obtain ⟨a,vs,rfl,m,n,n0,m0,hh,r⟩:=rx
  exact l.rt _ _ H' hx ⟨a,vs,rfl,⟨m0,hh⟩,Reps.avoid (fun c m=>.inl (s'.m0 c m)) _ _ r⟩ s'.kp s'.ok0
 case bag=>exact hx.elim
 case frg=>exact hx.elim
 all_goals exact l.rt _ _ H' hx (Q0d s'.toHs (RepX.rep rx rfl)) s'.kp s'.ok0
noncomputable def Q3p (de:DE):DS:=fun F ρ=>de ρ fun _=>F.nx ρ
theorem Q1u (he:PE X e (dn W de))(hs:swapsWith e none pos.line X.env=pure false:=by rfl):PS X (.Expr e pos) (sn W (Q3p de)):=(KQ he hs).mono fun E σ H hh=>hh.elim fun pn M b ρ F s l h=>⟨pn,M,b,ρ,_,s.toSta,h,fun x v H' hx rx k o=>l.nx _ _ _ _ _ (s.step k o) hx⟩
noncomputable def V0u (dt:DT)(d1 d2:DS):DS:=fun F ρ=>dt ρ fun c=>IfP c (d1 F ρ) (d2 F ρ)
theorem V0g {s1 s2:List Stmt}(hc:PT X c (dnT W dt))(ha:PSs X s1 (sn W d1))(hb:PSs X s2 (sn W d2)):PS X (.If c s1 s2 pos) (sn W (V0u dt d1 d2)):=(SB hc ha hb).mono fun E σ H hh=>hh.elim fun pn M b ρ F s l h=>by
 refine ⟨pn,M,b,ρ,_,s.toSta,h,fun x H' hx k o=>?_⟩
 cases hx with
 | t e hx=>rw [if_pos e];exact ⟨pn,M,b,ρ,F,s.step k o,l,hx⟩
 | f e hx=>rw [if_neg (by rw [e];exact L9)];exact ⟨pn,M,b,ρ,F,s.step k o,l,hx⟩
noncomputable def J8c (de:DE)(gd:D->Ev->(Ev->Prop)->Prop):DS:=fun F ρ=>de ρ fun x=>plain x=true/\gd x ρ F.nx
theorem J5c {g:TG}{gd:D->Ev->(Ev->Prop)->Prop}(hG:GD W g gd):∀ E σ H,sn W (J8c de gd) E σ H->Q4q (dn W de) g E σ H:=fun E σ H hh=>hh.elim fun pn M b ρ F s l h=>by
 refine ⟨pn,M,b,ρ,_,s.toSta,h,fun x v H' hx rx k o=>?_⟩
 exact hG pn M b H' σ ρ x v E.nx F.nx (s.toSta.step k o) rx hx.1 hx.2 fun ρ' σ' hp st' ho=>l.nx _ _ _ _ _ (s.of st' ho) hp
theorem Q6g {i:Nat} {x:Str} {pos':Pos} (hN:X.N.Nodup) (hi:X.N[i]?=some x) (hx:Loc X.env.scope x) (he:PE X e (dn W de)) (hs:swapsWith e (some (.Name x pos')) pos.line X.env=pure false:=by rfl) (hf:X.fn x=true\/X.env.scope.names.lookup x=some .local:=by first|exact .inl rfl|exact .inr rfl|assumption) :
 PS X (.Assign [.Name x pos'] e pos) (sn W (J8c de (gdN i))):=(BQ hN hi hx he hs hf).mono (J5c (Y2 i))
theorem Q6l {g:TG}{gd:D->Ev->(Ev->Prop)->Prop}(hG:GD W g gd)(he:PE X e (dn W de))(hg:PG X tg g)(hs:swapsWithSole [tg] e pos.line X.env=pure false:=by rfl)(hw:swappedStores [tg] e X.env=pure none:=by rfl)
 (h1:(assignEach [tg] X.env).map (·.2)=[assign tg X.env]:=by rfl):PS X (.Assign [tg] e pos) (sn W (J8c de gd)):=(OQ he hg hs hw h1).mono (J5c hG)
theorem StS.newOwn {pn:List (D×V)} {b:Option Addr}{H:Hp}{σ:St}{ρ:Ev}{xs:List D}{vs:List V}{p:Addr}(s:StS W pn M b H σ ρ)(i:Nat)(r:Reps W.K M H xs vs)(h:H p=none) :
 StS W pn (fun c=>M c\/c=p) b (upd H p (.lst vs)) (σ.set i (some (.ref p))) (ρ.set i (some (.own xs))):=by
 have hM:∀ c,(M c\/c=p)->M c\/H c=none:=fun c hc=>hc.imp id (fun z=>by rw [z];exact h)
 have kk:∀ c o,H c=some o->upd H p (.lst vs) c=some o:=fun c o e=>Same.upd h c o e
 have rep:∀ d v,Rep W.K M H d v->Rep W.K (fun c=>M c\/c=p) (upd H p (.lst vs)) d v:=fun d v r=>Rep.keep (fun c o _ e=>kk c o e) _ _ (Rep.avoid hM _ _ r)
 have reps:∀ d v,Reps W.K M H d v->Reps W.K (fun c=>M c\/c=p) (upd H p (.lst vs)) d v:=fun d v r=>Reps.keep (fun c o _ e=>kk c o e) _ _ (Reps.avoid hM _ _ r)
 have hbp:b≠some p:=fun z=>by
  obtain ⟨o,e⟩:=W.B.dm p H (s.ok p z)
  rw [h] at e;cases e
 have h0:W.H0 p=none:=by
  cases q:W.H0 p with
  | none=>rfl
  | some o =>
    by_cases z:W.b0=some p
    · rcases s.new with y|⟨y,_⟩
      · exact absurd (y.trans z) hbp
      · rw [y] at z;cases z
    · have:=s.kp p o z q
      rw [h] at this;cases this
 have hm0:¬ W.M0 p:=fun z=>s.toHs.new h (s.m0 p z)
 refine s.add i ⟨⟨s.toHs.okU h,fun q e=>.inl (s.bagM q e),fun c hc=>?_,fun c m=>.inl (s.m0 c m)⟩,fun c o n e=>kk c o (s.kp c o n e),s.new,fun j d e=>?_,by simp [s.len],fun q hq=>(s.pin q hq).to rep reps fun xs a vs _ _ m n hh=>⟨.inl m,n,kk _ _ hh⟩⟩ fun c m=>by
  cases (show V.ref p=V.ref c from m)
  exact s.toHs.new h
 · rcases hc with hc|hc
   · obtain ⟨o,e⟩:=s.dom c hc;exact ⟨o,kk c o e⟩
   · rw [hc];exact ⟨_,V5⟩
 · by_cases z:i=j
   · subst z
     rw [R6] at e
     simp at e
     obtain ⟨hl,rfl⟩:=e
     exact ⟨.ref p,by rw [R6];simp [<- s.len,hl],p,vs,rfl,.inr rfl,hbp,h0,hm0,V5,reps _ _ r⟩
   · rw [L6 z] at e
     obtain ⟨w,e1,r1⟩:=s.env j d e
     refine ⟨w,by rw [L6 z];exact e1,?_⟩
     cases d
     case own ys =>
      obtain ⟨a,us,rfl,m1,m2,m3,m4,hh,r'⟩:=r1
      exact ⟨a,us,rfl,.inl m1,m2,m3,m4,kk _ _ hh,reps _ _ r'⟩
     case bag=>exact r1
     case frg f _=>exact RepX.move r1 (fun c _ m n=>⟨.inl m,n⟩) (fun c o _ e=>kk c o e) hM
     all_goals exact rep _ _ r1
theorem StS.setOwn {pn:List (D×V)} {b:Option Addr}{H:Hp}{σ:St}{ρ:Ev}{xs ys:List D}{vs:List V}{a:Addr}(s:StS W pn M b H σ ρ)(i:Nat)(e:ρ[i]?=some (some (.own xs)))(ea:σ[i]?=some (some (.ref a)))(r:Reps W.K M H ys vs) :
 StS W pn M b (upd H a (.lst vs)) σ (ρ.set i (some (.own ys))):=by
 obtain ⟨v,e1,a',us,ev,m1,m2,m3,m4,hh,r'⟩:=s.env i _ e
 rw [ea] at e1;cases e1;cases ev
 have kk:∀ c o,¬ M c->H c=some o->upd H a (.lst vs) c=some o:=fun c o n q=>by rw [V4 (show c≠a from fun z=>n (by rw [z];exact m1))];exact q
 have kb:∀ c o,c≠a->H c=some o->upd H a (.lst vs) c=some o:=fun c o n q=>by rw [V4 n];exact q
 refine s.of2 ⟨⟨fun q z=>W.B.st q H _ (s.ok q z) fun o h=>kb q o (fun w=>m2 (w▸z)) h,s.bagM,fun c hc=>?_,s.m0⟩,fun c o n q=>kb c o (fun z=>by rw [z,m3] at q;cases q) (s.kp c o n q),s.new,fun j d e'=>?_,by simp [s.len],fun q hq=>(s.pin q hq).to (fun _ _ r=>Rep.keep kk _ _ r) (fun _ _ r=>Reps.keep kk _ _ r) fun zs a2 us ed ev m n hh2=>⟨m,n,kb _ _ (fun y=>s.lk zs a2 (by rw [<- ed,<- ev];exact hq) i xs e (by rw [y];exact ea)) hh2⟩⟩ (fun _ _ q=>q) fun j d v c e' e2 m=>?_
 · by_cases z:c=a
   · rw [z];exact ⟨_,V5⟩
   · obtain ⟨o,q⟩:=s.dom c hc;exact ⟨o,kb c o z q⟩
 · by_cases z:i=j
   · subst z
     rw [R6] at e'
     simp at e'
     obtain ⟨hl,rfl⟩:=e'
     exact ⟨.ref a,ea,a,vs,rfl,m1,m2,m3,m4,V5,Reps.keep kk _ _ r⟩
   · rw [L6 z] at e'
     obtain ⟨w,e1,r1⟩:=s.env j d e'
     refine ⟨w,e1,?_⟩
     cases d
     case own zs =>
      obtain ⟨a2,us2,rfl,n1,n2,n3,n4,hh2,r2⟩:=r1
      have na:a2≠a:=fun y=>z (s.own i j xs zs a e e' ea (y▸e1))
      exact ⟨a2,us2,rfl,n1,n2,n3,n4,kb _ _ na hh2,Reps.keep kk _ _ r2⟩
     case bag=>exact r1
     case frg f _ =>
      have na:a∉f.ads:=fun y=>z (s.dj i j _ _ _ _ a e e' ea e1 rfl y)
      exact RepX.move r1 (fun c _ m n=>⟨m,n⟩) (fun c o q h=>kb c o (fun y=>q.elim (fun n=>n (by rw [y];exact m1)) (fun n=>na (by rw [<- y];exact n))) h) fun c m=>.inl m
     all_goals exact Rep.keep kk _ _ r1
 · by_cases z:i=j
   · subst z
     rw [R6] at e'
     simp at e'
     obtain ⟨_,rfl⟩:=e'
     exact ⟨_,e,e2,m⟩
   · rw [L6 z] at e'
     exact ⟨d,e',e2,m⟩
noncomputable def Q3n (i:Nat)(dA:DA):DS:=fun F ρ=>dA ρ fun xs=>JR xs=true/\F.nx (ρ.set i (some (.own xs)))
theorem Q1t {i:Nat} {x:Str} {pos' lpos:Pos} (hN:X.N.Nodup) (hi:X.N[i]?=some x) (hx:Loc X.env.scope x) (ha:PA X es (dnA W dA)) (hs:swapsWith (.List es lpos) (some (.Name x pos')) pos.line X.env=pure false:=by rfl) (hf:X.fn x=true\/X.env.scope.names.lookup x=some .local:=by first|exact .inl rfl|exact .inr rfl|assumption) :
 PS X (.Assign [.Name x pos'] (.List es lpos) pos) (sn W (Q3n i dA)):=(BQ hN hi hx (GV ha) hs hf).mono fun E σ H hh=>hh.elim fun pn M b ρ F s l h=>by
 refine ⟨pn,M,b,ρ,_,s.toSta,h,fun xs vs H' hx rx k o=>?_⟩
 have rr:=rx.reps _ _ (JR.pl hx.1)
 exact ⟨by rw [rr.length];exact JR.len hx.1,fun q hq=>l.nx _ _ _ _ _ ((s.step k o).newOwn i rr hq) hx.2⟩
noncomputable def Q3m (own:Bool)(i:Nat)(map:List (Option Nat))(gd:D->Ev->(Ev->Prop)->Prop)(di:DA)(dt:DT)(de:DE):DS:=fun F ρ=>di ρ fun items=>items.length<=1000/\compI gd dt de (HH ρ map) items fun acc=>F.nx (ρ.set i (some (if own then .own acc else .lst acc)))
theorem Q1s {elt iter tg:Expr}{ifs:List Expr}{scope:Scope}{N':List Str}{map:List (Option Nat)}{g:TG}{gd:D->Ev->(Ev->Prop)->Prop}(own:Bool){i:Nat}{y:Str}{py spos:Pos}(hN:X.N.Nodup)(hiN:X.N[i]?=some y)(hy:Loc X.env.scope y)(hG:GD W g gd)(B:Blk X N' scope map tg elt ifs g (dnT W dt) (dn W de))(hi:PI X tg iter (dnI W false di))
 (hsw:swapsWith (.ListComp elt [⟨tg,iter,ifs,0⟩] scope pos) (some (.Name y py)) spos.line X.env=pure true:=by rfl) (hfn:X.fn y=true\/X.env.scope.names.lookup y=some .local:=by first|exact .inl rfl|exact .inr rfl)
 (hs:∀ x,foldedSetIterable iter X.env x=pure x:=by intro _;rfl):PS X (.Assign [.Name y py] (.ListComp elt [⟨tg,iter,ifs,0⟩] scope pos) spos) (sn W (Q3m own i map gd di dt de)):=(OP hN hiN hy B hi hsw hfn hs).mono fun E σ H hh=>hh.elim fun pn M b ρ F s l h=>by
 refine ⟨pn,M,b,ρ,_,s.toSta,h,fun items J need H1 hx hp hI hn k1 o1=>?_⟩
 have s1:=s.step k1 o1
 refine KA hG (s1.toSta.capt map) hp hI (fun q hq=>(hn q hq).1) hx.1 hx.2 fun ds acc H' hP r hl k2 o2 q hq=>?_
 have s2:=s1.step k2 o2
 cases own
 · have s3:=(s2.step (Kp.upd (o:=.lst acc) hq) (s2.toHs.okU hq))
   exact l.nx _ _ _ _ _ (s3.of (s3.toSta.set i (DY s2.toHs r hq)) (NT rfl)) hP
 · exact l.nx _ _ _ _ _ (s2.newOwn i r hq) hP
noncomputable def Q2i (i:Nat)(dA:DA):DS:=fun F ρ=>match ρ[i]? with
 | some (some (.own ys))=>dA ρ fun xs=>(match xs with | [y]=>(plain y&&decide (ys.length<1000))=true/\F.nx (ρ.set i (some (.own (ys++[y]))))|_=>False)
 | _=>False
theorem TY {pn:List (D×V)} {b:Option Addr}{H:Hp}{σ:St}{ρ:Ev}{i:Nat}{ys:List D}(s:Sta W pn M b H σ ρ)(e:ρ[i]?=some (some (.own ys))):∃ a vs,σ[i]?=some (some (.ref a))/\b≠some a/\H a=some (.lst vs)/\Reps W.K M H ys vs:=by
 obtain ⟨v,e1,a,us,rfl,m1,m2,m3,m4,hh,r⟩:=s.env i _ e
 exact ⟨a,us,e1,m2,hh,r⟩
theorem Q4g {i:Nat}:∀ E σ H,sn W (Q2i i dA) E σ H->J5g (tBM W.K "list" KP (IZ i) (dnA W dA)) E σ H:=fun E σ H hh=>hh.elim fun pn M b ρ F s l h=>by
 unfold Q2i at h
 split at h
 case h_2=>exact h.elim
 case h_1 ys e =>
  obtain ⟨a,vs,ea,nb,hh,r⟩:=TY s.toSta e
  refine ⟨.ref a,ea,.inl ⟨rfl,vs,SqL.of hh⟩,pn,M,b,ρ,_,s.toSta,h,fun xs us H' hx rx k o=>?_⟩
  match xs,hx with
  | [y],hx =>
    obtain ⟨u,rfl,ru⟩:=rx1 rx
    obtain ⟨p1,p2⟩:=(R4 _ _).mp hx.1
    have p2:=B0a p2
    have s':=s.step k o
    obtain ⟨a',vs',ea',nb',hh',r'⟩:=TY s'.toSta e
    rw [ea] at ea';cases ea'
    refine ⟨a,vs',u,rfl,rfl,hh',by rw [r'.length];have:=AF;omega,l.nx _ _ _ _ _ (s'.setOwn i e ea (Reps.append r' (show Reps W.K M H' [y] [u] from ⟨u,[],rfl,ru.rep p1,rfl⟩))) hx.2⟩
theorem J4h {i:Nat}{x:Str}{e:Expr}{npos apos cpos:Pos}(hK:X.K=W.K)(hN:X.N[i]?=some x)(hv:Vis X.env.scope x)(ha:PA X [e] (dnA W dA))
 (h:PE X (.Call (.Attribute (.Name x npos) "append" apos) [e] [] cpos) (tBM X.K "list" KP (IZ i) (dnA W dA))) (hs:swapsWith (.Call (.Attribute (.Name x npos) "append" apos) [e] [] cpos) none pos.line X.env=pure false:=by rfl) :
 PS X (.Expr (.Call (.Attribute (.Name x npos) "append" apos) [e] [] cpos) pos) (sn W (Q2i i dA)):=(KQ (by rw [hK] at h;exact h) hs).mono Q4g
noncomputable def Q7n (i:Nat)(f:Int->Int->Int)(de:DE):DS:=fun F ρ=>match ρ[i]? with
 | some (some (.int n))=>de ρ fun y=>(match y with|.int m=>F.nx (ρ.set i (some (.int (f n m))))|_=>False)
 | _=>False
theorem Q6k {i:Nat} {x:Str} {op:Operator} {f:Int->Int->Int} {pos':Pos} (hN:X.N.Nodup) (hi:X.N[i]?=some x) (hx:Loc X.env.scope x) (he:PE X e (dn W de)) (ho:PIp X op (ipI f)) (hf:X.fn x=true\/X.env.scope.names.lookup x=some .local:=by first|exact .inl rfl|exact .inr rfl|assumption) :
 PS X (.AugAssign (.Name x pos') op e pos) (sn W (Q7n i f de)):=(J5x hN hi hx he ho hf).mono fun E σ H hh=>hh.elim fun pn M b ρ F s l h=>by
 unfold Q7n at h
 split at h
 case h_2=>exact h.elim
 case h_1 n e =>
  obtain ⟨v,ev,rv⟩:=s.env i _ e
  cases (show _=_ from rv)
  refine ⟨.int n,ev,pn,M,b,ρ,_,s.toSta,h,fun y u H' hy ry k o=>?_⟩
  cases y<;>first|exact hy.elim|skip
  case int m =>
   cases (show _=_ from ry)
   have s':=s.step k o
   exact ⟨n,m,rfl,rfl,l.nx _ _ _ _ _ (s'.of (s'.toSta.set i (x:=.int (f n m)) (v:=.int (f n m)) (show _=_ from rfl)) (NT rfl)) hy⟩
noncomputable def J1s (gd:D->Ev->(Ev->Prop)->Prop)(db:DS)(F:DEnds):List D->Ev->Prop
 | [],ρ=>F.nx ρ
 | x::xs,ρ=>gd x ρ fun ρ1=>db { F with nx:=J1s gd db F xs,ct:=J1s gd db F xs,bk:=F.nx } ρ1
inductive forI (gd:D->Ev->(Ev->Prop)->Prop)(db:DS)(F:DEnds)(items:List D)(ρ:Ev):Prop
 | mk (I:Nat->Ev->Prop) (h0:I 0 ρ) (hs:∀ (i:Nat) x ρ,items[i]?=some x->I i ρ->gd x ρ fun ρ1=>db { F with nx:=I (i+1),ct:=I (i+1),bk:=F.nx } ρ1) (hd:∀ ρ,I items.length ρ->F.nx ρ):forI gd db F items ρ
theorem Q1m {gd:D->Ev->(Ev->Prop)->Prop}{db:DS}{F:DEnds}{items:List D}{ρ:Ev}(h:J1s gd db F items ρ):forI gd db F items ρ:=by
 refine ⟨fun i ρ=>J1s gd db F (items.drop i) ρ,h,fun i x ρ e q=>?_,fun ρ q=>?_⟩
 · obtain ⟨hlt,rfl⟩:=B7.mp e
   try dsimp only at q
   rw [B2y hlt] at q
   exact q
 · (try dsimp only at q);rw [List.drop_length] at q;exact q
noncomputable def Q7h (gd:D->Ev->(Ev->Prop)->Prop)(di:DA)(db:DS):DS:=fun F ρ=>di ρ fun items=>forI gd db F items ρ
theorem Sta.pins {pn pn':List (D×V)} {b:Option Addr}{H:Hp}{σ:St}{ρ:Ev}(s:Sta W pn M b H σ ρ)(h:∀ q∈pn',PinR W M b H q.1 q.2):Sta W pn' M b H σ ρ:=⟨s.toHs,s.kp,s.new,s.env,s.len,h⟩
theorem Q4e {g:TG}{gd:D->Ev->(Ev->Prop)->Prop}{db:DS}(hG:GD W g gd):∀ E σ H,sn W (Q7h gd di db) E σ H->Q4n (dnI W true di) g (sn W db) E σ H:=fun E σ H hh=>hh.elim fun pn M b ρ F s l h=>by
 refine ⟨pn,M,b,ρ,_,s.toSta,h,fun items J need H1 hx hp hI hn k1 o1=>?_⟩
 have s1:=s.step k1 o1
 have pins:∀ q∈need++pn,PinR W M b H1 q.1 q.2:=fun q hq=>(U7.mp hq).elim (fun z=>(hn q z).1.pin ((hn q z).2 rfl)) fun z=>s1.pin q z
 obtain ⟨I,i0,istep,idone⟩:=hx
 refine ⟨fun i m σ H=>m=items.length - i/\i<=items.length/\∃ M b ρ,StS W (need++pn) M b H σ ρ/\I i ρ,⟨items.length,by simp,D2 _,M,b,ρ,⟨s1.toSta.pins pins,s1.dj,fun ys a hq=>(U7.mp hq).elim (fun z=>by have:=(hn _ z).2 rfl;cases this) fun z=>s1.lj ys a z⟩,i0⟩,?_⟩
 rintro i m σ2 H2 ⟨rfl,hi,M2,b2,ρ2,s2,q⟩
 have unp:∀ {M b ρ σ H},StS W (need++pn) M b H σ ρ->StS W pn M b H σ ρ:=fun s=>⟨s.toSta.pins fun q hq=>s.pin q (L5 _ hq),s.dj,fun ys a hq=>s.lj ys a (L5 _ hq)⟩
 obtain ⟨hgo,hstop⟩:=hI M2 b2 H2 s2.toHs fun q hq=>(s2.pin q (T9 _ hq)).x
 by_cases hlt:i<items.length
 · have ei:items[i]?=some items[i]:=M5 hlt
   replace q:=istep i _ ρ2 ei q
   refine .inr ⟨(hgo i _ ei).1,fun σ' H'=>∃ M b ρ,StS W (need++pn) M b H' σ' ρ/\I (i+1) ρ,fun σ' H' n=>⟨items.length - (i+1),by omega,rfl,hlt,n⟩,fun x H3 y=>?_⟩
   obtain ⟨S3,rx⟩:=(hgo i _ ei).2 x H3 y
   have o3:okB W.B b2 H3:=fun p e=>W.B.st p H2 H3 (s2.ok p e) fun o e'=>S3 p o e'
   have s3:=s2.step (Kp.same S3) o3
   refine hG (need++pn) M2 b2 H3 σ2 ρ2 items[i] x _ _ s3.toSta rx (E5.mp hp _ (W5 hlt)) q fun ρ1 σ1 h1 st4 ho=>?_
   exact ⟨need++pn,M2,b2,ρ1,{ F with nx:=I (i+1),ct:=I (i+1),bk:=F.nx },s3.of st4 ho,⟨fun M b ρ σ H s' h'=>⟨M,b,ρ,s',h'⟩,l.rt,fun M b ρ σ H s' h'=>l.nx _ _ _ _ _ (unp s') h',fun M b ρ σ H s' h'=>⟨M,b,ρ,s',h'⟩,l.ro⟩,h1⟩
 · have e:i=items.length:=by omega
   subst e
   exact .inl ⟨hstop _ (L8 _),l.nx _ _ _ _ _ (unp s2) (idone _ q)⟩
theorem Q6i {g:TG}{gd:D->Ev->(Ev->Prop)->Prop}{db:DS}{body:List Stmt}(hG:GD W g gd)(hp:PassesOwn (model X.prog X.w) X.A X.env X.xe)(hc:X.calm=true)(hi:PI X tg iter (dnI W true di))(hg:PG X tg g)(hb:PSs X body (sn W db))
 (hs:∀ x,foldedSetIterable iter X.env x=pure x:=by intro _;rfl):PS X (.For tg iter body [] pos) (sn W (Q7h gd di db)):=(YY hp hc hi hg hb hs).mono (Q4e hG)
noncomputable def Q7g (i:Nat)(d:DS):DS:=fun F ρ=>match ρ[i]? with|some (some (.own xs))=>d F (ρ.set i (some (.lst xs)))|_=>False
theorem Sta.avoid {pn:List (D×V)}{M M':Addr->Prop}{b:Option Addr}{H:Hp}{σ:St}{ρ:Ev}(s:Sta W pn M b H σ ρ)(h:∀ c,M' c->M c)(hb:∀ p,b=some p->M' p)(h0:∀ c,W.M0 c->M' c)(ho:∀ (i:Nat) d v c,ρ[i]?=some (some d)->σ[i]?=some (some v)->FX d v c->M' c)(hpo:∀ xs a,(D.own xs,V.ref a)∈pn->M' a):Sta W pn M' b H σ ρ where
 ok:=s.ok
 bagM:=hb
 dom:=fun c m=>s.dom c (h c m)
 m0:=h0
 kp:=s.kp
 new:=s.new
 len:=s.len
 pin:=fun q hq=>(s.pin q hq).to (fun _ _ r=>Rep.avoid (fun c m=>.inl (h c m)) _ _ r) (fun _ _ r=>Reps.avoid (fun c m=>.inl (h c m)) _ _ r) fun xs a vs ed ev m n hh=>⟨hpo xs a (by rw [<- ed,<- ev];exact hq),n,hh⟩
 env:=fun i d e=>by
  obtain ⟨v,e1,r⟩:=s.env i d e
  refine ⟨v,e1,?_⟩
  cases d
  case own xs =>
   obtain ⟨a,us,rfl,m1,m2,m3,m4,hh,r'⟩:=r
   exact ⟨a,us,rfl,ho i _ _ a e e1 rfl,m2,m3,m4,hh,Reps.avoid (fun c m=>.inl (h c m)) _ _ r'⟩
  case bag=>exact r
  case frg f _=>exact RepX.move r (fun c m _ n=>⟨ho i _ _ c e e1 m,n⟩) (fun c o _ e=>e) fun c m=>.inl (h c m)
  all_goals exact Rep.avoid (fun c m=>.inl (h c m)) _ _ r
theorem Q1r (i:Nat)(h:PSs X sts (sn W d1)):PSs X sts (sn W (Q7g i d1)):=h.mono fun E σ H hh=>hh.elim fun pn M b ρ F s l h=>by
 unfold Q7g at h
 split at h
 case h_2=>exact h.elim
 case h_1 xs e =>
  obtain ⟨v,e1,a,us,rfl,m1,m2,m3,m4,hh,r⟩:=s.env i _ e
  have st:Sta W pn (fun c=>M c/\c≠a) b H σ (ρ.set i none):=by
   refine Sta.avoid (M:=M) ⟨s.toHs,s.kp,s.new,fun j d e'=>?_,by simp [s.len],s.pin⟩ (fun c m=>m.1) (fun p z=>⟨s.bagM p z,fun y=>m2 (by rw [<- y];exact z)⟩) (fun c m=>⟨s.m0 c m,fun y=>m4 (by rw [<- y];exact m)⟩) (fun j d' v' c' e' e2 mm=>?_) fun ys a' hq=>⟨by
    obtain ⟨a2,us2,ev,n1,_⟩:=(s.pin _ hq)
    cases ev;exact n1,fun y=>s.lk ys a' hq i xs e (by rw [y];exact e1)⟩
   · by_cases z:i=j
     · subst z;rw [R6] at e';simp at e'
     · rw [L6 z] at e';exact s.env j d e'
   · by_cases z:i=j
     · subst z;rw [R6] at e';simp at e'
     · rw [L6 z] at e'
       obtain ⟨v3,e3,r3⟩:=s.env j _ e'
       rw [e2] at e3;cases e3
       exact ⟨(r3.mine mm).1,fun y=>z (s.dj i j _ _ _ _ a e e' e1 e2 rfl (by rw [<- y];exact mm))⟩
  have st2:=st.set (x:=.lst xs) (v:=.ref a) i ⟨a,us,rfl,⟨fun m=>m.2 rfl,hh⟩,Reps.avoid (fun c m=>.inl m.1) _ _ r⟩
  have eσ:σ.set i (some (.ref a))=σ:=by
   apply T5
   intro n
   by_cases z:i=n
   · subst z;rw [R6,e1];simp;exact (B7.mp e1).1
   · rw [L6 z]
  rw [eσ,List.set_set] at st2
  refine ⟨pn,_,b,_,F,s.of st2 fun j ys hm e'=>?_,l,h⟩
  by_cases z:i=j
  · subst z;rw [R6] at e';simp at e';rw [<- e'.2] at hm;cases hm
  · rw [L6 z] at e';exact ⟨e',rfl⟩
noncomputable def J7z (Ed:Addr->Prop)(C:Addr):DS:=fun _ _=>Ed C
theorem J7m {E:XK}{Ed:Addr->Prop}{C:Addr}(hE:EI W E Ed)(h:PS X st (fun _ _ H1=>E (.ref C) none H1)):PS X st (sn W (J7z Ed C)):=h.mono fun E' σ H hh=>hh.elim fun pn M b ρ F s l h=>hE C H h s.kp s.ok0
end
def BD (N:List Str)(ds:List D):Ev:=ds.map some++List.replicate (N.length - ds.length) none
theorem RepAs.get {H:Hp}:∀ {ds:List D} {vs:List V} {i:Nat} {d:D},RepAs K M b H ds vs->ds[i]?=some d->∃ v,vs[i]?=some v/\J9d K M b H d v
 | [],_,_,_,h,e=>by simp at e
 | d::ds,vs,0,_,h,e=>by
   obtain ⟨v,r,rfl,h1,h2⟩:=h
   simp at e;subst e
   exact ⟨v,rfl,h1⟩
 | d::ds,vs,i+1,d',h,e=>by
   obtain ⟨v,r,rfl,h1,h2⟩:=h
   obtain ⟨u,e1,e2⟩:=RepAs.get (i:=i) h2 (by simpa using e)
   exact ⟨u,by simpa using e1,e2⟩
theorem JD {N:List Str}{ds:List D}{i:Nat}{d:D}(h:(BD N ds)[i]?=some (some d)):ds[i]?=some d:=by
 unfold BD at h
 by_cases hi:i<ds.length
 · rw [W9 (by simpa using hi),M1] at h
   simpa using h
 · rw [B0h (by simpa using hi)] at h
   have:=L4 h
   simp at this
theorem J7h {B:BagT} {N:List Str}{ds:List D}{vs:List V}{H:Hp}(hr:RepAs K M b H ds vs)(ho:okB B b H)(hb:∀ p,b=some p->M p)(hd:∀ c,M c->∃ o,H c=some o):StS ⟨K,B,H,M,b⟩ [] M b H (BF N vs) (BD N ds):=by
 refine ⟨⟨⟨ho,hb,hd,fun _ m=>m⟩,Kp.refl _ _,.inl rfl,fun i d e=>?_,by simp [BF,BD,hr.length],fun _ hq=>by cases hq⟩,fun i j d e v u c e0 _ _ _ m _=>?_,fun _ _ hq=>by cases hq⟩
 · obtain ⟨v,e1,r⟩:=hr.get (JD e)
   refine ⟨v,?_,?_⟩
   · unfold BF
     rw [W9 (by simpa using (B7.mp e1).1),M1,e1];rfl
   · cases d<;>first|exact r|exact r.elim
 · obtain ⟨v',e1,r⟩:=hr.get (JD e0)
   cases d<;>first|exact m.elim|exact r.elim
theorem Q9q {B:BagT} {H:Hp}{Q:VK}{P:D->Prop}(hq:∀ d v H',P d->Rep K M H' d v->Kp b H H'->okB B b H'->Q v H'):Link ⟨K,B,H,M,b⟩ [] { nx:=fun _ H'=>Q .non H',rt:=Q } { nx:=fun _=>P .non,rt:=P } :=
 ⟨fun M b ρ σ H s h=>hq _ _ _ h rfl s.kp s.ok0,fun d v H h r k o=>hq d v H h r k o,fun _ _ _ _ _ _ h=>h.elim,fun _ _ _ _ _ _ h=>h.elim,fun _ _ _ _ h=>h.elim⟩
theorem run {B:BagT} {N:List Str}{ds:List D}{vs:List V}{H:Hp}{Q:VK}{P:D->Prop}{d:DS}(hr:RepAs K M b H ds vs)(ho:okB B b H)(hb:∀ p,b=some p->M p)(hd:∀ c,M c->∃ o,H c=some o)(hq:∀ d v H',P d->Rep K M H' d v->Kp b H H'->okB B b H'->Q v H')
 (h:d { nx:=fun _=>P .non,rt:=P } (BD N ds)):sn ⟨K,B,H,M,b⟩ d { nx:=fun _ H'=>Q .non H',rt:=Q } (BF N vs) H :=
 ⟨[],M,b,BD N ds,_,J7h hr ho hb hd,Q9q hq,h⟩
theorem Q3.len {B:BagT}{S:DSp}{n:Nat}(h:∀ ds P Ed,S ds P Ed->ds.length=n):∀ vs H Q E,Q3 K B S vs H Q E->vs.length=n:=fun vs H Q E ⟨M,b,ds,P,Ed,hS,hr,_⟩=>by rw [hr.length];exact h _ _ _ hS
section
variable {X:Cx}{W:Wd}{e a b c l:Expr}{es:List Expr}{pos p:Pos}{d db dl de:DE}{dA:DA}{st:Stmt}{sts:List Stmt}{t:TS}
abbrev DO:=Ev->(Option Int->Prop)->Prop
def dnO (W:Wd)(d:DO):TO:=fun σ H Q=>∃ pn M b ρ P,Sta W pn M b H σ ρ/\d ρ P/\∀ x H',P x->Kp b H H'->okB W.B b H'->Q x H'
theorem dnO.elim {W:Wd}{d:DO}{σ:St}{H:Hp}{Q:Option Int->Hp->Prop}{R:Prop}(h:dnO W d σ H Q)(f:∀ pn M b ρ P,Sta W pn M b H σ ρ->d ρ P->(∀ x H',P x->Kp b H H'->okB W.B b H'->Q x H')->R):R:=by
 obtain ⟨pn,M,b,ρ,P,st,h,k⟩:=h
 exact f pn M b ρ P st h k
noncomputable def oNo:DO:=fun _ P=>P none
noncomputable def oPt (de:DE):DO:=fun ρ P=>de ρ fun x=>match x with|.int i=>P (some i)|_=>False
theorem Q1w:PO X none (dnO W oNo):=fun pins s σ H Q I hh=>hh.elim fun pn M b ρ P st h k=>Q0j pins s σ H Q I (k _ H h (Kp.refl _ _) st.ok)
theorem Q1v (h:PE X e (dn W de)):PO X (some e) (dnO W (oPt de)):=fun pins s σ H Q I hh=>hh.elim fun pn M b ρ P st q k=>Q0i h pins s σ H Q I (by
 refine ⟨pn,M,b,ρ,_,st,q,fun x v H1 hx rx k1 o1=>?_⟩
 cases x<;>first|exact hx.elim|skip
 cases (show _=_ from rx)
 exact ⟨_,rfl,k _ H1 hx k1 o1⟩)
noncomputable def J8d (xs:List D)(lo hi:Option Int):List D:=(xs.drop (HT.sIx xs.length 0 lo)).take (HT.sIx xs.length xs.length hi - HT.sIx xs.length 0 lo)
theorem Reps.cut {H:Hp}{ds:List D}{vs:List V}(h:Reps K M H ds vs)(lo hi:Option Int):Reps K M H (J8d ds lo hi) (XT vs lo hi):=by
 unfold J8d XT
 rw [h.length]
 exact Reps.take _ (Reps.drop _ h)
noncomputable def oSl (x:D)(lo hi:Option Int)(P:D->Prop):Prop:=match x with
 | .tup xs=>¬ (HT.sIx xs.length 0 lo=0/\HT.sIx xs.length xs.length hi=xs.length)/\P (.tup (J8d xs lo hi))
 | .lst xs=>P (.lst (J8d xs lo hi))
 | .own xs=>P (.lst (J8d xs lo hi))
 | _=>False
noncomputable def dSl (de:DE)(dl dh:DO):DE:=fun ρ P=>de ρ fun x=>dl ρ fun lo=>dh ρ fun hi=>oSl x lo hi P
theorem J9y (K:Fg)(h:X.K=K):SlR X (J5o K):=by subst h;exact Q4s
theorem Q4t (K:Fg)(h:X.K=K):SlR X (fun x lo hi H Q=>J5o K x lo hi H Q\/J5p K x lo hi H Q):=(J9y K h).or (J2s K h)
theorem J7s {lo hi:Option Expr}{dl dh:DO}{p2:Pos}(hr:SlR X (fun x lo hi H Q=>J5o W.K x lo hi H Q\/J5p W.K x lo hi H Q))(he:PE X e (dn W de))(hl:PO X lo (dnO W dl))(hu:PO X hi (dnO W dh)):PE X (.Subscript e (.Slice lo hi none p2) pos) (dn W (dSl de dl dh)):=(J6b hr he hl hu).mono fun σ H Q hh=>hh.elim fun pn M b ρ P st h k=>by
 refine ⟨pn,M,b,ρ,_,st,h,fun x v H1 hx rx k1 o1=>?_⟩
 refine ⟨pn,M,b,ρ,_,st.step k1 o1,hx,fun lo H2 hy k2 o2=>?_⟩
 refine ⟨pn,M,b,ρ,_,(st.step k1 o1).step k2 o2,hy,fun hi H3 hz k3 o3=>?_⟩
 have s3:=((st.step k1 o1).step k2 o2).step k3 o3
 have rx:=(rx.step st.bagM k2).step st.bagM k3
 have kk:=(k1.trans k2).trans k3
 cases x<;>first|exact hz.elim|skip
 case tup xs =>
  obtain ⟨a,vs,rfl,hh,r⟩:=rx
  refine .inl ⟨a,vs,rfl,hh.sq,by rw [r.length];exact hz.1,fun p hp=>k _ _ _ hz.2 (NU s3.toHs (r.cut lo hi) hp) (kk.trans (Kp.upd hp)) (s3.okU hp)⟩
 case lst xs =>
  obtain ⟨a,vs,rfl,hh,r⟩:=rx
  refine .inr ⟨a,vs,rfl,SqL.of hh.2,fun p hp=>k _ _ _ hz (DY s3.toHs (r.cut lo hi) hp) (kk.trans (Kp.upd hp)) (s3.okU hp)⟩
 case own xs =>
  obtain ⟨a,vs,rfl,_,_,_,_,hh,r⟩:=rx
  refine .inr ⟨a,vs,rfl,SqL.of hh,fun p hp=>k _ _ _ hz (DY s3.toHs (r.cut lo hi) hp) (kk.trans (Kp.upd hp)) (s3.okU hp)⟩
noncomputable def Q9n:D->D->(D->Prop)->Prop:=fun x y P=>match asL x,asL y with
 | some xs,some ys=>xs.length+ys.length<=1000/\P (.lst (xs++ys))
 | _,_=>False
theorem ZK:OpD W Q9b Q9n:=by
 intro M b H x y v u P Q hs rx ry ho k
 unfold Q9n at ho
 split at ho
 case h_2=>exact ho.elim
 case h_1 xs ys e1 e2 =>
  obtain ⟨a1,vs,rfl,h1,r1⟩:=asL.rep rx e1
  obtain ⟨a2,us,rfl,h2,r2⟩:=asL.rep ry e2
  exact ⟨a1,a2,vs,us,rfl,rfl,h1,h2,by rw [r1.length,r2.length];exact R5 ho.1 AF,fun p hp=>k _ _ _ ho.2 (DY hs (Reps.append r1 r2) hp) (Kp.upd hp) (hs.okU hp)⟩
theorem Reps.ne {H:Hp}{ds:List D}{vs:List V}(h:Reps K M H ds vs)(n:ds≠[]):vs≠[]:=fun z=>by
 have:=h.length
 rw [z] at this
 exact n (List.length_eq_zero_iff.mp this.symm)
def YD (K:Fg)(B:BagT)(pre:List D->Prop):Sp:=fun vs H Q _=>∃ (M:Addr->Prop) (b:Option Addr) (ds:List D),RepAs K M b H ds vs/\pre ds/\∀ p H1,H p=none->Same H H1->B.ok p H1->Q (.ref p) H1
def XO (ρ:Ev):Ev:=ρ.map fun o=>match o with|some .bag=>none|o=>o
noncomputable def V0w (i:Nat)(pre:List D->Prop)(dA:DA):DS:=fun F ρ=>dA ρ fun ds=>ds.all Z1=true/\pre ds/\F.nx ((XO ρ).set i (some .bag))
theorem SR {ρ:Ev}{i:Nat}{d:D}(h:(XO ρ)[i]?=some (some d)):ρ[i]?=some (some d)/\d≠.bag:=by
 unfold XO at h
 rw [M1] at h
 cases q:ρ[i]? with
 | none=>rw [q] at h;cases h
 | some o =>
   rw [q] at h
   cases o with
   | none=>cases h
   | some d'=>cases d'<;>simp at h<;>subst h<;>exact ⟨rfl,by intro z;cases z⟩
theorem Q6j {spos:Pos}{x f:Str}{k:Nat}{ps:List Str}{pre:List D->Prop}{i:Nat}{pos':Pos}(hb0:W.b0=none)(hN:X.N.Nodup)(hi:X.N[i]?=some x)(hx:Loc X.env.scope x)(G:Callee X.prog X.w X.K X.mg X.base CX0 f k ps (YD W.K W.B pre))(hr:Room k X.A)(hg:Gl X f)(ha:PA X (e::es) (dnA W dA))
 (hdb:(f==("__debug__" : Str))=false:=by decide) (he:starEach (e::es) X.env=(false,eval e X.env)::starEach es X.env:=by rfl) (hpl:(backTo pos (starEach es X.env)).any (·.1)=false:=by rfl)
 (hs:swapsWith (.Call (.Name f p) (e::es) [] pos) (some (.Name x pos')) spos.line X.env=pure false:=by rfl) (hf:X.fn x=true\/X.env.scope.names.lookup x=some .local:=by first|exact .inl rfl|exact .inr rfl|assumption) :
 PS X (.Assign [.Name x pos'] (.Call (.Name f p) (e::es) [] pos) spos) (sn W (V0w i pre dA)):=(BQ hN hi hx (JL G hr hg ha hdb he hpl) hs hf).mono fun E σ H hh=>hh.elim fun pn M b ρ F s l h=>by
 refine ⟨pn,M,b,ρ,_,s.toSta,h,fun ds vs H' hx rx k o=>?_⟩
 have s1:=s.step k o
 refine ⟨M,b,ds,by rw [D5];exact rx.args _ _ hx.1,hx.2.1,fun q H1 hq S ok=>?_⟩
 have rep:∀ d v,Rep W.K M H' d v->Rep W.K (fun c=>M c\/c=q) H1 d v:=fun d v r=>Rep.keep (fun c o _ e=>S c o e) _ _ (Rep.avoid (fun c hc=>hc.imp id fun z=>by rw [z];exact hq) _ _ r)
 have reps:∀ d v,Reps W.K M H' d v->Reps W.K (fun c=>M c\/c=q) H1 d v:=fun d v r=>Reps.keep (fun c o _ e=>S c o e) _ _ (Reps.avoid (fun c hc=>hc.imp id fun z=>by rw [z];exact hq) _ _ r)
 have h0:W.H0 q=none:=by
  cases z:W.H0 q with
  | none=>rfl
  | some o =>
    have:=s1.kp q o (by rw [hb0];intro y;cases y) z
    rw [hq] at this;cases this
 have st1:Sta W pn (fun c=>M c\/c=q) (some q) H1 σ (XO ρ):=by
  refine ⟨⟨fun p e=>by cases e;exact ok,fun p e=>by cases e;exact .inr rfl,fun c hc=>?_,fun c m=>.inl (s1.m0 c m)⟩,fun c o n e=>S c o (s1.kp c o n e),.inr ⟨hb0,fun p e=>by cases e;exact h0⟩,fun j d e=>?_,by simp [XO,s.len],fun q' hq'=>(s1.pin q' hq').to rep reps fun xs a vs _ _ m n hh=>⟨.inl m,(fun z=>by cases z;rw [hq] at hh;cases hh),S _ _ hh⟩⟩
  · rcases hc with hc|hc
    · obtain ⟨o,e⟩:=s1.dom c hc;exact ⟨o,S c o e⟩
    · rw [hc];exact W.B.dm q H1 ok
  · obtain ⟨e1,nb⟩:=SR e
    obtain ⟨v,e2,r⟩:=s1.env j d e1
    refine ⟨v,e2,?_⟩
    cases d
    case own xs =>
     obtain ⟨a,us,rfl,m1,m2,m3,m4,hh,r'⟩:=r
     have nq:some q≠some a:=fun z=>by
      cases z
      rw [hq] at hh
      cases hh
     exact ⟨a,us,rfl,.inl m1,nq,m3,m4,S _ _ hh,reps _ _ r'⟩
    case bag=>exact absurd rfl nb
    case frg f _=>exact RepX.move r (fun c _ m n=>⟨.inl m,fun z=>by cases z;exact s1.toHs.new hq m⟩) (fun c o _ e=>S c o e) fun c hc=>hc.imp id fun z=>by rw [z];exact hq
    all_goals exact rep _ _ r
 refine l.nx _ _ _ _ _ (s1.of (st1.set (x:=.bag) (v:=.ref q) i ⟨q,rfl,rfl⟩) fun j xs hm e=>?_) hx.2.2
 by_cases z:i=j
 · subst z
   rw [R6] at e
   simp at e
   rw [<- e.2] at hm;cases hm
 · rw [L6 z] at e
   exact ⟨(SR e).1,by rw [L6 z]⟩
theorem PSs.withE {A:Prop}(h:A->PSs X sts t):PSs X sts (fun E σ H=>A/\t E σ H):=fun pins s σ H D I q=>h q.1 pins s σ H D I q.2
def HD (W:Wd)(N:List Str)(K:Fg)(Ba:Addr)(i:Nat)(th:Addr->TS)(hd:Addr->DEnds->Prop):Prop:=∀ C x H' E F pn,Link W pn E F->hd C F->Kp W.b0 W.H0 H'->okB W.B W.b0 H'->H' x=none->PySem.W.subIn K (.ref C) (.ref Ba)=some true /\
 th x { nx:=fun σ' H''=>E.nx (σ'.set i none) H'',rt:=E.rt,bk:=fun σ' H''=>E.bk (σ'.set i none) H'',ct:=fun σ' H''=>E.ct (σ'.set i none) H'' } ((List.replicate N.length none).set i (some (.ref x))) (upd H' x (ExcO x C))
noncomputable def V0o (db:DS)(Ed:Addr->Prop)(hd:Addr->DEnds->Prop):DS:=fun F ρ=>db F ρ/\∀ C,Ed C->hd C F
theorem Q6f {N:List Str} {Ba:Addr}{i:Nat}{th:Addr->TS}{hd:Addr->DEnds->Prop}{db:DS}(Ed:Addr->Prop)(hHD:HD W N K Ba i th hd)(h:PS X st (Q4m N K Ba i (fun E D σ H=>EI W E Ed/\sn W db D σ H) th)):PS X st (sn W (V0o db Ed hd)):=h.mono fun E σ H hh=>hh.elim fun pn M b ρ F s l q=>by
 refine ⟨fun Cv _ H'=>∃ C,Cv=.ref C/\Ed C/\Kp W.b0 W.H0 H'/\okB W.B W.b0 H',⟨fun C H' e k o=>⟨C,rfl,e,k,o⟩,pn,M,b,ρ,F,s,l,q.1⟩,fun C H' x hC hx=>?_⟩
 obtain ⟨C',e,hE,k,o⟩:=hC
 cases e
 exact hHD C x H' E F pn l (q.2 C hE) k o hx
end
end L2
namespace K
open PySem L2
theorem _root_.L2.Room.m {k n:Nat}{A:Around}(h:Room n A)(e:k<=n:=by decide):Room k A:=h.mono e
def dot (r s:List Int):Int:=(List.zipWith (· * ·) r s).sum
def Mv (n:Nat)(H:Hp)(m:Addr)(M:List (List Int)):Prop:=∃ ps:List Addr,H m=some (.tup (ps.map V.ref))/\ps.length=4/\M.length=4/\∀ (i:Nat) p r,ps[i]?=some p->M[i]?=some r->H p=some (.tup (r.map V.int))/\r.length=4/\∀ x∈r,Bd n x
theorem Mv.of {n:Nat}{H:Hp}{m p0 p1 p2 p3:Addr}{r0 r1 r2 r3:List Int}(e:H m=some (.tup [.ref p0,.ref p1,.ref p2,.ref p3]))(e0:H p0=some (.tup (r0.map V.int)))(e1:H p1=some (.tup (r1.map V.int)))(e2:H p2=some (.tup (r2.map V.int)))(e3:H p3=some (.tup (r3.map V.int)))
 (l:r0.length=4/\r1.length=4/\r2.length=4/\r3.length=4) (b:∀ x∈r0++r1++r2++r3,Bd n x):Mv n H m [r0,r1,r2,r3]:=by
 refine ⟨[p0,p1,p2,p3],e,rfl,rfl,fun i p r h1 h2=>?_⟩
 match i with
 | 0=>cases h1;cases h2;exact ⟨e0,l.1,fun x hx=>b x (by simp [hx])⟩
 | 1=>cases h1;cases h2;exact ⟨e1,l.2.1,fun x hx=>b x (by simp [hx])⟩
 | 2=>cases h1;cases h2;exact ⟨e2,l.2.2.1,fun x hx=>b x (by simp [hx])⟩
 | 3=>cases h1;cases h2;exact ⟨e3,l.2.2.2,fun x hx=>b x (by simp [hx])⟩
 | i+4=>simp at h1
end K
namespace L2
open PySem PySem.Spec PyProof.Rows
theorem Q0t {xs:List D}{i:Int}{P:D->Prop}(h0:0<=i)(h1:i<xs.length)(h:∀ d∈xs,P d):oIx (.lst xs) (.int i) P:=by
 obtain ⟨j,rfl⟩:∃ j:Nat,i=j:=⟨i.toNat,by omega⟩
 have hj:j<xs.length:=by omega
 have e:atI xs (j:Int)=some xs[j]:=IQ (M5 hj)
 simp only [oIx,e]
 exact h _ (W5 hj)
theorem ixm {xs:List D}{i:Int}{P:D->Prop}(h0:0<=i)(h1:i<xs.length)(h:∀ d∈xs,P d):(atI xs i).elim False P:=Q0t (P:=P) h0 h1 h
theorem DP {lo:Int}{n i:Nat}{d:D}(h:(Y3 lo n)[i]?=some d):d=.int (lo+i)/\i<n:=by
 have hi:i<n:=by
  have:=(B7.mp h).1
  simpa [Y3] using this
 simp [Y3,hi] at h
 exact ⟨h.symm,hi⟩
theorem rangeD_len (lo:Int)(n:Nat):(Y3 lo n).length=n:=by simp [Y3]
abbrev sp4 (x y z w:Int):D:=.tup [.int x,.int y,.int z,.int w]
abbrev t3 (x y z:Int):D:=.tup [.int x,.int y,.int z]
abbrev t2 (x y:Int):D:=.tup [.int x,.int y]
theorem J8g {gd:D->Ev->(Ev->Prop)->Prop}{de:DE}{ρc:Ev}{items:List D}{P:List D->Prop}(Pv:Nat->D->Prop)
 (hs:∀ (i:Nat) x (Q:D->Prop),items[i]?=some x->(∀ y,Pv i y->Q y)->gd x ρc fun ρ1=>de ρ1 Q) (hp:∀ i y,Pv i y->plain y=true)
 (hd:∀ acc:List D,acc.length=items.length->(∀ i y,acc[i]?=some y->Pv i y)->P acc):compI gd QI de ρc items P:=by
 refine ⟨fun i acc=>acc.length=i/\∀ j y,acc[j]?=some y->Pv j y,⟨rfl,fun j y e=>by simp at e⟩,fun i x acc e ⟨hl,ha⟩=>?_,fun acc ⟨hl,ha⟩=>hd acc hl ha⟩
 have:=hs i x (fun y=>plain y=true/\((acc++[y]).length=i+1/\∀ j z,(acc++[y])[j]?=some z->Pv j z)) e fun y hy=>⟨hp i y hy,by simp [hl],fun j z ez=>?_⟩
 · simpa only [QI,QQ] using this
 · by_cases hj:j<acc.length
   · rw [W9 hj] at ez
     exact ha j z ez
   · rw [B0h (by omega)] at ez
     have:j - acc.length=0:=by
      cases q:j - acc.length with
      | zero=>rfl
      | succ m=>rw [q] at ez;simp at ez
     rw [this] at ez
     simp at ez
     subst ez
     have:j=i:=by omega
     subst this
     exact hy
theorem EE {gd:D->Ev->(Ev->Prop)->Prop}{de:DE}{ρc:Ev}{items:List D}{P:List D->Prop}(f:D->D)
 (hs:∀ x (Q:D->Prop),x∈items->Q (f x)->gd x ρc fun ρ1=>de ρ1 Q) (hp:∀ x∈items,plain (f x)=true) (hd:P (items.map f)):compI gd QI de ρc items P:=by
 refine J8g (fun i y=>∃ x,items[i]?=some x/\y=f x) (fun i x Q e h=>hs x Q (L4 e) (h _ ⟨x,e,rfl⟩)) (fun i y ⟨x,e,h⟩=>by rw [h];exact hp x (L4 e)) fun acc hl ha=>?_
 have:acc=items.map f:=by
  apply T5
  intro i
  rw [M1]
  cases q:acc[i]? with
  | none =>
    have:items.length<=i:=by rw [<- hl];exact B2x.mp q
    rw [B2x.mpr this];rfl
  | some y =>
    obtain ⟨x,e,rfl⟩:=ha i y q
    rw [e];rfl
 rw [this];exact hd
theorem okB.same {B:BagT} {H H':Hp}(o:okB B b H)(S:Same H H'):okB B b H':=fun p e=>B.st p H H' (o p e) fun u h=>S p u h
structure JE (X:Cx)(W:Wd)(e:Expr)(d:DE):Prop where
 h:PE X e (dn W d)
structure JT (X:Cx)(W:Wd)(e:Expr)(d:DT):Prop where
 h:PT X e (dnT W d)
structure JW (X:Cx)(W:Wd)(e:Expr)(d:DT):Prop where
 h:PW X e (dnT W d)
structure JA (X:Cx)(W:Wd)(es:List Expr)(d:DA):Prop where
 h:PA X es (dnA W d)
structure JO (X:Cx)(W:Wd)(e:Option Expr)(d:DO):Prop where
 h:PO X e (dnO W d)
structure JIf (X:Cx)(W:Wd)(es:List Expr)(d:DT):Prop where
 h:PIf X es (dnT W d)
structure JI (X:Cx)(W:Wd)(fz:Bool)(tg l:Expr)(d:DA):Prop where
 h:PI X tg l (dnI W fz d)
structure JS (X:Cx)(W:Wd)(st:Stmt)(d:DS):Prop where
 h:PS X st (sn W d)
structure JSs (X:Cx)(W:Wd)(st:List Stmt)(d:DS):Prop where
 h:PSs X st (sn W d)
section
variable {X:Cx}{W:Wd}{e a b c:Expr}{es:List Expr}{pos:Pos}{da db dc:DE}{dA:DA}{t:TE}
theorem jdv (i:Nat) {x:Str} {pos:Pos} (hN:X.N[i]?=some x:=by rfl) (hv:Vis X.env.scope x:=by first|exact Or.inl rfl|exact Or.inr (Or.inl rfl)|exact Or.inr (Or.inr rfl)) (hd:(x==("__debug__" : Str))=false:=by decide)
 (hcd:(x==("__classdict__" : Str))=false:=by decide):JE X W (.Name x pos) (XR i):=⟨dv i hN hv hd hcd⟩
theorem J1 {i j pos}:JE X W (.Constant (.int i) j pos) (dC (.int i)):=⟨Q6w ⟩
theorem FT {i j pos}:JE X W (.Constant (.bool i) j pos) (dC (.bl i)):=⟨V0m ⟩
theorem LF {j pos}:JE X W (.Constant .none j pos) (dC .non):=⟨Q6t ⟩
theorem UP {i j pos}:JE X W (.Constant (.str i) j pos) (dC (.str i)):=⟨Q6p ⟩
theorem J3x {x:Str}{n:Int}{pos:Pos}(hg:Gl X x)(hm:∃ t,X.mg x=some (.int n t))(hd:(x==("__debug__" : Str))=false:=by decide):JE X W (.Name x pos) (dC (.int n)):=⟨J7t hg hm hd⟩
theorem ED {x:Str}{T:String}{pos:Pos}(hg:Gl X x)(hm:X.mg x=none)(hv:bootBuiltins x=some (.type T))(hn:x≠"__name__":=by decide) (hd:(x==("__debug__" : Str))=false:=by decide):JE X W (.Name x pos) (dC (.ty T)):=⟨Q2b hg hm hv hn hd⟩
theorem J6 {op:Operator}{r:R2}{o:D->D->(D->Prop)->Prop}(ho:OpR X (binaryOp op) r)(hd:OpD W r o)(ha:JE X W a da)(hb:JE X W b db):JE X W (.BinOp a op b pos) (dOp o da db):=⟨V0j ho hd ha.h hb.h⟩
theorem EO {op:CmpOp}{r:R2}{o:D->D->(D->Prop)->Prop}(ho:OpR X (compareOp op) r)(hd:OpD W r o)(ha:JE X W a da)(hb:JE X W b db)(hm:behindInMarks op b=false):JE X W (.Compare a [op] [b] pos) (dOp o da db):=⟨Q6x ho hd ha.h hb.h hm⟩
theorem J8 {r:R2}{o:D->D->(D->Prop)->Prop}(hr:IxR X r)(hd:OpD W r o)(ha:JE X W a da)(hb:JE X W b db)(hs:VQ b):JE X W (.Subscript a b pos) (dOp o da db):=⟨V0k hr hd ha.h hb.h hs⟩
theorem FJ (ha:JE X W a da):JE X W (.UnaryOp .USub a pos) (dUn Q9i da):=⟨Q6u ha.h⟩
variable {rest:List Expr}
theorem IK {op}(h:JE X W a da):JE X W (.BoolOp op [a] pos) da:=⟨Q6r h.h⟩
theorem HA (ha:JE X W a da)(hb:JE X W (.BoolOp .And (b::rest) pos) db):JE X W (.BoolOp .And (a::b::rest) pos) (V0x da db):=⟨Q6y ha.h hb.h⟩
theorem Q5o (ha:JE X W a da)(hb:JE X W (.BoolOp .Or (b::rest) pos) db):JE X W (.BoolOp .Or (a::b::rest) pos) (dOr da db):=⟨V0i ha.h hb.h⟩
theorem UQ (ha:JE X W a da):JE X W (.UnaryOp .Not a pos) (V0s da):=⟨Q6s ha.h⟩
theorem Z6 {op:CmpOp}{r:R2}{o:D->D->(D->Prop)->Prop}(ho:OpR X (compareOp op) r)(hd:OpD W r o)(ha:JE X W a da)(hb:JE X W b db)(hm:behindInMarks op b=false):JT X W (.Compare a [op] [b] pos) (Q3i (dOp o da db)):=⟨Q6e ho hd ha.h hb.h hm⟩
theorem AC (hK:X.K=W.K)(ha:JE X W a da)(he:∀ whole,isTrue a X.env whole=(do let v <- whole;standAt a.pos;holding [v] (truthy v))):JT X W a (V0p da):=⟨J7k hK ha.h he⟩
variable {ta tb:DT}
theorem PM (ha:JT X W a ta):JW X W (.BoolOp .And [a] pos) ta:=⟨Q1o ha.h⟩
theorem GY (ha:JT X W a ta):JW X W (.BoolOp .Or [a] pos) ta:=⟨Q6b ha.h⟩
theorem J6n (ha:JT X W a ta)(hb:JW X W (.BoolOp .Or (b::rest) pos) tb):JW X W (.BoolOp .Or (a::b::rest) pos) (Q2e ta tb):=⟨Q3h ha.h hb.h⟩
theorem DZ (ha:JT X W a ta):JT X W (.UnaryOp .Not a pos) (Q3j ta):=⟨Q6d ha.h⟩
theorem Q5p (hc:JT X W c ta)(ha:JE X W a da)(hb:JE X W b db):JE X W (.IfExp c a b pos) (dIf ta da db):=⟨V0l hc.h ha.h hb.h⟩
theorem J3y {op op':CmpOp}{r r':R2}{o o':D->D->(D->Prop)->Prop}(ho:OpR X (compareOp op) r)(ho':OpR X (compareOp op') r')(hd:OpD W r o)(hd':OpD W r' o')(ha:JE X W a da)(hb:JE X W b db)(hc:JE X W c dc)
 (hm:lastMarks [op,op'] [b,c]=false:=by with_unfolding_all rfl):JE X W (.Compare a [op,op'] [b,c] pos) (J8b o o' da db dc):=⟨J7u ho ho' hd hd' ha.h hb.h hc.h hm⟩
theorem J3:JA X W [] V1a:=⟨Q7a ⟩
theorem J0 {dr:DA}(ha:JE X W e da)(hr:JA X W es dr)(hs:starEach (e::es) X.env=(false,eval e X.env)::starEach es X.env:=by rfl):JA X W (e::es) (Q3s da dr):=⟨Q2c ha.h hr.h hs⟩
theorem V3 {x1}(h:JA X W es dA):JE X W (.Tuple es x1 pos) (V0n dA):=⟨Q6o h.h⟩
theorem AT (h:JA X W es dA):JE X W (.List es pos) (V0t dA):=⟨Q6v h.h⟩
end
section
variable {X:Cx}{W:Wd}{e:Expr}{es:List Expr}{pos p:Pos}{dA:DA}{x:Str}{k:Nat}{ps:List Str}{S:DSp}
theorem Q4 (G:Callee X.prog X.w X.K X.mg X.base CX0 x k ps (Q3 W.K W.B S))(hr:Room k X.A)(hg:Gl X x)(ha:JA X W (e::es) dA)(hdb:(x==("__debug__" : Str))=false:=by decide) (he:starEach (e::es) X.env=(false,eval e X.env)::starEach es X.env:=by rfl) (hpl:(backTo pos (starEach es X.env)).any (·.1)=false:=by rfl) :
 JE X W (.Call (.Name x p) (e::es) [] pos) (XS S (fun _=>False) dA):=⟨Q6q G hr hg ha.h hdb he hpl⟩
theorem LD {CX:CXT}{E:XK}{Ed:Addr->Prop}(hE:EI W E Ed)(hp:DQ CX X E)(G:Callee X.prog X.w X.K X.mg X.base CX x k ps (Q3 W.K W.B S))(hr:Room k X.A)(hg:Gl X x)(ha:JA X W (e::es) dA)(hdb:(x==("__debug__" : Str))=false:=by decide) (he:starEach (e::es) X.env=(false,eval e X.env)::starEach es X.env:=by rfl) (hpl:(backTo pos (starEach es X.env)).any (·.1)=false:=by rfl) :
 JE X W (.Call (.Name x p) (e::es) [] pos) (XS S Ed dA):=⟨Q1z hE hp G hr hg ha.h hdb he hpl⟩
variable {r:List V->Hp->VK->Prop}{o:List D->(D->Prop)->Prop}{id T:String}
theorem V2 (hc:CB X (.builtin id) r)(hd:FD W r o)(hg:Gl X x)(hm:X.mg x=none)(hv:bootBuiltins x=some (.builtin id))(ha:JA X W (e::es) dA)(hn:x≠"__name__":=by decide) (hdb:(x==("__debug__" : Str))=false:=by decide)
 (he:starEach (e::es) X.env=(false,eval e X.env)::starEach es X.env:=by rfl) (hpl:(backTo pos (starEach es X.env)).any (·.1)=false:=by rfl):JE X W (.Call (.Name x p) (e::es) [] pos) (dCB o dA):=⟨J7v hc hd hg hm hv ha.h hn hdb he hpl⟩
theorem ZT (hc:CB X (.type T) r)(hd:FD W r o)(hg:Gl X x)(hm:X.mg x=none)(hv:bootBuiltins x=some (.type T))(ha:JA X W (e::es) dA)(hn:x≠"__name__":=by decide) (hdb:(x==("__debug__" : Str))=false:=by decide)
 (he:starEach (e::es) X.env=(false,eval e X.env)::starEach es X.env:=by rfl) (hpl:(backTo pos (starEach es X.env)).any (·.1)=false:=by rfl):JE X W (.Call (.Name x p) (e::es) [] pos) (dCB o dA):=⟨J4n hc hd hg hm hv ha.h hn hdb he hpl⟩
end
section
variable {X:Cx}{W:Wd}{tg l a b:Expr}{pos p:Pos}{dl:DE}{dA:DA}{fz:Bool}
theorem AR (hK:X.K=W.K)(hl:JE X W l dl):JI X W fz tg l (Q9t fz dl):=⟨Q6n hK hl.h⟩
theorem BM (hg:Gl X "range") (hm:X.mg "range" = none) (ha:JA X W [a] dA) (hs:starEach [a] X.env=[(false,eval a X.env)]:=by rfl):JI X W fz tg (.Call (.Name "range" p) [a] [] pos) (J1j dA):=⟨J4m hg hm ha.h hs⟩
theorem FA (hg:Gl X "range") (hm:X.mg "range" = none) (ha:JA X W [a,b] dA) (hs:starEach [a,b] X.env=[(false,eval a X.env),(false,eval b X.env)]:=by rfl) (hs2:starEach [b] X.env=[(false,eval b X.env)]:=by rfl):JI X W fz tg (.Call (.Name "range" p) [a,b] [] pos) (J1i dA):=⟨J4l hg hm ha.h hs hs2⟩
theorem Q1e {elts:List Expr}{c1}{tpos:Pos}(hK:X.K=W.K)(t1 t2:Bool)(hg:Gl X "zip") (hm:X.mg "zip" = none) (ha:JA X W [a,b] dA)
 (h:PI X (.Tuple elts c1 tpos) (.Call (.Name "zip" p) [a,b] [] pos) (J7a W.K t1 t2 (dnA W dA))):JI X W fz (.Tuple elts c1 tpos) (.Call (.Name "zip" p) [a,b] [] pos) (Q3d fz t1 t2 dA):=⟨Q6m hK t1 t2 hg hm ha.h h⟩
end
section
variable {X:Cx}{W:Wd}{elt iter tg:Expr}{ifs:List Expr}{scope:Scope}{pos:Pos}{N':List Str}{map:List (Option Nat)}{g:TG}{gd:D->Ev->(Ev->Prop)->Prop}{di:DA}{dt:DT}{de:DE}
theorem AS (hG:GD W g gd)(B:Blk X N' scope map tg elt ifs g (dnT W dt) (dn W de))(hi:JI X W false tg iter di)(hs:∀ x,foldedSetIterable iter X.env x=pure x:=by intro _;rfl):JE X W (.ListComp elt [⟨tg,iter,ifs,0⟩] scope pos) (Q3q map gd di dt de):=⟨Q2a hG B hi.h hs⟩
theorem Z9:JIf X W [] QI:=⟨Q1y ⟩
theorem PU {c:Expr}(hc:JT X W c dt):JIf X W [c] dt:=⟨Q1x hc.h⟩
end
section
variable {X:Cx}{W:Wd}{e c tg iter:Expr}{es:List Expr}{pos:Pos}{db de:DE}{dA di:DA}{dt:DT}{st:Stmt}{rest sts:List Stmt}{d1 d2:DS}
theorem Y6:JSs X W [] Q3o:=⟨Q1q ⟩
theorem Q0 (h:JS X W st d1):JSs X W [st] d1:=⟨Q1p h.h⟩
theorem J4 (h1:JS X W st d1)(h2:JSs X W rest d2):JSs X W (st::rest) (Q7e d1 d2):=⟨J7l h1.h h2.h⟩
theorem GZ:JS X W (.Continue pos) V0v:=⟨XN ⟩
theorem V6 (he:JE X W e de):JS X W (.Return (some e) pos) (V0q de):=⟨Q6h he.h⟩
theorem PR (he:JE X W e de)(hs:swapsWith e none pos.line X.env=pure false:=by rfl):JS X W (.Expr e pos) (Q3p de):=⟨Q1u he.h hs⟩
theorem AJ {s1 s2:List Stmt}(hc:JT X W c dt)(ha:JSs X W s1 d1)(hb:JSs X W s2 d2):JS X W (.If c s1 s2 pos) (V0u dt d1 d2):=⟨V0g hc.h ha.h hb.h⟩
theorem V0 {i:Nat} {x:Str} {pos':Pos} (hN:X.N.Nodup) (hi:X.N[i]?=some x) (hx:Loc X.env.scope x) (he:JE X W e de) (hs:swapsWith e (some (.Name x pos')) pos.line X.env=pure false:=by rfl) (hf:X.fn x=true\/X.env.scope.names.lookup x=some .local:=by first|exact .inl rfl|exact .inr rfl|assumption) :
 JS X W (.Assign [.Name x pos'] e pos) (J8c de (gdN i)):=⟨Q6g hN hi hx he.h hs hf⟩
theorem BV {g:TG}{gd:D->Ev->(Ev->Prop)->Prop}(hG:GD W g gd)(he:JE X W e de)(hg:PG X tg g)(hs:swapsWithSole [tg] e pos.line X.env=pure false:=by rfl)(hw:swappedStores [tg] e X.env=pure none:=by rfl)
 (h1:(assignEach [tg] X.env).map (·.2)=[assign tg X.env]:=by rfl):JS X W (.Assign [tg] e pos) (J8c de gd):=⟨Q6l hG he.h hg hs hw h1⟩
theorem LC {i:Nat} {x:Str} {pos' lpos:Pos} (hN:X.N.Nodup) (hi:X.N[i]?=some x) (hx:Loc X.env.scope x) (ha:JA X W es dA) (hs:swapsWith (.List es lpos) (some (.Name x pos')) pos.line X.env=pure false:=by rfl) (hf:X.fn x=true\/X.env.scope.names.lookup x=some .local:=by first|exact .inl rfl|exact .inr rfl|assumption) :
 JS X W (.Assign [.Name x pos'] (.List es lpos) pos) (Q3n i dA):=⟨Q1t hN hi hx ha.h hs hf⟩
theorem J6p {elt iter tg:Expr}{ifs:List Expr}{scope:Scope}{N':List Str}{map:List (Option Nat)}{g:TG}{gd:D->Ev->(Ev->Prop)->Prop}(own:Bool){i:Nat}{y:Str}{py spos:Pos}(hN:X.N.Nodup)(hiN:X.N[i]?=some y)(hy:Loc X.env.scope y)(hG:GD W g gd)(B:Blk X N' scope map tg elt ifs g (dnT W dt) (dn W de))(hi:JI X W false tg iter di)
 (hsw:swapsWith (.ListComp elt [⟨tg,iter,ifs,0⟩] scope pos) (some (.Name y py)) spos.line X.env=pure true:=by rfl) (hfn:X.fn y=true\/X.env.scope.names.lookup y=some .local:=by first|exact .inl rfl|exact .inr rfl)
 (hs:∀ x,foldedSetIterable iter X.env x=pure x:=by intro _;rfl):JS X W (.Assign [.Name y py] (.ListComp elt [⟨tg,iter,ifs,0⟩] scope pos) spos) (Q3m own i map gd di dt de):=⟨Q1s own hN hiN hy hG B hi.h hsw hfn hs⟩
theorem JX {i:Nat}{x:Str}{e:Expr}{npos apos cpos:Pos}(hK:X.K=W.K)(hN:X.N[i]?=some x)(hv:Vis X.env.scope x)(ha:JA X W [e] dA)
 (h:PE X (.Call (.Attribute (.Name x npos) "append" apos) [e] [] cpos) (tBM X.K "list" KP (IZ i) (dnA W dA))) (hs:swapsWith (.Call (.Attribute (.Name x npos) "append" apos) [e] [] cpos) none pos.line X.env=pure false:=by rfl) :
 JS X W (.Expr (.Call (.Attribute (.Name x npos) "append" apos) [e] [] cpos) pos) (Q2i i dA):=⟨J4h hK hN hv ha.h h hs⟩
theorem Q1d {i:Nat} {x:Str} {op:Operator} {f:Int->Int->Int} {pos':Pos} (hN:X.N.Nodup) (hi:X.N[i]?=some x) (hx:Loc X.env.scope x) (he:JE X W e de) (ho:PIp X op (ipI f)) (hf:X.fn x=true\/X.env.scope.names.lookup x=some .local:=by first|exact .inl rfl|exact .inr rfl|assumption) :
 JS X W (.AugAssign (.Name x pos') op e pos) (Q7n i f de):=⟨Q6k hN hi hx he.h ho hf⟩
theorem BU {g:TG}{gd:D->Ev->(Ev->Prop)->Prop}{db:DS}{body:List Stmt}(hG:GD W g gd)(hp:PassesOwn (model X.prog X.w) X.A X.env X.xe)(hc:X.calm=true)(hi:JI X W true tg iter di)(hg:PG X tg g)(hb:JSs X W body db)
 (hs:∀ x,foldedSetIterable iter X.env x=pure x:=by intro _;rfl):JS X W (.For tg iter body [] pos) (Q7h gd di db):=⟨Q6i hG hp hc hi.h hg hb.h hs⟩
theorem J6o (i:Nat)(h:JSs X W sts d1):JSs X W sts (Q7g i d1):=⟨Q1r i h.h⟩
theorem MF {E:XK}{Ed:Addr->Prop}{C:Addr}(hE:EI W E Ed)(h:PS X st (fun _ _ H1=>E (.ref C) none H1)):JS X W st (J7z Ed C):=⟨J7m hE h⟩
end
section
variable {X:Cx}{W:Wd}{e:Expr}{es:List Expr}{pos p:Pos}{db dl de:DE}{dA:DA}{st:Stmt}
theorem J6s:JO X W none oNo:=⟨Q1w ⟩
theorem J6r (h:JE X W e de):JO X W (some e) (oPt de):=⟨Q1v h.h⟩
theorem J3u {lo hi:Option Expr}{dl dh:DO}{p2:Pos}(hr:SlR X (fun x lo hi H Q=>J5o W.K x lo hi H Q\/J5p W.K x lo hi H Q))(he:JE X W e de)(hl:JO X W lo dl)(hu:JO X W hi dh):JE X W (.Subscript e (.Slice lo hi none p2) pos) (dSl de dl dh):=⟨J7s hr he.h hl.h hu.h⟩
theorem Q1c {spos:Pos}{x f:Str}{k:Nat}{ps:List Str}{pre:List D->Prop}{i:Nat}{pos':Pos}(hb0:W.b0=none)(hN:X.N.Nodup)(hi:X.N[i]?=some x)(hx:Loc X.env.scope x)(G:Callee X.prog X.w X.K X.mg X.base CX0 f k ps (YD W.K W.B pre))(hr:Room k X.A)(hg:Gl X f)(ha:JA X W (e::es) dA)
 (hdb:(f==("__debug__" : Str))=false:=by decide) (he:starEach (e::es) X.env=(false,eval e X.env)::starEach es X.env:=by rfl) (hpl:(backTo pos (starEach es X.env)).any (·.1)=false:=by rfl)
 (hs:swapsWith (.Call (.Name f p) (e::es) [] pos) (some (.Name x pos')) spos.line X.env=pure false:=by rfl) (hf:X.fn x=true\/X.env.scope.names.lookup x=some .local:=by first|exact .inl rfl|exact .inr rfl|assumption) :
 JS X W (.Assign [.Name x pos'] (.Call (.Name f p) (e::es) [] pos) spos) (V0w i pre dA):=⟨Q6j hb0 hN hi hx G hr hg ha.h hdb he hpl hs hf⟩
theorem Q1b {N:List Str} {Ba:Addr}{i:Nat}{th:Addr->TS}{hd:Addr->DEnds->Prop}{db:DS}(Ed:Addr->Prop)(hHD:HD W N K Ba i th hd)(h:PS X st (Q4m N K Ba i (fun E D σ H=>EI W E Ed/\sn W db D σ H) th)):JS X W st (V0o db Ed hd):=⟨Q6f Ed hHD h⟩
end
section
variable {X:Cx}{W:Wd}{a b:Expr}{rest:List Expr}{pos:Pos}{ta tb:DT}
theorem UO (ha:JT X W a ta)(hb:JW X W (.BoolOp .And (b::rest) pos) tb):JT X W (.BoolOp .And (a::b::rest) pos) (J7y ta tb):=⟨(Q6c ha.h hb.h).pt⟩
theorem JV (ha:JT X W a ta)(hb:JW X W (.BoolOp .Or (b::rest) pos) tb):JT X W (.BoolOp .Or (a::b::rest) pos) (Q2e ta tb):=⟨(Q3h ha.h hb.h).pt⟩
end
theorem HL {X:Cx} {W:Wd} {N':List Str} {scope:Scope} {map:List (Option Nat)} {tg elt:Expr} {ifs:List Expr} {g:TG} {dt:DT} {de:DE} (calm:X.calm=true) (kind:scope.kind=.function) (loc:∀ x∈scope.names,x.2=.local->scope.names.lookup x.1=some .local) (free:(scope.names.all fun p=>!(p.2==NameKind.free)||(X.env.kindOf p.1==some .cell||X.env.kindOf p.1==some .free))=true) (cap:CapOk X scope map N') (keep:IB g map)
 (run:∀ cells C fp s H,PG (Q7 X N' scope cells C fp s H) tg g/\JIf (Q7 X N' scope cells C fp s H) W ifs dt/\JE (Q7 X N' scope cells C fp s H) W elt de):Blk X N' scope map tg elt ifs g (dnT W dt) (dn W de) :=
 ⟨calm,kind,loc,free,cap,keep,fun cells C fp s H=>⟨(run cells C fp s H).1,(run cells C fp s H).2.1.h,(run cells C fp s H).2.2.h⟩⟩
theorem Fun.okD {P:Program}{w:World} {mg:Str->Option Value}{base:Heap}{x qual:Str}{st:Stmt}{f:Addr} {N ps:List Str}{k:Nat}{B:BagT}{Sd:DSp}(F:Fun K x qual st f fd)(S:FnScope N ps (J7 st))(len:∀ ds PP Ed,Sd ds PP Ed->ds.length=ps.length)
 (hbody:∀ (cdv:Value) (A:Around) (outer:List Env) (s:Shared) (H:Hp) (E:XK) (M:Addr->Prop) (bg:Option Addr) (ds:List D) (PP:D->Prop) (Ed:Addr->Prop),Room k (A.deeper (envOfC qual (J7 st) s.heap.objs.size f cdv))->Sd ds PP Ed ->
  ∃ d,JSs (BW CX0 P w K mg base N qual (J7 st) f cdv A outer s H E).nox ⟨K,B,H,M,bg⟩ (BN st) d/\d { nx:=fun _=>PP .non,rt:=PP } (BD N ds)):FnOk P w K mg base CX0 (k+1) f fd ps (Q3 K B Sd) :=
 F.ok S (Q3.len len) fun cdv A outer s H vs Q E hr h=>by
  obtain ⟨M,bg,ds,PP,Ed,hS,hR,ho,hb,hd,hq,hx⟩:=h
  obtain ⟨d,J,q⟩:=hbody cdv A outer s H E M bg ds PP Ed hr hS
  exact ⟨_,J.h,run hR ho hb hd hq q⟩
theorem Fun.okDX {P:Program}{w:World} {mg:Str->Option Value}{base:Heap}{CX:CXT}{x qual:Str}{st:Stmt}{f:Addr} {N ps:List Str}{k:Nat}{B:BagT}{Sd:DSp}(F:Fun K x qual st f fd)(S:FnScope N ps (J7 st))(len:∀ ds PP Ed,Sd ds PP Ed->ds.length=ps.length)
 (hbody:∀ (cdv:Value) (A:Around) (outer:List Env) (s:Shared) (H:Hp) (E:XK) (M:Addr->Prop) (bg:Option Addr) (ds:List D) (PP:D->Prop) (Ed:Addr->Prop),Room k (A.deeper (envOfC qual (J7 st) s.heap.objs.size f cdv))->EI ⟨K,B,H,M,bg⟩ E Ed->Sd ds PP Ed ->
  ∃ d,JSs (BW CX P w K mg base N qual (J7 st) f cdv A outer s H E) ⟨K,B,H,M,bg⟩ (BN st) d/\d { nx:=fun _=>PP .non,rt:=PP } (BD N ds)):FnOk P w K mg base CX (k+1) f fd ps (Q3 K B Sd) :=
 F.okX S (Q3.len len) fun cdv A outer s H vs Q E hr h=>by
  obtain ⟨M,bg,ds,PP,Ed,hS,hR,ho,hb,hd,hq,hx⟩:=h
  obtain ⟨d,J,q⟩:=hbody cdv A outer s H E M bg ds PP Ed hr (fun C H' e k o=>hx C H' e k o) hS
  exact ⟨_,J.h,run hR ho hb hd hq q⟩
theorem Fun.okL {P:Program}{w:World} {mg:Str->Option Value}{base:Heap}{x qual:Str}{st:Stmt}{f:Addr} {N:List Str}{p:Str}{k:Nat}(B:BagT)(F:Fun K x qual st f fd)(S:FnScope N [p] (J7 st))
 (hbody:∀ (cdv:Value) (A:Around) (outer:List Env) (s:Shared) (H:Hp) (E:XK) (ns:List Int),Room k (A.deeper (envOfC qual (J7 st) s.heap.objs.size f cdv))->ns.length<=63 ->
  ∃ d,JSs (BW CX0 P w K mg base N qual (J7 st) f cdv A outer s H E).nox ⟨K,B,H,fun _=>False,none⟩ (BN st) d/\d { nx:=fun _=>D.non=.bl true,rt:=fun d=>d=.bl true } (BD N [.scr ns])) :
 FnOk P w K mg base CX0 (k+1) f fd [p] (fun vs H Q _=>∃ (a:Addr) (ns:List Int),vs=[.ref a]/\SqL K H a (ns.map V.int)/\ns.length<=63/\∀ H',Q (.bl true) H') :=
 F.ok S (fun vs H Q E h=>by obtain ⟨a,ns,rfl,_⟩:=h;rfl) fun cdv A outer s H vs Q E hr h=>by
  obtain ⟨a,ns,rfl,hS,hlen,k⟩:=h
  have hR:RepAs K (fun _=>False) none H [.scr ns] [.ref a]:=⟨.ref a,[],rfl,⟨a,rfl,hS.imp (fun q=>⟨id,q⟩) id⟩,rfl⟩
  obtain ⟨d,J,q⟩:=hbody cdv A outer s H E ns hr hlen
  exact ⟨_,J.h,run (P:=fun d=>d=.bl true) hR (fun p e=>by cases e) (fun p e=>by cases e) (fun c m=>m.elim) (fun d v H' hd r _ _=>by cases hd;cases (show _=_ from r);exact k H') q⟩
mutual
def AU:D->Option PyData
 | .non=>some .none
 | .bl b=>some (.bool b)
 | .int i=>some (.int i)
 | .str x=>if PyData.strOk x then some (.str x) else none
 | .tup xs=>(EH xs).map .tuple
 | .lst xs=>(EH xs).map .list
 | .own xs=>(EH xs).map .list
 | .ty _=>none
 | .adr _=>none
 | .bag=>none
 | .frg _ d=>AU d
 | .scr _=>none
 | .dct _ _ _=>none
def EH:List D->Option (List PyData)
 | []=>some []
 | d::ds=>(AU d).bind fun p=>(EH ds).map (p::·)
end
mutual
theorem AU.lay:∀ (d:D) (p:PyData),AU d=some p->p.canLay0=true
 | .non,p,h=>by cases h;rfl
 | .bl b,p,h=>by cases h;rfl
 | .int i,p,h=>by cases h;rfl
 | .str x,p,h=>by
   unfold AU at h
   split at h
   · cases h;unfold PyData.canLay0;assumption
   · cases h
 | .tup xs,p,h=>by
   unfold AU at h
   obtain ⟨ps,e,rfl⟩:=M7.mp h
   unfold PyData.canLay0
   exact EH.lay xs ps e
 | .lst xs,p,h=>by
   unfold AU at h
   obtain ⟨ps,e,rfl⟩:=M7.mp h
   unfold PyData.canLay0
   exact EH.lay xs ps e
 | .own xs,p,h=>by
   unfold AU at h
   obtain ⟨ps,e,rfl⟩:=M7.mp h
   unfold PyData.canLay0
   exact EH.lay xs ps e
 | .ty _,p,h=>by unfold AU at h;cases h
 | .adr _,p,h=>by unfold AU at h;cases h
 | .bag,p,h=>by unfold AU at h;cases h
 | .frg _ d,p,h=>by unfold AU at h;exact AU.lay d p h
 | .scr _,p,h=>by unfold AU at h;cases h
 | .dct _ _ _,p,h=>by unfold AU at h;cases h
theorem EH.lay:∀ (ds:List D) (ps:List PyData),EH ds=some ps->PyData.canLayAll0 ps=true
 | [],ps,h=>by cases h;rfl
 | d::ds,ps,h=>by
   unfold EH at h
   obtain ⟨p,e1,h⟩:=B1v.mp h
   obtain ⟨qs,e2,rfl⟩:=M7.mp h
   unfold PyData.canLayAll0
   rw [AU.lay d p e1,EH.lay ds qs e2];rfl
end
section
variable {X:Cx}{pins:List (Addr×Obj)}{σ:St}{H:Hp}{s:Shared}{M:Addr->Prop}
mutual
theorem LS (I:Inv X pins σ H s):∀ (d:D) (v:V) (u:Value) (p:PyData),Rep X.K M H d v->RelV v u->AU d=some p->∃ as,Reads s.heap u p as
 | .non,v,u,p,r,q,h=>by cases h;cases (show _=_ from r);cases (show u=Value.none from q);exact ⟨_,.none⟩
 | .bl b,v,u,p,r,q,h=>by cases h;cases (show _=_ from r);cases (show u=Value.bool b from q);exact ⟨_,.bool _⟩
 | .int i,v,u,p,r,q,h=>by
   cases h;cases (show _=_ from r)
   obtain ⟨t,rfl⟩:=(show ∃ t,u=Value.int i t from q)
   exact ⟨_,.int _ _⟩
 | .str x,v,u,p,r,q,h=>by
   unfold AU at h
   split at h
   · cases h;cases (show _=_ from r)
     obtain ⟨t,rfl⟩:=(show ∃ t,u=Value.str x t from q)
     exact ⟨_,.str _ _⟩
   · cases h
 | .tup xs,v,u,p,r,q,h=>by
   unfold AU at h
   obtain ⟨ps,e,rfl⟩:=M7.mp h
   obtain ⟨a,vs,rfl,z,rs⟩:=r
   cases (show u=Value.ref a from q)
   obtain ⟨its,r1,⟨o,h1,h2,n,h3⟩,_⟩:=I.tuple z.sq
   obtain ⟨as,ra⟩:=GO I xs vs its ps rs r1 e
   exact ⟨as,.tuple h1 h2 h3 (by simpa using ra)⟩
 | .lst xs,v,u,p,r,q,h=>by
   unfold AU at h
   obtain ⟨ps,e,rfl⟩:=M7.mp h
   obtain ⟨a,vs,rfl,z,rs⟩:=r
   cases (show u=Value.ref a from q)
   obtain ⟨its,r1,⟨o,n,h1,h2,_,h3⟩,_⟩:=I.list (SqL.of z.2)
   obtain ⟨as,ra⟩:=GO I xs vs its ps rs r1 e
   exact ⟨a::as,.list h1 h2 h3 (by simpa using ra)⟩
 | .own xs,v,u,p,r,q,h=>r.elim
 | .ty _,_,_,p,_,_,h=>by unfold AU at h;cases h
 | .adr _,_,_,p,_,_,h=>by unfold AU at h;cases h
 | .bag,_,_,p,_,_,h=>by unfold AU at h;cases h
 | .frg _ _,_,_,p,r,_,h=>r.elim
 | .scr _,_,_,p,_,_,h=>by unfold AU at h;cases h
 | .dct _ _ _,_,_,p,_,_,h=>by unfold AU at h;cases h
theorem GO (I:Inv X pins σ H s):∀ (ds:List D) (vs:List V) (us:List Value) (ps:List PyData),Reps X.K M H ds vs->Vals vs us->EH ds=some ps->∃ as,ReadsAll s.heap us ps as
 | [],vs,us,ps,r,q,h=>by
   cases h
   cases (show vs=[] from r)
   cases q
   exact ⟨[],.nil⟩
 | d::ds,vs,us,ps,r,q,h=>by
   unfold EH at h
   obtain ⟨p,e1,h⟩:=B1v.mp h
   obtain ⟨qs,e2,rfl⟩:=M7.mp h
   obtain ⟨v,rv,rfl,r1,r2⟩:=r
   cases q with
   | cons q1 q2 =>
     obtain ⟨as,a1⟩:=LS I d v _ p r1 q1 e1
     obtain ⟨bs,a2⟩:=GO I ds rv _ qs r2 q2 e2
     exact ⟨as++bs,.cons a1 a2⟩
end
end
def Q2q (K:Fg)(M:Addr->Prop)(H:Hp):D->V->Prop
 | .own xs,v=>∃ a vs,v=.ref a/\H a=some (.lst vs)/\Reps K M H xs vs
 | .frg _ d,v=>∃ M',Rep K M' H d v
 | d,v=>Rep K M H d v
theorem RepX.g {W:Wd} {H:Hp}{d:D}{v:V}{p:PyData}(h:RepX W M b H d v)(e:AU d=some p):Q2q W.K M H d v:=by
 cases d
 case own xs=>obtain ⟨a,vs,rfl,_,_,_,_,hh,r⟩:=h;exact ⟨a,vs,rfl,hh,r⟩
 case bag=>unfold AU at e;cases e
 case frg f d=>exact ⟨_,h.2.2⟩
 all_goals exact h
theorem OM {X:Cx}{pins:List (Addr×Obj)}{σ:St}{H:Hp}{s:Shared} (I:Inv X pins σ H s){d:D}{v:V}{u:Value}{p:PyData}(r:Q2q X.K M H d v)(q:RelV v u)(h:AU d=some p):∃ as,Reads s.heap u p as:=by
 cases d
 case own xs =>
  obtain ⟨a,vs,rfl,hh,r⟩:=r
  unfold AU at h
  obtain ⟨ps,e,rfl⟩:=M7.mp h
  cases (show u=Value.ref a from q)
  obtain ⟨its,r1,⟨o,n,h1,h2,_,h3⟩,_⟩:=I.list (SqL.of hh)
  obtain ⟨as,ra⟩:=GO I xs vs its ps r r1 e
  exact ⟨a::as,.list h1 h2 h3 (by simpa using ra)⟩
 case frg f d =>
  obtain ⟨M',r⟩:=r
  exact LS (M:=M') I d _ _ _ r q (by unfold AU at h;exact h)
 all_goals exact LS I _ _ _ _ r q h
noncomputable def Q9a (K:Fg)(neg:Bool):R2:=fun x y H Q=>∃ M dx dy p q,Q2q K M H dx x/\Q2q K M H dy y/\AU dx=some p/\AU dy=some q/\min p.depth q.depth<=60/\Q (.bl (PyData.eqv p q != neg)) H
theorem OW {X:Cx}(K:Fg)(hK:X.K=K)(hu:X.A.units+64<cLine):OpR X (compareOp .NotEq) (Q9a K true):=by
 subst hK
 intro pins s σ H x y v u Q I rx ry h
 obtain ⟨M,dx,dy,p,q,r1,r2,e1,e2,hd,hq⟩:=h
 obtain ⟨as,a1⟩:=OM I r1 rx e1
 obtain ⟨bs,a2⟩:=OM I r2 ry e2
 refine SeqAt.compareNe_reads a1 a2 (AU.lay _ _ e1) (AU.lay _ _ e2) (by omega) ?_
 exact ⟨.bl _,H,I,rfl,by simpa using hq⟩
inductive EqG (neg:Bool)(x y:D)(P:D->Prop):Prop
 | mk (p q:PyData) (e1:AU x=some p) (e2:AU y=some q) (hd:min p.depth q.depth<=60) (h:P (.bl (PyData.eqv p q != neg))):EqG neg x y P
noncomputable def V1u (neg:Bool):D->D->(D->Prop)->Prop:=fun x y P=>EqG neg x y P
theorem PF {W:Wd}{neg:Bool}:OpD W (Q9a W.K neg) (V1u neg):=by
 intro M b H x y v u P Q hs rx ry ho k
 obtain ⟨p,q,e1,e2,hd,hp⟩:=ho
 exact ⟨M,x,y,p,q,rx.g e1,ry.g e2,e1,e2,hd,k _ _ H hp (show _=_ from rfl) (Kp.refl _ _) hs.ok⟩
mutual
def BG:Nat->D->Bool
 | _,.non=>true
 | _,.bl _=>true
 | _,.int _=>true
 | _,.str x=>PyData.strOk x
 | n+1,.tup xs=>EG n xs
 | n+1,.lst xs=>EG n xs
 | n+1,.own xs=>EG n xs
 | n,.frg _ d=>BG n d
 | _,_=>false
def EG:Nat->List D->Bool
 | _,[]=>true
 | n,d::ds=>BG n d&&EG n ds
end
mutual
theorem UU:∀ (n:Nat) (d:D),BG n d=true->∃ p,AU d=some p/\p.depth<=n/\PyData.eqv p p=true
 | n,.non,h=>⟨_,rfl,D2 _,rfl⟩
 | n,.bl b,h=>⟨_,rfl,D2 _,by simp [PyData.eqv]⟩
 | n,.int i,h=>⟨_,rfl,D2 _,by simp [PyData.eqv]⟩
 | n,.str x,h=>by
   have h:PyData.strOk x=true:=by cases n<;>simpa [BG] using h
   exact ⟨.str x,by unfold AU;rw [if_pos h],D2 _,by simp [PyData.eqv]⟩
 | 0,.tup xs,h=>by simp [BG] at h
 | 0,.lst xs,h=>by simp [BG] at h
 | 0,.own xs,h=>by simp [BG] at h
 | n+1,.tup xs,h=>by
   obtain ⟨ps,e,hd,hq⟩:=HY n xs (by simpa [BG] using h)
   exact ⟨.tuple ps,by unfold AU;rw [e];rfl,by unfold PyData.depth;omega,by unfold PyData.eqv;exact hq⟩
 | n+1,.lst xs,h=>by
   obtain ⟨ps,e,hd,hq⟩:=HY n xs (by simpa [BG] using h)
   exact ⟨.list ps,by unfold AU;rw [e];rfl,by unfold PyData.depth;omega,by unfold PyData.eqv;exact hq⟩
 | n+1,.own xs,h=>by
   obtain ⟨ps,e,hd,hq⟩:=HY n xs (by simpa [BG] using h)
   exact ⟨.list ps,by unfold AU;rw [e];rfl,by unfold PyData.depth;omega,by unfold PyData.eqv;exact hq⟩
 | n,.ty _,h=>by cases n<;>simp [BG] at h
 | n,.adr _,h=>by cases n<;>simp [BG] at h
 | n,.bag,h=>by cases n<;>simp [BG] at h
 | n,.frg _ d,h=>by
   obtain ⟨p,e,h1,h2⟩:=UU n d (by cases n<;>simpa [BG] using h)
   exact ⟨p,by unfold AU;exact e,h1,h2⟩
 | n,.scr _,h=>by cases n<;>simp [BG] at h
 | n,.dct _ _ _,h=>by cases n<;>simp [BG] at h
theorem HY:∀ (n:Nat) (ds:List D),EG n ds=true->∃ ps,EH ds=some ps/\PyData.depthAll ps<=n/\PyData.eqvAll ps ps=true
 | n,[],h=>⟨[],rfl,D2 _,rfl⟩
 | n,d::ds,h=>by
   unfold EG at h
   obtain ⟨h1,h2⟩:=(R4 _ _).mp h
   obtain ⟨p,e1,d1,q1⟩:=UU n d h1
   obtain ⟨ps,e2,d2,q2⟩:=HY n ds h2
   exact ⟨p::ps,by unfold EH;rw [e1,e2];rfl,by unfold PyData.depthAll;omega,by unfold PyData.eqvAll;rw [q1,q2];rfl⟩
end
theorem QF {x y:D}{neg:Bool}{P:D->Prop}(n:Nat)(h:BG n x=true)(e:AU y=AU x)(hn:n<=60)(hp:P (.bl (!neg))):EqG neg x y P:=by
 obtain ⟨p,e1,d1,q1⟩:=UU n x h
 refine ⟨p,p,e1,e.trans e1,by omega,?_⟩
 rw [q1]
 simpa using hp
theorem IM {n:Nat}:∀ {ds:List D},(∀ d∈ds,BG n d=true)->EG n ds=true
 | [],_=>by unfold EG;rfl
 | d::ds,h=>by
   unfold EG
   rw [h d (B8 ..),IM fun e he=>h e (B5 _ he)];rfl
def Ite (K:Fg)(l:Addr):It :=
 ⟨fun i H=>∃ ys y,SqL K H l ys/\ys[i]?=some y,
  fun i H v H'=>∃ t y,v=.ref t/\H t=none/\H'=upd H t (.tup [.int i,y])/\∀ ys,SqL K H l ys->ys[i]?=some y,
  fun i H=>∃ ys,SqL K H l ys/\ys.length<=i⟩
def ETn (e it l:Addr)(i:Nat)(h:Heap):Prop:=(∃ old,IsEnum h e it i old)/\ItAt false h it l i
theorem J2r {elts:List Expr}{c1}{tpos:Pos}{e it l:Addr}(hne:e≠it):Turn P w K (.Tuple elts c1 tpos) (Ite K l) [e,it] e (ETn e it l) where
 mem:=by simp
 obj:=fun i h st b hb=>by
  obtain ⟨⟨old,s1⟩,d1⟩:=st
  simp only [B6,R1,W4] at hb
  rcases hb with rfl|rfl
  · exact ⟨_,s1,fun v q=>by cases q⟩
  · exact d1.obj
 keep:=fun i h h' st k=>by
  obtain ⟨⟨old,s1⟩,d1⟩:=st
  exact ⟨⟨old,k e (by simp) _ s1⟩,d1.at fun o x=>k it (by simp) o x⟩
 item:=by
  intro X hP hw hK hc i pins s σ H E I hf st hg
  subst hP hw hK
  obtain ⟨ys,y,h1,q1⟩:=hg
  obtain ⟨⟨old,s1⟩,d1⟩:=st
  obtain ⟨v1,r1,p1,_⟩:=I.list h1
  obtain ⟨u1,m1,t1⟩:=r1.get q1
  have szn:∀ b∈[e,it],b≠s.heap.objs.size:=fun b hb z=>by
   simp only [B6,R1,W4] at hb
   rcases hb with rfl|rfl
   · exact M9 _ (z▸B4 s1)
   · obtain ⟨_,w1,_⟩:=d1.obj;exact M9 _ (z▸B4 w1)
  refine wpAny_pyNext_enum_item s1 d1 p1.isList (x:=u1) (by simpa using m1) hne fun h' eo it' tp sz kp=>?_
  refine ⟨_,rfl,wpAny_letOwnedTupleGo_enum (s:={ s with heap:=h',toks:=s.toks+1 }) eo fun hq e4 sb=>?_⟩
  have up:∀ b o,b≠e->h'.get? b=some o->hq.get? b=some o:=fun b o hb x=>sb.extBut _ _ hb x
  have I2:Inv X pins σ (upd H s.heap.objs.size (.tup [.int i,y])) { s with heap:=hq,toks:=s.toks+1 }:=I.zipped (t':=s.toks+1) (fp:=[e,it]) hf (fun b o hb x=>up b o (fun z=>hb (by simp [z])) (kp b o (fun z=>hb (by simp [z])) (fun z=>hb (by simp [z])) x)) (L8 _)
   ⟨R5 (R3 rfl) AF,[.int i s.toks,u1],.cons ⟨_,rfl⟩ (.cons t1 .nil),⟨_,up _ _ (B0q (szn e (by simp))) tp,rfl,_,rfl⟩⟩
  refine ⟨.ref s.heap.objs.size,_,I2,rfl,⟨_,y,rfl,I.hok.fresh (L8 _),rfl,fun zs hz=>by rw [I.list_inj hz h1];exact q1⟩,⟨⟨_,e4⟩,ItAt.at (b:=false) it' fun o x=>up _ o (B0q hne) x⟩,fun b hb=>?_⟩
  rw [V4 (szn b hb)]
  exact (hf b hb).1
 done:=by
  intro X hP hw hK hc i pins s σ H E I hf st hg
  subst hP hw hK
  obtain ⟨ys,h1,q1⟩:=hg
  obtain ⟨⟨old,s1⟩,d1⟩:=st
  obtain ⟨v1,r1,p1,_⟩:=I.list h1
  have hl:=r1.length
  refine wpAny_pyNext_enum_end (I.ok.hd hc) s1 d1 p1.isList (by simp;omega) fun h' kp=>⟨rfl,?_⟩
  exact I.turnedL (t':=s.toks) (fp:=[e,it]) hf fun b o hb x=>kp b o (fun z=>hb (by simp [z])) x
 self:=fun _ _ _ _ _ st h=>by
  obtain ⟨⟨old,s1⟩,d1⟩:=st
  exact wpAny_pyIter_enum s1 h
noncomputable def J1k (K:Fg)(ta:TA):TI:=fun σ H R=>ta σ H fun vs H1=>∃ l,vs=[.ref l]/\(∃ ys,SqL K H1 l ys)/\R (Ite K l) H1
theorem NR {X:Cx}{elts:List Expr}{c1}{tpos:Pos}(K:Fg)(hK:X.K=K){e1:Expr}{ta:TA}{p pos:Pos}(hg:Gl X "enumerate") (hm:X.mg "enumerate" = none) (ha:PA X [e1] ta)
 (hs:starEach [e1] X.env=[(false,eval e1 X.env)]:=by rfl):PI X (.Tuple elts c1 tpos) (.Call (.Name "enumerate" p) [e1] [] pos) (J1k K ta):=by
 subst hK
 intro pins s σ H R I h
 refine Call_ (GX I hg hm VI (E6 (thn (ha pos pins s σ H _ I h) fun us s1 ⟨vs,H1,I1,r1,q1⟩=>?_) hs rfl))
 obtain ⟨l,rfl,⟨ys,h1⟩,q⟩:=q1
 cases r1 with
 | cons r rr =>
 cases rr
 cases r
 obtain ⟨v1,r1,p1,_⟩:=I1.list h1
 refine call_enumerate_list p1.isList fun h' f1 f2 f3 kp=>?_
 refine wpAny_pyIter_enum (s:={ s1 with heap:=h' }) f1 ?_
 refine ⟨s1.heap.objs.size+1,[s1.heap.objs.size+1,s1.heap.objs.size],_,_,H1,rfl,I1.kept (t':=s1.toks) kp,J2r (l:=l) (by show (_:Nat)≠_;omega),⟨⟨_,f1⟩,f2⟩,fun b hb=>?_,q⟩
 have hge:s1.heap.objs.size<=b:=by
  simp only [B6,R1,W4] at hb
  rcases hb with rfl|rfl<;>first|exact L8 _|exact Nat.le_add_right _ _
 exact I1.fpOk hge (I1.hok.fresh hge)
section
variable {X:Cx}{W:Wd}{e a b c:Expr}{es:List Expr}{pos p:Pos}{d:DE}{dA:DA}{fz:Bool}{x:Str}{k:Nat}{ps:List Str}{S:DSp}
def enumD (xs:List D):List D:=xs.mapIdx fun i x=>.tup [.int i,x]
theorem XM (xs:List D):(enumD xs).all plain=true:=by
 unfold enumD
 rw [E5]
 intro y hy
 obtain ⟨i,h,rfl⟩:=B2p.mp hy
 rfl
noncomputable def Q5v (fz:Bool)(dA:DA):DA:=fun ρ P=>dA ρ fun zs=>match zs with
 | [x]=>(asK fz false x).elim False fun xs=>P (enumD xs)
 | _=>False
theorem J1h {x:D}{xs:List D}{l1:Addr}(h1:asK fz false x=some xs):KC W (Ite W.K l1) [(x,.ref l1)] (enumD xs):=by
 intro M b H hs hn
 obtain ⟨⟨a1,us,e1,q1,r1⟩,_⟩:=asK.rep (hn _ (.head _)) h1
 cases e1
 have q1:SqL W.K H l1 us:=q1
 have hlen:(enumD xs).length=xs.length:=by simp [enumD]
 refine ⟨fun i d e=>?_,fun i hi=>⟨us,q1,by rw [r1.length,<- hlen];exact hi⟩⟩
 have hi:i<xs.length:=by rw [<- hlen];exact (B7.mp e).1
 obtain ⟨u,eu,ru⟩:=r1.get (M5 hi)
 refine ⟨⟨us,u,q1,eu⟩,fun v H3 ⟨t,y1,ev,ht,eH,k1⟩=>?_⟩
 subst ev eH
 have z1:=k1 us q1
 rw [eu] at z1;cases z1
 refine ⟨Same.upd ht,?_⟩
 have ed:d=.tup [.int i,xs[i]]:=by
  have:(enumD xs)[i]?=some (.tup [.int i,xs[i]]):=by simp [enumD,hi]
  rw [this] at e;exact (Option.some.inj e).symm
 subst ed
 exact NU hs ⟨.int i,[u],rfl,rfl,u,[],rfl,ru,rfl⟩ ht
theorem PX {elts:List Expr}{c1}{tpos:Pos}(hK:X.K=W.K)(ha:JA X W [a] dA)
 (h:PI X (.Tuple elts c1 tpos) (.Call (.Name "enumerate" p) [a] [] pos) (J1k W.K (dnA W dA))):JI X W fz (.Tuple elts c1 tpos) (.Call (.Name "enumerate" p) [a] [] pos) (Q5v fz dA):=⟨h.mono fun σ H R hh=>hh.elim fun pn M b ρ P st h k=>by
 refine ⟨pn,M,b,ρ,_,st,h,fun zs vs H1 hx rx k1 o1=>?_⟩
 match zs,hx with
 | [x],hx =>
   obtain ⟨v,rfl,r⟩:=rx1 rx
   cases e1:asK fz false x with
   | none=>simp only [e1] at hx;exact hx.elim
   | some xs =>
     simp only [e1] at hx
     obtain ⟨⟨a1,us,z1,q1,r1⟩,f1⟩:=asK.rep r e1
     subst z1
     exact ⟨a1,rfl,⟨us,q1⟩,k _ _ _ H1 hx (XM _) (J1h e1) (fun q hq=>by
      have z:=M6.mp hq
      subst z;exact ⟨r,f1⟩) k1 o1⟩⟩
def bor:D->D
 | .own xs=>.lst xs
 | .frg _ d=>d
 | d=>d
def Q3g:D->Bool
 | .non=>true
 | .bl _=>true
 | .int _=>true
 | .str _=>true
 | _=>false
noncomputable def Q7m (S:DSp)(dA:DA):DE:=fun ρ P=>dA ρ fun ds=>S (ds.map bor) (fun d=>Q3g d=true/\P d) (fun _=>False)
theorem RepXs.bor {b:Option Addr}{H:Hp}(hb:∀ p,b=some p->M p):∀ (ds:List D) (vs:List V),RepXs W M b H ds vs->RepAs W.K (fun c=>b=some c) b H (ds.map L2.bor) vs
 | [],_,h=>h
 | d::ds,vs,h=>by
   obtain ⟨v,r,e,h1,h2⟩:=h
   have av:∀ c,b=some c->M c\/H c=none:=fun c hc=>.inl (hb c hc)
   refine ⟨v,r,e,?_,RepXs.bor hb ds r h2⟩
   cases d
   case own xs =>
    obtain ⟨a,us,rfl,m1,m2,m3,m4,hh,r'⟩:=h1
    exact ⟨a,us,rfl,⟨m2,hh⟩,Reps.avoid av _ _ r'⟩
   case bag=>exact h1
   case frg f d =>
    have r:=Rep.avoid (M':=fun c=>b=some c) (fun c hc=>.inl ⟨hb c hc,fun m=>(h1.1 c m).2.1 hc⟩) _ _ h1.2.2
    show J9d W.K _ b H d v
    cases d<;>first|exact r|exact r.elim
   all_goals exact Rep.avoid av _ _ h1
theorem J7f {M M':Addr->Prop}{b:Option Addr}{H:Hp}{d:D}{v:V}(f:Q3g d=true)(h:Rep W.K M H d v):RepX W M' b H d v:=by
 cases d<;>first|exact h|cases f
theorem XE (G:Callee X.prog X.w X.K X.mg X.base CX0 x k ps (Q3 W.K W.B S))(hr:Room k X.A)(hg:Gl X x)(ha:JA X W (e::es) dA)(hdb:(x==("__debug__" : Str))=false:=by decide) (he:starEach (e::es) X.env=(false,eval e X.env)::starEach es X.env:=by rfl) (hpl:(backTo pos (starEach es X.env)).any (·.1)=false:=by rfl) :
 JE X W (.Call (.Name x p) (e::es) [] pos) (Q7m S dA):=⟨(JL G hr hg ha.h hdb he hpl).mono fun σ H Q hh=>hh.elim fun pn M b ρ P st h k=>by
 refine ⟨pn,M,b,ρ,_,st,h,fun xs vs H1 hx rx k1 o1=>?_⟩
 have st1:=st.step k1 o1
 refine ⟨fun c=>b=some c,b,xs.map bor,_,fun _=>False,hx,?_,o1,fun p h=>h,fun c hc=>W.B.dm c H1 (o1 c hc),fun d v H' hd rd k2 o2=>k d v H' hd.2 (J7f hd.1 rd) (k1.trans k2) o2,fun C H' hC=>hC.elim⟩
 rw [D5];exact RepXs.bor st.bagM _ _ rx⟩
noncomputable def Q3a (le:Int->Int->Prop):List D->(D->Prop)->Prop
 | [x],P=>(asL x).elim False fun xs=>(DH xs).elim False fun ns=>0<ns.length/\∀ M:Int,M∈ns->(∀ a∈ns,le a M)->P (.int M)
 | _,_=>False
theorem NW {le:Int->Int->Prop}:FD W (fun xs H Q=>∃ (p:Addr) (ns:List Int),xs=[.ref p]/\SqL W.K H p (ns.map V.int)/\0<ns.length/\∀ M:Int,M∈ns->(∀ a∈ns,le a M)->Q (.int M) H) (Q3a le):=by
 intro M b H xs vs P Q hs rx ho k
 match xs,ho with
 | [x],ho =>
   obtain ⟨v,rfl,r⟩:=rx1 rx
   simp only [Q3a] at ho
   cases ex:asL x with
   | none=>rw [ex] at ho;exact ho.elim
   | some ys =>
     rw [ex] at ho
     simp only [Option.elim] at ho
     cases en:DH ys with
     | none=>rw [en] at ho;exact ho.elim
     | some ns =>
       rw [en] at ho
       cases DH.eq en
       obtain ⟨a,us,rfl,hh,r'⟩:=asL.rep r ex
       cases r'.ints
       exact ⟨a,ns,rfl,SqL.of hh,ho.1,fun m h1 h2=>k _ _ H (ho.2 m h1 h2) (show _=_ from rfl) (Kp.refl _ _) hs.ok⟩
theorem J1m {xs:List D}{neg:Bool}{P:D->Prop}(n:Nat)(h:EG n xs=true)(hp:P (.bl (xs.isEmpty != neg))):EqG neg (.own xs) (.lst []) P:=by
 obtain ⟨ps,e,hd,hq⟩:=HY n xs h
 refine ⟨.list ps,.list [],by unfold AU;rw [e];rfl,rfl,R5 (Nat.min_le_right _ _) (by decide),?_⟩
 have:PyData.eqv (.list ps) (.list [])=xs.isEmpty:=by
  cases xs with
  | nil=>cases e;rfl
  | cons x xs =>
    unfold EH at e
    obtain ⟨p,e1,e⟩:=B1v.mp e
    obtain ⟨qs,e2,rfl⟩:=M7.mp e
    rfl
 rw [this]
 exact hp
end
abbrev DSO:=List D->(List D->Prop)->(Addr->Prop)->Prop
def EN (K:Fg)(B:BagT)(S:DSO):Sp:=fun vs H Q E=>∃ (M:Addr->Prop) (b:Option Addr) (ds:List D) (P:List D->Prop) (Ed:Addr->Prop),S ds P Ed/\RepAs K M b H ds vs/\okB B b H/\(∀ p,b=some p->M p)/\(∀ c,M c->∃ o,H c=some o) /\
 (∀ xs a us H',P xs->H a=none->H' a=some (.lst us)->Reps K (fun c=>M c\/c=a) H' xs us->Kp b H H'->okB B b H'->Q (.ref a) H')/\∀ C H',Ed C->Kp b H H'->okB B b H'->E (.ref C) none H'
theorem EN.len {B:BagT}{S:DSO}{n:Nat}(h:∀ ds P Ed,S ds P Ed->ds.length=n):∀ vs H Q E,EN K B S vs H Q E->vs.length=n:=fun vs H Q E ⟨M,b,ds,P,Ed,hS,hr,_⟩=>by rw [hr.length];exact h _ _ _ hS
theorem V1o {B:BagT} {N:List Str}{ds:List D}{vs:List V}{H:Hp}{Q:VK}{P:List D->Prop}{d:DS}(hr:RepAs K M b H ds vs)(ho:okB B b H)(hb:∀ p,b=some p->M p)(hd:∀ c,M c->∃ o,H c=some o)(hq:∀ xs a us H',P xs->H a=none->H' a=some (.lst us)->Reps K (fun c=>M c\/c=a) H' xs us->Kp b H H'->okB B b H'->Q (.ref a) H')
 (h:d { nx:=fun _=>False,rt:=fun _=>False,ro:=P } (BD N ds)):sn ⟨K,B,H,M,b⟩ d { nx:=fun _ H'=>Q .non H',rt:=Q } (BF N vs) H :=
 ⟨[],M,b,BD N ds,{ nx:=fun _=>False,rt:=fun _=>False,ro:=P },J7h hr ho hb hd,⟨fun _ _ _ _ _ _ h=>h.elim,fun _ _ _ h=>h.elim,fun _ _ _ _ _ _ h=>h.elim,fun _ _ _ _ _ _ h=>h.elim,fun xs a us H' hp h0 _ hh r k o=>hq xs a us H' hp h0 hh r k o⟩,h⟩
section
variable {W:Wd}{e a b c l:Expr}{p:Pos}{d:DE}{k:Nat}
theorem Sta.fresh0 {pn:List (D×V)} {b:Option Addr}{H:Hp}{σ:St}{ρ:Ev}{p:Addr}(s:Sta W pn M b H σ ρ)(h:H p=none):W.H0 p=none/\¬ W.M0 p:=by
 have hbp:b≠some p:=fun z=>by
  obtain ⟨o,e⟩:=W.B.dm p H (s.ok p z)
  rw [h] at e;cases e
 refine ⟨?_,fun z=>s.toHs.new h (s.m0 p z)⟩
 cases q:W.H0 p with
 | none=>rfl
 | some o =>
   by_cases z:W.b0=some p
   · rcases s.new with y|⟨y,_⟩
     · exact absurd (y.trans z) hbp
     · rw [y] at z;cases z
   · have:=s.kp p o z q
     rw [h] at this;cases this
theorem Q0e {pn:List (D×V)} {b:Option Addr}{H:Hp}{σ:St}{ρ:Ev}{p:Addr}{E:Ends}{F:DEnds}{xs:List D}{vs:List V}(s:Sta W pn M b H σ ρ)(l:Link W pn E F)(h:H p=none)(r:Reps W.K M H xs vs)(hx:F.ro xs):E.rt (.ref p) (upd H p (.lst vs)):=by
 obtain ⟨h0,m0⟩:=s.fresh0 h
 have s':=s.step (Kp.upd (o:=HO.lst vs) h) (s.toHs.okU h)
 exact l.ro xs p vs _ hx h0 m0 V5 (Reps.keep (fun c o _ e=>Same.upd h c o e) _ _ (Reps.avoid (fun c z=>z.elim (fun y=>.inl (s.m0 c y)) fun y=>.inr (by rw [y];exact h)) _ _ r)) s'.kp s'.ok0
mutual
def noL:D->Bool
 | .tup xs=>MB xs
 | .lst _=>false
 | .own _=>false
 | .bag=>false
 | .frg _ _=>false
 | .scr _=>false
 | .dct _ _ _=>false
 | .non=>true
 | .bl _=>true
 | .int _=>true
 | .str _=>true
 | .ty _=>true
 | .adr _=>true
def MB:List D->Bool
 | []=>true
 | d::ds=>noL d&&MB ds
end
theorem PJ:∀ {ds:List D},(∀ d∈ds,noL d=true)->MB ds=true
 | [],_=>by unfold MB;rfl
 | d::ds,h=>by
   unfold MB
   rw [h d (B8 ..),PJ fun e he=>h e (B5 _ he)];rfl
section
variable {K:Fg}{M M':Addr->Prop}{H:Hp}
mutual
theorem Rep.unbor (k:∀ c,M c->M' c\/∃ o,H c=some o/\∀ vs,o≠.tup vs):∀ (d:D) (v:V),noL d=true->Rep K M' H d v->Rep K M H d v
 | .non,_,_,h=>h
 | .bl _,_,_,h=>h
 | .int _,_,_,h=>h
 | .str _,_,_,h=>h
 | .ty _,_,_,h=>h
 | .adr _,_,_,h=>h
 | .tup xs,v,n,h=>by
   obtain ⟨a,vs,e,z,r⟩:=h
   refine ⟨a,vs,e,z.imp (fun q=>⟨fun m=>?_,q.2⟩) id,Reps.unbor k xs vs (by unfold noL at n;exact n) r⟩
   rcases k a m with y|⟨us,y,nt⟩
   · exact q.1 y
   · rw [q.2] at y;cases y;exact nt _ rfl
 | .lst _,_,n,_=>by unfold noL at n;cases n
 | .own _,_,n,_=>by unfold noL at n;cases n
 | .bag,_,n,_=>by unfold noL at n;cases n
 | .frg _ _,_,n,_=>by unfold noL at n;cases n
 | .scr _,_,n,_=>by unfold noL at n;cases n
 | .dct _ _ _,_,n,_=>by unfold noL at n;cases n
theorem Reps.unbor (k:∀ c,M c->M' c\/∃ o,H c=some o/\∀ vs,o≠.tup vs):∀ (ds:List D) (vs:List V),MB ds=true->Reps K M' H ds vs->Reps K M H ds vs
 | [],_,_,h=>h
 | d::ds,vs,n,h=>by
   obtain ⟨v,r,e,h1,h2⟩:=h
   unfold MB at n
   obtain ⟨n1,n2⟩:=(R4 _ _).mp n
   exact ⟨v,r,e,Rep.unbor k d v n1 h1,Reps.unbor k ds r n2 h2⟩
end
end
def BorAt:List D->List V->Addr->Prop
 | .own _::ds,v::vs,c=>v=.ref c\/BorAt ds vs c
 | .frg f _::ds,_::vs,c=>c∈f.ads\/BorAt ds vs c
 | _::ds,_::vs,c=>BorAt ds vs c
 | _,_,_=>False
theorem BorAt.lst {b:Option Addr}{H:Hp}{c:Addr}:∀ (ds:List D) (vs:List V),RepXs W M b H ds vs->BorAt ds vs c->b≠some c/\∃ o,H c=some o/\∀ vs,o≠.tup vs
 | [],vs,h,q=>by cases (show vs=[] from h);exact q.elim
 | d::ds,vs,h,q=>by
   obtain ⟨v,r,rfl,h1,h2⟩:=h
   cases d
   case own xs =>
    rcases q with z|z
    · obtain ⟨a,us,e,m1,m2,m3,m4,hh,r'⟩:=h1
      rw [z] at e;cases e
      exact ⟨m2,_,hh,fun _ y=>by cases y⟩
    · exact BorAt.lst ds r h2 z
   case frg f d =>
    rcases q with z|z
    · exact ⟨(h1.1 c z).2.1,f.nt _ _ _ h1.2.1 c z⟩
    · exact BorAt.lst ds r h2 z
   all_goals exact BorAt.lst ds r h2 q
theorem RepXs.bor2 {M M':Addr->Prop}{b:Option Addr}{H:Hp}(sub:∀ c,M' c->M c):∀ (ds:List D) (vs:List V),(∀ c,BorAt ds vs c->¬ M' c)->RepXs W M b H ds vs->RepAs W.K M' b H (ds.map L2.bor) vs
 | [],_,_,h=>h
 | d::ds,vs,nb,h=>by
   obtain ⟨v,r,rfl,h1,h2⟩:=h
   have av:∀ c,M' c->M c\/H c=none:=fun c hc=>.inl (sub c hc)
   have nb2:∀ c,BorAt ds r c->¬ M' c:=fun c hc=>nb c (by cases d<;>first|exact hc|exact .inr hc)
   refine ⟨v,r,rfl,?_,RepXs.bor2 sub ds r nb2 h2⟩
   cases d
   case own xs =>
    obtain ⟨a,us,rfl,m1,m2,m3,m4,hh,r'⟩:=h1
    exact ⟨a,us,rfl,⟨nb a (.inl rfl),hh⟩,Reps.avoid av _ _ r'⟩
   case bag=>exact h1
   case frg f d =>
    have r:=Rep.avoid (M':=M') (fun c hc=>.inl ⟨sub c hc,fun m=>nb c (.inl m) hc⟩) _ _ h1.2.2
    show J9d W.K _ b H d v
    cases d<;>first|exact r|exact r.elim
   all_goals exact Rep.avoid av _ _ h1
end
theorem Fun.okDXO {P:Program}{w:World} {mg:Str->Option Value}{base:Heap}{CX:CXT}{x qual:Str}{st:Stmt}{f:Addr} {N ps:List Str}{k:Nat}{B:BagT}{Sd:DSO}(F:Fun K x qual st f fd)(S:FnScope N ps (J7 st))(len:∀ ds PP Ed,Sd ds PP Ed->ds.length=ps.length)
 (hbody:∀ (cdv:Value) (A:Around) (outer:List Env) (s:Shared) (H:Hp) (E:XK) (M:Addr->Prop) (bg:Option Addr) (ds:List D) (PP:List D->Prop) (Ed:Addr->Prop),Room k (A.deeper (envOfC qual (J7 st) s.heap.objs.size f cdv))->EI ⟨K,B,H,M,bg⟩ E Ed->Sd ds PP Ed ->
  ∃ d,JSs (BW CX P w K mg base N qual (J7 st) f cdv A outer s H E) ⟨K,B,H,M,bg⟩ (BN st) d/\d { nx:=fun _=>False,rt:=fun _=>False,ro:=PP } (BD N ds)):FnOk P w K mg base CX (k+1) f fd ps (EN K B Sd) :=
 F.okX S (EN.len len) fun cdv A outer s H vs Q E hr h=>by
  obtain ⟨M,bg,ds,PP,Ed,hS,hR,ho,hb,hd,hq,hx⟩:=h
  obtain ⟨d,J,q⟩:=hbody cdv A outer s H E M bg ds PP Ed hr (fun C H' e k o=>hx C H' e k o) hS
  exact ⟨_,J.h,V1o hR ho hb hd hq q⟩
section
variable {X:Cx}{W:Wd}{e a b c:Expr}{es:List Expr}{pos p:Pos}{dA:DA}{x:Str}{k:Nat}{ps:List Str}{S:DSO}
theorem J4r {pn:List (D×V)} {b:Option Addr}{H1:Hp}{σ:St}{ρ:Ev}{xs:List D}{vs:List V}{P:List D->Prop}{Q:VK}{E:XK}{Ed:Addr->Prop}(hE:EI W E Ed)(st1:Sta W pn M b H1 σ ρ)(rx:RepXs W M b H1 xs vs)(hS:S (xs.map bor) (fun ys=>MB ys=true/\P ys) Ed)
 (k:∀ ys a us H',P ys->H1 a=none->H' a=some (.lst us)->Reps W.K M H' ys us->Kp b H1 H'->okB W.B b H'->Q (.ref a) H'):EN W.K W.B S vs H1 Q E:=by
 refine ⟨fun c=>M c/\¬ BorAt xs vs c,b,xs.map bor,_,Ed,hS,RepXs.bor2 (fun c h=>h.1) _ _ (fun c h z=>z.2 h) rx,st1.ok,fun p h=>⟨st1.bagM p h,fun z=>(BorAt.lst xs vs rx z).1 h⟩,fun c hc=>st1.dom c hc.1,fun ys a us H' hp h0 hh r k2 o2=>?_,fun C H' hC k2 o2=>?_⟩
 · refine k ys a us H' hp.2 h0 hh (Reps.unbor (fun c m=>?_) _ _ hp.1 (Reps.avoid (fun c m=>.inl (.inl m)) _ _ r)) k2 o2
   by_cases z:BorAt xs vs c
   · obtain ⟨nb,us',e,nt⟩:=BorAt.lst xs vs rx z
     exact .inr ⟨us',k2 c _ nb e,nt⟩
   · exact .inl ⟨m,z⟩
 · have st2:=st1.step k2 o2
   exact hE C H' hC st2.kp st2.ok0
noncomputable def Q2h (S:DSO)(Ed:Addr->Prop)(dA:DA):DE:=fun ρ P=>dA ρ fun ds=>S (ds.map bor) (fun ys=>MB ys=true/\P (.lst ys)) Ed
theorem J3w {CX:CXT}{E:XK}{Ed:Addr->Prop}(hE:EI W E Ed)(hp:DQ CX X E)(G:Callee X.prog X.w X.K X.mg X.base CX x k ps (EN W.K W.B S))(hr:Room k X.A)(hg:Gl X x)(ha:JA X W (e::es) dA)(hdb:(x==("__debug__" : Str))=false:=by decide) (he:starEach (e::es) X.env=(false,eval e X.env)::starEach es X.env:=by rfl) (hpl:(backTo pos (starEach es X.env)).any (·.1)=false:=by rfl) :
 JE X W (.Call (.Name x p) (e::es) [] pos) (Q2h S Ed dA):=⟨(NS hp G hr hg ha.h hdb he hpl).mono fun σ H Q hh=>hh.elim fun pn M b ρ P st h k=>by
 refine ⟨pn,M,b,ρ,_,st,h,fun xs vs H1 hx rx k1 o1=>?_⟩
 have st1:=st.step k1 o1
 show EN W.K W.B S (vs++[]) H1 Q E
 rw [D5]
 exact J4r (P:=fun ys=>P (.lst ys)) hE st1 rx hx fun ys a us H' hp h0 hh r k2 o2=>k _ _ H' hp ⟨a,us,rfl,⟨st1.toHs.new h0,hh⟩,r⟩ (k1.trans k2) o2⟩
end
section
theorem J5l {σ:St}{i:Nat}{v:V}(e:σ[i]?=some (some v)):σ.set i (some v)=σ:=by
 apply T5
 intro n
 by_cases z:i=n
 · subst z;rw [R6,e];simp;exact (B7.mp e).1
 · rw [L6 z]
end
section
variable {prog:Program}{w:World}{A:Around}{E:Value->Shared->Prop}{s:Shared}{l:Addr}{xs:Array (Int×Tok)}
theorem XG {Q:Value->Shared->Prop}(hl:s.heap.IsTuple l (intItems xs))
 (h:∀ s₂:Shared,s₂={ s with heap:=s.heap.push { cls:=.type "tuple_iterator",data:=.fields #[.ref l,.int 0 0] } } ->
  (s₂.heap.IsTupleIter s.heap.objs.size l 0/\s₂.heap.IsTuple l (intItems xs))->(∀ b∈[s.heap.objs.size,l],b<s₂.heap.objs.size)->l≠s.heap.objs.size->Q (.ref s.heap.objs.size) s₂) :
 wpAny (model prog w) A (pyIter (.ref l)) Q E s:=by
 have hlt:l<s.heap.objs.size:=by obtain ⟨_,e,_⟩:=hl;exact B4 e
 refine wpAny_pyIter_tuple hl (h _ rfl ⟨⟨_,L7 _ rfl,rfl,rfl⟩,hl.at fun o e=>B2 _ e⟩ (fun b hb=>?_) (R8 hlt))
 show b<(s.heap.push _).objs.size
 rw [D8]
 rcases B6.mp hb with rfl|hb
 · exact E3 _
 · rcases B6.mp hb with rfl|hb
   · exact B1j hlt
   · cases hb
theorem J3g {h':Heap}(hk:∀ b o,b∉[s.heap.objs.size]->(s.heap.push { cls:=.type "tuple_iterator",data:=.fields #[.ref l,.int 0 0] }).get? b=some o->h'.get? b=some o) :
 ∀ b o,s.heap.get? b=some o->h'.get? b=some o:=fun b o e=>by
 refine hk b o (fun hm=>?_) (B2 _ e)
 rcases B6.mp hm with e1|hm
 · exact absurd (e1▸B4 e) (M9 _)
 · cases hm
theorem ZO {Q:Value->Shared->Prop}(hh:A.handled=none)(hl:s.heap.IsTuple l (intItems xs))(hne:0<xs.size)
 (h:∀ v h' tk,(intItems xs)[argBest (fun i j=>decide (numAt xs i>numAt xs j)) (xs.size - 1)]?=some v->(∀ b o,s.heap.get? b=some o->h'.get? b=some o)->Q v { s with heap:=h',toks:=tk }) :
 wpAny (model prog w) A (call (.builtin "max") [.ref l]) Q E s:=by
 refine call_max_walk (XG hl fun s₂ e st hfp hlI=>?_)
 subst e
 refine ⟨_,_,_,_,_,_,_,rfl,Walks.tuple (A:=A.in1) hh _ l hlI (intItems xs),st,hfp,by simpa [intItems] using hne,CmpOf.ints_gt (numAt xs) (fun _ _=>intItems_at),fun v h' tk hP hk=>?_⟩
 exact h v h' tk (by simpa [intItems] using hP) (J3g hk)
end
section
variable {X:Cx}
theorem J4t (K:Fg)(hK:X.K=K)(hc:X.calm=true):CB X (.builtin "max") (fun xs H Q=>∃ (p:Addr) (ns:List Int),xs=[.ref p]/\SqT K H p (ns.map V.int)/\0<ns.length/\∀ M:Int,M∈ns->(∀ a∈ns,a<=M)->Q (.int M) H):=by
 subst hK
 intro pins s σ H xs us Q I r h
 obtain ⟨p,ns,rfl,hq,hn,q⟩:=h
 obtain ⟨u,rfl,rx⟩:=KG r
 cases rx
 obtain ⟨its,rv,pl,hz⟩:=I.tuple hq
 obtain ⟨ps,e1,e2⟩:=FC rv
 subst e1
 have hlen:ps.length=ns.length:=by rw [<- e2,B9]
 have hl:s.heap.IsTuple p _:=pl
 rw [<- CH] at hl
 refine ZO (xs:=ps.toArray) (I.ok.hd hc) hl (by simp;omega) fun v h' tk hv k=>?_
 obtain ⟨t,e⟩:=intItems_at hv
 obtain ⟨b1,b2⟩:=argBest_gt (numAt ps.toArray) (ps.toArray.size - 1)
 subst e
 refine ⟨.int _,H,I.kept k,⟨t,rfl⟩,q _ ?_ ?_⟩
 · rw [BP,e2]
   have hj:argBest (fun i j=>decide (numAt ps.toArray i>numAt ps.toArray j)) (ps.toArray.size - 1)<ns.length:=by
    have:ps.toArray.size=ns.length:=by simp [hlen]
    omega
   rw [M5 hj]
   exact W5 hj
 · intro a ha
   obtain ⟨j,hj,rfl⟩:=B3k.mp ha
   have:=b2 j (by simp;omega)
   rw [BP ps j,e2,M5 hj] at this
   exact this
end
section
variable {W:Wd}
noncomputable def Q2z (le:Int->Int->Prop):List D->(D->Prop)->Prop
 | [.tup xs],P=>(DH xs).elim False fun ns=>0<ns.length/\∀ M:Int,M∈ns->(∀ a∈ns,le a M)->P (.int M)
 | _,_=>False
theorem Q2l {le:Int->Int->Prop}:FD W (fun xs H Q=>∃ (p:Addr) (ns:List Int),xs=[.ref p]/\SqT W.K H p (ns.map V.int)/\0<ns.length/\∀ M:Int,M∈ns->(∀ a∈ns,le a M)->Q (.int M) H) (Q2z le):=by
 intro M b H xs vs P Q hs rx ho k
 match xs,ho with
 | [.tup ys],ho =>
   obtain ⟨v,rfl,r⟩:=rx1 rx
   simp only [Q2z] at ho
   cases en:DH ys with
   | none=>rw [en] at ho;exact ho.elim
   | some ns =>
     rw [en] at ho
     cases DH.eq en
     obtain ⟨a,us,rfl,hh,r'⟩:=(show ∃ a vs,v=.ref a/\TpA W.K M H a vs/\Reps W.K M H _ vs from r)
     cases r'.ints
     exact ⟨a,ns,rfl,hh.sq,ho.1,fun m h1 h2=>k _ _ H (ho.2 m h1 h2) (show _=_ from rfl) (Kp.refl _ _) hs.ok⟩
end
section
variable {X:Cx}{W:Wd}{pos:Pos}{dA:DA}
noncomputable def Q7i (i:Nat)(dA:DA):DS:=fun F ρ=>match ρ[i]? with
 | some (some (.own ys))=>dA ρ fun xs=>(match xs with | [.lst zs]=>ys.length+zs.length<=1000/\F.nx (ρ.set i (some (.own (ys++zs))))|_=>False)
 | _=>False
theorem Q4f {i:Nat}:∀ E σ H,sn W (Q7i i dA) E σ H->J5g (tBM W.K "list" TW (IZ i) (dnA W dA)) E σ H:=fun E σ H hh=>hh.elim fun pn M b ρ F s l h=>by
 unfold Q7i at h
 split at h
 case h_2=>exact h.elim
 case h_1 ys e =>
  obtain ⟨a,vs,ea,nb,hh,r⟩:=TY s.toSta e
  refine ⟨.ref a,ea,.inl ⟨rfl,vs,SqL.of hh⟩,pn,M,b,ρ,_,s.toSta,h,fun xs us H' hx rx k o=>?_⟩
  match xs,hx with
  | [.lst zs],hx =>
    obtain ⟨u,rfl,ru⟩:=rx1 rx
    obtain ⟨a2,ws,rfl,⟨n2,h2⟩,r2⟩:=(show ∃ a vs,u=.ref a/\(¬ M a/\H' a=some (.lst vs))/\Reps W.K M H' zs vs from ru)
    have s':=s.step k o
    obtain ⟨a',vs',ea',nb',hh',r'⟩:=TY s'.toSta e
    rw [ea] at ea';cases ea'
    exact ⟨a,a2,vs',ws,rfl,rfl,hh',h2,by rw [r'.length,r2.length];exact R5 hx.1 AF,l.nx _ _ _ _ _ (s'.setOwn i e ea (Reps.append r' r2)) hx.2⟩
theorem ZS {i:Nat}{x:Str}{e:Expr}{npos apos cpos:Pos}(hK:X.K=W.K)(ha:JA X W [e] dA)
 (h:PE X (.Call (.Attribute (.Name x npos) "extend" apos) [e] [] cpos) (tBM X.K "list" TW (IZ i) (dnA W dA))) (hs:swapsWith (.Call (.Attribute (.Name x npos) "extend" apos) [e] [] cpos) none pos.line X.env=pure false:=by rfl) :
 JS X W (.Expr (.Call (.Attribute (.Name x npos) "extend" apos) [e] [] cpos) pos) (Q7i i dA):=⟨(KQ (by rw [hK] at h;exact h) hs).mono Q4f⟩
end
section
variable {κ:Type} [DecidableEq κ]
def J9q (kvs:List (κ×V))(k:κ):Option V:=(kvs.find? fun kv=>decide (kv.1=k)).map (·.2)
def Q0h (kvs:List (κ×V))(k:κ)(v:V):List (κ×V) :=
 if (kvs.any fun kv=>decide (kv.1=k))=true then kvs.map (fun kv=>if kv.1=k then (kv.1,v) else kv) else kvs++[(k,v)]
theorem KV.length {kvs:List (κ×V)}{vs:List (κ×Value)}(r:KV kvs vs):kvs.length=vs.length:=Paired.length r
end
def DGet (H:Hp)(a:Addr)(y:V)(r:Option V):Prop :=
 (∃ kvs k,Rd H a (.dK kvs)/\y=kV k/\r=J9q kvs k)\/∃ kvs k b,Rd H a (.dT kvs)/\y=.ref b/\H b=some (.tup (k.map kV))/\r=J9q kvs k
def DPut (H:Hp)(a:Addr)(y v:V)(H':Hp):Prop :=
 (∃ kvs k,H a=some (.dK kvs)/\y=kV k/\kvs.length<sizeLine/\H'=upd H a (.dK (Q0h kvs k v))) \/
 ∃ kvs k b,H a=some (.dT kvs)/\y=.ref b/\H b=some (.tup (k.map kV))/\kvs.length<sizeLine/\H'=upd H a (.dT (Q0h kvs k v))
theorem DGet.k {H:Hp}{a:Addr}{kvs:List (Key×V)}{k:Key}(e:H a=some (.dK kvs)):DGet H a (kV k) (J9q kvs k):=.inl ⟨kvs,k,.inl e,rfl,rfl⟩
theorem DGet.t {H:Hp}{a b:Addr}{kvs:List (List Key×V)}{k:List Key}(e:H a=some (.dT kvs))(eb:H b=some (.tup (k.map kV))):DGet H a (.ref b) (J9q kvs k):=.inr ⟨kvs,k,b,.inl e,rfl,eb,rfl⟩
theorem DPut.k {H:Hp}{a:Addr}{kvs:List (Key×V)}{k:Key}{v:V}(e:H a=some (.dK kvs))(hl:kvs.length<sizeLine):DPut H a (kV k) v (upd H a (.dK (Q0h kvs k v))):=.inl ⟨kvs,k,e,rfl,hl,rfl⟩
theorem DPut.t {H:Hp}{a b:Addr}{kvs:List (List Key×V)}{k:List Key}{v:V}(e:H a=some (.dT kvs))(eb:H b=some (.tup (k.map kV)))(hl:kvs.length<sizeLine) :
 DPut H a (.ref b) v (upd H a (.dT (Q0h kvs k v))):=.inr ⟨kvs,k,b,e,rfl,eb,hl,rfl⟩
section
variable {X:Cx}{pins:List (Addr×Obj)}{σ:St}{H:Hp}{s:Shared}{a:Addr}
theorem Inv.big (I:Inv X pins σ H s):sysModules<s.heap.objs.size:=by
 have h:mainGlobals<s.heap.objs.size:=(I.mod.glob.keeps I.bk).lt
 exact Nat.lt_trans (by decide) h
theorem Q2d {h':Heap}{t':Nat}{ob:HO}(I:Inv X pins σ H s)(mu:Mut (H a))(hs:Heap.SameBut a s.heap h')(he:∃ q,h'.get? a=some q)(new:ObjOk X.prog X.w (upd H a ob) h' a ob) :
 Inv X pins σ (upd H a ob) { s with heap:=h',toks:=t' } :=
 I.write (x:=a) (e:=a) mu (.inl rfl) (fun b q hb z=>(hs.2 b hb).trans z) he new
end
structure M2 (X:Cx)(o:Expr)(m:Str)(apos:Pos)(e f:Expr)(cpos:Pos):Prop where
 base:attributeBase o m X.env (eval o X.env)=eval o X.env
 few:((backTo cpos (starEach [e,f] X.env)).all (fun x=>!x.1)&&(backToKw cpos (keywordEach [] X.env)).all (fun x=>x.1.isSome)
  && decide (([e,f]:List Expr).length+([]:List Keyword).length+(if ([]:List Keyword).isEmpty then 0 else 1)<30))=true
 line:(apos.endLine==cpos.line)=true
 trees:backTo cpos (starEach [e,f] X.env)=[(false,eval e X.env),(false,eval f X.env)]
abbrev Ens:=List (List Int×Addr×Value)
abbrev tiK (P:Program)(w:World):=tupleKind (intKind P w)
theorem SJ:∀ {ns:List Int} {us:List Value},Vals (ns.map V.int) us->ItemsAre (intKind P w) ns us
 | [],_,h=>by cases h;exact .nil
 | n::ns,_,h=>by
   cases h with
   | cons h t =>
     obtain ⟨t',rfl⟩:=h
     exact .cons (by simp [intKind,Value.isInt]) (SJ t)
def YJ (K:Fg)(H:Hp)(es:Ens):Prop:=∀ e∈es,SqT K H e.2.1 (e.1.map V.int)
section
variable {X:Cx}{pins:List (Addr×Obj)}{σ:St}{H:Hp}{s:Shared}{a b:Addr}{es:Ens}{ep:Nat}{ns:List Int}
theorem Inv.tkey (I:Inv X pins σ H s)(h:SqT X.K H b (ns.map V.int)):(tiK X.prog X.w).is s.heap ns b:=by
 obtain ⟨its,r,⟨o,h1,h2,n,h3⟩,_⟩:=I.tuple h
 exact ⟨o,its.toArray,n,h1,h2,h3,SJ r⟩
theorem Inv.dct (I:Inv X pins σ H s)(h:H a=some (DOb a es ep))(hk:YJ X.K H es):((a==sysModules)=false/\es.length<=sizeLine)/\s.heap.DictOfH (tiK X.prog X.w) a es:=by
 obtain ⟨⟨⟨h1,h2,h3⟩,o,ds,e1,e2,e3,e4⟩,_⟩:=I.hok a _ h
 exact ⟨⟨h1,h2⟩,o,ds,ep,e1,e2,e3,e4,fun x hx=>I.tkey (hk x hx),h3⟩
theorem J9f {H:Hp}{h:Heap}(h1:(a==sysModules)=false)(h2:es.length<=sizeLine)(h3:(es.map (·.1)).Nodup){o:Obj}{ds:Array DictEntry}(e1:h.get? a=some o)(e2:o.ExactDict)(e3:o.data=.dict ds ep)(e4:ds.toList=es.map Q7j):ObjOk P w H h a (DOb a es ep) :=
 ⟨⟨⟨h1,h2,h3⟩,o,ds,e1,e2,e3,e4⟩,⟨o,e1⟩,fun g1 g2 ⟨q,o,ds,f1,f2⟩ k=>⟨q,o,ds,k o f1,f2⟩⟩
theorem PL (es:Ens)(k:List Int)(b:Addr)(v:Value):(storedH es k b v).length<=es.length+1:=by
 unfold storedH
 split
 · rw [B9];omega
 · simp
noncomputable def Q4w (K:Fg):R2:=fun x y H Q=>∃ a b es ep ns p v,x=.ref a/\y=.ref b/\H a=some (DOb a es ep)/\YJ K H es/\SqT K H b (ns.map V.int)/\atKey es ns=some p/\RelV v p.2/\Q v H
theorem Q5r (hu:X.A.units+1<cLine):IxR X (Q4w X.K):=by
 intro value slice pins s σ H x y v u Q I rx ry h hs
 obtain ⟨a,b,es,ep,ns,p,z,rfl,rfl,hd,hk,hb,hp,rz,q⟩:=h
 cases rx;cases ry
 obtain ⟨⟨h1,h2⟩,dd⟩:=I.dct hd hk
 exact tail_any dd.typeIs PySem.F.slot_dict_getitem.lookup (wpAny_getItem_heap (tupleKind_room_in1 hu) (I.tkey hb) dd hp ⟨z,H,I.tok _,rz,q⟩) hs
noncomputable def Q8z (K:Fg)(f:Bool->Bool):R2:=fun x y H Q=>∃ a b es ep ns,y=.ref a/\x=.ref b/\H a=some (DOb a es ep)/\YJ K H es/\SqT K H b (ns.map V.int)/\Q (.bl (f (atKey es ns).isSome)) H
theorem SD (K:Fg)(hK:X.K=K)(hu:X.A.units+64<cLine):OpR X (compareOp .NotIn) (Q8z K (fun c=>!c)):=by
 subst hK
 intro pins s σ H x y v u Q I rx ry h
 obtain ⟨a,b,es,ep,ns,rfl,rfl,hd,hk,hb,q⟩:=h
 cases rx;cases ry
 obtain ⟨⟨h1,h2⟩,dd⟩:=I.dct hd hk
 exact wpAny_notIn_heap (tupleKind_room_in1 (by omega)) (I.tkey hb) h1 dd ⟨.bl (!(atKey es ns).isSome),H,I.tok _,rfl,q⟩
noncomputable def Q2v (K:Fg):V->V->V->Hp->(Hp->Prop)->Prop:=fun o i v H Q=>∃ a b es ep ns,o=.ref a/\i=.ref b/\H a=some (DOb a es ep)/\YJ K H es/\SqT K H b (ns.map V.int)/\es.length<sizeLine/\∀ u ep',RelV v u->Q (upd H a (DOb a (storedH es ns b u) ep'))
theorem J0t (K:Fg)(hK:X.K=K)(hu:X.A.units+64<cLine):Q7y X (Q2v K):=by
 subst hK
 intro pins s σ H o i v ov iv u Q I ro ri rv h
 obtain ⟨a,b,es,ep,ns,rfl,rfl,hd,hk,hb,hl,q⟩:=h
 cases ro;cases ri
 obtain ⟨⟨h1,h2⟩,dd⟩:=I.dct hd hk
 refine wpAny_setItem_heap (hsz:=h2) (tupleKind_room_in1 (by omega)) (I.tkey hb) dd fun h' dd' hs=>?_
 obtain ⟨o,ds,ep',e1,e2,e3,e4,_,e5⟩:=dd'
 exact ⟨_,Q2d I (by rw [hd];exact True.intro) hs ⟨o,e1⟩ (J9f h1 (R5 (PL es ns b u) hl) e5 e1 e2 e3 e4),q u ep' rv⟩
noncomputable def Q8r:TE:=fun _ H Q=>∀ p,H p=none->Q (.ref p) (upd H p (DOb p [] 0))
theorem Q0p {pos:Pos}:PE X (.Dict [] [] pos) Q8r:=fun pins s σ H Q I h =>
 wpAny_Dict_empty ⟨.ref s.heap.objs.size,_,I.laid (a:=s.heap.objs.size) (o:=DOb s.heap.objs.size [] 0) (t':=s.toks) (fun _ _ q=>B2 _ q) (L8 _) (J9f (beq_eq_false_iff_ne.mpr (B0q (R8 I.big))) (D2 _) B0t (L7 _ rfl) ⟨rfl,rfl,rfl⟩ rfl rfl),rfl,h _ (I.hok.fresh (L8 _))⟩
end
def AL:List (List Int)->List D->List Int->Option D
 | k::ks,x::xs,n=>if k=n then some x else AL ks xs n
 | _,_,_=>none
theorem QP {e:List Int×Addr×Value}{es:Ens}{n:List Int}:atKey (e::es) n=if e.1=n then some e.2 else atKey es n:=by
 unfold atKey
 rw [List.find?_cons]
 by_cases z:e.1=n
 · simp [z]
 · simp [z]
theorem MH {H:Hp}:∀ {es:Ens} {ks:List (List Int)} {vs:List V} {xs:List D} (n:List Int),es.map (·.1)=ks->Vals vs (es.map (·.2.2))->Reps K M H xs vs ->
 match AL ks xs n with|some d=>∃ p v,atKey es n=some p/\RelV v p.2/\Rep K M H d v|none=>atKey es n=none
 | [],ks,vs,xs,n,e,hv,r=>by
   subst e
   unfold AL;rfl
 | e::es,ks,vs,[],n,ek,hv,r=>by
   rw [show vs=[] from r] at hv
   cases hv
 | e::es,ks,vs,x::xs,n,ek,hv,r=>by
   subst ek
   obtain ⟨v,vs,rfl,rx,rr⟩:=r
   rw [T4] at hv
   cases hv with
   | cons h1 h2 =>
   have ih:=MH (ks:=es.map (·.1)) (xs:=xs) n rfl h2 rr
   rw [QP,T4]
   unfold AL
   by_cases z:e.1=n
   · rw [if_pos z,if_pos z]
     exact ⟨e.2,v,rfl,h1,rx⟩
   · rw [if_neg z,if_neg z]
     exact ih
theorem DctE.keys {H:Hp}{es:Ens}{ks:List (List Int)}{vs:List V}(h:DctE K M H es ks vs):YJ K H es:=fun e m=>(h.2.1 e m).sq
theorem XX (elt:Expr)(g1:Comprehension)(target iter:Expr)(ifs:List Expr)(scope:Scope)(pos:Pos)(it acc:Value)(env:Env) :
 compTurn (.ListComp elt [g1,⟨target,iter,ifs,0⟩] scope pos) 1 it acc env=(do
  standAt iter.pos
  match <- pyNext it with
  | none=>pure (.done .next)
  | some v =>
    letOwnedTupleGo target it v
    assign target env v
    let mut ok:=true
    for c in ifs do
     if ok then ok <- isTrue c env (eval c env)
    if ok then
     (do let _ <- call (.builtin "list.append") [acc,<- eval elt env])
    again (.compLoop (.ListComp elt [g1,⟨target,iter,ifs,0⟩] scope pos) 1 it acc env)):=by rfl
theorem UX (elt target iter target' iter':Expr)(ifs:List Expr)(scope:Scope)(pos:Pos)(it acc:Value)(env:Env) :
 compTurn (.ListComp elt [⟨target,iter,[],0⟩,⟨target',iter',ifs,0⟩] scope pos) 0 it acc env=(do
  standAt iter.pos
  match <- pyNext it with
  | none=>pure (.done .next)
  | some v =>
    letOwnedTupleGo target it v
    assign target env v
    let mut ok:=true
    for c in ([]:List Expr) do
     if ok then ok <- isTrue c env (eval c env)
    if ok then
     let x <- eval iter' env
     standAt iter'.pos
     let x <- foldedSetIterable iter' env x
     let _ <- runOwn (.compStart (.ListComp elt [⟨target,iter,[],0⟩,⟨target',iter',ifs,0⟩] scope pos) 1 (<- holding [x] (pyIter x)) acc env) env
    again (.compLoop (.ListComp elt [⟨target,iter,[],0⟩,⟨target',iter',ifs,0⟩] scope pos) 0 it acc env)):=by rfl
theorem XY {prog:Program}{w:World}{A:Around}{R:Result->Shared->Prop}{s:Shared}{elt target iter:Expr}{g1:Comprehension}{ifs:List Expr}{scope:Scope}{pos:Pos}{it acc:Value}{env:Env}(J:Nat->Shared->Prop)
 (turn:∀ n s,J n s->wpAny (model prog w) A (pyNext it) (fun r s₁=>match r with
  | none=>R (.ok .next) s₁
  | some v=>wpAny (model prog w) A (letOwnedTupleGo target it v) (fun _ s₁'=>wpAny (model prog w) A (assign target env v) (fun _ s₂=>wpAny (model prog w) A (J0p ifs env) (fun ok s₃ =>
   if ok=true then wpAny (model prog w) A (eval elt env) (fun x s₄=>wpAny (model prog w) A (call (.builtin "list.append") [acc,x]) (fun _ s₅=>∃ m,m<n/\J m s₅) (notedBy (model prog w) A env fun e s'=>R (.error e) s') s₄)
    (notedBy (model prog w) A env fun e s'=>R (.error e) s') s₃
   else ∃ m,m<n/\J m s₃) (notedBy (model prog w) A env fun e s'=>R (.error e) s') s₂) (notedBy (model prog w) A env fun e s'=>R (.error e) s') s₁') (notedBy (model prog w) A env fun e s'=>R (.error e) s') s₁)
   (notedBy (model prog w) A env fun e s'=>R (.error e) s') s) (n:Nat) (h:J n s) :
 codeAny (model prog w) A (.compLoop (.ListComp elt [g1,⟨target,iter,ifs,0⟩] scope pos) 1 it acc env) R s:=by
 refine codeAny_loop rfl J (fun n s hJ=>?_) n h
 show wpAny _ _ (Sem.onRaise (compTurn (.ListComp elt [g1,⟨target,iter,ifs,0⟩] scope pos) 1 it acc env) fun x=>do noteFrame x env;theTreesLotGoes x) _ _ _
 refine wpAny_noted ?_
 rw [XX]
 refine B0 (B0o (B0 (thn (turn n s hJ) fun r s₁ h₁=>?_)))
 cases r with
 | none=>exact B1 h₁
 | some v =>
   refine B0 (thn h₁ fun _ s₁' h₁'=>B0 (thn h₁' fun _ s₂ h₂=>B0 (thn h₂ fun ok s₃ h₃=>?_)))
   cases ok with
   | true=>exact B0 (B0 (thn h₃ fun x s₄ h₄=>B0 (thn h₄ fun _ s₅ h₅=>B1 (B1 ⟨rfl,h₅⟩))))
   | false=>exact B1 ⟨rfl,h₃⟩
theorem UY {prog:Program}{w:World}{A:Around}{R:Result->Shared->Prop}{s:Shared}{elt target iter:Expr}{g1:Comprehension}{ifs:List Expr}{scope:Scope}{pos:Pos}{it acc:Value}{env:Env}
 (h0:codeAny (model prog w) A (.compLoop (.ListComp elt [g1,⟨target,iter,ifs,0⟩] scope pos) 1 it acc env) R s)
 (h:wpAny (model prog w) A (pyIter it) (fun it' s'=>codeAny (model prog w) A (.compLoop (.ListComp elt [g1,⟨target,iter,ifs,0⟩] scope pos) 1 it' acc env) R s')
  (notedBy (model prog w) A env fun x s'=>R (.error x) s') s) :
 codeAny (model prog w) A (.compStart (.ListComp elt [g1,⟨target,iter,ifs,0⟩] scope pos) 1 it acc env) R s:=by
 refine codeAny_of_tree ?_
 show wpAny _ _ ((compStart (.ListComp elt [g1,⟨target,iter,ifs,0⟩] scope pos) 1 it acc env).onRaise (fun x=>do noteFrame x env;standAt theWindowsPlace)) _ _ s
 refine wpAny_notedAt ?_
 unfold compStart
 show wpAny _ _ (ask >>= _) _ _ s
 refine B0 (wpAny_askSetting (wpAny_ite ?_))
 split
 · first
    | exact B0 (B1 (B1 (And.intro rfl h0)))
    | exact B1 (And.intro rfl h0)
 · first
    | exact B0 (B2h (B0 (B0o (B0 (W0 h (fun it' s' h'=>B1 (And.intro rfl h')) fun _ _ x=>x)))))
    | (refine B0 (B2h ?_);show wpAny _ _ (standAt iter.pos >>= _) _ _ s;exact B0 (B0o (B0 (W0 h (fun it' s' h'=>B1 (And.intro rfl h')) fun _ _ x=>x))))
theorem UZ {prog:Program}{w:World}{A:Around}{R:Result->Shared->Prop}{s:Shared}{elt target iter target' iter':Expr}{ifs:List Expr}{scope:Scope}{pos:Pos}{it acc:Value}{env:Env}(J:Nat->Shared->Prop)
 (hs:∀ x,foldedSetIterable iter' env x=pure x)
 (turn:∀ n s,J n s->wpAny (model prog w) A (pyNext it) (fun r s₁=>match r with
  | none=>R (.ok .next) s₁
  | some v=>wpAny (model prog w) A (letOwnedTupleGo target it v) (fun _ s₁'=>wpAny (model prog w) A (assign target env v) (fun _ s₂=>wpAny (model prog w) A (eval iter' env) (fun x s₃=>wpAny (model prog w) A (pyIter x) (fun it' s₄ =>
   codeAny (model prog w) A (.compStart (.ListComp elt [⟨target,iter,[],0⟩,⟨target',iter',ifs,0⟩] scope pos) 1 it' acc env) (fun r s'=>r=.ok .next/\∃ m,m<n/\J m s') s₄)
    (fun _ _=>False) s₃) (fun _ _=>False) s₂) (fun _ _=>False) s₁') (fun _ _=>False) s₁)
   (fun _ _=>False) s) (n:Nat) (h:J n s) :
 codeAny (model prog w) A (.compLoop (.ListComp elt [⟨target,iter,[],0⟩,⟨target',iter',ifs,0⟩] scope pos) 0 it acc env) R s:=by
 refine codeAny_loop rfl J (fun n s hJ=>?_) n h
 show wpAny _ _ (Sem.onRaise (compTurn (.ListComp elt [⟨target,iter,[],0⟩,⟨target',iter',ifs,0⟩] scope pos) 0 it acc env) fun x=>do noteFrame x env;theTreesLotGoes x) _ _ _
 refine wpAny_noted ?_
 rw [UX]
 refine B0 (B0o (B0 (W0 (turn n s hJ) (fun r s₁ h₁=>?_) fun _ _ z=>False.elim z)))
 cases r with
 | none=>exact B1 h₁
 | some v =>
   refine B0 (W0 h₁ (fun _ s₁' h₁'=>B0 (W0 h₁' (fun _ s₂ h₂=>B0 (wpAny_tests_nil ?_)) fun _ _ z=>False.elim z)) fun _ _ z=>False.elim z)
   refine B0 (W0 h₂ (fun x s₃ h₃=>?_) fun _ _ z=>False.elim z)
   refine B0 (B0o (B0 (B3g (hs x) (B0 (W1 (W0 h₃ (fun it' s₄ h₄=>?_) fun _ _ z=>False.elim z))))))
   refine B0 (wpAny_runOwn (B3b h₄ fun r s' q=>?_))
   obtain ⟨rfl,q⟩:=q
   exact B1 ⟨rfl,q⟩
def SL:Nat->List (Option Nat)->Bool
 | _,[]=>true
 | n,none::m=>SL (n+1) m
 | n,some i::m=>(i==n)&&SL (n+1) m
theorem IL:∀ {m:List (Option Nat)} {n:Nat},SL n m=true->∀ j i:Nat,m[j]?=some (some i)->i=n+j
 | [],_,_,j,i,e=>by simp at e
 | none::m,n,h,0,i,e=>by simp at e
 | none::m,n,h,j+1,i,e=>by
   have:=IL (n:=n+1) h j i (by simpa using e)
   omega
 | some a::m,n,h,j,i,e=>by
   unfold SL at h
   rw [R4,B0s] at h
   cases j with
   | zero=>simp at e;omega
   | succ j =>
     have:=IL h.2 j i (by simpa using e)
     omega
def FL:List (Option Nat)->List (Option Nat)->Bool
 | [],[]=>true
 | none::m,_::n=>FL m n
 | some _::m,some _::n=>FL m n
 | _,_=>false
theorem JB:∀ {m n:List (Option Nat)},FL m n=true->m.length=n.length
 | [],[],_=>rfl
 | none::m,_::n,h=>D7 Nat.succ (JB (m:=m) (n:=n) (by unfold FL at h;exact h))
 | some _::m,some _::n,h=>D7 Nat.succ (JB (m:=m) (n:=n) (by unfold FL at h;exact h))
 | [],_::_,h=>by cases h
 | none::_,[],h=>by cases h
 | some _::_,[],h=>by cases h
 | some _::_,none::_,h=>by cases h
theorem JC:∀ {m n:List (Option Nat)},FL m n=true->∀ j i:Nat,m[j]?=some (some i)->∃ i',n[j]?=some (some i')
 | [],[],_,j,i,e=>by simp at e
 | none::m,_::n,h,0,i,e=>by simp at e
 | none::m,_::n,h,j+1,i,e=>by
   obtain ⟨i',q⟩:=JC (m:=m) (n:=n) (by unfold FL at h;exact h) j i (by simpa using e)
   exact ⟨i',by simpa using q⟩
 | some _::m,some b::n,h,0,i,e=>⟨b,rfl⟩
 | some _::m,some _::n,h,j+1,i,e=>by
   obtain ⟨i',q⟩:=JC (m:=m) (n:=n) (by unfold FL at h;exact h) j i (by simpa using e)
   exact ⟨i',by simpa using q⟩
 | [],_::_,h,_,_,_=>by cases h
 | none::_,[],h,_,_,_=>by cases h
 | some _::_,[],h,_,_,_=>by cases h
 | some _::_,none::_,h,_,_,_=>by cases h
theorem QN {σ:St}{map:List (Option Nat)}{j:Nat}{v:V}(e:(capt σ map)[j]?=some (some v)):∃ i,map[j]?=some (some i)/\σ[i]?=some (some v):=by
 unfold capt at e
 rw [M1] at e
 cases hm:map[j]? with
 | none=>rw [hm] at e;cases e
 | some o =>
   rw [hm] at e
   cases o with
   | none=>simp at e
   | some i =>
     refine ⟨i,rfl,?_⟩
     have e':(σ[i]?).join=some v:=by simpa using e
     cases q:σ[i]? with
     | none=>rw [q] at e';cases e'
     | some o'=>rw [q] at e';exact D7 some e'
theorem Q2m {σ:St}{map:List (Option Nat)}{j i:Nat}{v:V}(hm:map[j]?=some (some i))(e:σ[i]?=some (some v)):(capt σ map)[j]?=some (some v):=by
 unfold capt
 rw [M1,hm]
 simp [e]
structure DOk (X:Cx)(P0:List (Addr×Obj))(D:Addr):Prop where
 loc:D≠X.env.locals
 fs:D∉X.fs
 cell:∀ x c,X.env.cells.lookup x=some c->c≠D
 sz:X.s₀.heap.objs.size<=D
 pn:∀ p∈X.pn++P0,p.1≠D
abbrev RK (its:List Value)(k:Nat):Obj:={ cls:=.type "list",data:=.seq (List.toArray its) k }
theorem J4e {X:Cx}{P0:List (Addr×Obj)}{σ:St}{map:List (Option Nat)}{H1:Hp}{s:Shared}{D:Addr}{acc0:List V}{its0:List Value}{k0:Nat}{tg elt iter:Expr}{g1:Comprehension}{ifs:List Expr}{scope:Scope}{pos:Pos}{fp:List Addr}{it:Addr}{tn:Nat->Heap->Prop}{J:It}{g:TG}{tt:TT}{te:TE}{W:Nat->Nat->List V->Hp->Prop}{m0:Nat}{Fin:List V->Hp->Prop}
 (calm:X.calm=true) (d:DOk X P0 D) (I:Inv X P0 (capt σ map) H1 s) (hD:H1 D=none) (oD:s.heap.get? D=some (RK its0 k0)) (rv:Vals acc0 its0)
 (T:Turn X.prog X.w X.K tg J fp it tn) (st:tn 0 s.heap) (hf:∀ b∈fp,HF X P0 H1 b) (nD:∀ b∈fp,b≠D)
 (pg:PG X tg g) (pif:PIf X ifs tt) (pel:PE X elt te) (nx:X.xe=fun _ _=>False) (keep:IB g map) (w0:W 0 m0 acc0 H1) (ht:LK J g tt te (capt σ map) Fin W) :
 codeAny (model X.prog X.w) X.A (.compLoop (.ListComp elt [g1,⟨tg,iter,ifs,0⟩] scope pos) 1 (.ref it) (.ref D) X.env) (fun r s'=>r=.ok .next/\∃ acc its k H',Inv X P0 (capt σ map) H' s'/\H' D=none/\s'.heap.get? D=some (RK its k)/\Vals acc its/\Fin acc H') s:=by
 refine XY (fun n s'=>∃ i acc H' its k,Inv X P0 (capt σ map) H' s'/\tn i s'.heap/\(∀ b∈fp,H' b=none)/\H' D=none/\s'.heap.get? D=some (RK its k)/\Vals acc its/\W i n acc H') ?_ m0 ⟨0,acc0,H1,its0,k0,I,st,fun b hb=>(hf b hb).1,hD,oD,rv,w0⟩
 rintro n s5 ⟨i,acc,H5,its,k,I5,st5,fr5,hD5,oD5,rv5,w5⟩
 have pinD:Inv X ((D,RK its k)::P0) (capt σ map) H5 s5:=I5.pins_of fun p hp=>by
  rcases B6.mp hp with e|e
  · subst e;exact ⟨oD5,hD5,d.loc,d.fs,fun v z=>by cases z⟩
  · exact I5.pin p (L5 _ e)
 have f4:∀ {H':Hp},(∀ b∈fp,H' b=none)->∀ b∈fp,HF X ((D,RK its k)::P0) H' b:=fun {H'} hn b hb=>by
  obtain ⟨_,f1,f2,f3,f4,f5⟩:=hf b hb
  refine ⟨hn b hb,f1,f2,f3,f4,fun p hp=>?_⟩
  rcases U7.mp hp with z|z
  · exact f5 p (T9 _ z)
  · rcases B6.mp z with e|e
    · rw [e];exact (nD b hb).symm
    · exact f5 p (L5 _ e)
 have err:∀ {Z:Prop} e s',X.xe e s'->Z:=fun {Z} e s' z=>by rw [nx] at z;exact z.elim
 rcases ht i n acc H5 w5 with ⟨stop,hsz,fin⟩|⟨go,hsz,NN,hNN,step⟩
 · refine thn (T.done X rfl rfl rfl calm i _ s5 (capt σ map) H5 _ pinD (f4 fr5) st5 stop) fun r s6 ⟨hr,I6⟩=>?_
   subst hr
   have pD:=I6.pin (D,RK its k) (L5 _ B8)
   exact ⟨rfl,acc,its,k,H5,I6.pins_of (fun p hp=>I6.pin p (L5 _ (B5 _ hp))),pD.2.1,pD.1,rv5,fin⟩
 · refine thn (T.item X rfl rfl rfl calm i _ s5 (capt σ map) H5 _ pinD (f4 fr5) st5 go) fun r s6 ⟨u,hr,h6⟩=>?_
   subst hr
   refine thn h6 fun _ s7 ⟨x,H7,I7,r7,y7,st7,fr7⟩=>?_
   have I7':=I7.pinned (f4 fr7) (T.obj _ _ st7)
   have stp:=keep _ _ _ _ (step x H7 y7)
   refine W0 (pg _ s7 (capt σ map) H7 x u _ I7' r7 stp) (fun _ s8 ⟨σ8,H8,I8,⟨kl,k8⟩,q8⟩=>?_) fun e s' z=>err e s' z
   refine W0 (pif _ s8 σ8 H8 _ I8 q8) (fun b s9 ⟨H9,I9,q9⟩=>?_) fun e s' z=>err e s' z
   have wk:∀ {σa:St} {Ha:Hp} {sa:Shared},σa=σ8->Inv X (((D,RK its k)::P0)++GT fp s7.heap) σa Ha sa ->
    Inv X P0 (capt σ map) Ha sa/\tn (i+1) sa.heap/\(∀ b∈fp,Ha b=none)/\Ha D=none/\sa.heap.get? D=some (RK its k):=fun {σa Ha sa} ea Ia=>by
    subst ea
    refine ⟨(Ia.pins_of (pins':=P0) fun p hp=>Ia.pin p (L5 _ (T9 _ (B5 _ hp)))).weak kl.symm fun j v e=>?_,T.keep _ _ _ st7 fun b hb o e=>(Ia.pin (b,o) (L5 _ (L5 _ (CA hb e)))).1,fun b hb=>?_,?_,?_⟩
    · obtain ⟨i',hm,_⟩:=QN e
      rw [k8 j i' hm];exact e
    · obtain ⟨o,e,d⟩:=T.obj _ _ st7 b hb
      exact (Ia.pin (b,o) (L5 _ (L5 _ (CA hb e)))).2.1
    · exact (Ia.pin (D,RK its k) (L5 _ (T9 _ B8))).2.1
    · exact (Ia.pin (D,RK its k) (L5 _ (T9 _ B8))).1
   cases b with
   | false =>
     rw [if_neg L9] at q9 ⊢
     obtain ⟨m',hm',w9⟩:=hNN _ _ q9
     obtain ⟨a1,a2,a3,a4,a5⟩:=wk rfl I9
     exact ⟨m',hm',i+1,acc,H9,its,k,a1,a2,a3,a4,a5,rv5,w9⟩
   | true =>
     rw [if_pos rfl] at q9 ⊢
     refine W0 (pel _ s9 σ8 H9 _ I9 q9) (fun v s10 ⟨y,H10,I10,r10,q10⟩=>?_) fun e s' z=>err e s' z
     obtain ⟨m',hm',w10⟩:=hNN _ _ q10
     obtain ⟨a1,a2,a3,a4,a5⟩:=wk rfl I10
     have hl:=rv5.length
     refine wpAny_list_append_plain (items:=List.toArray its) ⟨k,a5⟩ (fun h11 pl11 sb11=>?_) (by simp only [M8];omega)
     obtain ⟨k',e11⟩:=pl11
     refine ⟨m',hm',i+1,acc++[y],H10,its++[v],k',a1.turned (t':=s10.toks) (it:=D) (fun b o hb e=>(sb11.2 b hb).trans e) a4 d.loc (.inr d.sz) d.cell d.pn,T.keep _ _ _ a2 fun b hb o e=>(sb11.2 b (nD b hb)).trans e,a3,a4,?_,rv5.append (.cons r10 .nil),w10⟩
     rw [e11,List.push_toArray]
structure Blk2 (X:Cx)(N':List Str)(scope:Scope)(map mp2:List (Option Nat))(tg tg2 iter2 elt:Expr)(ifs:List Expr)(g:TG)(wi2:TI)(g2:TG)(tt:TT)(te:TE):Prop where
 calm:X.calm=true
 kind:scope.kind=.function
 loc:∀ x∈scope.names,x.2=.local->scope.names.lookup x.1=some .local
 free:(scope.names.all fun p=>!(p.2==NameKind.free)||(X.env.kindOf p.1==some .cell||X.env.kindOf p.1==some .free))=true
 cap:CapOk X scope map N'
 keep:IB g map
 keep2:IB g2 mp2
 ids:SL 0 mp2=true
 sub:FL map mp2=true
 fold:∀ env x,foldedSetIterable iter2 env x=pure x
 run:∀ cells C fp s H,PG (Q7 X N' scope cells C fp s H).nox tg g/\PI (Q7 X N' scope cells C fp s H).nox tg2 iter2 wi2/\PG (Q7 X N' scope cells C fp s H).nox tg2 g2/\PIf (Q7 X N' scope cells C fp s H).nox ifs tt/\PE (Q7 X N' scope cells C fp s H).nox elt te
def J0f (J:It)(g:TG)(mp2:List (Option Nat))(wi2:TI)(g2:TG)(tt:TT)(te:TE)(σc:St)(Fin:List V->Hp->Prop)(W:Nat->Nat->List V->Hp->Prop):Prop :=
 ∀ i m acc H2,W i m acc H2->(J.stop i H2/\acc.length<=sizeLine/\Fin acc H2) \/
  (J.go i H2/\∃ N:List V->Hp->Prop,(∀ acc' H',N acc' H'->∃ m',m'<m/\W (i+1) m' acc' H')/\∀ x H3,J.yld i H2 x H3->g x σc H3 fun σ4 H4=>wi2 σ4 H4 fun J2 H5=>∃ W2:Nat->Nat->List V->Hp->Prop,(∃ m,W2 0 m acc H5)/\LK J2 g2 tt te (capt σ4 mp2) N W2)
section
variable {X:Cx}{elt iter tg tg2 iter2:Expr}{ifs:List Expr}{scope:Scope}{pos:Pos}{N':List Str}{map mp2:List (Option Nat)}{wi wi2:TI}{g g2:TG}{tt:TT}{te:TE}
theorem Blk2.one (B:Blk2 X N' scope map mp2 tg tg2 iter2 elt ifs g wi2 g2 tt te):Blk X N' scope map tg elt ifs (fun _ _ _ _=>False) (fun _ _ _=>False) (fun _ _ _=>False) :=
 ⟨B.calm,B.kind,B.loc,B.free,B.cap,fun _ _ _ _ z=>z.elim,fun _ _ _ _ _=>⟨fun _ _ _ _ _ _ _ _ _ z=>z.elim,fun _ _ _ _ _ _ z=>z.elim,fun _ _ _ _ _ _ z=>z.elim⟩⟩
theorem J8n {pins:List (Addr×Obj)}{σ:St}{H1:Hp}{s2:Shared}{cl:List (Str×Addr)}{fp:List Addr}{it:Addr}{tn:Nat->Heap->Prop}{J:It}{E:Value->Shared->Prop}(I:Inv X pins σ H1 s2)(B:Blk2 X N' scope map mp2 tg tg2 iter2 elt ifs g wi2 g2 tt te)
 (hsub:∀ x c,cl.lookup x=some c->X.env.cells.lookup x=some c) (hhas:∀ x,(x,NameKind.free)∈scope.names->(cl.lookup x).isSome=true)
 (T:Turn X.prog X.w X.K tg J fp it tn) (st:tn 0 s2.heap) (hf:∀ b∈fp,HF X pins H1 b) {Fin:List V->Hp->Prop} {W:Nat->Nat->List V->Hp->Prop} {m0:Nat} (w0:W 0 m0 [] H1) (ht:J0f J g mp2 wi2 g2 tt te (capt σ map) Fin W)
 {RR:Value->Addr->Result->Shared->Prop}
 (hOk:∀ D C acc H' s' m,Inv X pins σ (upd H' D (.lst acc)) s'->H' D=none->s'.heap.Ns C m->upd H' D (.lst acc) C=none->C≠X.env.locals->X.s₀.heap.objs.size<=C->(∀ x c,X.env.cells.lookup x=some c->c≠C)->(∀ p∈X.pn++pins,p.1≠C)->Fin acc H'->RR (.ref D) C (.ok .next) s') :
 wpAny (model X.prog X.w) X.A (newList []) (fun acc s3=>wpAny (model X.prog X.w) X.A (newFunctionEnv scope X.env.globals cl [] X.env.qual none .none (some X.env)) (fun cenv s4 =>
  codeAny (model X.prog X.w) X.A (.compStart (.ListComp elt [⟨tg,iter,[],0⟩,⟨tg2,iter2,ifs,0⟩] scope pos) 0 (.ref it) acc { cenv with scope:=relabel scope X.env }) (RR acc cenv.locals) s4) E s3) E s2:=by
 have fo:∀ b∈fp,∃ o,s2.heap.get? b=some o:=fun b hb=>by obtain ⟨o,e,_⟩:=T.obj 0 _ st b hb;exact ⟨o,e⟩
 refine R9 ?_
 generalize hH2:s2.heap.push { cls:=.type "list",dict:=none,data:=.seq ([]:List Value).toArray }=H2
 have szD:H2.objs.size=s2.heap.objs.size+1:=by rw [<- hH2,D8]
 have kD:∀ b o,s2.heap.get? b=some o->H2.get? b=some o:=fun b o e=>hH2▸B2 _ e
 simp only [newFunctionEnv,Option.isSome_some,if_true]
 refine B0 (wpAny_alloc ?_)
 refine B0 (wpAny_layCells _ (fun name kind cells=>by cases hkc:kind==NameKind.cell<;>simp [hkc]) _ _ _ _ ?_)
 dsimp only
 generalize hH3:H2.push { cls:=.type "dict",dict:=none,data:=.dict #[] }=h3
 have sz3:h3.objs.size=H2.objs.size+1:=by rw [<- hH3,D8]
 have kC:∀ b o,H2.get? b=some o->h3.get? b=some o:=fun b o e=>hH3▸B2 _ e
 have nsC:h3.Ns H2.objs.size fun _=>none:=hH3▸Heap.Ns.new H2 (.type "dict")
 refine B0 (B1 (B1 ?_))
 show codeAny _ _ (.compStart (.ListComp elt [⟨tg,iter,[],0⟩,⟨tg2,iter2,ifs,0⟩] scope pos) 0 (.ref it) (.ref s2.heap.objs.size) (compEnvC scope (cellsFrom h3.objs.size scope.names cl) H2.objs.size X.env)) _ _
 generalize hX':(Q7 X N' scope (cellsFrom h3.objs.size scope.names cl) H2.objs.size fp s2 H1).nox=X'
 have I4:Inv X' [] (capt σ map) H1 { s2 with heap:=pushCells h3 scope.names }:=hX'▸(J1w I B.one.m hsub hhas hf fo H2.objs.size h3 (by rw [szD];exact Nat.le_succ _) (fun b o e=>kC b o (kD b o e)) (by rw [sz3];exact E3 _) nsC s2.toks).wish _
 obtain ⟨pg,pi2,pg2,pif,pel⟩:=B.run (cellsFrom h3.objs.size scope.names cl) H2.objs.size fp s2 H1
 rw [hX'] at pg pi2 pg2 pif pel
 have eprog:X'.prog=X.prog:=by rw [<- hX'];rfl
 have ew:X'.w=X.w:=by rw [<- hX'];rfl
 have eK:X'.K=X.K:=by rw [<- hX'];rfl
 have eA:X'.A=X.A:=by rw [<- hX'];rfl
 have ecalm:X'.calm=true:=by rw [<- hX'];exact B.calm
 have eenv:X'.env=compEnvC scope (cellsFrom h3.objs.size scope.names cl) H2.objs.size X.env:=by rw [<- hX'];rfl
 have exe:X'.xe=fun _ _=>False:=by rw [<- hX']
 have es0:X'.s₀=s2:=by rw [<- hX'];rfl
 have eH0:X'.H₀=H1:=by rw [<- hX'];rfl
 have eex:X'.ex=fp:=by rw [<- hX'];rfl
 have efs:X'.fs=frs X.stack:=by rw [<- hX'];rfl
 have epn:X'.pn=[]:=by rw [<- hX'];rfl
 have eL:X'.env.locals=H2.objs.size:=by rw [eenv];rfl
 generalize hDd:s2.heap.objs.size=D at *
 have fD:∀ b∈fp,b≠D:=fun b hb=>by obtain ⟨o,e⟩:=fo b hb;exact R8 (hDd▸B4 e)
 have nfsD:D∉X'.fs:=fun hb=>by
  rw [efs] at hb
  have h1:=I.stkSub D hb
  rcases B6.mp h1 with z|z
  · have:=I.lt;rw [hDd,<- z] at this;exact M9 _ this
  · exact I.nofs (by rw [hDd];exact L8 _) z
 have ncD:∀ x c,X'.env.cells.lookup x=some c->c≠D:=fun x c e z=>by
  rw [eenv] at e
  rcases XZ _ _ _ x c e with q|q
  · obtain ⟨v,o,ho,_⟩:=I.cell x c (hsub x c q)
    have:=B4 ho
    rw [hDd,z] at this
    exact M9 _ this
  · rw [z,sz3,szD] at q
    exact absurd (M4 (B1j (E3 D)) q) (M9 _)
 have f4:∀ {H':Hp} {pl:List (Addr×Obj)},(∀ b∈fp,H' b=none)->(∀ p∈pl,p.1=D)->∀ b∈fp,HF X' pl H' b:=fun {H' pl} hn hpl b hb=>by
  have q:=hf b hb
  refine ⟨hn b hb,?_,?_,.inl (by rw [eex];exact hb),fun x c e=>?_,fun p hp=>?_⟩
  · rw [eL]
    obtain ⟨o,e⟩:=fo b hb
    have:=B4 e
    rw [hDd] at this
    intro z
    rw [z,szD] at this
    exact absurd (B0n this) (M9 _)
  · have:=I4.ok.exfs b (by rw [eex];exact hb)
    exact this
  · exact (I4.ok.exf b (by rw [eex];exact hb)).2 x c e
  · rw [epn] at hp
    have hp:p∈pl:=by simpa using hp
    rw [hpl p hp]
    exact (fD b hb).symm
 have noCell:∀ {its:Array Value} {n:Nat} (v:Option Value),({ cls:=.type "list",data:=.seq its n }:Obj).data≠.cell v:=fun v z=>by cases z
 have hD4:(pushCells h3 scope.names).get? D=some { cls:=.type "list",data:=.seq ([]:List Value).toArray 0 }:=B0y _ _ _ _ (kC _ _ (by rw [<- hH2,<- hDd];exact L7 _ rfl))
 have loop:codeAny (model X.prog X.w) X.A (.compLoop (.ListComp elt [⟨tg,iter,[],0⟩,⟨tg2,iter2,ifs,0⟩] scope pos) 0 (.ref it) (.ref D) (compEnvC scope (cellsFrom h3.objs.size scope.names cl) H2.objs.size X.env)) (RR (.ref D) H2.objs.size) { s2 with heap:=pushCells h3 scope.names }:=by
  refine UZ (fun n s'=>∃ i acc H' its k,Inv X' [] (capt σ map) H' s'/\tn i s'.heap/\(∀ b∈fp,H' b=none)/\H' D=none/\s'.heap.get? D=some { cls:=.type "list",data:=.seq (List.toArray its) k }/\Vals acc its/\W i n acc H') (B.fold _) ?_ m0
   ⟨0,[],H1,[],0,I4,T.keep _ _ _ st fun b hb o e=>B0y _ _ _ _ (kC _ _ (kD _ _ e)),fun b hb=>(hf b hb).1,I.hok.fresh (by rw [hDd];exact L8 _),hD4,.nil,w0⟩
  rintro n s5 ⟨i,acc,H5,its,k,I5,st5,fr5,hD5,oD5,rv5,w5⟩
  have pinD:Inv X' [(D,{ cls:=.type "list",data:=.seq (List.toArray its) k })] (capt σ map) H5 s5:=I5.pins_of fun p hp=>by
   have e:p=(D,{ cls:=.type "list",data:=.seq (List.toArray its) k }):=by simpa using hp
   subst e
   refine ⟨oD5,hD5,?_,nfsD,fun v=>noCell v⟩
   rw [eL,szD]
   exact R8 (E3 _)
  have plD:∀ p∈[(D,({ cls:=.type "list",data:=.seq (List.toArray its) k }:Obj))],p.1=D:=fun p hp=>by
   have e:p=(D,{ cls:=.type "list",data:=.seq (List.toArray its) k }):=by simpa using hp
   rw [e]
  have err:∀ {Z:Prop} e s',X'.xe e s'->Z:=fun {Z} e s' z=>by rw [exe] at z;exact z.elim
  rcases ht i n acc H5 w5 with ⟨stop,hsz,fin⟩|⟨go,NN,hNN,step⟩
  · have dn:=T.done X' eprog ew eK ecalm i _ s5 (capt σ map) H5 (fun _ _=>False) pinD (f4 fr5 plD) st5 stop
    rw [eA] at dn
    refine thn dn fun r s6 ⟨hr,I6⟩=>?_
    subst hr
    obtain ⟨oD6,hD6,_⟩:=I6.pin (D,_) (by rw [epn];exact B8)
    obtain ⟨m,nsm,_⟩:=I6.loc
    rw [eL] at nsm
    have un:=I6.base
    rw [efs,eex,eH0,es0] at un
    have hok:=I6.hok
    rw [eprog,ew] at hok
    have os6:=I6.os
    rw [es0] at os6
    have fC:H5 H2.objs.size=none:=by rw [<- eL];exact I6.free
    have nDC:H2.objs.size≠D:=by rw [szD];exact B1e (E3 _)
    refine hOk D H2.objs.size acc H5 s6 m (I.call' (ch:=fp) os6 ?_ ?_ I6.bare fun b hb=>?_) hD5 nsm (by rw [V4 nDC];exact fC) ?_ ?_ ?_ ?_ fin
    · refine ⟨un.keep,un.slot,fun b o e n hx=>?_,un.there,fun b xs e=>?_,fun b o u e=>?_,fun b ps e=>?_⟩
      · rw [V4 (R8 (hDd▸B4 e))]
        exact un.free b o e n hx
      · have:=un.tups b xs e
        rw [V4 (V9 this hD5)]
        exact this
      · have:=un.frzs b o u e
        rw [V4 (V9 this hD5)]
        exact this
      · obtain ⟨more,this⟩:=un.tbls b ps e
        exact ⟨more,by rw [V4 (V9 this hD5)];exact this⟩
    · intro b o e
      by_cases hb:b=D
      · subst hb
        rw [V5] at e
        cases e
        exact ⟨hsz,its,k,rv5,oD6⟩
      · rw [V4 hb] at e
        exact (hok b o e).stay (fun _ _ _ q=>q) (fun c q=>by rw [V4 (V9 q hD5)];exact q) fun c xs q=>by rw [V4 (V9 q hD5)];exact q
    · obtain ⟨f0,f1,f2,f3,f4',f5⟩:=hf b hb
      exact ⟨f3,f1,f4',f5⟩
    · have:=I.lt
      rw [hDd] at this
      intro z
      rw [<- z,szD] at this
      exact absurd (B0n this) (M9 _)
    · have:=I.sz
      rw [hDd] at this
      omega
    · intro x c e z
      obtain ⟨v,o,ho,_⟩:=I.cell x c e
      have:=B4 ho
      rw [hDd,z,szD] at this
      exact absurd (B0n this) (M9 _)
    · intro p hp z
      have:=B4 (I.pin p hp).1
      rw [hDd,z,szD] at this
      exact absurd (B0n this) (M9 _)
  · have im:=T.item X' eprog ew eK ecalm i _ s5 (capt σ map) H5 (fun _ _=>False) pinD (f4 fr5 plD) st5 go
    rw [eA] at im
    refine thn im fun r s6 ⟨u,hr,h6⟩=>?_
    subst hr
    refine thn h6 fun _ s7 ⟨x,H7,I7,r7,y7,st7,fr7⟩=>?_
    have I7':=I7.pinned (f4 fr7 plD) (T.obj _ _ st7)
    have stp:=B.keep _ _ _ _ (step x H7 y7)
    have pgx:=pg _ s7 (capt σ map) H7 x u _ I7' r7 stp
    rw [eprog,ew,eA,eenv] at pgx
    refine W0 pgx (fun _ s8 ⟨σ8,H8,I8,⟨kl,k8⟩,q8⟩=>?_) fun e s' z=>err e s' z
    have pix:=pi2 _ s8 σ8 H8 _ I8 q8
    rw [eprog,ew,eA,eenv] at pix
    refine W0 pix (fun v s9 h9=>W0 h9 (fun itv s10 h10=>?_) fun e s' z=>err e s' z) fun e s' z=>err e s' z
    obtain ⟨it2,fp2,tn2,J2,H10,e,I10,T2,st10,f10,W2,⟨m2,w10⟩,tr2⟩:=h10
    subst e
    have pD10:=I10.pin (D,{ cls:=.type "list",data:=.seq (List.toArray its) k }) (L5 _ (T9 _ B8))
    have dk:DOk X' (GT fp s7.heap) D:=⟨by rw [eL,szD];exact R8 (E3 _),nfsD,ncD,by rw [es0,hDd];exact L8 _,fun p hp=>by
     rw [epn] at hp
     exact fD p.1 (SE (by simpa using hp)).1⟩
    have len8:(capt σ8 mp2).length=σ8.length:=by
     have h1:=JB B.sub
     have h2:(capt σ map).length=map.length:=by unfold capt;rw [B9]
     have h3:(capt σ8 mp2).length=mp2.length:=by unfold capt;rw [B9]
     omega
    have I11:Inv X' (GT fp s7.heap) (capt σ8 mp2) H10 s10:=(I10.pins_of (pins':=GT fp s7.heap) fun p hp=>I10.pin p (L5 _ (L5 _ hp))).weak len8 fun j v e=>by
     obtain ⟨i',hm,e'⟩:=QN e
     have:i'=j:=by have:=IL B.ids j i' hm;omega
     rw [<- this];exact e'
    have run:=J4e (g1:=⟨tg,iter,[],0⟩) (iter:=iter2) (scope:=scope) (pos:=pos) (X:=X') (σ:=σ8) (map:=mp2) (by rw [ecalm]) dk I11 pD10.2.1 pD10.1 rv5 T2 st10 (fun b hb=>by
     obtain ⟨z0,z1,z2,z3,z4,z5⟩:=f10 b hb
     exact ⟨z0,z1,z2,z3,z4,fun p hp=>(U7.mp hp).elim (fun q=>z5 p (T9 _ q)) fun q=>z5 p (L5 _ (L5 _ q))⟩) (fun b hb=>by
     obtain ⟨z0,z1,z2,z3,z4,z5⟩:=f10 b hb
     exact (z5 (D,{ cls:=.type "list",data:=.seq (List.toArray its) k }) (L5 _ (T9 _ B8))).symm) pg2 pif pel exe B.keep2 w10 tr2
    rw [eprog,ew,eA,eenv] at run
    have run':=B3b (R':=fun r s'=>r=.ok .next/\∃ m,m<n/\∃ i acc H' its k,Inv X' [] (capt σ map) H' s'/\tn i s'.heap/\(∀ b∈fp,H' b=none)/\H' D=none/\s'.heap.get? D=some { cls:=.type "list",data:=.seq (List.toArray its) k }/\Vals acc its/\W i m acc H') run fun r s' q=>by
     obtain ⟨rfl,acc',its',k',H',I',hD',oD',rv',nn⟩:=q
     obtain ⟨m',hm',w'⟩:=hNN _ _ nn
     refine ⟨rfl,m',hm',i+1,acc',H',its',k',(I'.pins_of (pins':=[]) fun p hp=>absurd hp (by simp)).weak (by rw [len8,kl]) fun j v e=>?_,T.keep _ _ _ st7 fun b hb o e=>(I'.pin (b,o) (L5 _ (CA hb e))).1,fun b hb=>?_,hD',oD',rv',w'⟩
     · obtain ⟨i',hm,_⟩:=QN e
       obtain ⟨i2,hm2⟩:=JC B.sub j i' hm
       have:i2=j:=by have:=IL B.ids j i2 hm2;omega
       subst this
       exact Q2m hm2 (by rw [k8 _ i' hm];exact e)
     · obtain ⟨o,e,d⟩:=T.obj _ _ st7 b hb
       exact (I'.pin (b,o) (L5 _ (CA hb e))).2.1
    have sf:=fun Q E=>T2.self X'.A 0 s10 Q E st10
    rw [eprog,ew,eA] at sf
    exact UY run' (sf _ _ run')
 exact codeAny_compStart_list loop (T.self _ 0 _ _ _ (T.keep _ _ _ st fun b hb o e=>B0y _ _ _ _ (kC _ _ (kD _ _ e))) loop)
theorem Blk2.clos {pins:List (Addr×Obj)}{σ:St}{H:Hp}{s:Shared}(B:Blk2 X N' scope map mp2 tg tg2 iter2 elt ifs g wi2 g2 tt te)(I:Inv X pins σ H s) :
 ∃ cl,closureFor scope X.env=pure cl/\(∀ x c,cl.lookup x=some c->X.env.cells.lookup x=some c)/\∀ x,(x,NameKind.free)∈scope.names->(cl.lookup x).isSome=true:=B.one.clos I
noncomputable def Q4o (wi:TI)(map mp2:List (Option Nat))(g:TG)(wi2:TI)(g2:TG)(tt:TT)(te:TE):TE:=fun σ H Q=>wi σ H fun J H1=>∃ W:Nat->Nat->List V->Hp->Prop,(∃ m,W 0 m [] H1) /\
 J0f J g mp2 wi2 g2 tt te (capt σ map) (fun acc H'=>∀ D,H' D=none->Q (.ref D) (upd H' D (.lst acc))) W
theorem WN (B:Blk2 X N' scope map mp2 tg tg2 iter2 elt ifs g wi2 g2 tt te)(hi:PI X tg iter wi)(hs:∀ x,foldedSetIterable iter X.env x=pure x:=by intro _;rfl):PE X (.ListComp elt [⟨tg,iter,[],0⟩,⟨tg2,iter2,ifs,0⟩] scope pos) (Q4o wi map mp2 g wi2 g2 tt te):=by
 intro pins s σ H Q I h
 obtain ⟨cl,hcl,hsub,hhas⟩:=B.clos I
 rw [eval_ListComp]
 refine B1z (use:=none) rfl hs hcl B.kind B.loc (thn (hi pins s σ H _ I h) fun v s1 h1=>thn h1 fun itv s2 h2=>?_)
 obtain ⟨it,fp,tn,J,H2,e,I2,T,st2,f2,W,⟨m0,w0⟩,turn⟩:=h2
 subst e
 refine J8n (RR:=fun acc C=>compPost (model X.prog X.w) X.A X.xe none (EP X pins σ Q) acc C) I2 B hsub hhas T st2 f2 w0 turn fun D C acc H' s' m I' hD nsm fC c1 c2 c3 c4 fin=>?_
 refine ⟨m,nsm,fun h' sb=>⟨.ref D,_,?_,rfl,fin D hD⟩⟩
 exact I'.turned (t':=s'.toks) (fun b o hb e=>(sb.2 b hb).trans e) fC c1 (.inr c2) c3 c4
end
inductive compG (gd:D->Ev->(Ev->Prop)->Prop)(dt:DT)(de:DE)(ρc:Ev)(items acc0:List D)(P:List D->Prop):Prop
 | mk (I:Nat->List D->Prop) (h0:I 0 acc0) (hs:∀ (i:Nat) x acc,items[i]?=some x->I i acc->gd x ρc fun ρ1=>dt ρ1 fun c=>IfP c (de ρ1 fun y=>plain y=true/\I (i+1) (acc++[y])) (I (i+1) acc)) (hd:∀ acc,I items.length acc->P acc):compG gd dt de ρc items acc0 P
inductive compI2 (gd:D->Ev->(Ev->Prop)->Prop)(mp2:List (Option Nat))(di2:DA)(gd2:D->Ev->(Ev->Prop)->Prop)(dt:DT)(de:DE)(ρc:Ev)(items:List D)(P:List D->Prop):Prop
 | mk (I:Nat->List D->Prop) (h0:I 0 []) (hs:∀ (i:Nat) x acc,items[i]?=some x->I i acc->gd x ρc fun ρ1=>di2 ρ1 fun ys=>ys.length<=1000/\compG gd2 dt de (HH ρ1 mp2) ys acc (I (i+1))) (hd:∀ acc,I items.length acc->P acc):compI2 gd mp2 di2 gd2 dt de ρc items P
noncomputable def Q7l (map mp2:List (Option Nat))(gd:D->Ev->(Ev->Prop)->Prop)(di:DA)(gd2:D->Ev->(Ev->Prop)->Prop)(di2:DA)(dt:DT)(de:DE):DE:=fun ρ P=>di ρ fun items=>items.length<=1000/\compI2 gd mp2 di2 gd2 dt de (HH ρ map) items fun acc=>P (.lst acc)
noncomputable def Q2f (map mp2:List (Option Nat))(gd:D->Ev->(Ev->Prop)->Prop)(di:DA)(gd2:D->Ev->(Ev->Prop)->Prop)(di2:DA)(dt:DT)(de:DE):DS:=fun F ρ=>di ρ fun items=>items.length<=1000/\compI2 gd mp2 di2 gd2 dt de (HH ρ map) items fun acc=>F.ro acc
theorem leM:2000000<=sizeLine:=by rw [sizeLine_eq];decide
theorem XV {W:Wd}{pn:List (D×V)}{M:Addr->Prop}{b:Option Addr}{H:Hp}{σ:St}{ρ:Ev}{J:It}{need:List (D×V)}{items ds0:List D}{acc0:List V}{g:TG}{gd:D->Ev->(Ev->Prop)->Prop}{dt:DT}{de:DE}{P:List D->Prop}{Fin:List V->Hp->Prop}
 (hG:GD W g gd) (st:Sta W pn M b H σ ρ) (hp:items.all plain=true) (hI:KC W J need items) (hn:∀ q∈need,RepX W M b H q.1 q.2) (r0:Reps W.K M H ds0 acc0) (hl:acc0.length+items.length<=2000000) (h:compG gd dt de ρ items ds0 P)
 (fin:∀ ds acc H',P ds->Reps W.K M H' ds acc->acc.length<=acc0.length+items.length->Kp b H H'->okB W.B b H'->Fin acc H'):∃ Wf:Nat->Nat->List V->Hp->Prop,(∃ m,Wf 0 m acc0 H)/\LK J g (dnT W dt) (dn W de) σ Fin Wf:=by
 obtain ⟨I,i0,istep,idone⟩:=h
 refine ⟨fun i m acc H2=>m=items.length - i/\i<=items.length/\acc.length<=acc0.length+i/\Kp b H H2/\okB W.B b H2/\∃ ds,Reps W.K M H2 ds acc/\I i ds,⟨items.length,by simp,D2 _,L8 _,Kp.refl _ _,st.ok,ds0,r0,i0⟩,?_⟩
 rintro i m acc H2 ⟨rfl,hi,ha,k2,o2,ds,r,q⟩
 have st2:=st.step k2 o2
 obtain ⟨hgo,hstop⟩:=hI M b H2 st2.toHs fun q hq=>(hn q hq).step st.bagM k2
 by_cases hlt:i<items.length
 · have ei:items[i]?=some items[i]:=M5 hlt
   replace q:=istep i _ ds ei q
   refine .inr ⟨(hgo i _ ei).1,by have:=leM;omega,fun acc' H'=>acc'.length<=acc0.length+(i+1)/\Kp b H H'/\okB W.B b H'/\∃ ds,Reps W.K M H' ds acc'/\I (i+1) ds,fun acc' H' n=>⟨items.length - (i+1),by omega,rfl,hlt,n⟩,fun x H3 y=>?_⟩
   obtain ⟨S3,rx⟩:=(hgo i _ ei).2 x H3 y
   have o3:okB W.B b H3:=fun p e=>W.B.st p H2 H3 (o2 p e) fun o e'=>S3 p o e'
   have k3:Kp b H2 H3:=Kp.same S3
   have st3:=st2.step k3 o3
   refine hG pn M b H3 σ ρ items[i] x _ _ st3 rx (E5.mp hp _ (W5 hlt)) q fun ρ1 σ1 h1 st4 _=>?_
   refine ⟨pn,M,b,ρ1,_,st4,h1,fun c H5 h5 k5 o5=>?_⟩
   cases h5 with
   | t e h5 =>
     rw [if_pos e]
     refine ⟨pn,M,b,ρ1,_,st4.step k5 o5,h5,fun y v H6 h6 ry k6 o6=>?_⟩
     have kk:=((k3.trans k5).trans k6)
     refine ⟨by simp;omega,k2.trans kk,o6,ds++[y],Reps.append (Reps.keep (fun c o n e=>kk c o (fun z=>n (st.bagM c z)) e) _ _ r) ⟨v,[],rfl,ry.rep h6.1,rfl⟩,h6.2⟩
   | f e h5 =>
     rw [if_neg (by rw [e];exact L9)]
     have kk:=k3.trans k5
     exact ⟨by omega,k2.trans kk,o5,ds,Reps.keep (fun c o n e=>kk c o (fun z=>n (st.bagM c z)) e) _ _ r,h5⟩
 · have e:i=items.length:=by omega
   subst e
   exact .inl ⟨hstop _ (L8 _),by have:=leM;omega,fin ds acc H2 (idone _ q) r ha k2 o2⟩
theorem NC {W:Wd}{pn:List (D×V)}{M:Addr->Prop}{b:Option Addr}{H:Hp}{σ:St}{ρ:Ev}{J:It}{need:List (D×V)}{items:List D}{g g2:TG}{gd gd2:D->Ev->(Ev->Prop)->Prop}{mp2:List (Option Nat)}{di2:DA}{dt:DT}{de:DE}{P:List D->Prop}{Fin:List V->Hp->Prop}
 (hG:GD W g gd) (hG2:GD W g2 gd2) (st:Sta W pn M b H σ ρ) (hp:items.all plain=true) (hI:KC W J need items) (hn:∀ q∈need,RepX W M b H q.1 q.2) (hl:items.length<=1000) (h:compI2 gd mp2 di2 gd2 dt de ρ items P)
 (fin:∀ ds acc H',P ds->Reps W.K M H' ds acc->acc.length<=sizeLine->Kp b H H'->okB W.B b H'->Fin acc H'):∃ Wf:Nat->Nat->List V->Hp->Prop,(∃ m,Wf 0 m [] H)/\J0f J g mp2 (dnI W false di2) g2 (dnT W dt) (dn W de) σ Fin Wf:=by
 obtain ⟨I,i0,istep,idone⟩:=h
 refine ⟨fun i m acc H2=>m=items.length - i/\i<=items.length/\acc.length<=1000*i/\Kp b H H2/\okB W.B b H2/\∃ ds,Reps W.K M H2 ds acc/\I i ds,⟨items.length,by simp,D2 _,L8 _,Kp.refl _ _,st.ok,[],rfl,i0⟩,?_⟩
 rintro i m acc H2 ⟨rfl,hi,ha,k2,o2,ds,r,q⟩
 have st2:=st.step k2 o2
 obtain ⟨hgo,hstop⟩:=hI M b H2 st2.toHs fun q hq=>(hn q hq).step st.bagM k2
 by_cases hlt:i<items.length
 · have ei:items[i]?=some items[i]:=M5 hlt
   replace q:=istep i _ ds ei q
   refine .inr ⟨(hgo i _ ei).1,fun acc' H'=>acc'.length<=1000*(i+1)/\Kp b H H'/\okB W.B b H'/\∃ ds,Reps W.K M H' ds acc'/\I (i+1) ds,fun acc' H' n=>⟨items.length - (i+1),by omega,rfl,hlt,n⟩,fun x H3 y=>?_⟩
   obtain ⟨S3,rx⟩:=(hgo i _ ei).2 x H3 y
   have o3:okB W.B b H3:=fun p e=>W.B.st p H2 H3 (o2 p e) fun o e'=>S3 p o e'
   have k3:Kp b H2 H3:=Kp.same S3
   have st3:=st2.step k3 o3
   refine hG pn M b H3 σ ρ items[i] x _ _ st3 rx (E5.mp hp _ (W5 hlt)) q fun ρ1 σ1 h1 st4 _=>?_
   refine ⟨pn,M,b,ρ1,_,st4,h1,fun ys J2 need2 H5 hys hp2 hI2 hn2 k5 o5=>?_⟩
   have st5:=(st4.step k5 o5).capt mp2
   have kk:=k3.trans k5
   have hy:=hys.1
   exact XV hG2 st5 hp2 hI2 (fun q hq=>(hn2 q hq).1) (Reps.keep (fun c o n e=>kk c o (fun z=>n (st.bagM c z)) e) _ _ r) (by omega) hys.2 fun ds acc H' hP r hl' k o=>⟨by omega,(k2.trans kk).trans k,o,ds,r,hP⟩
 · have e:i=items.length:=by omega
   subst e
   exact .inl ⟨hstop _ (L8 _),by have:=leM;omega,fin ds acc H2 (idone _ q) r (by have:=leM;omega) k2 o2⟩
section
variable {X:Cx}{W:Wd}{elt iter tg tg2 iter2:Expr}{ifs:List Expr}{scope:Scope}{pos:Pos}{N':List Str}{map mp2:List (Option Nat)}{g g2:TG}{gd gd2:D->Ev->(Ev->Prop)->Prop}{di di2:DA}{dt:DT}{de:DE}
theorem MG (hG:GD W g gd)(hG2:GD W g2 gd2)(B:Blk2 X N' scope map mp2 tg tg2 iter2 elt ifs g (dnI W false di2) g2 (dnT W dt) (dn W de))(hi:JI X W false tg iter di)(hs:∀ x,foldedSetIterable iter X.env x=pure x:=by intro _;rfl):JE X W (.ListComp elt [⟨tg,iter,[],0⟩,⟨tg2,iter2,ifs,0⟩] scope pos) (Q7l map mp2 gd di gd2 di2 dt de):=⟨(WN B hi.h hs).mono fun σ H Q hh=>hh.elim fun pn M b ρ P st h k=>by
 refine ⟨pn,M,b,ρ,_,st,h,fun items J need H1 hx hp hI hn k1 o1=>?_⟩
 have st1:=st.step k1 o1
 refine NC hG hG2 (st1.capt map) hp hI (fun q hq=>(hn q hq).1) hx.1 hx.2 fun ds acc H' hP r hl k2 o2 D hD=>?_
 exact k _ _ _ hP (DY (st1.step k2 o2).toHs r hD) ((k1.trans k2).trans (Kp.upd hD)) ((st1.step k2 o2).okU hD)⟩
theorem ZR {cpos:Pos}(hG:GD W g gd)(hG2:GD W g2 gd2)(B:Blk2 X N' scope map mp2 tg tg2 iter2 elt ifs g (dnI W false di2) g2 (dnT W dt) (dn W de))(hi:JI X W false tg iter di)(hs:∀ x,foldedSetIterable iter X.env x=pure x:=by intro _;rfl):JS X W (.Return (some (.ListComp elt [⟨tg,iter,[],0⟩,⟨tg2,iter2,ifs,0⟩] scope cpos)) pos) (Q2f map mp2 gd di gd2 di2 dt de):=⟨(DB (WN B hi.h hs)).mono fun E σ H hh=>hh.elim fun pn M b ρ F s l h=>by
 refine ⟨pn,M,b,ρ,_,s.toSta,h,fun items J need H1 hx hp hI hn k1 o1=>?_⟩
 have s1:=s.step k1 o1
 refine NC hG hG2 (s1.toSta.capt map) hp hI (fun q hq=>(hn q hq).1) hx.1 hx.2 fun ds acc H' hP r hl k2 o2 q hq=>?_
 exact Q0e (s1.step k2 o2).toSta l hq r hP⟩
theorem J1x (calm:X.calm=true) (kind:scope.kind=.function) (loc:∀ x∈scope.names,x.2=.local->scope.names.lookup x.1=some .local) (free:(scope.names.all fun p=>!(p.2==NameKind.free)||(X.env.kindOf p.1==some .cell||X.env.kindOf p.1==some .free))=true) (cap:CapOk X scope map N') (keep:IB g map) (keep2:IB g2 mp2) (ids:SL 0 mp2=true) (sub:FL map mp2=true)
 (run:∀ cells C fp s H,PG (Q7 X N' scope cells C fp s H).nox tg g/\JI (Q7 X N' scope cells C fp s H).nox W false tg2 iter2 di2/\PG (Q7 X N' scope cells C fp s H).nox tg2 g2/\JIf (Q7 X N' scope cells C fp s H).nox W ifs dt/\JE (Q7 X N' scope cells C fp s H).nox W elt de)
 (fold:∀ env x,foldedSetIterable iter2 env x=pure x:=by intro _ _;rfl):Blk2 X N' scope map mp2 tg tg2 iter2 elt ifs g (dnI W false di2) g2 (dnT W dt) (dn W de) :=
 ⟨calm,kind,loc,free,cap,keep,keep2,ids,sub,fold,fun cells C fp s H=>by
  obtain ⟨a,b,c,d,e⟩:=run cells C fp s H
  exact ⟨a,b.h,c,d.h,e.h⟩⟩
end
def RowsR (K:Fg)(M:Addr->Prop)(H:Hp):List Addr->List (List D)->Prop
 | [],rows=>rows=[]
 | r::rs,rows=>∃ row rest us,rows=row::rest/\H r=some (.lst us)/\Reps K M H row us/\RowsR K M H rs rest
section
variable {K:Fg}{M M':Addr->Prop}{H H':Hp}
theorem RowsR.keep:∀ (rs:List Addr) (rows:List (List D)),(∀ c o,(¬ M c\/c∈rs)->H c=some o->H' c=some o)->RowsR K M H rs rows->RowsR K M H' rs rows
 | [],_,_,h=>h
 | r::rs,rows,k,h=>by
   obtain ⟨row,rest,us,e,h1,h2,h3⟩:=h
   exact ⟨row,rest,us,e,k _ _ (.inr (B8 ..)) h1,Reps.keep (fun c o n e=>k c o (.inl n) e) _ _ h2,RowsR.keep rs rest (fun c o q e=>k c o (q.imp id (B5 _)) e) h3⟩
theorem RowsR.avoid (k:∀ c,M' c->M c\/H c=none):∀ (rs:List Addr) (rows:List (List D)),RowsR K M H rs rows->RowsR K M' H rs rows
 | [],_,h=>h
 | r::rs,rows,h=>by
   obtain ⟨row,rest,us,e,h1,h2,h3⟩:=h
   exact ⟨row,rest,us,e,h1,Reps.avoid k _ _ h2,RowsR.avoid k rs rest h3⟩
theorem RowsR.length:∀ {rs:List Addr} {rows:List (List D)},RowsR K M H rs rows->rows.length=rs.length
 | [],_,h=>by rw [show _=[] from h];rfl
 | r::rs,rows,h=>by
   obtain ⟨row,rest,us,rfl,h1,h2,h3⟩:=h
   simp [RowsR.length h3]
theorem RowsR.lst:∀ {rs:List Addr} {rows:List (List D)},RowsR K M H rs rows->∀ r∈rs,∃ us,H r=some (.lst us)
 | [],_,_,r,m=>by cases m
 | r::rs,rows,h,r',m=>by
   obtain ⟨row,rest,us,rfl,h1,h2,h3⟩:=h
   rcases B6.mp m with z|z
   · rw [z];exact ⟨us,h1⟩
   · exact RowsR.lst h3 r' z
theorem RowsR.at:∀ {rs:List Addr} {rows:List (List D)} {k:Nat} {r:Addr},RowsR K M H rs rows->rs[k]?=some r->∃ row us,rows[k]?=some row/\H r=some (.lst us)/\Reps K M H row us
 | [],_,_,_,_,e=>by simp at e
 | _::rs,rows,0,r,h,e=>by
   obtain ⟨row,rest,us,rfl,h1,h2,h3⟩:=h
   simp at e;subst e
   exact ⟨row,us,rfl,h1,h2⟩
 | _::rs,rows,k+1,r,h,e=>by
   obtain ⟨row,rest,us,rfl,h1,h2,h3⟩:=h
   obtain ⟨row',us',e1,e2⟩:=RowsR.at (k:=k) h3 (by simpa using e)
   exact ⟨row',us',by simpa using e1,e2⟩
theorem RowsR.set:∀ {rs:List Addr} {rows:List (List D)} {k:Nat} {r:Addr} {row:List D} {us:List V},rs.Nodup->(∀ c∈rs,M c)->RowsR K M H rs rows->rs[k]?=some r->Reps K M H row us->RowsR K M (upd H r (.lst us)) rs (rows.set k row)
 | [],_,_,_,_,_,_,_,_,e,_=>by simp at e
 | r0::rs,rows,0,r,row,us,nd,hm,h,e,hr=>by
   obtain ⟨row0,rest,us0,rfl,h1,h2,h3⟩:=h
   simp at e;subst e
   have kk:∀ c o,¬ M c->H c=some o->upd H r0 (.lst us) c=some o:=fun c o n q=>by rw [V4 (fun z=>n (by rw [z];exact hm r0 (B8 ..)))];exact q
   refine ⟨row,rest,us,rfl,V5,Reps.keep kk _ _ hr,RowsR.keep rs rest (fun c o q e=>?_) h3⟩
   rcases q with q|q
   · exact kk c o q e
   · rw [V4 (fun z=>(R7.mp nd).1 (by rw [<- z];exact q))];exact e
 | r0::rs,rows,k+1,r,row,us,nd,hm,h,e,hr=>by
   obtain ⟨row0,rest,us0,rfl,h1,h2,h3⟩:=h
   have er:rs[k]?=some r:=by simpa using e
   have ne:r0≠r:=fun z=>(R7.mp nd).1 (by rw [z];exact L4 er)
   have kk:∀ c o,¬ M c->H c=some o->upd H r (.lst us) c=some o:=fun c o n q=>by rw [V4 (fun z=>n (by rw [z];exact hm r (B5 _ (L4 er))))];exact q
   exact ⟨row0,rest.set k row,us0,rfl,by rw [V4 ne];exact h1,Reps.keep kk _ _ h2,RowsR.set (R7.mp nd).2 (fun c m=>hm c (B5 _ m)) h3 er hr⟩
theorem RowsR.reps {A:List Addr}:∀ (rs:List Addr) (rows:List (List D)),(∀ r∈rs,r∈A)->RowsR K M H rs rows->Reps K (fun c=>M c/\c∉A) H (rows.map D.lst) (rs.map V.ref)
 | [],rows,_,h=>by rw [show rows=[] from h];exact rfl
 | r::rs,rows,hA,h=>by
   obtain ⟨row,rest,us,rfl,h1,h2,h3⟩:=h
   exact ⟨.ref r,_,rfl,⟨r,us,rfl,⟨fun m=>m.2 (hA r (B8 ..)),h1⟩,Reps.avoid (fun c m=>.inl m.1) _ _ h2⟩,RowsR.reps rs rest (fun c m=>hA c (B5 _ m)) h3⟩
end
def MY (K:Fg)(a:Addr)(rs:List Addr)(rows:List (List D)):Frg where
 ads:=a::rs
 R:=fun M H v=>v=.ref a/\(a::rs).Nodup/\H a=some (.lst (rs.map V.ref))/\RowsR K M H rs rows
 keep:=fun M H H' v k h=>⟨h.1,h.2.1,k _ _ (.inr (B8 ..)) h.2.2.1,RowsR.keep rs rows (fun c o q e=>k c o (q.imp id (B5 _)) e) h.2.2.2⟩
 avoid:=fun M M' H v k h=>⟨h.1,h.2.1,h.2.2.1,RowsR.avoid k rs rows h.2.2.2⟩
 ref:=fun M H v h=>⟨a,h.1⟩
 nt:=fun M H v h c m=>by
  rcases B6.mp m with z|z
  · rw [z];exact ⟨_,h.2.2.1,fun _ y=>by cases y⟩
  · obtain ⟨us,e⟩:=h.2.2.2.lst c z
    exact ⟨_,e,fun _ y=>by cases y⟩
def EA (rows:List (List D)):D:=.lst (rows.map D.lst)
def grd (K:Fg)(a:Addr)(rs:List Addr)(rows:List (List D)):D:=.frg (MY K a rs rows) (EA rows)
theorem J1l {W:Wd} {H:Hp}{a:Addr}{rs:List Addr}{rows:List (List D)}(ho:∀ c∈a::rs,M c/\b≠some c/\W.H0 c=none/\¬ W.M0 c)(nd:(a::rs).Nodup)(ha:H a=some (.lst (rs.map V.ref)))(hr:RowsR W.K M H rs rows):RepX W M b H (grd W.K a rs rows) (.ref a) :=
 ⟨ho,⟨rfl,nd,ha,hr⟩,⟨a,_,rfl,⟨fun m=>m.2 (B8 ..),ha⟩,RowsR.reps (A:=a::rs) rs rows (fun r m=>B5 _ m) hr⟩⟩
theorem J7c {W:Wd} {H:Hp}{a:Addr}{rs:List Addr}{rows:List (List D)}{v:V}(h:RepX W M b H (grd W.K a rs rows) v):v=.ref a/\(∀ c∈a::rs,M c/\b≠some c/\W.H0 c=none/\¬ W.M0 c)/\(a::rs).Nodup/\H a=some (.lst (rs.map V.ref))/\RowsR W.K M H rs rows:=⟨h.2.1.1,h.1,h.2.1.2.1,h.2.1.2.2.1,h.2.1.2.2.2⟩
theorem StS.setFrg {W:Wd}{pn:List (D×V)} {H:Hp}{σ:St}{ρ:Ev}{f f':Frg}{d d':D}{v:V}{a:Addr}{o:HO}(s:StS W pn M b H σ ρ)(i:Nat)(e:ρ[i]?=some (some (.frg f d)))(ev:σ[i]?=some (some v))(ha:a∈f.ads)(hads:∀ c,c∈f'.ads->c∈f.ads)(r:RepX W M b (upd H a o) (.frg f' d') v) :
 StS W pn M b (upd H a o) σ (ρ.set i (some (.frg f' d'))):=by
 obtain ⟨v0,e1,r0⟩:=s.env i _ e
 rw [ev] at e1;cases e1
 obtain ⟨m1,m2,m3,m4⟩:=r0.1 a ha
 have kk:∀ c u,¬ M c->H c=some u->upd H a o c=some u:=fun c u n q=>by rw [V4 (show c≠a from fun z=>n (by rw [z];exact m1))];exact q
 have kb:∀ c u,c≠a->H c=some u->upd H a o c=some u:=fun c u n q=>by rw [V4 n];exact q
 refine s.of2 ⟨⟨fun q z=>W.B.st q H _ (s.ok q z) fun u h=>kb q u (fun w=>m2 (w▸z)) h,s.bagM,fun c hc=>?_,s.m0⟩,fun c u n q=>kb c u (fun z=>by rw [z,m3] at q;cases q) (s.kp c u n q),s.new,fun j d2 e'=>?_,by simp [s.len],fun q hq=>(s.pin q hq).to (fun _ _ r=>Rep.keep kk _ _ r) (fun _ _ r=>Reps.keep kk _ _ r) fun zs a2 us ed ev2 m n hh2=>⟨m,n,kb _ _ (fun y=>s.lj zs a2 (by rw [<- ed,<- ev2];exact hq) i _ _ e ev (show a2∈f.ads by rw [y];exact ha)) hh2⟩⟩ (fun _ _ q=>q) fun j d2 v2 c e' e2 m=>?_
 · by_cases z:c=a
   · rw [z];exact ⟨_,V5⟩
   · obtain ⟨u,q⟩:=s.dom c hc;exact ⟨u,kb c u z q⟩
 · by_cases z:i=j
   · subst z
     rw [R6] at e'
     simp at e'
     obtain ⟨hl,rfl⟩:=e'
     exact ⟨v,ev,r⟩
   · rw [L6 z] at e'
     obtain ⟨w,e1,r1⟩:=s.env j d2 e'
     refine ⟨w,e1,?_⟩
     have na:¬ FX d2 w a:=fun y=>z (s.dj i j _ _ _ _ a e e' ev e1 ha y)
     cases d2
     case own zs =>
      obtain ⟨a2,us2,rfl,n1,n2,n3,n4,hh2,r2⟩:=r1
      exact ⟨a2,us2,rfl,n1,n2,n3,n4,kb _ _ (fun y=>na (by rw [y];rfl)) hh2,Reps.keep kk _ _ r2⟩
     case bag=>exact r1
     case frg f2 _=>exact RepX.move r1 (fun c _ m n=>⟨m,n⟩) (fun c u q h=>kb c u (fun y=>q.elim (fun n=>n (by rw [y];exact m1)) (fun n=>na (by show a∈f2.ads;rw [<- y];exact n))) h) fun c m=>.inl m
     all_goals exact Rep.keep kk _ _ r1
 · by_cases z:i=j
   · subst z
     rw [R6] at e'
     simp at e'
     obtain ⟨_,rfl⟩:=e'
     exact ⟨_,e,e2,hads c m⟩
   · rw [L6 z] at e'
     exact ⟨d2,e',e2,m⟩
theorem RepX.grow {W:Wd}{M M':Addr->Prop} {H H':Hp}{d:D}{v:V}(hM:∀ c,M' c->M c\/H c=none)(sub:∀ c,M c->M' c)(hb:∀ p,b=some p->M p)(kp:Kp b H H')(r:RepX W M b H d v):RepX W M' b H' d v:=by
 have kk:∀ c o,¬ M' c->H c=some o->H' c=some o:=fun c o n e=>kp c o (fun z=>n (sub c (hb c z))) e
 cases d
 case own ys =>
  obtain ⟨a,us,rfl,m1,m2,m3,m4,hha,r'⟩:=r
  exact ⟨a,us,rfl,sub a m1,m2,m3,m4,kp _ _ m2 hha,Reps.keep kk _ _ (Reps.avoid hM _ _ r')⟩
 case bag=>exact r
 case frg f _=>exact RepX.move r (fun c _ m n=>⟨sub c m,n⟩) (fun c o q e=>q.elim (fun n=>kk c o n e) fun m=>kp c o (r.1 c m).2.1 e) hM
 all_goals exact Rep.keep kk _ _ (Rep.avoid hM _ _ r)
theorem Sta.grow {W:Wd}{pn:List (D×V)}{M M':Addr->Prop} {H H':Hp}{σ:St}{ρ:Ev}(s:Sta W pn M b H σ ρ)(hM:∀ c,M' c->M c\/H c=none)(sub:∀ c,M c->M' c)(kp:Kp b H H')(ok:okB W.B b H')(dom:∀ c,M' c->∃ o,H' c=some o):Sta W pn M' b H' σ ρ:=by
 have kk:∀ c o,¬ M' c->H c=some o->H' c=some o:=fun c o n e=>kp c o (fun z=>n (sub c (s.bagM c z))) e
 refine ⟨⟨ok,fun q e=>sub q (s.bagM q e),dom,fun c m=>sub c (s.m0 c m)⟩,(s.step kp ok).kp,s.new,fun j d e=>?_,s.len,fun q hq=>(s.pin q hq).to (fun _ _ r=>Rep.keep kk _ _ (Rep.avoid hM _ _ r)) (fun _ _ r=>Reps.keep kk _ _ (Reps.avoid hM _ _ r)) fun xs a vs _ _ m n hh'=>⟨sub a m,n,kp _ _ n hh'⟩⟩
 obtain ⟨w,e1,r1⟩:=s.env j d e
 exact ⟨w,e1,r1.grow hM sub s.bagM kp⟩
def dnF (W:Wd)(d:DA):TE:=fun σ H Q=>∃ pn M b ρ P,Sta W pn M b H σ ρ/\d ρ P/\∀ xs vs p H',P xs->H p=none->H' p=some (.lst vs)->Reps W.K (fun c=>M c\/c=p) H' xs vs->Kp b H H'->okB W.B b H'->Q (.ref p) H'
structure JF (X:Cx)(W:Wd)(e:Expr)(d:DA):Prop where
 h:PE X e (dnF W d)
theorem KF {B:BagT} {H H':Hp}{p:Addr}(k:Kp b H H')(o:okB B b H')(h:H' p=none):H p=none:=by
 cases q:H p with
 | none=>rfl
 | some u =>
   by_cases z:b=some p
   · obtain ⟨w,e⟩:=B.dm p H' (o p z)
     rw [h] at e;cases e
   · have:=k p u z q
     rw [h] at this;cases this
section
variable {X:Cx}{W:Wd}{elt iter tg:Expr}{ifs:List Expr}{scope:Scope}{pos:Pos}{N':List Str}{map:List (Option Nat)}{g:TG}{gd:D->Ev->(Ev->Prop)->Prop}{di:DA}{dt:DT}{de:DE}
noncomputable def Q7k (map:List (Option Nat))(gd:D->Ev->(Ev->Prop)->Prop)(di:DA)(dt:DT)(de:DE):DA:=fun ρ P=>di ρ fun items=>items.length<=1000/\compI gd dt de (HH ρ map) items P
theorem J6v (hG:GD W g gd)(B:Blk X N' scope map tg elt ifs g (dnT W dt) (dn W de))(hi:JI X W false tg iter di)(hs:∀ x,foldedSetIterable iter X.env x=pure x:=by intro _;rfl):JF X W (.ListComp elt [⟨tg,iter,ifs,0⟩] scope pos) (Q7k map gd di dt de):=⟨(J0y B hi.h hs).mono fun σ H Q hh=>by
 obtain ⟨pn,M,b,ρ,P,st,h,k⟩:=hh
 refine ⟨pn,M,b,ρ,_,st,h,fun items J need H1 hx hp hI hn k1 o1=>?_⟩
 have st1:=st.step k1 o1
 refine KA hG (st1.capt map) hp hI (fun q hq=>(hn q hq).1) hx.1 hx.2 fun ds acc H' hP r hl k2 o2 D hD=>?_
 exact k ds acc D _ hP (KF (k1.trans k2) o2 hD) V5 (Reps.keep (fun c o _ e=>Same.upd hD c o e) _ _ (Reps.avoid (fun c z=>z.imp id fun y=>by rw [y];exact hD) _ _ r)) ((k1.trans k2).trans (Kp.upd hD)) ((st1.step k2 o2).okU hD)⟩
end
inductive compR (gd:D->Ev->(Ev->Prop)->Prop)(dt:DT)(de:DA)(ρc:Ev)(items:List D)(P:List (List D)->Prop):Prop
 | mk (I:Nat->List (List D)->Prop) (h0:I 0 []) (hs:∀ (i:Nat) x acc,items[i]?=some x->I i acc->gd x ρc fun ρ1=>dt ρ1 fun c=>IfP c (de ρ1 fun y=>I (i+1) (acc++[y])) (I (i+1) acc)) (hd:∀ acc,I items.length acc->P acc):compR gd dt de ρc items P
theorem RowsR.append {H:Hp}{p:Addr}{row:List D}{us:List V}(hp:H p=some (.lst us))(hr:Reps K M H row us):∀ {rs:List Addr} {rows:List (List D)},RowsR K M H rs rows->RowsR K M H (rs++[p]) (rows++[row])
 | [],rows,h=>by rw [show rows=[] from h];exact ⟨row,[],us,rfl,hp,hr,rfl⟩
 | r::rs,rows,h=>by
   obtain ⟨row0,rest,us0,rfl,h1,h2,h3⟩:=h
   exact ⟨row0,rest++[row],us0,rfl,h1,h2,RowsR.append hp hr h3⟩
theorem XU {W:Wd}{pn:List (D×V)}{M:Addr->Prop}{b:Option Addr}{H:Hp}{σ:St}{ρ:Ev}{J:It}{need:List (D×V)}{items:List D}{g:TG}{gd:D->Ev->(Ev->Prop)->Prop}{dt:DT}{de:DA}{P:List (List D)->Prop}{Fin:List V->Hp->Prop}
 (hG:GD W g gd) (st:Sta W pn M b H σ ρ) (hp:items.all plain=true) (hI:KC W J need items) (hn:∀ q∈need,RepX W M b H q.1 q.2) (hl:items.length<=1000) (h:compR gd dt de ρ items P)
 (fin:∀ rows rs H',P rows->RowsR W.K (fun c=>M c\/c∈rs) H' rs rows->rs.Nodup->(∀ r∈rs,H r=none)->rs.length<=1000->Kp b H H'->okB W.B b H'->Fin (rs.map V.ref) H'):∃ Wf:Nat->Nat->List V->Hp->Prop,(∃ m,Wf 0 m [] H)/\LK J g (dnT W dt) (dnF W de) σ Fin Wf:=by
 obtain ⟨I,i0,istep,idone⟩:=h
 refine ⟨fun i m acc H2=>m=items.length - i/\i<=items.length/\∃ rs rows,acc=rs.map V.ref/\rs.length<=i/\Kp b H H2/\okB W.B b H2/\rs.Nodup/\(∀ r∈rs,H r=none)/\RowsR W.K (fun c=>M c\/c∈rs) H2 rs rows/\I i rows,⟨items.length,by simp,D2 _,[],[],rfl,L8 _,Kp.refl _ _,st.ok,B0t,(fun r m=>by cases m),rfl,i0⟩,?_⟩
 rintro i m acc H2 ⟨rfl,hi,rs,rows,rfl,ha,k2,o2,nd,hnew,hr,q⟩
 have hM:∀ c,(M c\/c∈rs)->M c\/H c=none:=fun c z=>z.imp id (hnew c)
 have st2:Sta W pn (fun c=>M c\/c∈rs) b H2 σ ρ:=st.grow hM (fun c z=>.inl z) k2 o2 fun c z=>z.elim ((st.step k2 o2).dom c) fun y=>by
  obtain ⟨us,e⟩:=hr.lst c y
  exact ⟨_,e⟩
 have le:=AF
 obtain ⟨hgo,hstop⟩:=hI (fun c=>M c\/c∈rs) b H2 st2.toHs fun q hq=>(hn q hq).grow hM (fun c z=>.inl z) st.bagM k2
 by_cases hlt:i<items.length
 · have ei:items[i]?=some items[i]:=M5 hlt
   replace q:=istep i _ rows ei q
   refine .inr ⟨(hgo i _ ei).1,by rw [B9];omega,fun acc' H'=>∃ rs rows,acc'=rs.map V.ref/\rs.length<=i+1/\Kp b H H'/\okB W.B b H'/\rs.Nodup/\(∀ r∈rs,H r=none)/\RowsR W.K (fun c=>M c\/c∈rs) H' rs rows/\I (i+1) rows,fun acc' H' n=>⟨items.length - (i+1),by omega,rfl,hlt,n⟩,fun x H3 y=>?_⟩
   obtain ⟨S3,rx⟩:=(hgo i _ ei).2 x H3 y
   have o3:okB W.B b H3:=fun p e=>W.B.st p H2 H3 (o2 p e) fun o e'=>S3 p o e'
   have k3:Kp b H2 H3:=Kp.same S3
   have st3:=st2.step k3 o3
   have nb:∀ r∈rs,b≠some r:=fun r hr' z=>by
    obtain ⟨w,e⟩:=W.B.dm r H (st.ok r z)
    rw [hnew r hr'] at e;cases e
   have kR:∀ {H'},Kp b H2 H'->RowsR W.K (fun c=>M c\/c∈rs) H' rs rows:=fun kk=>RowsR.keep rs rows (fun c o z e=>kk c o (fun w=>z.elim (fun n=>n (.inl (st.bagM c w))) fun n=>nb c n w) e) hr
   refine hG pn _ b H3 σ ρ items[i] x _ _ st3 rx (E5.mp hp _ (W5 hlt)) q fun ρ1 σ1 h1 st4 _=>?_
   refine ⟨pn,_,b,ρ1,_,st4,h1,fun c H5 h5 k5 o5=>?_⟩
   cases h5 with
   | t e h5 =>
     rw [if_pos e]
     refine ⟨pn,_,b,ρ1,_,st4.step k5 o5,h5,fun xs vs p H6 h6 p0 p1 r6 k6 o6=>?_⟩
     have k25:=k3.trans k5
     have p2:H2 p=none:=KF k25 o5 p0
     have pH:H p=none:=KF k2 o2 p2
     have np:p∉rs:=fun z=>by
      obtain ⟨us,e⟩:=hr.lst p z
      rw [p2] at e;cases e
     have hm':∀ c,(M c\/c∈rs++[p])->(M c\/c∈rs)\/c=p:=fun c z=>z.elim (fun y=>.inl (.inl y)) fun y=>(U7.mp y).elim (fun w=>.inl (.inr w)) fun w=>.inr (M6.mp w)
     refine ⟨rs++[p],rows++[xs],by rw [U3];rfl,by simp;omega,k2.trans (k25.trans k6),o6,?_,fun r z=>?_,?_,h6⟩
     · rw [List.nodup_append]
       refine ⟨nd,by simp,fun a ha' b' hb' e=>?_⟩
       rw [M6.mp hb'] at e
       rw [e] at ha';exact np ha'
     · rcases U7.mp z with w|w
       · exact hnew r w
       · rw [M6.mp w];exact pH
     · refine RowsR.append p1 (Reps.avoid (fun c z=>.inl (hm' c z)) _ _ r6) ?_
       have r1:=RowsR.avoid (M':=fun c=>M c\/c∈rs++[p]) (fun c z=>(hm' c z).imp id fun w=>by rw [w];exact p2) rs rows hr
       exact RowsR.keep rs rows (fun c o z e=>(k25.trans k6) c o (fun w=>z.elim (fun n=>n (.inl (st.bagM c w))) fun n=>nb c n w) e) r1
   | f e h5 =>
     rw [if_neg (by rw [e];exact L9)]
     have kk:=k3.trans k5
     exact ⟨rs,rows,rfl,by omega,k2.trans kk,o5,nd,hnew,kR kk,h5⟩
 · have e:i=items.length:=by omega
   subst e
   exact .inl ⟨hstop _ (L8 _),by rw [B9];omega,fin rows rs H2 (idone _ q) hr nd hnew (by omega) k2 o2⟩
abbrev DSG:=List D->(List (List D)->Prop)->(Addr->Prop)->Prop
structure GNew (K:Fg)(M:Addr->Prop)(H H':Hp)(a:Addr)(rs:List Addr)(rows:List (List D)):Prop where
 a0:H a=none
 r0:∀ r∈rs,H r=none
 nd:(a::rs).Nodup
 ha:H' a=some (.lst (rs.map V.ref))
 hr:RowsR K (fun c=>M c\/c∈a::rs) H' rs rows
theorem V0z {X:Cx} {W:Wd} {N':List Str} {scope:Scope} {map:List (Option Nat)} {tg elt:Expr} {ifs:List Expr} {g:TG} {dt:DT} {de:DA} (calm:X.calm=true) (kind:scope.kind=.function) (loc:∀ x∈scope.names,x.2=.local->scope.names.lookup x.1=some .local) (free:(scope.names.all fun p=>!(p.2==NameKind.free)||(X.env.kindOf p.1==some .cell||X.env.kindOf p.1==some .free))=true) (cap:CapOk X scope map N') (keep:IB g map)
 (run:∀ cells C fp s H,PG (Q7 X N' scope cells C fp s H) tg g/\JIf (Q7 X N' scope cells C fp s H) W ifs dt/\JF (Q7 X N' scope cells C fp s H) W elt de):Blk X N' scope map tg elt ifs g (dnT W dt) (dnF W de) :=
 ⟨calm,kind,loc,free,cap,keep,fun cells C fp s H=>⟨(run cells C fp s H).1,(run cells C fp s H).2.1.h,(run cells C fp s H).2.2.h⟩⟩
theorem RowsR.unbor {M M':Addr->Prop}{H:Hp}(k:∀ c,M c->M' c\/∃ o,H c=some o/\∀ vs,o≠.tup vs):∀ (rs:List Addr) (rows:List (List D)),(∀ r∈rows,MB r=true)->RowsR K M' H rs rows->RowsR K M H rs rows
 | [],_,_,h=>h
 | r::rs,rows,n,h=>by
   obtain ⟨row,rest,us,rfl,h1,h2,h3⟩:=h
   exact ⟨row,rest,us,rfl,h1,Reps.unbor k _ _ (n row (B8 ..)) h2,RowsR.unbor k rs rest (fun r m=>n r (B5 _ m)) h3⟩
section
variable {W:Wd}{e a b c:Expr}
theorem J7d {H H':Hp}{a:Addr}{rs:List Addr}{rows:List (List D)}(gn:GNew K M H H' a rs rows)(dom:∀ c,M c->∃ o,H c=some o):Rep K M H' (EA rows) (.ref a):=by
 have nA:∀ c,M c->c∉a::rs:=fun c m z=>by
  obtain ⟨o,e⟩:=dom c m
  rcases B6.mp z with y|y
  · rw [y,gn.a0] at e;cases e
  · rw [gn.r0 c y] at e;cases e
 exact ⟨a,_,rfl,⟨fun m=>nA a m (B8 ..),gn.ha⟩,Reps.avoid (fun c m=>.inl ⟨.inl m,nA c m⟩) _ _ (RowsR.reps (A:=a::rs) rs rows (fun r m=>B5 _ m) gn.hr)⟩
theorem StS.gotGrid {pn:List (D×V)} {b:Option Addr}{H H':Hp}{σ:St}{ρ:Ev}{a:Addr}{rs:List Addr}{rows:List (List D)}(s:StS W pn M b H σ ρ)(i:Nat)(kp:Kp b H H')(ok:okB W.B b H')(gn:GNew W.K M H H' a rs rows):StS W pn (fun c=>M c\/c∈a::rs) b H' (σ.set i (some (.ref a))) (ρ.set i (some (grd W.K a rs rows))):=by
 have new:∀ c,c∈a::rs->H c=none:=fun c m=>by
  rcases B6.mp m with z|z
  · rw [z];exact gn.a0
  · exact gn.r0 c z
 have t:Sta W pn (fun c=>M c\/c∈a::rs) b H' σ ρ:=s.toSta.grow (fun c z=>z.imp id (new c)) (fun c z=>.inl z) kp ok fun c z=>z.elim ((s.toSta.step kp ok).dom c) fun y=>by
  rcases B6.mp y with w|w
  · rw [w];exact ⟨_,gn.ha⟩
  · obtain ⟨us,e⟩:=gn.hr.lst c w
    exact ⟨_,e⟩
 refine s.add i (t.set i (J1l (fun c m=>?_) gn.nd gn.ha gn.hr)) fun c m=>s.toHs.new (new c m)
 refine ⟨.inr m,fun z=>?_,s.toSta.fresh0 (new c m)⟩
 obtain ⟨o,e⟩:=W.B.dm c H (s.ok c z)
 rw [new c m] at e;cases e
end
structure Pc where
 (a:Addr) (f:Frg) (d:D)
abbrev Pc.g (p:Pc):D:=.frg p.f p.d
def Pc.at (p:Pc):Prop:=∀ M H v,p.f.R M H v->v=.ref p.a
structure RepP (K:Fg)(M:Addr->Prop)(b:Option Addr)(H:Hp)(p:Pc):Prop where
 at':p.at
 ow:∀ c∈p.f.ads,M c/\b≠some c
 r:p.f.R M H (.ref p.a)
 d:Rep K (fun c=>M c/\c∉p.f.ads) H p.d (.ref p.a)
def LJ (ps:List Pc):List Addr:=ps.flatMap fun p=>p.f.ads
theorem WY {ps:List Pc}{p:Pc}{c:Addr}(h:p∈ps)(m:c∈p.f.ads):c∈LJ ps:=D6.mpr ⟨p,h,m⟩
def KY (ps ps':List Pc):Prop:=ps'.map (fun p=>(p.a,p.f.ads))=ps.map fun p=>(p.a,p.f.ads)
theorem KY.get {ps ps':List Pc}{i:Nat}{p':Pc}(h:KY ps ps')(e:ps'[i]?=some p'):∃ p,ps[i]?=some p/\p'.a=p.a/\p'.f.ads=p.f.ads:=by
 have q:=D7 (fun l=>l[i]?) h
 simp only [M1,e,Option.map_some] at q
 obtain ⟨p,e1,e2⟩:=M7.mp q.symm
 simp only [Prod.mk.injEq] at e2
 exact ⟨p,e1,e2.1.symm,e2.2.symm⟩
theorem KY.back {ps ps':List Pc}{i:Nat}{p:Pc}(h:KY ps ps')(e:ps[i]?=some p):∃ p',ps'[i]?=some p'/\p'.a=p.a/\p'.f.ads=p.f.ads:=by
 obtain ⟨q,e1,e2,e3⟩:=KY.get (show KY ps' ps from h.symm) e
 exact ⟨q,e1,e2.symm,e3.symm⟩
def J7n (ps:List Pc):Prop:=∀ (i j:Nat) p q c,ps[i]?=some p->ps[j]?=some q->c∈p.f.ads->c∈q.f.ads->i=j
def KpA (A:List Addr)(b:Option Addr)(H H':Hp):Prop:=∀ c o,c∉A->b≠some c->H c=some o->H' c=some o
abbrev DSU:=List Pc->List D->(List Pc->D->Prop)->Prop
def DG (K:Fg)(B:BagT)(S:DSU):Sp:=fun vs H Q E=>∃ (M:Addr->Prop) (b:Option Addr) (ps:List Pc) (ds:List D) (P:List Pc->D->Prop) (dvs:List V),vs=ps.map (fun p=>.ref p.a)++dvs/\S ps ds P/\(∀ p∈ps,RepP K M b H p)/\J7n ps/\RepAs K M b H ds dvs/\okB B b H/\(∀ p,b=some p->M p)/\(∀ c,M c->∃ o,H c=some o) /\
 ∀ ps' r v H',P ps' r->KY ps ps'->(∀ p∈ps',RepP K M b H' p)->Rep K M H' r v->KpA (LJ ps) b H H'->okB B b H'->Q v H'
theorem DG.len {B:BagT}{S:DSU}{n:Nat}(h:∀ ps ds P,S ps ds P->ps.length+ds.length=n):∀ vs H Q E,DG K B S vs H Q E->vs.length=n:=fun vs H Q E ⟨M,b,ps,ds,P,dvs,e,hS,_,_,hr,_⟩=>by
 rw [e,B0d,B9,hr.length];exact h _ _ _ hS
open Classical in
noncomputable def PK (A:List Addr) (H:Hp):Hp:=fun c=>if c∈A then none else H c
theorem WZ {A:List Addr}{H:Hp}{c:Addr}(h:c∈A):PK A H c=none:=by unfold PK;rw [if_pos h]
theorem SG {A:List Addr}{H:Hp}{c:Addr}(h:c∉A):PK A H c=H c:=by unfold PK;rw [if_neg h]
noncomputable abbrev WU (K:Fg) (B:BagT) (H:Hp) (M:Addr->Prop) (b:Option Addr) (A:List Addr):Wd:=⟨K,B,PK A H,fun c=>M c/\c∉A,b⟩
theorem Q6a {B:BagT} {N:List Str}{ps:List Pc}{ds:List D}{dvs:List V}{H:Hp}(hp:∀ p∈ps,RepP K M b H p)(nd:J7n ps)(hr:RepAs K M b H ds dvs)(ho:okB B b H)(hb:∀ p,b=some p->M p)(hd:∀ c,M c->∃ o,H c=some o) :
 StS (WU K B H M b (LJ ps)) [] M b H (BF N (ps.map (fun p=>.ref p.a)++dvs)) (BD N (ps.map Pc.g++ds)):=by
 have get:∀ (i:Nat) d,(BD N (ps.map Pc.g++ds))[i]?=some (some d)->(∃ p,ps[i]?=some p/\d=p.g/\(ps.map (fun p=>V.ref p.a)++dvs)[i]?=some (.ref p.a))\/∃ v,(ps.map (fun p=>V.ref p.a)++dvs)[i]?=some v/\J9d K M b H d v:=fun i d e=>by
  have e:=JD e
  by_cases hi:i<ps.length
  · rw [W9 (by simpa using hi),M1] at e
    obtain ⟨p,e1,e2⟩:=M7.mp e
    exact .inl ⟨p,e1,e2.symm,by rw [W9 (by simpa using hi),M1,e1];rfl⟩
  · rw [B0h (by simpa using Nat.le_of_not_lt hi),B9] at e
    obtain ⟨v,e1,r⟩:=hr.get e
    exact .inr ⟨v,by rw [B0h (by simpa using Nat.le_of_not_lt hi),B9];exact e1,r⟩
 have st:∀ (i:Nat) v,(ps.map (fun p=>V.ref p.a)++dvs)[i]?=some v->(BF N (ps.map (fun p=>.ref p.a)++dvs))[i]?=some (some v):=fun i v e=>by
  unfold BF
  rw [W9 (by simpa using (B7.mp e).1),M1,e];rfl
 refine ⟨⟨⟨ho,hb,hd,fun _ m=>m.1⟩,fun c o n e=>?_,.inl rfl,fun i d e=>?_,by simp [BF,BD,hr.length],fun _ hq=>by cases hq⟩,fun i j d e v u c e0 e1 e2 e3 m1 m2=>?_,fun _ _ hq=>by cases hq⟩
 · have e:PK (LJ ps) H c=some o:=e
   by_cases z:c∈LJ ps
   · rw [WZ z] at e;cases e
   · rw [SG z] at e;exact e
 · rcases get i d e with ⟨p,e1,rfl,e2⟩|⟨v,e1,r⟩
   · have P:=hp p (L4 e1)
     exact ⟨_,st i _ e2,fun c m=>⟨(P.ow c m).1,(P.ow c m).2,WZ (WY (L4 e1) m),fun z=>z.2 (WY (L4 e1) m)⟩,P.r,P.d⟩
   · refine ⟨v,st i v e1,?_⟩
     cases d<;>first|exact r|exact r.elim
 · rcases get i d e0 with ⟨p,q1,rfl,_⟩|⟨v',_,r⟩
   · rcases get j e e1 with ⟨p',q1',rfl,_⟩|⟨v',_,r⟩
     · exact nd i j p p' c q1 q1' m1 m2
     · cases e<;>first|exact m2.elim|exact r.elim
   · cases d<;>first|exact m1.elim|exact r.elim
def J1n (ps:List Pc)(ρ:Ev)(ps':List Pc):Prop:=KY ps ps'/\(∀ p∈ps',p.at)/\∀ (i:Nat) p',ps'[i]?=some p'->ρ[i]?=some (some p'.g)
theorem J6k {B:BagT}{M M':Addr->Prop}{b b':Option Addr}{ps ps':List Pc}{H H':Hp}{pn:List (D×V)}{σ:St}{ρ:Ev}(hp:∀ p∈ps,RepP K M b H p)(s:StS (WU K B H M b (LJ ps)) pn M' b' H' σ ρ)(he:J1n ps ρ ps'):(∀ p∈ps',RepP K M b H' p)/\KpA (LJ ps) b H H'/\okB B b H'/\∀ c,M c->M' c:=by
 obtain ⟨hl,ha,hρ⟩:=he
 have sub:∀ c,M c->M' c:=fun c m=>by
  by_cases z:c∈LJ ps
  · obtain ⟨p,mp,mc⟩:=D6.mp z
    obtain ⟨i,ei⟩:=D3 mp
    obtain ⟨p',e1,_,e3⟩:=hl.back ei
    obtain ⟨v,_,r⟩:=s.env i _ (hρ i p' e1)
    exact (r.1 c (by rw [e3];exact mc)).1
  · exact s.m0 c ⟨m,z⟩
 refine ⟨fun p' mp'=>?_,fun c o n nb e=>s.kp c o nb (by show PK (LJ ps) H c=some o;rw [SG n];exact e),s.ok0,sub⟩
 obtain ⟨i,ei⟩:=D3 mp'
 obtain ⟨p,e1,e2,e3⟩:=hl.get ei
 obtain ⟨v,ev,r⟩:=s.env i _ (hρ i p' ei)
 have hv:=ha p' mp' _ _ _ r.2.1
 subst hv
 have P:=hp p (L4 e1)
 exact ⟨ha p' mp',fun c m=>P.ow c (by rw [<- e3];exact m),p'.f.avoid M' M H' _ (fun c m=>.inl (sub c m)) r.2.1,Rep.avoid (fun c m=>.inl ⟨sub c m.1,m.2⟩) _ _ r.2.2⟩
abbrev DU:=(D->Ev->Prop)->DS
def snU (W:Wd)(d:DU):TS:=fun E σ H=>∃ pn M b ρ F U,StS W pn M b H σ ρ/\Link W pn E F/\(∀ r v M b ρ σ H,StS W pn M b H σ ρ->U r ρ->Rep W.K M H r v->E.rt v H)/\(∀ M b ρ σ H,StS W pn M b H σ ρ->U .non ρ->E.nx σ H)/\d U F ρ
structure JUs (X:Cx)(W:Wd)(sts:List Stmt)(d:DU):Prop where
 h:PSs X sts (snU W d)
theorem LA {X:Cx}{W:Wd}{st:Stmt}{rest:List Stmt}{d1:DS}{d2:DU}(h1:JS X W st d1)(h2:JUs X W rest d2):JUs X W (st::rest) (fun U F=>d1 { F with nx:=d2 U F }):=⟨(Z2 h1.h h2.h).mono fun E σ H hh=>by
 obtain ⟨pn,M,b,ρ,F,U,s,l,lr,ln,h⟩:=hh
 exact ⟨pn,M,b,ρ,{ F with nx:=d2 U F },s,⟨fun M b ρ σ H s' h'=>⟨pn,M,b,ρ,F,U,s',l,lr,ln,h'⟩,l.rt,l.bk,l.ct,l.ro⟩,h⟩⟩
theorem Q0z {X:Cx}{W:Wd}:JUs X W [] (fun U _ ρ=>U .non ρ):=⟨GS.mono fun E σ H hh=>by
 obtain ⟨pn,M,b,ρ,F,U,s,l,lr,ln,h⟩:=hh
 exact ln M b ρ σ H s h⟩
theorem Q0y {X:Cx}{W:Wd}{e:Expr}{de:DE}{pos:Pos}(he:JE X W e de):JUs X W [.Return (some e) pos] (fun U _ ρ=>de ρ fun r=>plain r=true/\U r ρ):=⟨(AX (DB he.h)).mono fun E σ H hh=>by
 obtain ⟨pn,M,b,ρ,F,U,s,l,lr,ln,h⟩:=hh
 exact ⟨pn,M,b,ρ,_,s.toSta,h,fun x v H1 hx rx k1 o1=>lr x v M b ρ σ H1 (s.step k1 o1) hx.2 (RepX.rep rx hx.1)⟩⟩
theorem Fun.okDU {P:Program}{w:World} {mg:Str->Option Value}{base:Heap}{x qual:Str}{st:Stmt}{f:Addr} {N ps:List Str}{k:Nat}{B:BagT}{Sd:DSU}(F:Fun K x qual st f fd)(S:FnScope N ps (J7 st))(len:∀ qs ds PP,Sd qs ds PP->qs.length+ds.length=ps.length)
 (hbody:∀ (cdv:Value) (A:Around) (outer:List Env) (s:Shared) (H:Hp) (E:XK) (M:Addr->Prop) (bg:Option Addr) (qs:List Pc) (ds:List D) (PP:List Pc->D->Prop),Room k (A.deeper (envOfC qual (J7 st) s.heap.objs.size f cdv))->Sd qs ds PP->(∀ q∈qs,q.at) ->
  ∃ d:DU,JUs (BW CX0 P w K mg base N qual (J7 st) f cdv A outer s H E).nox (WU K B H M bg (LJ qs)) (BN st) d/\d (fun r ρ=>∃ qs',J1n qs ρ qs'/\PP qs' r) { nx:=fun _=>False,rt:=fun _=>False } (BD N (qs.map Pc.g++ds))):FnOk P w K mg base CX0 (k+1) f fd ps (DG K B Sd) :=
 F.ok S (DG.len len) fun cdv A outer s H vs Q E hr h=>by
  obtain ⟨M,bg,qs,ds,PP,dvs,rfl,hS,hp,nd,hR,ho,hb,hd,hq⟩:=h
  obtain ⟨d,J,q⟩:=hbody cdv A outer s H E M bg qs ds PP hr hS fun p m=>(hp p m).at'
  refine ⟨_,J.h,[],M,bg,BD N (qs.map Pc.g++ds),{ nx:=fun _=>False,rt:=fun _=>False },_,Q6a hp nd hR ho hb hd,⟨fun _ _ _ _ _ _ h=>h.elim,fun _ _ _ h=>h.elim,fun _ _ _ _ _ _ h=>h.elim,fun _ _ _ _ _ _ h=>h.elim,fun _ _ _ _ h=>h.elim⟩,fun r v M' b' ρ σ H' s' hu hr'=>?_,fun M' b' ρ σ H' s' hu=>?_,q⟩
  · obtain ⟨qs',he,hP⟩:=hu
    obtain ⟨r1,r2,r3,r4⟩:=J6k hp s' he
    exact hq qs' r v H' hP he.1 r1 (Rep.avoid (fun c m=>.inl (r4 c m)) _ _ hr') r2 r3
  · obtain ⟨qs',he,hP⟩:=hu
    obtain ⟨r1,r2,r3,r4⟩:=J6k hp s' he
    exact hq qs' .non .non H' hP he.1 r1 rfl r2 r3
theorem OF:∀ (js:List Nat) (xs:List D) (ρ:Ev),(FM js xs ρ).length=ρ.length
 | [],_,_=>rfl
 | _::_,[],_=>rfl
 | j::js,x::xs,ρ=>by
   show (FM js xs (ρ.set j (some x))).length=_
   rw [OF];simp
theorem JG:∀ (js:List Nat) (xs:List D) (ρ:Ev) (j:Nat) (d:D),(FM js xs ρ)[j]?=some (some d)->(∃ k:Nat,js[k]?=some j/\xs[k]?=some d)\/((∀ k:Nat,js[k]?=some j->xs.length<=k)/\ρ[j]?=some (some d))
 | [],xs,ρ,j,d,h=>.inr ⟨fun k e=>by simp at e,h⟩
 | _::_,[],ρ,j,d,h=>.inr ⟨fun k e=>D2 _,h⟩
 | j0::js,x::xs,ρ,j,d,h=>by
   rcases JG js xs (ρ.set j0 (some x)) j d h with ⟨k,e1,e2⟩|⟨h1,h2⟩
   · exact .inl ⟨k+1,by simpa using e1,by simpa using e2⟩
   · by_cases z:j0=j
     · subst z
       rw [R6] at h2
       simp at h2
       exact .inl ⟨0,rfl,by rw [<- h2.2];rfl⟩
     · rw [L6 z] at h2
       refine .inr ⟨fun k e=>?_,h2⟩
       cases k with
       | zero=>simp at e;exact absurd e z
       | succ k=>have:=h1 k (by simpa using e);simpa using this
section
variable {W:Wd}{pn:List (D×V)}{M:Addr->Prop}{b:Option Addr}{H H':Hp}{σ:St}{ρ:Ev}{js:List Nat}{ps ps':List Pc}
def IW (js:List Nat)(ps:List Pc)(ρ:Ev):Prop:=js.length=ps.length/\∀ (k:Nat) p,ps[k]?=some p->p.at/\∃ j,js[k]?=some j/\ρ[j]?=some (some p.g)
theorem IW.ads (s:StS W pn M b H σ ρ)(h:IW js ps ρ){c:Addr}(m:c∈LJ ps):∃ (k j:Nat) (p:Pc),ps[k]?=some p/\js[k]?=some j/\ρ[j]?=some (some p.g)/\c∈p.f.ads/\σ[j]?=some (some (.ref p.a))/\RepX W M b H p.g (.ref p.a):=by
 obtain ⟨p,mp,mc⟩:=D6.mp m
 obtain ⟨k,ek⟩:=D3 mp
 obtain ⟨pa,j,ej,er⟩:=h.2 k p ek
 obtain ⟨v,ev,r⟩:=s.env j _ er
 have hv:=pa _ _ _ r.2.1
 subst hv
 exact ⟨k,j,p,ek,ej,er,mc,ev,r⟩
theorem IW.rep (s:StS W pn M b H σ ρ)(h:IW js ps ρ):∀ p∈ps,RepP W.K M b H p:=fun p mp=>by
 obtain ⟨k,ek⟩:=D3 mp
 obtain ⟨pa,j,ej,er⟩:=h.2 k p ek
 obtain ⟨v,ev,r⟩:=s.env j _ er
 have hv:=pa _ _ _ r.2.1
 subst hv
 exact ⟨pa,fun c m=>⟨(r.1 c m).1,(r.1 c m).2.1⟩,r.2.1,r.2.2⟩
theorem SF:∀ {l:List Nat} {i k x:Nat},l.Nodup->l[i]?=some x->l[k]?=some x->i=k
 | [],_,_,_,_,e,_=>by simp at e
 | y::l,0,0,_,_,_,_=>rfl
 | y::l,0,k+1,x,nd,e1,e2=>by
   simp at e1 e2
   subst e1
   exact absurd (L4 e2) (R7.mp nd).1
 | y::l,i+1,0,x,nd,e1,e2=>by
   simp at e1 e2
   subst e2
   exact absurd (L4 e1) (R7.mp nd).1
 | y::l,i+1,k+1,x,nd,e1,e2=>by
   simp at e1 e2
   exact D7 (· + 1) (SF (R7.mp nd).2 e1 e2)
theorem IW.disj (s:StS W pn M b H σ ρ)(h:IW js ps ρ)(nd:js.Nodup):J7n ps:=fun i k p q c e1 e2 m1 m2=>by
 obtain ⟨_,j,ej,er⟩:=h.2 i p e1
 obtain ⟨_,j',ej',er'⟩:=h.2 k q e2
 obtain ⟨v,ev,_⟩:=s.env j _ er
 obtain ⟨v',ev',_⟩:=s.env j' _ er'
 have z:=s.dj j j' _ _ v v' c er er' ev ev' m1 m2
 subst z
 exact SF nd ej ej'
theorem StS.swapP (s:StS W pn M b H σ ρ)(h:IW js ps ρ)(lk:KY ps ps')(r':∀ p∈ps',RepP W.K M b H' p)(kp:KpA (LJ ps) b H H')(ok:okB W.B b H'):StS W pn M b H' σ (FM js (ps'.map Pc.g) ρ):=by
 have kk:∀ c u,¬ M c->H c=some u->H' c=some u:=fun c u n q=>kp c u (fun z=>by
  obtain ⟨k,j,p,_,_,_,mc,_,r⟩:=h.ads s z
  exact n (r.1 c mc).1) (fun z=>n (s.bagM c z)) q
 have hlen:ps'.length=ps.length:=by have:=D7 List.length lk;simpa using this
 have notM:∀ (j:Nat) d2 w,ρ[j]?=some (some d2)->σ[j]?=some (some w)->(∀ k:Nat,js[k]?=some j->(ps'.map Pc.g).length<=k)->∀ c∈LJ ps,¬ FX d2 w c:=fun j d2 w e1 e2 hn c mc y=>by
  obtain ⟨k,j',p,ek,ej,er,mc',ev,_⟩:=h.ads s mc
  have z:=s.dj j' j _ _ _ _ c er e1 ev e2 mc' y
  subst z
  have:=hn k ej
  rw [B9,hlen] at this
  have:=(B7.mp ek).1
  omega
 have old:∀ (k j:Nat) (p':Pc),js[k]?=some j->ps'[k]?=some p'->∃ p:Pc,ρ[j]?=some (some p.g)/\p'.f.ads=p.f.ads/\σ[j]?=some (some (.ref p'.a))/\RepX W M b H p.g (.ref p'.a):=fun k j p' ej ep=>by
  obtain ⟨p,e1,e2,e3⟩:=lk.get ep
  obtain ⟨pa,j',ej',er⟩:=h.2 k p e1
  rw [ej] at ej';cases ej'
  obtain ⟨v,ev,r⟩:=s.env j _ er
  have hv:=pa _ _ _ r.2.1
  subst hv
  rw [<- e2] at ev r
  exact ⟨p,er,e3,ev,r⟩
 refine s.of2 ⟨⟨ok,s.bagM,fun c hc=>?_,s.m0⟩,fun c u n q=>?_,s.new,fun j d2 e'=>?_,by rw [OF];exact s.len,fun q hq=>(s.pin q hq).to (fun _ _ r=>Rep.keep kk _ _ r) (fun _ _ r=>Reps.keep kk _ _ r) fun zs a2 us ed ev2 m n hh2=>⟨m,n,kp _ _ (fun z=>?_) n hh2⟩⟩ (fun _ _ q=>q) fun j d2 v2 c e' e2 m=>?_
 · by_cases z:c∈LJ ps
   · obtain ⟨p,mp,mc⟩:=D6.mp z
     obtain ⟨k,ek⟩:=D3 mp
     obtain ⟨p',e1,_,e3⟩:=lk.back ek
     obtain ⟨o,q,_⟩:=p'.f.nt M H' _ (r' p' (L4 e1)).r c (by rw [e3];exact mc)
     exact ⟨o,q⟩
   · by_cases y:b=some c
     · exact W.B.dm c H' (ok c y)
     · obtain ⟨o,q⟩:=s.dom c hc
       exact ⟨o,kp c o z y q⟩
 · refine kp c u (fun z=>?_) (fun z=>?_) (s.kp c u n q)
   · obtain ⟨k,j,p,_,_,_,mc,_,r⟩:=h.ads s z
     rw [(r.1 c mc).2.2.1] at q;cases q
   · rcases s.new with y|y
     · exact n (y▸z)
     · rw [y.2 c z] at q;cases q
 · rcases JG _ _ _ _ _ e' with ⟨k,ej,ed⟩|⟨hn,er⟩
   · rw [M1] at ed
     obtain ⟨p',ep,rfl⟩:=M7.mp ed
     obtain ⟨p,er,e3,ev,r⟩:=old k j p' ej ep
     have P:=r' p' (L4 ep)
     exact ⟨_,ev,fun c mc=>r.1 c (by rw [<- e3];exact mc),P.r,P.d⟩
   · obtain ⟨w,e1,r1⟩:=s.env j d2 er
     refine ⟨w,e1,?_⟩
     have na:=notM j d2 w er e1 hn
     cases d2
     case own zs =>
      obtain ⟨a2,us2,rfl,n1,n2,n3,n4,hh2,r2⟩:=r1
      exact ⟨a2,us2,rfl,n1,n2,n3,n4,kp _ _ (fun y=>na a2 y rfl) n2 hh2,Reps.keep kk _ _ r2⟩
     case bag=>exact r1
     case frg f2 _=>exact RepX.move r1 (fun c _ m n=>⟨m,n⟩) (fun c u q h=>q.elim (fun n=>kk c u n h) fun mc=>kp c u (fun y=>na c y mc) (r1.1 c mc).2.1 h) fun c m=>.inl m
     all_goals exact Rep.keep kk _ _ r1
 · obtain ⟨k,j,p,ek,ej,er,mc,ev,_⟩:=h.ads s z
   exact s.lj zs a2 (by rw [<- ed,<- ev2];exact hq) j _ _ er ev mc
 · rcases JG _ _ _ _ _ e' with ⟨k,ej,ed⟩|⟨hn,er⟩
   · rw [M1] at ed
     obtain ⟨p',ep,rfl⟩:=M7.mp ed
     obtain ⟨p,er,e3,ev,r⟩:=old k j p' ej ep
     exact ⟨p.g,er,e2,by show c∈p.f.ads;rw [<- e3];exact m⟩
   · exact ⟨d2,er,e2,m⟩
end
section
variable {X:Cx}{W:Wd}{S:DSU}{dA:DA}{pos:Pos}
noncomputable def OA:List Nat->TA->TA
 | [],t=>t
 | j::js,t=>RT (IZ j) (OA js t)
def J5d (js:List Nat)(S:DSU)(dA:DA)(ρ:Ev)(P:D->Ev->Prop):Prop:=∃ ps:List Pc,IW js ps ρ/\dA ρ fun ds=>ds.all Z1=true/\S ps ds fun ps' r=>P r (FM js (ps'.map Pc.g) ρ)
theorem ZM {js:List Nat}{ps:List Pc}{σ:St}{H:Hp}{t:TA}{Q:List V->Hp->Prop}(h:∀ (k:Nat) p,ps[k]?=some p->∃ j,js[k]?=some j/\σ[j]?=some (some (.ref p.a)))(hl:js.length=ps.length)(q:t σ H fun vs H1=>Q (ps.map (fun p=>V.ref p.a)++vs) H1):OA js t σ H Q:=by
 induction js generalizing ps Q with
 | nil =>
   obtain rfl:ps=[]:=List.eq_nil_of_length_eq_zero (by simpa using hl.symm)
   exact q
 | cons j js ih =>
   cases ps with
   | nil=>simp at hl
   | cons p ps =>
     obtain ⟨j',e1,e2⟩:=h 0 p rfl
     simp at e1
     subst e1
     exact ⟨.ref p.a,e2,ih (fun k q e=>by obtain ⟨j',e1,e2⟩:=h (k+1) q (by simpa using e);exact ⟨j',by simpa using e1,e2⟩) (by simpa using hl) q⟩
theorem VW {js:List Nat}(nd:js.Nodup){pn:List (D×V)} {H:Hp}{σ:St}{ρ:Ev}{P:D->Ev->Prop}{Q:VK}(s:StS W pn M b H σ ρ)(h:J5d js S dA ρ P)(k:∀ r v H' ρ',P r ρ'->StS W pn M b H' σ ρ'->Rep W.K M H' r v->Q v H'):MS (DG W.K W.B S) [] E0 (OA js (dnA W dA)) σ H Q:=by
 obtain ⟨ps,hp,hd⟩:=h
 refine ZM (ps:=ps) (fun k p e=>?_) hp.1 ?_
 · obtain ⟨pa,j,ej,er⟩:=hp.2 k p e
   obtain ⟨v,ev,r⟩:=s.env j _ er
   have hv:=pa _ _ _ r.2.1
   subst hv
   exact ⟨j,ej,ev⟩
 · refine ⟨pn,M,b,ρ,_,s.toSta,hd,fun ds vs H1 hx rx k1 o1=>?_⟩
   have s1:=s.step k1 o1
   refine ⟨M,b,ps,ds,_,vs,by rw [D5],hx.2,hp.rep s1,hp.disj s1 nd,rx.args _ _ hx.1,o1,s1.bagM,s1.dom,fun ps' r v H' hP lk r' rr kp ok=>?_⟩
   exact k r v H' _ hP (s1.swapP hp lk r' kp ok) rr
theorem J3s {js:List Nat}{e:Expr}(nd:js.Nodup)(h:PE X e (MS (DG W.K W.B S) [] E0 (OA js (dnA W dA))))(hs:swapsWith e none pos.line X.env=pure false:=by rfl):JS X W (.Expr e pos) (fun F ρ=>J5d js S dA ρ fun _ ρ'=>F.nx ρ'):=⟨(KQ h hs).mono fun E σ H hh=>hh.elim fun pn M b ρ F s l q=>VW nd s q fun r v H' ρ' hP s' _=>l.nx _ _ _ _ _ s' hP⟩
end
def V2c (K:Fg)(a:Addr)(t:Tg)(ks:List (List Int))(xs:List D)(M:Addr->Prop)(H:Hp)(v:V):Prop:=v=.ref a/\∃ vs:List V,H a=some (DOb a t.1 t.2)/\DctE K M H t.1 ks vs/\Reps K M H xs vs
def Q6z (K:Fg)(a:Addr)(t:Tg)(ks:List (List Int))(xs:List D):Frg where
 ads:=[a]
 R:=V2c K a t ks xs
 keep:=fun M H H' v k ⟨e,vs,h,hE,r⟩=>⟨e,vs,k a _ (.inr (B8 ..)) h,hE.keep fun c o n q=>k c o (.inl n) q,Reps.keep (fun c o n q=>k c o (.inl n) q) _ _ r⟩
 avoid:=fun M M' H v k ⟨e,vs,h,hE,r⟩=>⟨e,vs,h,hE.avoid k,Reps.avoid k _ _ r⟩
 ref:=fun M H v h=>⟨a,h.1⟩
 nt:=fun M H v ⟨e,vs,h,hE,r⟩ c m=>by
  rw [M6.mp m]
  exact ⟨_,h,fun vs z=>by cases z⟩
abbrev dcp (K:Fg)(a:Addr)(t:Tg)(ks:List (List Int))(xs:List D):Pc:=⟨a,Q6z K a t ks xs,.dct t ks xs⟩
abbrev dcg (K:Fg)(a:Addr)(t:Tg)(ks:List (List Int))(xs:List D):D:=.frg (Q6z K a t ks xs) (.dct t ks xs)
theorem J7w {a:Addr}{t:Tg}{ks:List (List Int)}{xs:List D}:(dcp K a t ks xs).at:=fun M H v h=>h.1
abbrev grp (K:Fg)(a:Addr)(rs:List Addr)(rows:List (List D)):Pc:=⟨a,MY K a rs rows,EA rows⟩
theorem UT {a:Addr}{rs:List Addr}{rows:List (List D)}:(grp K a rs rows).at:=fun M H v h=>h.1
section
variable {W:Wd}{M:Addr->Prop}{b:Option Addr}{H:Hp}{a:Addr}{ks:List (List Int)}{xs:List D}{t:Tg}{vs:List V}
theorem J1r (ow:M a/\b≠some a/\W.H0 a=none/\¬ W.M0 a)(h:H a=some (DOb a t.1 t.2))(hE:DctE W.K M H t.1 ks vs)(r:Reps W.K M H xs vs):RepX W M b H (dcg W.K a t ks xs) (.ref a) :=
 ⟨fun c m=>by rw [M6.mp m];exact ow,⟨rfl,vs,h,hE,r⟩,a,vs,rfl,⟨fun z=>z.2 (B8 ..),h,hE.avoid fun c m=>.inl m.1⟩,Reps.avoid (fun c m=>.inl m.1) _ _ r⟩
theorem ZY {v:V}(r:RepX W M b H (dcg W.K a t ks xs) v):v=.ref a/\(M a/\b≠some a/\W.H0 a=none/\¬ W.M0 a)/\∃ vs,H a=some (DOb a t.1 t.2)/\DctE W.K M H t.1 ks vs/\Reps W.K M H xs vs:=by
 obtain ⟨ow,⟨e,q⟩,_⟩:=r
 exact ⟨e,ow a (B8 ..),q⟩
def asD (K:Fg)(d:D)(t:Tg)(ks:List (List Int))(xs:List D):Prop:=d=.dct t ks xs\/∃ a,d=dcg K a t ks xs
theorem asD.rep {d:D}{v:V}(h:asD W.K d t ks xs)(r:RepX W M b H d v):∃ a vs,v=.ref a/\H a=some (DOb a t.1 t.2)/\DctE W.K M H t.1 ks vs/\Reps W.K M H xs vs:=by
 rcases h with rfl|⟨a,rfl⟩
 · obtain ⟨a,vs,e,⟨_,h,hE⟩,rr⟩:=r
   exact ⟨a,vs,e,h,hE,rr⟩
 · obtain ⟨e,_,vs,h,hE,rr⟩:=ZY r
   exact ⟨a,vs,e,h,hE,rr⟩
end
def LU:List (List Int)->List D->List Int->D->List D
 | k::ks,x::xs,n,z=>(if k=n then z else x)::LU ks xs n z
 | _,xs,_,_=>xs
def EM (ks:List (List Int))(xs:List D)(n:List Int)(z:D):List (List Int)×List D:=if n∈ks then (ks,LU ks xs n z) else (ks++[n],xs++[z])
theorem WG {n:List Int}{z:D}:∀ (ks:List (List Int)) (xs:List D),(LU ks xs n z).length=xs.length
 | [],xs=>by unfold LU;rfl
 | k::ks,[]=>by unfold LU;rfl
 | k::ks,x::xs=>by unfold LU;simp [WG ks xs]
theorem WK {n:List Int}{z:D}(ks:List (List Int))(xs:List D)(h:ks.length=xs.length):(EM ks xs n z).1.length=(EM ks xs n z).2.length:=by
 unfold EM
 split
 · rw [WG];exact h
 · simp [h]
theorem LV {n:List Int}{z:D}(ks:List (List Int))(xs:List D):(EM ks xs n z).1=if n∈ks then ks else ks++[n]:=by
 unfold EM
 split<;>rfl
theorem OO {n:List Int}{z:D}{ks:List (List Int)}{xs:List D}(h:ks.Nodup):(EM ks xs n z).1.Nodup:=by
 rw [LV]
 split
 · exact h
 · rename_i q
   exact List.nodup_append.mpr ⟨h,R7.mpr ⟨(fun m=>by cases m),B0t⟩,fun a ha b hb e=>q (by rw [M6.mp hb] at e;rw [<- e];exact ha)⟩
theorem HB {m:List Int}:∀ {ks:List (List Int)} {xs:List D},ks.length=xs.length->m∈ks->∃ d,AL ks xs m=some d
 | [],_,_,h=>by cases h
 | k::ks,[],h,_=>by simp at h
 | k::ks,x::xs,h,m'=>by
   unfold AL
   by_cases e:k=m
   · rw [if_pos e];exact ⟨x,rfl⟩
   · rw [if_neg e]
     rcases B6.mp m' with z|z
     · exact absurd z.symm e
     · exact HB (by simpa using h) z
theorem SO {m n:List Int}{z:D}:∀ {ks:List (List Int)} {xs:List D},ks.length=xs.length->n∉ks->AL (ks++[n]) (xs++[z]) m=if n=m then some z else AL ks xs m
 | [],[],_,_=>by simp [AL]
 | [],_::_,h,_=>by simp at h
 | _::_,[],h,_=>by simp at h
 | k::ks,x::xs,h,nm=>by
   rw [B6,not_or] at nm
   have ih:=SO (m:=m) (z:=z) (ks:=ks) (xs:=xs) (by simpa using h) nm.2
   rw [B1l,B1l]
   unfold AL
   rw [ih]
   by_cases e:k=m
   · have:¬ n=m:=fun y=>nm.1 (by rw [y,e])
     simp [e,this]
   · simp [e]
theorem QE {m n:List Int}{z:D}:∀ {ks:List (List Int)} {xs:List D},ks.length=xs.length->AL ks (LU ks xs n z) m=if n=m/\n∈ks then some z else AL ks xs m
 | [],[],_=>by simp [AL,LU]
 | [],_::_,h=>by simp at h
 | _::_,[],h=>by simp at h
 | k::ks,x::xs,h=>by
   have ih:=QE (m:=m) (n:=n) (z:=z) (ks:=ks) (xs:=xs) (by simpa using h)
   unfold LU AL
   rw [ih]
   by_cases e:k=m
   · subst e
     by_cases y:k=n
     · subst y;simp
     · have y2:¬ n=k:=fun q=>y q.symm
       simp [y,y2]
   · rw [if_neg e,if_neg e]
     by_cases y:n=m
     · subst y
       have:¬ n=k:=fun q=>e q.symm
       simp [this]
     · simp [y]
theorem SA {n m:List Int}{z:D}(ks:List (List Int))(xs:List D)(h:ks.length=xs.length):AL (EM ks xs n z).1 (EM ks xs n z).2 m=if n=m then some z else AL ks xs m:=by
 unfold EM
 by_cases q:n∈ks
 · rw [if_pos q]
   show AL ks (LU ks xs n z) m=_
   rw [QE h]
   by_cases e:n=m
   · simp [e,e▸q]
   · simp [e]
 · rw [if_neg q]
   exact SO h q
section
variable {K:Fg}{M:Addr->Prop}{H:Hp}{n:List Int}{z:D}{v:V}{u:Value}{b:Addr}
theorem MQ:∀ {es:Ens},(atKey es n).isSome=true↔n∈es.map (·.1)
 | []=>by simp [atKey]
 | e::es=>by
   rw [QP,T4,B6]
   by_cases q:e.1=n
   · simp [q]
   · rw [if_neg q,MQ]
     exact ⟨.inr,fun y=>y.elim (fun w=>absurd w.symm q) id⟩
theorem WJ:∀ (es:Ens),(es.map (putAt n u)).map (·.1)=es.map (·.1)
 | []=>rfl
 | e::es=>by
   rw [T4,T4,T4,WJ es]
   congr 1
   unfold putAt
   split<;>rfl
theorem J0v:∀ (es:Ens),(es.map (putAt n u)).map (fun e=>(e.1,e.2.1))=es.map fun e=>(e.1,e.2.1)
 | []=>rfl
 | e::es=>by
   rw [T4,T4,T4,J0v es]
   congr 1
   unfold putAt
   split<;>rfl
theorem WI (rv:RelV v u)(rz:Rep K M H z v):∀ {es:Ens} {vs:List V} {xs:List D},Vals vs (es.map (·.2.2))->Reps K M H xs vs->∃ vs',Vals vs' ((es.map (putAt n u)).map (·.2.2))/\Reps K M H (LU (es.map (·.1)) xs n z) vs'
 | [],vs,xs,hv,r=>by
   cases hv
   rw [B2c]
   unfold LU
   exact ⟨[],.nil,r⟩
 | e::es,vs,[],hv,r=>by
   rw [show vs=[] from r] at hv
   cases hv
 | e::es,_,x::xs,hv,r=>by
   obtain ⟨v0,vs,rfl,rx,rr⟩:=r
   rw [T4] at hv
   cases hv with
   | cons h1 h2 =>
   obtain ⟨vs',i1,i2⟩:=WI rv rz h2 rr
   rw [T4,T4,T4]
   unfold LU
   by_cases q:e.1=n
   · refine ⟨v::vs',.cons ?_ i1,v,vs',rfl,?_,i2⟩
     · unfold putAt;rw [if_pos q];exact rv
     · rw [if_pos q];exact rz
   · refine ⟨v0::vs',.cons ?_ i1,v0,vs',rfl,?_,i2⟩
     · unfold putAt;rw [if_neg q];exact h1
     · rw [if_neg q];exact rx
theorem Q0g {es:Ens}{ks:List (List Int)}{vs:List V}{xs:List D}(hb:TpA K M H b (n.map V.int))(rv:RelV v u)(rz:Rep K M H z v)(hE:DctE K M H es ks vs)(r:Reps K M H xs vs):∃ vs',DctE K M H (storedH es n b u) (EM ks xs n z).1 vs'/\Reps K M H (EM ks xs n z).2 vs':=by
 obtain ⟨e1,e2,e3⟩:=hE
 subst e1
 unfold storedH EM
 by_cases q:n∈es.map (·.1)
 · rw [if_pos (MQ.mpr q),if_pos q]
   obtain ⟨vs',i1,i2⟩:=WI (n:=n) rv rz e3 r
   refine ⟨vs',⟨WJ es,fun e m=>?_,i1⟩,i2⟩
   have:(e.1,e.2.1)∈es.map fun e=>(e.1,e.2.1):=by rw [<- J0v (n:=n) (u:=u) es];exact M3.mpr ⟨e,m,rfl⟩
   obtain ⟨e',m',q'⟩:=M3.mp this
   have h:=e2 e' m'
   injection q' with q1 q2
   rw [q1,q2] at h
   exact h
 · rw [if_neg (fun y=>q (MQ.mp y)),if_neg q]
   refine ⟨vs++[v],⟨by simp,fun e m=>?_,?_⟩,Reps.append r ⟨v,[],rfl,rz,rfl⟩⟩
   · rcases U7.mp m with y|y
     · exact e2 e y
     · rw [M6.mp y];exact hb
   · rw [U3]
     exact Paired.snoc e3 rv
end
section
variable {X:Cx}{W:Wd}{pos:Pos}
noncomputable def Q7d (K:Fg)(i:Nat):DS:=fun F ρ=>∀ a t,F.nx (ρ.set i (some (dcg K a t [] [])))
theorem SI {i:Nat}{y:Str}{py dpos:Pos}(hN:X.N.Nodup)(hiN:X.N[i]?=some y)(hy:Loc X.env.scope y)
 (hs:swapsWith (.Dict [] [] dpos) (some (.Name y py)) pos.line X.env=pure false:=by rfl) (hf:X.fn y=true\/X.env.scope.names.lookup y=some .local:=by first|exact .inl rfl|exact .inr rfl|assumption) :
 JS X W (.Assign [.Name y py] (.Dict [] [] dpos) pos) (Q7d W.K i):=⟨(BQ hN hiN hy Q0p hs hf).mono fun E σ H hh=>hh.elim fun pn M b ρ F s l h=>by
 intro p hp
 have ok:=s.toHs.okU (o:=DOb p [] 0) hp
 have t:Sta W pn (fun c=>M c\/c=p) b (upd H p (DOb p [] 0)) σ ρ:=s.toSta.grow (fun c z=>z.imp id fun y=>by rw [y];exact hp) (fun c z=>.inl z) (Kp.upd hp) ok fun c z=>z.elim ((s.toSta.step (Kp.upd hp) ok).dom c) fun y=>by rw [y];exact ⟨_,V5⟩
 refine l.nx _ _ _ _ _ (s.add i (t.set (x:=dcg W.K p ([],0) [] []) (v:=.ref p) i (J1r ⟨.inr rfl,fun z=>?_,s.toSta.fresh0 hp⟩ V5 ⟨rfl,(fun _ m=>by cases m),.nil⟩ rfl)) fun c m=>?_) (h p ([],0))
 · obtain ⟨o,e⟩:=W.B.dm p H (s.ok p z)
   rw [hp] at e;cases e
 · have:c=p:=M6.mp m
   rw [this];exact s.toHs.new hp⟩
noncomputable def Q3l (K:Fg)(i:Nat)(de dk:DE):DS:=fun F ρ=>∃ (a:Addr) (t:Tg) (ks:List (List Int)) (xs:List D),ρ[i]?=some (some (dcg K a t ks xs))/\de ρ fun z=>plain z=true/\dk ρ fun y=>∃ ns:List Int,y=.tup (ns.map D.int)/\ks.length<1000/\∀ t',F.nx (ρ.set i (some (dcg K a t' (EM ks xs ns z).1 (EM ks xs ns z).2)))
theorem XD {i:Nat}{tg e:Expr}{de dk:DE}(hK:X.K=W.K)(he:JE X W e de)(hg:PG X tg (Q5x (IZ i) (dn W dk) (Q2v X.K)))(hs:swapsWithSole [tg] e pos.line X.env=pure false:=by rfl)(hw:swappedStores [tg] e X.env=pure none:=by rfl)
 (h1:(assignEach [tg] X.env).map (·.2)=[assign tg X.env]:=by rfl):JS X W (.Assign [tg] e pos) (Q3l W.K i de dk):=⟨(OQ he.h hg hs hw h1).mono fun E σ H hh=>hh.elim fun pn M b ρ F s l q=>by
 rw [hK]
 obtain ⟨a,t,ks,xs,e1,q⟩:=q
 obtain ⟨v0,ev,rg⟩:=s.env i _ e1
 obtain ⟨rfl,_,_⟩:=ZY rg
 refine ⟨pn,M,b,ρ,_,s.toSta,q,fun z v H1 hz rz k1 o1=>?_⟩
 have s1:=s.step k1 o1
 refine ⟨.ref a,ev,pn,M,b,ρ,_,s1.toSta,hz.2,fun y u H2 hy ry k2 o2=>?_⟩
 obtain ⟨ns,rfl,hl,hnx⟩:=hy
 have s2:=s1.step k2 o2
 obtain ⟨v2,ev2,rg2⟩:=s2.env i _ e1
 obtain ⟨rfl,ow,vs,hd,hE,rr⟩:=ZY rg2
 obtain ⟨bk,us,rfl,hb,rks⟩:=(show Rep W.K M H2 (.tup (ns.map D.int)) u from ry)
 cases rks.ints
 have hes:t.1.length=ks.length:=by rw [<- hE.1];simp
 refine ⟨a,bk,t.1,t.2,ns,rfl,rfl,hd,hE.keys,hb.sq,by rw [hes];exact M4 hl AF,fun uu ep' ru=>?_⟩
 have rz2:=((rz.step s.bagM k2).rep hz.1)
 obtain ⟨vs',hE',rr'⟩:=Q0g (n:=ns) hb ru rz2 hE rr
 have kk:∀ c o,¬ M c->H2 c=some o->upd H2 a (DOb a (storedH t.1 ns bk uu) ep') c=some o:=fun c o n q=>by rw [V4 (fun z=>n (by rw [z];exact ow.1))];exact q
 exact l.nx _ _ _ _ _ (s2.setFrg (f':=Q6z W.K a (storedH t.1 ns bk uu,ep') (EM ks xs ns z).1 (EM ks xs ns z).2) (d':=.dct (storedH t.1 ns bk uu,ep') (EM ks xs ns z).1 (EM ks xs ns z).2) i e1 ev2 (B8 ..) (fun c m=>m) (J1r ow V5 (hE'.keep kk) (Reps.keep kk _ _ rr'))) (hnx _)⟩
end
section
variable {X:Cx}{W:Wd}{S:DSU}{dA:DA}{pos:Pos}
noncomputable def Q3r (i:Nat)(f:Int->Int->Int)(js:List Nat)(S:DSU)(dA:DA):DS:=fun F ρ=>match ρ[i]? with
 | some (some (.int n))=>i∉js/\J5d js S dA ρ fun r ρ'=>(match r with|.int m=>F.nx (ρ'.set i (some (.int (f n m))))|_=>False)
 | _=>False
theorem J6q {i:Nat} {x:Str} {op:Operator} {f:Int->Int->Int} {pos':Pos} {js:List Nat} {e:Expr} (nd:js.Nodup) (hN:X.N.Nodup) (hi:X.N[i]?=some x) (hx:Loc X.env.scope x) (h:PE X e (MS (DG W.K W.B S) [] E0 (OA js (dnA W dA)))) (ho:PIp X op (ipI f)) (hf:X.fn x=true\/X.env.scope.names.lookup x=some .local:=by first|exact .inl rfl|exact .inr rfl|assumption) :
 JS X W (.AugAssign (.Name x pos') op e pos) (Q3r i f js S dA):=⟨(J5x hN hi hx h ho hf).mono fun E σ H hh=>hh.elim fun pn M b ρ F s l q=>by
 unfold Q3r at q
 split at q
 case h_2=>exact q.elim
 case h_1 n e =>
  obtain ⟨v,ev,rv⟩:=s.env i _ e
  cases (show _=_ from rv)
  refine ⟨.int n,ev,VW nd s q.2 fun r v H' ρ' hP s' rr=>?_⟩
  cases r<;>first|exact hP.elim|skip
  rename_i m
  cases (show _=_ from rr)
  have t:=s'.toSta.set (x:=.int (f n m)) (v:=.int (f n m)) i rfl
  exact ⟨n,m,rfl,rfl,l.nx _ _ _ _ _ (s'.of t fun j d hm e'=>by
   by_cases z:i=j
   · subst z
     rw [R6] at e'
     simp at e'
     rw [<- e'.2] at hm
     cases hm
   · rw [L6 z] at e'
     exact ⟨e',by rw [L6 z]⟩) hP⟩⟩
noncomputable def Q3k (K:Fg)(i:Nat)(de dk dj:DE):DS:=fun F ρ=>∃ (a:Addr) (rs:List Addr) (rows:List (List D)),ρ[i]?=some (some (grd K a rs rows))/\rs.length=rows.length/\de ρ fun z=>plain z=true/\dk ρ fun y=>∃ (k:Nat) (row:List D),y=.int (k:Int)/\rows[k]?=some row/\dj ρ fun x=>∃ j:Nat,x=.int (j:Int)/\j<row.length/\F.nx (ρ.set i (some (grd K a rs (rows.set k (row.set j z)))))
theorem Q1g {n j:Nat}(h:j<n):ixN n (j:Int)=some j:=by
 unfold ixN
 rw [if_pos (by omega)]
 simp;omega
theorem XC {i:Nat}{tg e:Expr}{de dk dj:DE}(hK:X.K=W.K)(he:JE X W e de)(hg:PG X tg (Q5x (tOp (J5q X.K) (IZ i) (dn W dk)) (dn W dj) Q2u))(hs:swapsWithSole [tg] e pos.line X.env=pure false:=by rfl)(hw:swappedStores [tg] e X.env=pure none:=by rfl)
 (h1:(assignEach [tg] X.env).map (·.2)=[assign tg X.env]:=by rfl):JS X W (.Assign [tg] e pos) (Q3k W.K i de dk dj):=⟨(OQ he.h hg hs hw h1).mono fun E σ H hh=>hh.elim fun pn M b ρ F s l q=>by
 rw [hK]
 obtain ⟨a,rs,rows,e1,hl,q⟩:=q
 have at':∀ {H':Hp},StS W pn M b H' σ ρ->σ[i]?=some (some (.ref a))/\(∀ c∈a::rs,M c/\b≠some c/\W.H0 c=none/\¬ W.M0 c)/\(a::rs).Nodup/\H' a=some (.lst (rs.map V.ref))/\RowsR W.K M H' rs rows:=fun {H'} s=>by
  obtain ⟨v,ev,rg⟩:=s.env i _ e1
  obtain ⟨rfl,ho,nd,ha,hr⟩:=J7c rg
  exact ⟨ev,ho,nd,ha,hr⟩
 obtain ⟨ev,_,_,_,_⟩:=at' s
 refine ⟨pn,M,b,ρ,_,s.toSta,q,fun z v H1 hz rz k1 o1=>?_⟩
 have s1:=s.step k1 o1
 refine ⟨.ref a,ev,pn,M,b,ρ,_,s1.toSta,hz.2,fun y u H2 hy ry k2 o2=>?_⟩
 obtain ⟨k,row,rfl,er,hy⟩:=hy
 cases (show _=_ from ry)
 have s2:=s1.step k2 o2
 obtain ⟨_,_,_,ha2,_⟩:=at' s2
 obtain ⟨r,ek⟩:∃ r,rs[k]?=some r:=by
  have:=(B7.mp er).1
  exact ⟨rs[k]'(by omega),M5 _⟩
 refine ⟨a,rs.map V.ref,k,.ref r,rfl,rfl,SqL.of ha2,IQ (by rw [M1,ek];rfl),pn,M,b,ρ,_,s2.toSta,hy,fun x w H3 hx rx k3 o3=>?_⟩
 obtain ⟨j,rfl,hj,hnx⟩:=hx
 cases (show _=_ from rx)
 have s3:=s2.step k3 o3
 obtain ⟨ev3,ho,nd,ha,hr⟩:=at' s3
 obtain ⟨row',us,er',hh',rr⟩:=hr.at ek
 rw [er] at er';cases er'
 have mr:r∈rs:=L4 ek
 have nar:a≠r:=fun z=>(R7.mp nd).1 (by rw [z];exact mr)
 have rz3:=((rz.step s.bagM k2).step s.bagM k3).rep hz.1
 exact ⟨r,us,j,j,rfl,rfl,hh',by rw [rr.length];exact Q1g hj,l.nx _ _ _ _ _ (s3.setFrg (f':=MY W.K a rs (rows.set k (row.set j z))) (d':=EA (rows.set k (row.set j z))) i (show ρ[i]?=some (some (.frg (MY W.K a rs rows) (EA rows))) from e1) ev3 (B5 _ mr) (fun c m=>m) (J1l ho nd (by rw [V4 nar];exact ha) (RowsR.set (R7.mp nd).2 (fun c m=>(ho c (B5 _ m)).1) hr ek (Reps.set rz3 j rr)))) hnx⟩⟩
end
theorem Reps.timesF {H:Hp}{ds:List D}{vs:List V}(h:Reps K M H ds vs):∀ n:Nat,Reps K M H (List.replicate n ds).flatten (List.replicate n vs).flatten
 | 0=>rfl
 | n+1=>by
   rw [B0i,B0i,B0x,B0x]
   exact Reps.append h (Reps.timesF h n)
section
variable {X:Cx}{W:Wd}{pos:Pos}
noncomputable def V0r (da db:DE):DA:=fun ρ P=>da ρ fun x=>db ρ fun y=>match asL x,y with
 | some xs,.int k=>(-(2 ^ 63)<=k/\k<2 ^ 63/\xs.length*k.toNat<=1000)/\P (List.replicate k.toNat xs).flatten
 | _,_=>False
theorem Q1f {a b:Expr}{da db:DE}(ha:JE X W a da)(hb:JE X W b db):JF X W (.BinOp a .Mult b pos) (V0r da db):=⟨(BO Q5g ha.h hb.h).mono fun σ H Q hh=>by
 obtain ⟨pn,M,b,ρ,P,st,h,k⟩:=hh
 refine ⟨pn,M,b,ρ,_,st,h,fun x v H1 hx rx k1 o1=>⟨pn,M,b,ρ,_,st.step k1 o1,hx,fun y u H2 hy ry k2 o2=>?_⟩⟩
 split at hy
 case h_2=>exact hy.elim
 case h_1 xs n e1 =>
  cases (show u=.int n from ry)
  obtain ⟨a1,vs,rfl,h1,r1⟩:=asL.rep (rx.step st.bagM k2) e1
  have st2:=(st.step k1 o1).step k2 o2
  refine ⟨a1,n,vs,rfl,rfl,h1,hy.1.1,hy.1.2.1,by rw [r1.length];exact R5 hy.1.2.2 AF,fun p hp=>?_⟩
  exact k _ _ p _ hy.2 (KF (k1.trans k2) o2 hp) V5 (Reps.keep (fun c o _ e=>Same.upd hp c o e) _ _ (Reps.avoid (fun c z=>z.imp id fun y=>by rw [y];exact hp) _ _ (Reps.timesF r1 n.toNat))) ((k1.trans k2).trans (Kp.upd hp)) (st2.toHs.okU hp)⟩
variable {elt iter tg:Expr}{ifs:List Expr}{scope:Scope}{N':List Str}{map:List (Option Nat)}{g:TG}{gd:D->Ev->(Ev->Prop)->Prop}{di:DA}{dt:DT}{de:DA}
noncomputable def Q7c (K:Fg)(i:Nat)(map:List (Option Nat))(gd:D->Ev->(Ev->Prop)->Prop)(di:DA)(dt:DT)(de:DA):DS:=fun F ρ=>di ρ fun items=>items.length<=1000/\compR gd dt de (HH ρ map) items fun rows=>∀ a rs,rs.length=rows.length->F.nx (ρ.set i (some (grd K a rs rows)))
theorem PQ {i:Nat}{y:Str}{py spos:Pos}(hN:X.N.Nodup)(hiN:X.N[i]?=some y)(hy:Loc X.env.scope y)(hG:GD W g gd)(B:Blk X N' scope map tg elt ifs g (dnT W dt) (dnF W de))(hi:JI X W false tg iter di)
 (hsw:swapsWith (.ListComp elt [⟨tg,iter,ifs,0⟩] scope pos) (some (.Name y py)) spos.line X.env=pure true:=by rfl) (hfn:X.fn y=true\/X.env.scope.names.lookup y=some .local:=by first|exact .inl rfl|exact .inr rfl)
 (hs:∀ x,foldedSetIterable iter X.env x=pure x:=by intro _;rfl):JS X W (.Assign [.Name y py] (.ListComp elt [⟨tg,iter,ifs,0⟩] scope pos) spos) (Q7c W.K i map gd di dt de):=⟨(OP hN hiN hy B hi.h hsw hfn hs).mono fun E σ H hh=>hh.elim fun pn M b ρ F s l h=>by
 refine ⟨pn,M,b,ρ,_,s.toSta,h,fun items J need H1 hx hp hI hn k1 o1=>?_⟩
 have s1:=s.step k1 o1
 refine XU hG (s1.toSta.capt map) hp hI (fun q hq=>(hn q hq).1) hx.1 hx.2 fun rows rs H' hP hr nd hnew hl k2 o2 q hq=>?_
 have s2:=s1.step k2 o2
 have nq:q∉rs:=fun z=>by
  obtain ⟨us,e⟩:=hr.lst q z
  rw [hq] at e;cases e
 have hq1:H1 q=none:=KF k2 o2 hq
 have kq:Kp b H1 (upd H' q (.lst (rs.map V.ref))):=k2.trans (Kp.upd hq)
 refine l.nx _ _ _ _ _ (s1.gotGrid (a:=q) (rs:=rs) (rows:=rows) i kq (s2.toHs.okU hq) ⟨hq1,hnew,R7.mpr ⟨nq,nd⟩,V5,?_⟩) (hP q rs hr.length.symm)
 refine RowsR.keep rs rows (fun c o z e=>Same.upd hq c o e) (RowsR.avoid (fun c z=>?_) rs rows hr)
 rcases z with z|z
 · exact .inl (.inl z)
 · rcases B6.mp z with y|y
   · exact .inr (by rw [y];exact hq)
   · exact .inl (.inr y)⟩
end
abbrev Om:=Nat->Prop
abbrev DE3:=Ev->(D->Om)->Om
abbrev DT3:=Ev->(Bool->Om)->Om
abbrev DA3:=Ev->(List D->Om)->Om
structure DEnds3 where
 nx:Ev->Om
 rt:D->Om
 bk:Ev->Om:=fun _ _=>False
 ct:Ev->Om:=fun _ _=>False
 ro:List D->Om:=fun _ _=>False
abbrev DS3:=DEnds3->Ev->Om
abbrev V2m:=List D->(List D->Om)->Om
def rngN (a b c:Int):Nat:=if a<b then ((b - a - 1) / c+1).toNat else 0
theorem LR {a b c:Int}(hc:0<c):((rngN a b c:Nat):Int)=Builtin.Range.rangeSize a b c:=by
 unfold rngN Builtin.Range.rangeSize
 rw [if_pos hc]
 split
 · have:=B0w (show 0<=b - a - 1 by omega) (show 0<=c by omega)
   omega
 · rfl
theorem Q0c {a b c:Int}(hc:0<c):(rngN a b c:Int)<=(b - a).toNat:=by
 unfold rngN
 split
 · have h1:=B0w (show 0<=b - a - 1 by omega) (show 0<=c by omega)
   have h2:=Int.ediv_le_self c (show 0<=b - a - 1 by omega)
   omega
 · omega
theorem TR {a b c:Int}(hc:0<c){i:Nat}:i<rngN a b c↔a+i*c<b:=by
 unfold rngN
 split
 · rename_i h
   have h1:=B0w (show 0<=b - a - 1 by omega) (show 0<=c by omega)
   have h2:=@Int.le_ediv_iff_mul_le (i:Int) (b - a - 1) c hc
   omega
 · rename_i h
   have:=B0m (show (0:Int)<=i by omega) (show 0<=c by omega)
   omega
def Q2s (lo st:Int)(n:Nat):It:=⟨fun i _=>i<n,fun i H x H'=>H'=H/\x=.int (lo+i*st),fun i _=>n<=i⟩
theorem VY {tg:Expr}(it:Addr)(lo st:Int)(n:Nat):Turn P w K tg (Q2s lo st n) [it] it (fun i h=>IsRangeIter h it (lo+(i:Nat)*st) ((n:Int) - (i:Nat)) st) where
 mem:=by simp
 obj:=fun i h st b hb=>by
  have e:b=it:=by simpa using hb
  subst e
  exact ⟨_,st,fun v z=>by
   have z':Data.fields _=Data.cell v:=z
   cases z'⟩
 keep:=fun i h h' st k=>k it (by simp) _ st
 item:=by
  intro X hP hw hK hc i pins s σ H E I hf st' hg
  subst hP hw hK
  obtain ⟨f0,f1,f2,f3,f4,f5⟩:=hf it (by simp)
  have W:=Walks.range (prog:=X.prog) (w:=X.w) (I.ok.hd hc) it lo st n
  refine W.item i s _ _ hg st' fun v h' tk hv st' kk=>?_
  obtain ⟨t,rfl⟩:=hv
  have I1:Inv X pins σ H { s with heap:=h',toks:=tk }:=I.turned (fun b o hb e=>kk b o (by simpa using hb) e) f0 f1 f3 f4 f5
  exact ⟨_,rfl,QB (s:={ s with heap:=h',toks:=tk }) (n:="range_iterator") st' rfl rfl (by decide) ⟨.int (lo+i*st),H,I1,⟨t,rfl⟩,⟨rfl,rfl⟩,st',fun b hb=>(hf b hb).1⟩⟩
 done:=by
  intro X hP hw hK hc i pins s σ H E I hf st hg
  subst hP hw hK
  obtain ⟨f0,f1,f2,f3,f4,f5⟩:=hf it (by simp)
  exact wpAny_pyNext_range_end (I.ok.hd hc) st (by have:n<=i:=hg;omega) fun h' eb=>⟨rfl,I.turned (t':=s.toks) (fun b o hb e=>eb b o hb e) f0 f1 f3 f4 f5⟩
 self:=fun _ _ _ _ _ st h=>wpAny_pyIter_rangeiter st h
theorem YR {a b c:Int}(h1:0<=a)(h2:a<=1000)(h3:0<=b)(h4:b<=1000)(h5:1<=c)(h6:c<=1000):Builtin.Range.small a b c=true:=by
 have e:=LR (a:=a) (b:=b) (c:=c) (by omega)
 have l:=Q0c (a:=a) (b:=b) (c:=c) (by omega)
 unfold Builtin.Range.small
 rw [<- e]
 simp only [Builtin.Range.rangeFitsLong,R4,Bool.or_eq_true,U6,B0s,show c>0 by omega,if_true]
 clear e
 generalize rngN a b c=n at *
 omega
section
variable {X:Cx}{tg:Expr}
theorem J2y {pins:List (Addr×Obj)}{σ:St}{H:Hp}{s:Shared}{R:It->Hp->Prop}{E:Value->Shared->Prop}{lo hi st:Int}{t u v:Tok}{tk:Nat}(I:Inv X pins σ H s)(h1:0<=lo)(h2:lo<=1000)(h3:0<=hi)(h4:hi<=1000)(h5:1<=st)(h6:st<=1000)
 (q:R (Q2s lo st (rngN lo hi st)) H):wpAny (model X.prog X.w) X.A (pyIter (.ref s.heap.objs.size)) (PIE X pins σ tg R) E { s with heap:=s.heap.push { cls:=.type "range",data:=.fields #[.int lo t,.int hi u,.int st v] },toks:=tk }:=by
 refine wpAny_pyIter_range (IsRange.new ..) (YR h1 h2 h3 h4 h5 h6) ?_
 have I1:Inv X pins σ H { s with heap:=s.heap.push { cls:=.type "range",data:=.fields #[.int lo t,.int hi u,.int st v] },toks:=tk }:=I.kept fun b o e=>B2 _ e
 refine ⟨(s.heap.push { cls:=.type "range",data:=.fields #[.int lo t,.int hi u,.int st v] }).objs.size,[(s.heap.push { cls:=.type "range",data:=.fields #[.int lo t,.int hi u,.int st v] }).objs.size],_,_,H,rfl,
  I1.kept (t':=tk) fun b o e=>B2 _ e,VY _ lo st (rngN lo hi st),?_,fun b hb=>?_,q⟩
 · have e1:lo+((0:Nat):Int)*st=lo:=by simp
   have e2:((rngN lo hi st:Nat):Int) - ((0:Nat):Int)=Builtin.Range.rangeSize lo hi st:=by rw [LR (by omega)];simp
   show IsRangeIter _ _ (lo+((0:Nat):Int)*st) (((rngN lo hi st:Nat):Int) - ((0:Nat):Int)) st
   rw [e1,e2]
   exact L7 _ rfl
 · have e:b=(s.heap.push { cls:=.type "range",data:=.fields #[.int lo t,.int hi u,.int st v] }).objs.size:=by simpa using hb
   subst e
   exact I1.fpOk (L8 _) (I1.hok.fresh (L8 _))
noncomputable def Q9u (ta:TA):TI:=fun σ H R=>ta σ H fun vs H1=>∃ i j k:Int,vs=[.int i,.int j,.int k]/\(0<=i/\i<=1000/\0<=j/\j<=1000/\1<=k/\k<=1000)/\R (Q2s i k (rngN i j k)) H1
theorem J3c {a b c:Expr}{ta:TA}{p pos:Pos}(hg:Gl X "range") (hm:X.mg "range" = none) (ha:PA X [a,b,c] ta) (hs:starEach [a,b,c] X.env=[(false,eval a X.env),(false,eval b X.env),(false,eval c X.env)]:=by rfl) (hs2:starEach [b,c] X.env=[(false,eval b X.env),(false,eval c X.env)]:=by rfl) :
 PI X tg (.Call (.Name "range" p) [a,b,c] [] pos) (Q9u ta):=by
 intro pins s σ H R I h
 refine Call_ (GX I hg hm boot_range (E6 (thn (ha pos pins s σ H _ I h) fun us s1 ⟨vs,H1,I1,r1,q1⟩=>?_) (by rw [hs,hs2]) (by rw [hs2];rfl)))
 obtain ⟨i,j,k,e,⟨q1,q2,q3,q4,q5,q6⟩,q⟩:=q1
 subst e
 cases r1 with
 | cons r rr =>
   cases rr with
   | cons r' rr =>
     cases rr with
     | cons r'' rr =>
       cases rr
       obtain ⟨t,rfl⟩:=r
       obtain ⟨t',rfl⟩:=r'
       obtain ⟨t'',rfl⟩:=r''
       exact call_range_3 (by omega) (J2y I1 q1 q2 q3 q4 q5 q6 q) (Or.inl (PyProof.noPylong_small (by omega)))
end
def FS (lo st:Int)(n:Nat):List D:=(List.range n).map fun (i:Nat)=>.int (lo+i*st)
theorem TV (lo st:Int)(n:Nat):(FS lo st n).all plain=true:=by
 simp [FS,plain]
theorem YX {lo st:Int}{n i:Nat}{d:D}(h:(FS lo st n)[i]?=some d):d=.int (lo+i*st)/\i<n:=by
 have hi:i<n:=by
  have:=(B7.mp h).1
  simpa [FS] using this
 simp [FS,hi] at h
 exact ⟨h.symm,hi⟩
section
variable {X:Cx}{W:Wd}{tg a b c:Expr}{pos p:Pos}{dA:DA}{fz:Bool}
theorem J4b {lo st:Int}{n:Nat}:KC W (Q2s lo st n) [] (FS lo st n):=by
 intro M b H hs _
 refine ⟨fun i d e=>?_,fun i hi=>by show n<=i;simpa [FS] using hi⟩
 obtain ⟨rfl,hi⟩:=YX e
 refine ⟨hi,fun x H3 ⟨eH,ex⟩=>?_⟩
 subst eH ex
 exact ⟨Same.refl _,(show _=_ from rfl)⟩
noncomputable def Q1l (dA:DA):DA:=fun ρ P=>dA ρ fun xs=>match xs with
 | [.int i,.int j,.int k]=>(0<=i/\i<=1000/\0<=j/\j<=1000/\1<=k/\k<=1000)/\P (FS i k (rngN i j k))
 | _=>False
theorem PV (hg:Gl X "range") (hm:X.mg "range" = none) (ha:JA X W [a,b,c] dA) (hs:starEach [a,b,c] X.env=[(false,eval a X.env),(false,eval b X.env),(false,eval c X.env)]:=by rfl) (hs2:starEach [b,c] X.env=[(false,eval b X.env),(false,eval c X.env)]:=by rfl):JI X W fz tg (.Call (.Name "range" p) [a,b,c] [] pos) (Q1l dA):=⟨(J3c hg hm ha.h hs hs2).mono fun σ H R hh=>hh.elim fun pn M b ρ P st h k=>by
 refine ⟨pn,M,b,ρ,_,st,h,fun xs vs H1 hx rx k1 o1=>?_⟩
 match xs,hx with
 | [.int i,.int j,.int l],hx =>
   obtain ⟨v1,r1,rfl,e1,v2,r2,rfl,e2,v3,r3,rfl,e3,rfl⟩:=rx
   cases (show _=_ from e1)
   cases (show _=_ from e2)
   cases (show _=_ from e3)
   exact ⟨i,j,l,rfl,hx.1,k _ _ _ H1 hx.2 (TV _ _ _) J4b (fun q hq=>by cases hq) k1 o1⟩⟩
end
section
variable {X:Cx}{W:Wd}{e b c l:Expr}{p:Pos}
theorem StS.thaw {pn:List (D×V)} {b:Option Addr}{H:Hp}{σ:St}{ρ:Ev}{i:Nat}{f:Frg}{d:D}(s:StS W pn M b H σ ρ)(e:ρ[i]?=some (some (.frg f d))):StS W pn (fun c=>M c/\c∉f.ads) b H σ (ρ.set i (some d)):=by
 obtain ⟨v,e1,r⟩:=s.env i _ e
 have pd:plain d=true:=by
  have:=r.2.2
  cases d<;>first|rfl|exact this.elim
 have st:Sta W pn (fun c=>M c/\c∉f.ads) b H σ (ρ.set i none):=by
  refine Sta.avoid (M:=M) ⟨s.toHs,s.kp,s.new,fun j d' e'=>?_,by simp [s.len],s.pin⟩ (fun c m=>m.1) (fun p z=>⟨s.bagM p z,fun y=>(r.1 p y).2.1 z⟩) (fun c m=>⟨s.m0 c m,fun y=>(r.1 c y).2.2.2 m⟩) (fun j d' v' c' e' e2 mm=>?_) fun ys a' hq=>⟨by
   obtain ⟨a2,us2,ev,n1,_⟩:=(s.pin _ hq)
   cases ev;exact n1,fun y=>s.lj ys a' hq i _ _ e e1 y⟩
  · by_cases z:i=j
    · subst z;rw [R6] at e';simp at e'
    · rw [L6 z] at e';exact s.env j d' e'
  · by_cases z:i=j
    · subst z;rw [R6] at e';simp at e'
    · rw [L6 z] at e'
      obtain ⟨v3,e3,r3⟩:=s.env j _ e'
      rw [e2] at e3;cases e3
      exact ⟨(r3.mine mm).1,fun y=>z (s.dj i j _ _ _ _ c' e e' e1 e2 y mm)⟩
 have st2:=st.set (x:=d) (v:=v) i (Rep.x r.2.2)
 rw [J5l e1,List.set_set] at st2
 refine s.of st2 fun j d' hm e'=>?_
 by_cases z:i=j
 · subst z
   rw [R6] at e'
   simp at e'
   rw [<- e'.2] at hm
   cases d<;>first|(cases hm;done)|(cases pd;done)
 · rw [L6 z] at e';exact ⟨e',rfl⟩
noncomputable def J7x (i:Nat)(d:DS):DS:=fun F ρ=>match ρ[i]? with|some (some (.frg _ x))=>d F (ρ.set i (some x))|_=>False
theorem ME {sts:List Stmt}{d:DS}(i:Nat)(h:JSs X W sts d):JSs X W sts (J7x i d):=⟨h.h.mono fun E σ H hh=>hh.elim fun pn M b ρ F s l q=>by
 unfold J7x at q
 split at q
 case h_2=>exact q.elim
 case h_1 f x e=>exact ⟨pn,_,b,_,F,s.thaw e,l,q⟩⟩
end
def RawD (h:Heap)(d:Addr)(ds:Array DictEntry)(ep:Nat):Prop:=∃ o:Obj,h.get? d=some o/\o.ExactDict/\o.data=.dict ds ep
theorem RawD.ty {s:Shared}{d:Addr}{ds:Array DictEntry}{ep:Nat}(x:RawD s.heap d ds ep):s.TypeIs (.ref d) "dict":=let ⟨o,ho,hc,_⟩:=x;⟨o,ho,hc.1⟩
section
variable {prog:Program}{w:World}{A:Around}{E:Value->Shared->Prop}{s:Shared}{d it:Addr}{ds:Array DictEntry}{ep i:Nat}
theorem J3p (hd:(d==sysModules)=false):MeetsIn prog w (Builtin.«dict.__len__» ⟨[.ref d],[]⟩) (fun _ R s=>∃ ds ep,RawD s.heap d ds ep/\R (.ok (.ret (.int ds.size s.toks))) { s with toks:=s.toks+1 }) :=
 .of_wp fun A R s hx=>by
  obtain ⟨ds,ep,⟨o,ho,hc,hdat⟩,h⟩:=hx
  show wpAny _ _ (dictSize d >>= _) _ _ s
  unfold dictSize
  refine B0 (B0 (B0z ho hdat (B1 (a:=ds.size) ?_)))
  show wpAny _ _ (Builtin.Dict.pendingCount d >>= _) _ _ s
  refine B0 (wpAny_pendingCount_other hd (wpAny_ret_mkInt ?_))
  rw [Nat.add_zero];exact h
theorem Q0w {Q:Value->Shared->Prop}(hd:(d==sysModules)=false)(x:RawD s.heap d ds ep)(hfit:(ds.size:Int)<2 ^ 63)(h:∀ t t',Q (.int ds.size t) { s with toks:=t' }):wpAny (model prog w) A (call (.builtin "len") [.ref d]) Q E s:=by
 refine Calls.call_function_entry kind_len plain_len entry_len (args_len1 _) ?_
 unfold Builtin.«len»
 refine B0 (m:=oneArg "len" _) (B1 ?_)
 refine B0 (m:=callSpecial? (.ref d) (Str.ofString "__len__")) (wpAny_callSpecial?_slot (name:=Str.ofString "__len__") x.ty PySem.F.slot_dict_len (call_meetsIn PySem.F.slot_dict_len x.ty PySem.F.entry_dict_len (PySem.F.args_dict_len_1 _) (J3p hd) ⟨ds,ep,x,?_⟩))
 show wpAny _ _ _ _ _ { s with toks:=s.toks+1 }
 refine B0 (W1 (B1 ?_));refine B0 (wpAny_letGo ?_)
 show wpAny _ _ (if ((ds.size:Nat):Int)<0 then _ else _) _ _ _
 rw [if_neg (by omega)]
 show wpAny _ _ (if ((ds.size:Nat):Int)>=2 ^ 63 then _ else _) _ _ _
 rw [if_neg (by omega)]
 exact B0 (wpAny_mkInt (B1 ⟨_,rfl,h _ _⟩))
theorem YN:MeetsIn prog w (Builtin.«dict.values» ⟨[.ref d],[]⟩) (fun _ R s=>(d==sysModules)=false/\(∃ ds ep,RawD s.heap d ds ep)/\R (.ok (.ret (.ref s.heap.objs.size))) { s with heap:=s.heap.push { cls:=.type "dict_values",data:=.fields #[.ref d] } }) :=
 .of_wp fun A R s hx=>by
  obtain ⟨hd,⟨ds,ep,x⟩,h⟩:=hx
  refine B0 ?_
  unfold Builtin.Dict.noArgs
  refine B0 (wpAny_notOrdered_dict x.ty ?_)
  show wpAny _ _ (pure d) _ _ s
  refine B1 ?_
  show wpAny _ _ (Builtin.Dict.showsAll d >>= _) _ _ s
  unfold Builtin.Dict.showsAll
  rw [if_neg (show ¬ ((d==sysModules)=true) by rw [hd];exact L9)]
  refine B0 (B1 (B0 (R9 (B1 ⟨_,rfl,h⟩))))
theorem XF {v:Addr}{Q:Value->Shared->Prop}(hv:s.heap.IsValuesView v d)(x:RawD s.heap d ds ep)
 (hQ:Q (.ref s.heap.objs.size) { s with heap:=s.heap.push { cls:=.type "dict_valueiterator",data:=.fields #[.ref d,.int 0 0,.int ds.size 0,.int ep 0] } }):wpAny (model prog w) A (pyIter (.ref v)) Q E s:=by
 obtain ⟨ov,hov,hcv,hdv⟩:=id hv
 obtain ⟨o,ho,hc,hdat⟩:=x
 refine wpAny_pyIter_slot hv.typeIs PySem.F.slot_dict_values_iter (E7 PySem.F.slot_dict_values_iter hv.typeIs PySem.F.entry_dict_values_iter ?_ (PySem.F.args_dict_values_iter_1 _))
 unfold Builtin.«dict_values.__iter__»
 refine B0 (B1 (B0 ?_))
 unfold Builtin.Dict_items.dictOf
 refine B0 (T6 hov hdv (x:=.ref d) rfl (B1 (B0 ?_)))
 unfold Builtin.Dict_items.newIterator
 refine B0 (B0z ho hdat (B0 (B2f ho hdat ?_)))
 simp only [show Builtin.Dict_items.ownsTuple "dict_valueiterator" = false from by decide,U4,B0g]
 refine R9 (B1 ⟨_,rfl,"dict_valueiterator",_,⟨_,L7 _ rfl,rfl⟩,D9.lookup,?_⟩)
 simpa [rawInt] using hQ
theorem J3z {Q:Value->Shared->Prop}(hd:(d==sysModules)=false)(x:RawD s.heap d ds ep)
 (hQ:Q (.ref s.heap.objs.size) { s with heap:=s.heap.push { cls:=.type "dict_keyiterator",data:=.fields #[.ref d,.int 0 0,.int ds.size 0,.int ep 0] } }):wpAny (model prog w) A (pyIter (.ref d)) Q E s:=by
 have hT:=x.ty
 obtain ⟨o,ho,hc,hdat⟩:=x
 refine wpAny_pyIter_slot hT PySem.F.slot_dict_iter (E7 PySem.F.slot_dict_iter hT PySem.F.entry_dict_iter ?_ (PySem.F.args_dict_iter_1 _))
 unfold Builtin.«dict.__iter__»
 refine B0 ?_
 unfold Builtin.Dict.dictSlotNone
 refine B0 (wpAny_notOrdered_dict hT ?_)
 show wpAny _ _ (pure (Value.ref d)) _ _ s
 refine B1 ?_
 show wpAny _ _ (Builtin.Dict.showsAll d >>= _) _ _ s
 unfold Builtin.Dict.showsAll
 rw [if_neg (show ¬ ((d==sysModules)=true) by rw [hd];exact L9)]
 refine B0 (B1 (B0 (B0z ho hdat (B0 (B2f ho hdat ?_)))))
 refine B0 (R9 (B1 ⟨_,rfl,"dict_keyiterator",_,⟨_,L7 _ rfl,rfl⟩,B0c.lookup,?_⟩))
 simpa [rawInt] using hQ
theorem J3j {e:DictEntry}{Q:Option Value->Shared->Prop}(hit:s.heap.IsValIter it d i ds.size ep)(x:RawD s.heap d ds ep)(hx:ds[i]?=some e)
 (hQ:∀ h',h'.IsValIter it d (i+1) ds.size ep->Heap.SameBut it s.heap h'->Q (some e.val) { s with heap:=h' }):wpAny (model prog w) A (pyNext (.ref it)) Q E s:=by
 obtain ⟨o,ho,hc,hd⟩:=id hit
 obtain ⟨od,hod,hcd,hdd⟩:=x
 unfold pyNext
 refine B0 (B1d (wpAny_callSpecial?_slot (name:=Str.ofString "__next__") hit.typeIs D9 (E7 D9 hit.typeIs B3l ?_ (B3j _))))
 refine B0 (B1 ?_);refine B0 ?_;refine B0 ?_
 first|refine B0 (B1h hit.typeIs (B1 (B0 (B1f ho hd ?_))))|refine B0 (B1x hit.typeIs (B1 (B0 (B1f ho hd ?_))))
 simp only [show Builtin.Dict_items.ownsTuple "dict_valueiterator" = false from by decide,U4,B0g]
 show wpAny _ _ (if (Value.ref d==Value.none)=true then _ else _) _ _ s
 rw [if_neg (show ¬ ((Value.ref d==Value.none)=true) from fun z=>nomatch z)]
 refine B0 (B1 (B0 (B0z hod hdd ?_)))
 rw [if_neg (show ¬ _ by simp)]
 refine B0 (B1 (B0 (B2f hod hdd ?_)))
 rw [if_neg (show ¬ _ by simp)];refine B1 ?_
 simp only [show ¬ ((i:Int)<0) from (by omega),B0g,W8,hx]
 refine B0 ?_
 first|refine B0 (B1h hit.typeIs (B1 (B0 (B2r hit.typeIs ?_))))|refine B0 (B1x hit.typeIs (B1 (B0 (B2r hit.typeIs ?_))))
 show wpAny _ _ (setField (.ref it) 1 (rawInt ((i:Int)+1)) >>= _) _ _ s;refine B0 (B0f ho hd (by simp) ?_)
 have hit':(s.heap.update it (Obj.mapFields (·.setIfInBounds 1 (rawInt ((i:Int)+1))))).IsValIter it d (i+1) ds.size ep:=⟨_,B0e _ ho (B0l (W3 hd _)),(B2n ..).trans hc,by rw [W3 hd];simp [rawInt]⟩
 refine B0 (W1 (B0 (B2r (s:={ s with heap:=s.heap.update it (Obj.mapFields (·.setIfInBounds 1 (rawInt ((i:Int)+1)))) }) hit'.typeIs ?_)))
 refine B0 (B2r (s:={ s with heap:=s.heap.update it (Obj.mapFields (·.setIfInBounds 1 (rawInt ((i:Int)+1)))) }) hit'.typeIs ?_)
 show wpAny _ _ (pure e.val) _ _ _;exact B1 (B1 ⟨_,rfl,B1 (hQ _ hit' (B0v ..))⟩)
theorem J7i {Q:Option Value->Shared->Prop}(hh:A.handled=none)(hit:s.heap.IsValIter it d i ds.size ep)(x:RawD s.heap d ds ep)(hx:ds.size<=i)
 (hQ:∀ h',Heap.ExtBut it s.heap h'->Q none { s with heap:=h' }):wpAny (model prog w) A (pyNext (.ref it)) Q E s:=by
 obtain ⟨o,ho,hc,hd⟩:=id hit
 obtain ⟨od,hod,hcd,hdd⟩:=x
 unfold pyNext
 refine B0 (B1d (wpAny_callSpecial?_slot (name:=Str.ofString "__next__") hit.typeIs D9 (E7 D9 hit.typeIs B3l ?_ (B3j _))))
 refine B0 (B1 ?_);refine B0 ?_;refine B0 ?_
 first|refine B0 (B1h hit.typeIs (B1 (B0 (B1f ho hd ?_))))|refine B0 (B1x hit.typeIs (B1 (B0 (B1f ho hd ?_))))
 simp only [show Builtin.Dict_items.ownsTuple "dict_valueiterator" = false from by decide,U4,B0g]
 show wpAny _ _ (if (Value.ref d==Value.none)=true then _ else _) _ _ s
 rw [if_neg (show ¬ ((Value.ref d==Value.none)=true) from fun z=>nomatch z)]
 refine B0 (B1 (B0 (B0z hod hdd ?_)))
 rw [if_neg (show ¬ _ by simp)]
 refine B0 (B1 (B0 (B2f hod hdd ?_)))
 rw [if_neg (show ¬ _ by simp)];refine B1 ?_
 simp only [show ¬ ((i:Int)<0) from (by omega),B0g,W8,Array.getElem?_eq_none hx]
 refine B0 ?_
 first|refine B0 (B1h hit.typeIs (B1 ?_))|refine B0 (B1x hit.typeIs (B1 ?_))
 show wpAny _ _ (setField (.ref it) 0 .none >>= _) _ _ s;refine B0 (B0f ho hd (by simp) ?_)
 show wpAny _ _ (newExc (.type "StopIteration") [] >>= _) _ _ _;refine B0 ?_
 simp only [newExc,newTuple];refine B0 (R9 ?_ (by size_fits))
 refine B0 (m:=firstArgMember _ _) (B3g (a:=Value.none) (by first|rfl|(simp only [firstArgMember];rfl)) (R9 ?_ (by size_fits)))
 simp only [raiseNew];refine B0 (wpAny_handled ?_)
 rw [show A.in1.handled=none from hh];refine B0 (B1 (wpAny_throw ?_))
 refine B0 (B3i (T:="StopIteration") (b:=true) ⟨_,L7 _ rfl,rfl⟩ isSubtype_stop (B1 (hQ _ (((B0v ..).extBut.push _).push _))))
theorem J3k {e:DictEntry}{Q:Option Value->Shared->Prop}(hit:s.heap.IsKeyIter it d i ds.size ep)(x:RawD s.heap d ds ep)(hx:ds[i]?=some e)
 (hQ:∀ h',h'.IsKeyIter it d (i+1) ds.size ep->Heap.SameBut it s.heap h'->Q (some e.key) { s with heap:=h' }):wpAny (model prog w) A (pyNext (.ref it)) Q E s:=by
 obtain ⟨o,ho,hc,hd⟩:=id hit
 obtain ⟨od,hod,hcd,hdd⟩:=x
 unfold pyNext
 refine B0 (B1d (wpAny_callSpecial?_slot (name:=Str.ofString "__next__") hit.typeIs B0c (E7 B0c hit.typeIs B3p ?_ (B3m _))))
 refine B0 (B1 ?_);refine B0 ?_;refine B0 ?_
 first|refine B0 (B1i hit.typeIs (B1 (B0 (B1f ho hd ?_))))|refine B0 (B1y hit.typeIs (B1 (B0 (B1f ho hd ?_))))
 simp only [show Builtin.Dict_items.ownsTuple "dict_keyiterator" = false from by decide,U4,B0g]
 show wpAny _ _ (if (Value.ref d==Value.none)=true then _ else _) _ _ s
 rw [if_neg (show ¬ ((Value.ref d==Value.none)=true) from fun z=>nomatch z)]
 refine B0 (B1 (B0 (B0z hod hdd ?_)))
 rw [if_neg (show ¬ _ by simp)]
 refine B0 (B1 (B0 (B2f hod hdd ?_)))
 rw [if_neg (show ¬ _ by simp)];refine B1 ?_
 simp only [show ¬ ((i:Int)<0) from (by omega),B0g,W8,hx]
 refine B0 ?_
 first|refine B0 (B1i hit.typeIs (B1 (B0 (wpAny_isOneOf_keyiter hit.typeIs ?_))))|refine B0 (B1y hit.typeIs (B1 (B0 (wpAny_isOneOf_keyiter hit.typeIs ?_))))
 show wpAny _ _ (setField (.ref it) 1 (rawInt ((i:Int)+1)) >>= _) _ _ s;refine B0 (B0f ho hd (by simp) ?_)
 have hit':(s.heap.update it (Obj.mapFields (·.setIfInBounds 1 (rawInt ((i:Int)+1))))).IsKeyIter it d (i+1) ds.size ep:=⟨_,B0e _ ho (B0l (W3 hd _)),(B2n ..).trans hc,by rw [W3 hd];simp [rawInt]⟩
 refine B0 (W1 (B0 (wpAny_isOneOf_keyiter (s:={ s with heap:=s.heap.update it (Obj.mapFields (·.setIfInBounds 1 (rawInt ((i:Int)+1)))) }) hit'.typeIs ?_)))
 show wpAny _ _ (pure e.key) _ _ _;exact B1 (B1 ⟨_,rfl,B1 (hQ _ hit' (B0v ..))⟩)
theorem J7j {Q:Option Value->Shared->Prop}(hh:A.handled=none)(hit:s.heap.IsKeyIter it d i ds.size ep)(x:RawD s.heap d ds ep)(hx:ds.size<=i)
 (hQ:∀ h',Heap.ExtBut it s.heap h'->Q none { s with heap:=h' }):wpAny (model prog w) A (pyNext (.ref it)) Q E s:=by
 obtain ⟨o,ho,hc,hd⟩:=id hit
 obtain ⟨od,hod,hcd,hdd⟩:=x
 unfold pyNext
 refine B0 (B1d (wpAny_callSpecial?_slot (name:=Str.ofString "__next__") hit.typeIs B0c (E7 B0c hit.typeIs B3p ?_ (B3m _))))
 refine B0 (B1 ?_);refine B0 ?_;refine B0 ?_
 first|refine B0 (B1i hit.typeIs (B1 (B0 (B1f ho hd ?_))))|refine B0 (B1y hit.typeIs (B1 (B0 (B1f ho hd ?_))))
 simp only [show Builtin.Dict_items.ownsTuple "dict_keyiterator" = false from by decide,U4,B0g]
 show wpAny _ _ (if (Value.ref d==Value.none)=true then _ else _) _ _ s
 rw [if_neg (show ¬ ((Value.ref d==Value.none)=true) from fun z=>nomatch z)]
 refine B0 (B1 (B0 (B0z hod hdd ?_)))
 rw [if_neg (show ¬ _ by simp)]
 refine B0 (B1 (B0 (B2f hod hdd ?_)))
 rw [if_neg (show ¬ _ by simp)];refine B1 ?_
 simp only [show ¬ ((i:Int)<0) from (by omega),B0g,W8,Array.getElem?_eq_none hx]
 refine B0 ?_
 first|refine B0 (B1i hit.typeIs (B1 ?_))|refine B0 (B1y hit.typeIs (B1 ?_))
 show wpAny _ _ (setField (.ref it) 0 .none >>= _) _ _ s;refine B0 (B0f ho hd (by simp) ?_)
 show wpAny _ _ (newExc (.type "StopIteration") [] >>= _) _ _ _;refine B0 ?_
 simp only [newExc,newTuple];refine B0 (R9 ?_ (by size_fits))
 refine B0 (m:=firstArgMember _ _) (B3g (a:=Value.none) (by first|rfl|(simp only [firstArgMember];rfl)) (R9 ?_ (by size_fits)))
 simp only [raiseNew];refine B0 (wpAny_handled ?_)
 rw [show A.in1.handled=none from hh];refine B0 (B1 (wpAny_throw ?_))
 refine B0 (B3i (T:="StopIteration") (b:=true) ⟨_,L7 _ rfl,rfl⟩ isSubtype_stop (B1 (hQ _ (((B0v ..).extBut.push _).push _))))
end
def Idv (a:Addr)(es:Ens)(ep:Nat):It :=
 ⟨fun i H=>H a=some (DOb a es ep)/\∃ e x,es[i]?=some e/\RelV x e.2.2,fun i H x H'=>H'=H/\∃ e,es[i]?=some e/\RelV x e.2.2,fun i H=>H a=some (DOb a es ep)/\es.length<=i⟩
def Idk (a:Addr)(es:Ens)(ep:Nat):It :=
 ⟨fun i H=>H a=some (DOb a es ep)/\i<es.length,fun i H x H'=>H'=H/\∃ e,es[i]?=some e/\x=.ref e.2.1,fun i H=>H a=some (DOb a es ep)/\es.length<=i⟩
section
variable {X:Cx}{pins:List (Addr×Obj)}{σ:St}{H:Hp}{s:Shared}{a:Addr}{es:Ens}{ep:Nat}{tg:Expr}
theorem Inv.raw (I:Inv X pins σ H s)(h:H a=some (DOb a es ep)):((a==sysModules)=false/\es.length<=sizeLine)/\∃ ds,RawD s.heap a ds ep/\ds.size=es.length/\∀ (i:Nat) e,es[i]?=some e->ds[i]?=some (Q7j e):=by
 obtain ⟨⟨⟨h1,h2,h3⟩,o,ds,e1,e2,e3,e4⟩,_⟩:=I.hok a _ h
 refine ⟨⟨h1,h2⟩,ds,⟨o,e1,e2,e3⟩,?_,fun i e q=>?_⟩
 · have:=D7 List.length e4
   simpa using this
 · rw [<- Array.getElem?_toList,e4,M1,q];rfl
theorem J9s (it:Addr):Turn P w K tg (Idv a es ep) [it] it (fun i h=>h.IsValIter it a i es.length ep) where
 mem:=by simp
 obj:=fun i h st b hb=>by
  rw [M6.mp hb]
  obtain ⟨o,e,c,d⟩:=st
  exact ⟨o,e,fun v z=>by rw [d] at z;cases z⟩
 keep:=fun i h h' st k=>by
  obtain ⟨o,e,q⟩:=st
  exact ⟨o,k it (by simp) o e,q⟩
 item:=by
  intro X hP hw hK hc i pins s σ H E I hf st hg
  subst hP hw hK
  obtain ⟨hd,e,x,he,rx⟩:=hg
  obtain ⟨⟨h1,h2⟩,ds,raw,hsz,hat⟩:=I.raw hd
  obtain ⟨f0,f1,f2,f3,f4,f5⟩:=hf it (by simp)
  rw [<- hsz] at st
  refine J3j st raw (hat i e he) fun h' st' sb=>?_
  have I1:Inv X pins σ H { s with heap:=h' }:=I.turned (t':=s.toks) (fun b o hb e=>(sb.2 b hb).trans e) f0 f1 f3 f4 f5
  obtain ⟨o,e',c,d⟩:=id st'
  rw [hsz] at st'
  exact ⟨_,rfl,QB (s:={ s with heap:=h' }) e' c d (by decide) ⟨x,H,I1,rx,⟨rfl,e,he,rx⟩,st',fun b hb=>(hf b hb).1⟩⟩
 done:=by
  intro X hP hw hK hc i pins s σ H E I hf st hg
  subst hP hw hK
  obtain ⟨hd,hi⟩:=hg
  obtain ⟨⟨h1,h2⟩,ds,raw,hsz,hat⟩:=I.raw hd
  obtain ⟨f0,f1,f2,f3,f4,f5⟩:=hf it (by simp)
  rw [<- hsz] at st
  exact J7i (I.ok.hd hc) st raw (by omega) fun h' eb=>⟨rfl,I.turned (t':=s.toks) (fun b o hb e=>eb b o hb e) f0 f1 f3 f4 f5⟩
 self:=fun _ _ s Q E st h=>wpAny_pyIter_valiter st h
theorem J9t (it:Addr):Turn P w K tg (Idk a es ep) [it] it (fun i h=>h.IsKeyIter it a i es.length ep) where
 mem:=by simp
 obj:=fun i h st b hb=>by
  rw [M6.mp hb]
  obtain ⟨o,e,c,d⟩:=st
  exact ⟨o,e,fun v z=>by rw [d] at z;cases z⟩
 keep:=fun i h h' st k=>by
  obtain ⟨o,e,q⟩:=st
  exact ⟨o,k it (by simp) o e,q⟩
 item:=by
  intro X hP hw hK hc i pins s σ H E I hf st hg
  subst hP hw hK
  obtain ⟨hd,hi⟩:=hg
  obtain ⟨e,he⟩:∃ e,es[i]?=some e:=⟨es[i],M5 hi⟩
  obtain ⟨⟨h1,h2⟩,ds,raw,hsz,hat⟩:=I.raw hd
  obtain ⟨f0,f1,f2,f3,f4,f5⟩:=hf it (by simp)
  rw [<- hsz] at st
  refine J3k st raw (hat i e he) fun h' st' sb=>?_
  have I1:Inv X pins σ H { s with heap:=h' }:=I.turned (t':=s.toks) (fun b o hb e=>(sb.2 b hb).trans e) f0 f1 f3 f4 f5
  obtain ⟨o,e',c,d⟩:=id st'
  rw [hsz] at st'
  exact ⟨_,rfl,QB (s:={ s with heap:=h' }) e' c d (by decide) ⟨.ref e.2.1,H,I1,rfl,⟨rfl,e,he,rfl⟩,st',fun b hb=>(hf b hb).1⟩⟩
 done:=by
  intro X hP hw hK hc i pins s σ H E I hf st hg
  subst hP hw hK
  obtain ⟨hd,hi⟩:=hg
  obtain ⟨⟨h1,h2⟩,ds,raw,hsz,hat⟩:=I.raw hd
  obtain ⟨f0,f1,f2,f3,f4,f5⟩:=hf it (by simp)
  rw [<- hsz] at st
  exact J7j (I.ok.hd hc) st raw (by omega) fun h' eb=>⟨rfl,I.turned (t':=s.toks) (fun b o hb e=>eb b o hb e) f0 f1 f3 f4 f5⟩
 self:=fun _ _ s Q E st h=>wpAny_pyIter_keyiter st h
noncomputable def Q9s (to:TE):TI:=fun σ H R=>to σ H fun x H1=>∃ a es ep,x=.ref a/\H1 a=some (DOb a es ep)/\R (Idv a es ep) H1
noncomputable def Q9x (to:TE):TI:=fun σ H R=>to σ H fun x H1=>∃ a es ep,x=.ref a/\H1 a=some (DOb a es ep)/\R (Idk a es ep) H1
theorem Q0m {o:Expr}{to:TE}{apos cpos:Pos}(ho:PE X o to)(hbase:attributeBase o "values" X.env (eval o X.env)=eval o X.env:=by rfl) (hline:(apos.endLine==cpos.line)=true:=by rfl):PI X tg (.Call (.Attribute o "values" apos) [] [] cpos) (Q9s to):=by
 intro pins s σ H R I h
 refine wpAny_Call_method0_late hbase hline (thn (ho pins s σ H _ I h) fun v s1 hx=>?_)
 obtain ⟨x,H1,I1,r1,a,es,ep,rfl,hd,q⟩:=hx
 cases r1
 obtain ⟨⟨h1,h2⟩,ds,raw,hsz,hat⟩:=I1.raw hd
 refine ⟨"dict","dict.values",PySem.F.plainAttrs_dict,PySem.F.slot_dict_values,PySem.F.type_dict_values,raw.ty,fun b e=>?_,Calls.callWith_builtin rfl (PySem.evalArgs_none ?_)⟩
 · cases e
   obtain ⟨o,e1,e2,_⟩:=raw
   exact ⟨o,e1,e2.2.1⟩
 refine call_meetsIn PySem.F.slot_dict_values raw.ty PySem.F.entry_dict_values (PySem.F.args_dict_values_1 _) YN ⟨h1,⟨ds,ep,raw⟩,?_⟩
 have I2:Inv X pins σ H1 { s1 with heap:=s1.heap.push { cls:=.type "dict_values",data:=.fields #[.ref a] } }:=I1.kept (t':=s1.toks) fun b o e=>B2 _ e
 obtain ⟨_,ds2,raw2,hsz2,hat2⟩:=I2.raw hd
 refine XF (s:={ s1 with heap:=s1.heap.push { cls:=.type "dict_values",data:=.fields #[.ref a] } }) ⟨_,L7 _ rfl,rfl,rfl⟩ raw2 ?_
 rw [hsz2]
 refine ⟨_,[_],_,_,H1,rfl,I2.kept (t':=s1.toks) fun b o e=>B2 _ e,J9s _,⟨_,L7 _ rfl,rfl,rfl⟩,fun b hb=>?_,q⟩
 rw [M6.mp hb]
 exact I2.fpOk (L8 _) (I2.hok.fresh (L8 _))
theorem Q0n {o:Expr}{to:TE}(ho:PE X o to):PI X tg o (Q9x to):=by
 intro pins s σ H R I h
 refine thn (ho pins s σ H _ I h) fun v s1 hx=>?_
 obtain ⟨x,H1,I1,r1,a,es,ep,rfl,hd,q⟩:=hx
 cases r1
 obtain ⟨⟨h1,h2⟩,ds,raw,hsz,hat⟩:=I1.raw hd
 refine J3z h1 raw ?_
 rw [hsz]
 refine ⟨_,[_],_,_,H1,rfl,I1.kept (t':=s1.toks) fun b o e=>B2 _ e,J9t _,⟨_,L7 _ rfl,rfl,rfl⟩,fun b hb=>?_,q⟩
 rw [M6.mp hb]
 exact I1.fpOk (L8 _) (I1.hok.fresh (L8 _))
theorem SX:CB X (.builtin "len") (fun xs H Q=>∃ a es ep,xs=[.ref a]/\H a=some (DOb a es ep)/\Q (.int es.length) H):=by
 intro pins s σ H xs us Q I r h
 obtain ⟨a,es,ep,rfl,hd,q⟩:=h
 cases r with
 | cons r1 r2 =>
 cases r2
 cases r1
 obtain ⟨⟨h1,h2⟩,ds,raw,hsz,hat⟩:=I.raw hd
 refine Q0w h1 raw (by have:=MD;omega) fun t t'=>?_
 rw [hsz]
 exact ⟨.int es.length,H,I.tok _,⟨_,rfl⟩,q⟩
end
section
variable {X:Cx}{W:Wd}{e o tg:Expr}{es:List Expr}{de:DE}
noncomputable def V1s (K:Fg):D->D->(D->Prop)->Prop:=fun x y P=>∃ t ks xs ns d,asD K x t ks xs/\y=.tup (ns.map D.int)/\AL ks xs ns=some d/\P d
theorem J0o {H:Hp}{ns:List Int}{v:V}(r:RepX W M b H (.tup (ns.map D.int)) v):∃ c,v=.ref c/\SqT W.K H c (ns.map V.int):=by
 obtain ⟨c,us,rfl,hb,rks⟩:=(show Rep W.K M H (.tup (ns.map D.int)) v from r)
 cases rks.ints
 exact ⟨c,rfl,hb.sq⟩
theorem UK:OpD W (Q4w W.K) (V1s W.K):=by
 intro M b H x y v u P Q hs rx ry ho k
 obtain ⟨t,ks,xs,ns,d,hx,rfl,hf,hP⟩:=ho
 obtain ⟨a,vs,rfl,hd,hE,rr⟩:=hx.rep rx
 obtain ⟨c,rfl,hc⟩:=J0o ry
 have q:=MH ns hE.1 hE.2.2 rr
 rw [hf] at q
 obtain ⟨p,v,e1,rv,r1⟩:=q
 exact ⟨a,c,t.1,t.2,ns,p,v,rfl,rfl,hd,hE.keys,hc,e1,rv,k d v H hP r1.x (Kp.refl _ _) hs.ok⟩
theorem NV (K:Fg)(h:X.K=K)(hu:X.A.units+64<cLine):IxR X (Q4w K):=by subst h;exact Q5r (by omega)
noncomputable def V1t (K:Fg)(g:Bool->Bool):D->D->(D->Prop)->Prop:=fun x y P=>∃ t ks xs ns,asD K y t ks xs/\x=.tup (ns.map D.int)/\P (.bl (g (AL ks xs ns).isSome))
theorem J6h {g:Bool->Bool}:OpD W (Q8z W.K g) (V1t W.K g):=by
 intro M b H x y v u P Q hs rx ry ho k
 obtain ⟨t,ks,xs,ns,hy,rfl,hP⟩:=ho
 obtain ⟨a,vs,rfl,hd,hE,rr⟩:=hy.rep ry
 obtain ⟨c,rfl,hc⟩:=J0o rx
 have q:=MH ns hE.1 hE.2.2 rr
 refine ⟨a,c,t.1,t.2,ns,rfl,rfl,hd,hE.keys,hc,?_⟩
 have e:(atKey t.1 ns).isSome=(AL ks xs ns).isSome:=by
  cases ef:AL ks xs ns with
  | none=>rw [ef] at q;rw [show atKey t.1 ns=none from q];rfl
  | some d=>rw [ef] at q;obtain ⟨p,v,e1,_⟩:=q;rw [e1];rfl
 rw [e]
 exact k _ _ H hP rfl (Kp.refl _ _) hs.ok
noncomputable def Q9k (K:Fg):List D->(D->Prop)->Prop
 | [x],P=>∃ t ks xs,asD K x t ks xs/\P (.int ks.length)
 | _,_=>False
theorem J1u:FD W (fun xs H Q=>∃ a es ep,xs=[.ref a]/\H a=some (DOb a es ep)/\Q (.int es.length) H) (Q9k W.K):=by
 intro M b H xs vs P Q hs rx ho k
 match xs,ho with
 | [x],ho =>
   obtain ⟨t,ks,ys,hx,hP⟩:=ho
   obtain ⟨v,rfl,r⟩:=rx1 rx
   obtain ⟨a,us,rfl,hd,hE,rr⟩:=hx.rep r
   refine ⟨a,t.1,t.2,rfl,hd,?_⟩
   have:t.1.length=ks.length:=by rw [<- hE.1];simp
   rw [this]
   exact k _ _ H hP rfl (Kp.refl _ _) hs.ok
def IV (ks:List (List Int)):List D:=ks.map fun k=>.tup (k.map D.int)
noncomputable def Q9y (K:Fg)(fz:Bool)(g:List (List Int)->List D->List D)(de:DE):DA:=fun ρ P=>de ρ fun x=>∃ t ks xs,(x=.dct t ks xs\/(fz=false/\∃ a,x=dcg K a t ks xs))/\P (g ks xs)
theorem Q1h {x:D}{t:Tg}{ks:List (List Int)}{xs:List D}{a:Addr}(hx:asD W.K x t ks xs):KC W (Idv a t.1 t.2) [(x,.ref a)] xs:=by
 intro M b H hs hn
 obtain ⟨a',vs,e,hd,hE,rr⟩:=hx.rep (hn _ (M6.mpr rfl))
 cases e
 have hl:t.1.length=xs.length:=by
  have h1:=hE.2.2.length
  rw [B9,rr.length] at h1
  exact h1.symm
 refine ⟨fun i d e=>?_,fun i hi=>⟨hd,by rw [hl];exact hi⟩⟩
 obtain ⟨v,e1,r1⟩:=rr.get e
 obtain ⟨u,e2,ru⟩:=hE.2.2.get e1
 rw [M1] at e2
 obtain ⟨en,e3,e4⟩:=M7.mp e2
 refine ⟨⟨hd,en,v,e3,by rw [e4];exact ru⟩,fun y H3 ⟨eH,en',e5,ry⟩=>?_⟩
 subst eH
 rw [e3] at e5;cases e5
 rw [e4] at ry
 cases ry.inj ru
 exact ⟨Same.refl _,r1.x⟩
theorem Reps.ofInts {H:Hp}:∀ ns:List Int,Reps K M H (ns.map D.int) (ns.map V.int)
 | []=>rfl
 | n::ns=>⟨_,_,rfl,rfl,Reps.ofInts ns⟩
theorem Q1i {x:D}{t:Tg}{ks:List (List Int)}{xs:List D}{a:Addr}(hx:asD W.K x t ks xs):KC W (Idk a t.1 t.2) [(x,.ref a)] (IV ks):=by
 intro M b H hs hn
 obtain ⟨a',vs,e,hd,hE,rr⟩:=hx.rep (hn _ (M6.mpr rfl))
 cases e
 have hl:t.1.length=ks.length:=by rw [<- hE.1];simp
 have hk:(IV ks).length=ks.length:=by unfold IV;simp
 refine ⟨fun i d e=>?_,fun i hi=>⟨hd,by rw [hl,<- hk];exact hi⟩⟩
 have hi:i<t.1.length:=by rw [hl,<- hk];exact (B7.mp e).1
 refine ⟨⟨hd,hi⟩,fun y H3 ⟨eH,en,e5,ry⟩=>?_⟩
 subst eH ry
 refine ⟨Same.refl _,?_⟩
 have ed:d=.tup (en.1.map D.int):=by
  unfold IV at e
  rw [<- hE.1,B0k,M1,e5] at e
  exact (Option.some.inj e).symm
 subst ed
 exact ⟨en.2.1,en.1.map V.int,rfl,hE.2.1 en (L4 e5),Reps.ofInts en.1⟩
theorem XB (ks:List (List Int)):(IV ks).all plain=true:=by
 unfold IV
 rw [List.all_map]
 exact E5.mpr fun k _=>rfl
theorem J6t {fz:Bool}{apos cpos:Pos}(hK:X.K=W.K)(h:JE X W o de)(hbase:attributeBase o "values" X.env (eval o X.env)=eval o X.env:=by rfl) (hline:(apos.endLine==cpos.line)=true:=by rfl):JI X W fz tg (.Call (.Attribute o "values" apos) [] [] cpos) (Q9y W.K fz (fun _ xs=>xs) de) :=
 ⟨(Q0m h.h hbase hline).mono fun σ H R hh=>hh.elim fun pn M b ρ P st h k=>by
   refine ⟨pn,M,b,ρ,_,st,h,fun x v H1 hx rx k1 o1=>?_⟩
   obtain ⟨t,ks,xs,hx,hP⟩:=hx
   have hA:asD W.K x t ks xs:=hx.imp id fun z=>z.2
   obtain ⟨a,vs,rfl,hd,hE,rr⟩:=hA.rep rx
   refine ⟨a,t.1,t.2,rfl,hd,k _ _ _ H1 hP rr.plain (Q1h hA) (fun q hq=>?_) k1 o1⟩
   rw [M6.mp hq]
   exact ⟨rx,fun z=>hx.elim (fun e=>by rw [e];rfl) fun e=>by rw [z] at e;cases e.1⟩⟩
theorem J6u {fz:Bool}(hK:X.K=W.K)(h:JE X W o de):JI X W fz tg o (Q9y W.K fz (fun ks _=>IV ks) de) :=
 ⟨(Q0n h.h).mono fun σ H R hh=>hh.elim fun pn M b ρ P st h k=>by
   refine ⟨pn,M,b,ρ,_,st,h,fun x v H1 hx rx k1 o1=>?_⟩
   obtain ⟨t,ks,xs,hx,hP⟩:=hx
   have hA:asD W.K x t ks xs:=hx.imp id fun z=>z.2
   obtain ⟨a,vs,rfl,hd,hE,rr⟩:=hA.rep rx
   refine ⟨a,t.1,t.2,rfl,hd,k _ _ _ H1 hP (XB ks) (Q1i hA) (fun q hq=>?_) k1 o1⟩
   rw [M6.mp hq]
   exact ⟨rx,fun z=>hx.elim (fun e=>by rw [e];rfl) fun e=>by rw [z] at e;cases e.1⟩⟩
end
section
variable {gd gd2:D->Ev->(Ev->Prop)->Prop}{dt:DT}{de:DE}{ρc:Ev}{items acc0:List D}{P:List D->Prop}{mp2:List (Option Nat)}{di2:DA}
theorem MK (f:D->D)(hs:∀ x (Q:D->Prop),x∈items->Q (f x)->gd x ρc fun ρ1=>de ρ1 Q)(hp:∀ x∈items,plain (f x)=true)(hd:P (acc0++items.map f)):compG gd QI de ρc items acc0 P:=by
 refine ⟨fun i acc=>acc=acc0++(items.take i).map f,by simp,fun i x acc e h=>?_,fun acc h=>?_⟩
 · have m:=L4 e
   show gd x ρc fun ρ1=>IfP true (de ρ1 fun y=>plain y=true/\acc++[y]=acc0++(items.take (i+1)).map f) _
   simp only [QQ]
   refine hs x _ m ⟨hp x m,?_⟩
   rw [h,W7,e,E9,U3,<- B3a]
   rfl
 · rw [h,E4];exact hd
theorem SW {de:DA}{P:List (List D)->Prop}(f:D->List D)(hs:∀ x (Q:List D->Prop),x∈items->Q (f x)->gd x ρc fun ρ1=>de ρ1 Q)(hd:P (items.map f)):compR gd QI de ρc items P:=by
 refine ⟨fun i acc=>acc=(items.take i).map f,rfl,fun i x acc e h=>?_,fun acc h=>?_⟩
 · have m:=L4 e
   show gd x ρc fun ρ1=>IfP true (de ρ1 fun y=>acc++[y]=(items.take (i+1)).map f) _
   simp only [QQ]
   refine hs x _ m ?_
   rw [h,W7,e,E9,U3]
   rfl
 · rw [h,E4];exact hd
theorem QK (rowf:D->List D)(hs:∀ x∈items,∀ acc (Q:List D->Prop),Q (acc++rowf x)->gd x ρc fun ρ1=>di2 ρ1 fun ys=>ys.length<=1000/\compG gd2 dt de (HH ρ1 mp2) ys acc Q)(hd:P (items.flatMap rowf)):compI2 gd mp2 di2 gd2 dt de ρc items P:=by
 refine ⟨fun i acc=>acc=(items.take i).flatMap rowf,rfl,fun i x acc e h=>?_,fun acc h=>?_⟩
 · refine hs x (L4 e) acc _ ?_
   rw [h,W7,e,E9,B2s]
   simp
 · rw [h,E4];exact hd
end
section
theorem RawD.at {h h':Heap}{d:Addr}{ds:Array DictEntry}{ep:Nat}(x:RawD h d ds ep)(k:∀ o,h.get? d=some o->h'.get? d=some o):RawD h' d ds ep:=let ⟨o,e,q⟩:=x;⟨o,k o e,q⟩
end
def tgF (K:Fg)(p a:Addr)(rs:List Addr)(rows:List (List D))(n:Int):Frg where
 ads:=a::rs
 R:=fun M H v=>v=.ref p/\¬ M p/\H p=some (.tup [.ref a,.int n])/\(MY K a rs rows).R M H (.ref a)
 keep:=fun M H H' v k h=>⟨h.1,h.2.1,k _ _ (.inl h.2.1) h.2.2.1,(MY K a rs rows).keep M H H' _ k h.2.2.2⟩
 avoid:=fun M M' H v k h=>⟨h.1,fun m=>(k p m).elim h.2.1 (fun z=>by rw [h.2.2.1] at z;cases z),h.2.2.1,(MY K a rs rows).avoid M M' H _ k h.2.2.2⟩
 ref:=fun M H v h=>⟨p,h.1⟩
 nt:=fun M H v h=>(MY K a rs rows).nt M H _ h.2.2.2
def tgd (K:Fg)(p a:Addr)(rs:List Addr)(rows:List (List D))(n:Int):D:=.frg (tgF K p a rs rows n) (.tup [EA rows,.int n])
theorem J0q {W:Wd} {H:Hp}{p a:Addr}{rs:List Addr}{rows:List (List D)}{n:Int}(np:¬ M p)(hp:H p=some (.tup [.ref a,.int n]))(ho:∀ c∈a::rs,M c/\b≠some c/\W.H0 c=none/\¬ W.M0 c)(nd:(a::rs).Nodup)(ha:H a=some (.lst (rs.map V.ref)))(hr:RowsR W.K M H rs rows):RepX W M b H (tgd W.K p a rs rows n) (.ref p) :=
 ⟨ho,⟨rfl,np,hp,rfl,nd,ha,hr⟩,p,[.ref a,.int n],rfl,.inl ⟨fun m=>np m.1,hp⟩,.ref a,[.int n],rfl,⟨a,_,rfl,⟨fun m=>m.2 (B8 ..),ha⟩,RowsR.reps (A:=a::rs) rs rows (fun r m=>B5 _ m) hr⟩,.int n,[],rfl,rfl,rfl⟩
theorem YQ {W:Wd} {H:Hp}{p a:Addr}{rs:List Addr}{rows:List (List D)}{n:Int}{v:V}(h:RepX W M b H (tgd W.K p a rs rows n) v):v=.ref p/\¬ M p/\H p=some (.tup [.ref a,.int n])/\(∀ c∈a::rs,M c/\b≠some c/\W.H0 c=none/\¬ W.M0 c)/\(a::rs).Nodup/\H a=some (.lst (rs.map V.ref))/\RowsR W.K M H rs rows:=⟨h.2.1.1,h.2.1.2.1,h.2.1.2.2.1,h.1,h.2.1.2.2.2.2.1,h.2.1.2.2.2.2.2.1,h.2.1.2.2.2.2.2.2⟩
abbrev DST:=List D->(List (List D)->Int->Prop)->(Addr->Prop)->Prop
structure TNew (K:Fg)(M:Addr->Prop)(H H':Hp)(p a:Addr)(rs:List Addr)(rows:List (List D))(n:Int):Prop extends GNew K M H H' a rs rows where
 p0:H p=none
 hp:H' p=some (.tup [.ref a,.int n])
def CP (K:Fg)(B:BagT)(S:DST):Sp:=fun vs H Q E=>∃ (M:Addr->Prop) (b:Option Addr) (ds:List D) (P:List (List D)->Int->Prop) (Ed:Addr->Prop),S ds P Ed/\RepAs K M b H ds vs/\okB B b H/\(∀ p,b=some p->M p)/\(∀ c,M c->∃ o,H c=some o) /\
 (∀ rows n p a rs H',P rows n->TNew K M H H' p a rs rows n->Kp b H H'->okB B b H'->Q (.ref p) H')/\∀ C H',Ed C->Kp b H H'->okB B b H'->E (.ref C) none H'
theorem CP.len {B:BagT}{S:DST}{n:Nat}(h:∀ ds P Ed,S ds P Ed->ds.length=n):∀ vs H Q E,CP K B S vs H Q E->vs.length=n:=fun vs H Q E ⟨M,b,ds,P,Ed,hS,hr,_⟩=>by rw [hr.length];exact h _ _ _ hS
abbrev DTg:=(List (List D)->Int->Prop)->DS
def snT (W:Wd)(d:DTg):TS:=fun E σ H=>∃ pn M b ρ F P,StS W pn M b H σ ρ/\Link W pn E F/\(∀ rows n p a rs H',P rows n->TNew W.K W.M0 W.H0 H' p a rs rows n->Kp W.b0 W.H0 H'->okB W.B W.b0 H'->E.rt (.ref p) H')/\d P F ρ
structure JTgs (X:Cx)(W:Wd)(sts:List Stmt)(d:DTg):Prop where
 h:PSs X sts (snT W d)
theorem HW {X:Cx}{W:Wd}{st:Stmt}{rest:List Stmt}{d1:DS}{d2:DTg}(h1:JS X W st d1)(h2:JTgs X W rest d2):JTgs X W (st::rest) (fun P F=>d1 { F with nx:=d2 P F }):=⟨(Z2 h1.h h2.h).mono fun E σ H hh=>by
 obtain ⟨pn,M,b,ρ,F,P,s,l,lg,h⟩:=hh
 exact ⟨pn,M,b,ρ,{ F with nx:=d2 P F },s,⟨fun M b ρ σ H s' h'=>⟨pn,M,b,ρ,F,P,s',l,lg,h'⟩,l.rt,l.bk,l.ct,l.ro⟩,h⟩⟩
noncomputable def Q7f (K:Fg)(i j:Nat):DTg:=fun P _ ρ=>∃ a rs rows,ρ[i]?=some (some (grd K a rs rows))/\∃ n,ρ[j]?=some (some (.int n))/\P rows n
theorem Q1a {X:Cx}{W:Wd}{i j:Nat}{e1 e2:Expr}{x1}{pos tpos:Pos}(h:PA X [e1,e2] (RT (IZ i) (RT (IZ j) J9v))):JTgs X W [.Return (some (.Tuple [e1,e2] x1 tpos)) pos] (Q7f W.K i j):=⟨(AX (DB (J6a h))).mono fun E σ H hh=>by
 obtain ⟨pn,M,b,ρ,F,P,s,l,lg,a,rs,rows,e,n,ej,hP⟩:=hh
 obtain ⟨v,ev,r⟩:=s.env i _ e
 obtain ⟨rfl,ho,nd,ha,hr⟩:=J7c r
 obtain ⟨vj,evj,rj⟩:=s.env j _ ej
 cases (show vj=.int n from rj)
 refine ⟨.ref a,ev,.int n,evj,R5 (R3 rfl) AF,fun p hp=>?_⟩
 have s3:=s.step (Kp.upd (o:=.tup [.ref a,.int n]) hp) (s.toHs.okU hp)
 refine lg rows n p a rs _ hP ⟨⟨(ho a (B8 ..)).2.2.1,fun r m=>(ho r (B5 _ m)).2.2.1,nd,Same.upd hp _ _ ha,RowsR.keep rs rows (fun c o z e=>Same.upd hp c o e) (RowsR.avoid (fun c z=>.inl ?_) rs rows hr)⟩,(s.toSta.fresh0 hp).1,V5⟩ s3.kp s3.ok0
 rcases z with z|z
 · exact s.m0 c z
 · exact (ho c z).1⟩
theorem Fun.okDXT {P:Program}{w:World} {mg:Str->Option Value}{base:Heap}{CX:CXT}{x qual:Str}{st:Stmt}{f:Addr} {N ps:List Str}{k:Nat}{B:BagT}{Sd:DST}(F:Fun K x qual st f fd)(S:FnScope N ps (J7 st))(len:∀ ds PP Ed,Sd ds PP Ed->ds.length=ps.length)
 (hbody:∀ (cdv:Value) (A:Around) (outer:List Env) (s:Shared) (H:Hp) (E:XK) (M:Addr->Prop) (bg:Option Addr) (ds:List D) (PP:List (List D)->Int->Prop) (Ed:Addr->Prop),Room k (A.deeper (envOfC qual (J7 st) s.heap.objs.size f cdv))->EI ⟨K,B,H,M,bg⟩ E Ed->Sd ds PP Ed ->
  ∃ d:DTg,JTgs (BW CX P w K mg base N qual (J7 st) f cdv A outer s H E) ⟨K,B,H,M,bg⟩ (BN st) d/\d PP { nx:=fun _=>False,rt:=fun _=>False } (BD N ds)):FnOk P w K mg base CX (k+1) f fd ps (CP K B Sd) :=
 F.okX S (CP.len len) fun cdv A outer s H vs Q E hr h=>by
  obtain ⟨M,bg,ds,PP,Ed,hS,hR,ho,hb,hd,hq,hx⟩:=h
  obtain ⟨d,J,q⟩:=hbody cdv A outer s H E M bg ds PP Ed hr (fun C H' e k o=>hx C H' e k o) hS
  exact ⟨_,J.h,[],M,bg,BD N ds,{ nx:=fun _=>False,rt:=fun _=>False },PP,J7h hR ho hb hd,⟨fun _ _ _ _ _ _ h=>h.elim,fun _ _ _ h=>h.elim,fun _ _ _ _ _ _ h=>h.elim,fun _ _ _ _ _ _ h=>h.elim,fun _ _ _ _ h=>h.elim⟩,fun rows n p a rs H' hp gn k o=>hq rows n p a rs H' hp gn k o,q⟩
section
variable {X:Cx}{W:Wd}{e a:Expr}{es:List Expr}{pos p:Pos}{dA:DA}{x:Str}{k:Nat}{ps:List Str}{S:DST}
theorem YA {pn:List (D×V)} {H1:Hp}{σ:St}{ρ:Ev}{xs:List D}{vs:List V}{P:List (List D)->Int->Prop}{Q:VK}{E:XK}{Ed:Addr->Prop}(hE:EI W E Ed)(st1:Sta W pn M b H1 σ ρ)(rx:RepXs W M b H1 xs vs)(hS:S (xs.map bor) (fun rows n=>(∀ r∈rows,MB r=true)/\P rows n) Ed)
 (k:∀ rows n p a rs H',P rows n->TNew W.K M H1 H' p a rs rows n->Kp b H1 H'->okB W.B b H'->Q (.ref p) H'):CP W.K W.B S vs H1 Q E:=by
 refine ⟨fun c=>M c/\¬ BorAt xs vs c,b,xs.map bor,_,Ed,hS,RepXs.bor2 (fun c h=>h.1) _ _ (fun c h z=>z.2 h) rx,st1.ok,fun p h=>⟨st1.bagM p h,fun z=>(BorAt.lst xs vs rx z).1 h⟩,fun c hc=>st1.dom c hc.1,fun rows n p a rs H' hp gn k2 o2=>?_,fun C H' hC k2 o2=>?_⟩
 · refine k rows n p a rs H' hp.2 ⟨⟨gn.a0,gn.r0,gn.nd,gn.ha,RowsR.unbor (fun c m=>?_) rs rows hp.1 gn.hr⟩,gn.p0,gn.hp⟩ k2 o2
   rcases m with m|m
   · by_cases z:BorAt xs vs c
     · obtain ⟨nb,us',e,nt⟩:=BorAt.lst xs vs rx z
       exact .inr ⟨us',k2 c _ nb e,nt⟩
     · exact .inl (.inl ⟨m,z⟩)
   · exact .inl (.inr m)
 · have st2:=st1.step k2 o2
   exact hE C H' hC st2.kp st2.ok0
noncomputable def Q2g (S:DST)(Ed:Addr->Prop)(dA:DA):DE:=fun ρ P=>dA ρ fun ds=>S (ds.map bor) (fun rows n=>(∀ r∈rows,MB r=true)/\P (.tup [EA rows,.int n])) Ed
theorem J3v {CX:CXT}{E:XK}{Ed:Addr->Prop}(hE:EI W E Ed)(hp:DQ CX X E)(G:Callee X.prog X.w X.K X.mg X.base CX x k ps (CP W.K W.B S))(hr:Room k X.A)(hg:Gl X x)(ha:JA X W (e::es) dA)(hdb:(x==("__debug__" : Str))=false:=by decide) (he:starEach (e::es) X.env=(false,eval e X.env)::starEach es X.env:=by rfl) (hpl:(backTo pos (starEach es X.env)).any (·.1)=false:=by rfl) :
 JE X W (.Call (.Name x p) (e::es) [] pos) (Q2g S Ed dA):=⟨(NS hp G hr hg ha.h hdb he hpl).mono fun σ H Q hh=>hh.elim fun pn M b ρ P st h k=>by
 refine ⟨pn,M,b,ρ,_,st,h,fun xs vs H1 hx rx k1 o1=>?_⟩
 have st1:=st.step k1 o1
 show CP W.K W.B S (vs++[]) H1 Q E
 rw [D5]
 exact YA (P:=fun rows n=>P (.tup [EA rows,.int n])) hE st1 rx hx fun rows n p a rs H' hp gn k2 o2=>k _ _ H' hp (Rep.x (show Rep W.K M H' (.tup [EA rows,.int n]) (.ref p) from ⟨p,_,rfl,.inl ⟨st1.toHs.new gn.p0,gn.hp⟩,.ref a,_,rfl,J7d gn.toGNew st1.dom,.int n,[],rfl,rfl,rfl⟩)) (k1.trans k2) o2⟩
noncomputable def Q7b (K:Fg)(i:Nat)(S:DST)(Ed:Addr->Prop)(dA:DA):DS:=fun F ρ=>dA ρ fun ds=>S (ds.map bor) (fun rows n=>(∀ r∈rows,MB r=true)/\∀ p a rs,rs.length=rows.length->F.nx (ρ.set i (some (tgd K p a rs rows n)))) Ed
theorem StS.gotTg {pn:List (D×V)} {H H':Hp}{σ:St}{ρ:Ev}{p a:Addr}{rs:List Addr}{rows:List (List D)}{n:Int}(s:StS W pn M b H σ ρ)(i:Nat)(kp:Kp b H H')(ok:okB W.B b H')(gn:TNew W.K M H H' p a rs rows n):StS W pn (fun c=>M c\/c∈a::rs) b H' (σ.set i (some (.ref p))) (ρ.set i (some (tgd W.K p a rs rows n))):=by
 have new:∀ c,c∈a::rs->H c=none:=fun c m=>by
  rcases B6.mp m with z|z
  · rw [z];exact gn.a0
  · exact gn.r0 c z
 have isl:∀ c,c∈a::rs->∃ us,H' c=some (.lst us):=fun c m=>by
  rcases B6.mp m with w|w
  · rw [w];exact ⟨_,gn.ha⟩
  · exact gn.hr.lst c w
 have t:Sta W pn (fun c=>M c\/c∈a::rs) b H' σ ρ:=s.toSta.grow (fun c z=>z.imp id (new c)) (fun c z=>.inl z) kp ok fun c z=>z.elim ((s.toSta.step kp ok).dom c) fun y=>by
  obtain ⟨us,e⟩:=isl c y
  exact ⟨_,e⟩
 refine s.add i (t.set i (J0q (fun z=>?_) gn.hp (fun c m=>?_) gn.nd gn.ha gn.hr)) fun c m=>s.toHs.new (new c m)
 · rcases z with z|z
   · exact s.toHs.new gn.p0 z
   · obtain ⟨us,e⟩:=isl p z
     rw [gn.hp] at e;cases e
 · refine ⟨.inr m,fun z=>?_,s.toSta.fresh0 (new c m)⟩
   obtain ⟨o,e⟩:=W.B.dm c H (s.ok c z)
   rw [new c m] at e;cases e
theorem J3q {CX:CXT}{E:XK}{Ed:Addr->Prop}(hE:EI W E Ed)(hp:DQ CX X E){i:Nat}{y:Str}{pos' cpos:Pos}(hN:X.N.Nodup)(hi:X.N[i]?=some y)(hx:Loc X.env.scope y)(G:Callee X.prog X.w X.K X.mg X.base CX x k ps (CP W.K W.B S))(hr:Room k X.A)(hg:Gl X x)(ha:JA X W (e::es) dA)
 (hs:swapsWith (.Call (.Name x p) (e::es) [] cpos) (some (.Name y pos')) pos.line X.env=pure false:=by rfl) (hf:X.fn y=true\/X.env.scope.names.lookup y=some .local:=by first|exact .inl rfl|exact .inr rfl|assumption)
 (hdb:(x==("__debug__" : Str))=false:=by decide) (he:starEach (e::es) X.env=(false,eval e X.env)::starEach es X.env:=by rfl) (hpl:(backTo cpos (starEach es X.env)).any (·.1)=false:=by rfl) :
 JS X W (.Assign [.Name y pos'] (.Call (.Name x p) (e::es) [] cpos) pos) (Q7b W.K i S Ed dA):=⟨(BQ hN hi hx (NS hp G hr hg ha.h hdb he hpl) hs hf).mono fun E' σ H hh=>hh.elim fun pn M b ρ F s l h=>by
 refine ⟨pn,M,b,ρ,_,s.toSta,h,fun xs vs H1 hx rx k1 o1=>?_⟩
 have s1:=s.step k1 o1
 show CP W.K W.B S (vs++[]) H1 _ E
 rw [D5]
 exact YA (P:=fun rows n=>∀ p a rs,rs.length=rows.length->F.nx (ρ.set i (some (tgd W.K p a rs rows n)))) hE s1.toSta rx hx fun rows n p a rs H' hp gn k2 o2=>l.nx _ _ _ _ _ (s1.gotTg i k2 o2 gn) (hp p a rs gn.hr.length.symm)⟩
noncomputable def Q7o (K:Fg)(i j:Nat)(dA:DA):DS:=fun F ρ=>∃ p a rs rows n r k row,ρ[i]?=some (some (tgd K p a rs rows n))/\ρ[j]?=some (some (.adr r))/\rs[k]?=some r/\rows[k]?=some row/\dA ρ fun ys=>(match ys with | [y]=>(plain y&&decide (row.length<1000))=true/\F.nx (ρ.set i (some (tgd K p a rs (rows.set k (row++[y])) n)))|_=>False)
theorem J3t {i j:Nat}{x:Str}{e:Expr}{npos apos cpos:Pos}(hK:X.K=W.K)(ha:JA X W [e] dA)
 (h:PE X (.Call (.Attribute (.Name x npos) "append" apos) [e] [] cpos) (tBM X.K "list" KP (IZ j) (dnA W dA))) (hs:swapsWith (.Call (.Attribute (.Name x npos) "append" apos) [e] [] cpos) none pos.line X.env=pure false:=by rfl) :
 JS X W (.Expr (.Call (.Attribute (.Name x npos) "append" apos) [e] [] cpos) pos) (Q7o W.K i j dA):=⟨(KQ (by rw [hK] at h;exact h) hs).mono fun E σ H hh=>hh.elim fun pn M b ρ F s l h=>by
 obtain ⟨p,a,rs,rows,n,r,k,row,e1,e2,ek,er,h⟩:=h
 obtain ⟨w,ew,rw'⟩:=s.env j _ e2
 cases (show w=.ref r from rw')
 have at':∀ {H':Hp},StS W pn M b H' σ ρ->σ[i]?=some (some (.ref p))/\(¬ M p/\H' p=some (.tup [.ref a,.int n]))/\(∀ c∈a::rs,M c/\b≠some c/\W.H0 c=none/\¬ W.M0 c)/\(a::rs).Nodup/\H' a=some (.lst (rs.map V.ref))/\RowsR W.K M H' rs rows/\∃ us,H' r=some (.lst us)/\Reps W.K M H' row us:=fun {H'} s=>by
  obtain ⟨v,ev,rg⟩:=s.env i _ e1
  obtain ⟨rfl,np,hp,ho,nd,ha,hr⟩:=YQ rg
  obtain ⟨row',us,er',hh,rr⟩:=hr.at ek
  rw [er] at er';cases er'
  exact ⟨ev,⟨np,hp⟩,ho,nd,ha,hr,us,hh,rr⟩
 obtain ⟨_,_,_,_,_,_,us0,hh0,_⟩:=at' s
 refine ⟨.ref r,ew,.inl ⟨rfl,us0,SqL.of hh0⟩,pn,M,b,ρ,_,s.toSta,h,fun xs us H' hx rx k' o=>?_⟩
 match xs,hx with
 | [y],hx =>
   obtain ⟨u,rfl,ru⟩:=rx1 rx
   obtain ⟨p1,p2⟩:=(R4 _ _).mp hx.1
   have p2:=B0a p2
   have s':=s.step k' o
   obtain ⟨ev,⟨np,hp⟩,ho,nd,ha,hr,us',hh',rr⟩:=at' s'
   have mr:r∈rs:=L4 ek
   have nar:a≠r:=fun z=>(R7.mp nd).1 (by rw [z];exact mr)
   have npr:p≠r:=fun z=>np (by rw [z];exact (ho r (B5 _ mr)).1)
   refine ⟨r,us',u,rfl,rfl,hh',by rw [rr.length];have:=AF;omega,l.nx _ _ _ _ _ (s'.setFrg (f':=tgF W.K p a rs (rows.set k (row++[y])) n) (d':=.tup [EA (rows.set k (row++[y])),.int n]) i (show ρ[i]?=some (some (.frg (tgF W.K p a rs rows n) (.tup [EA rows,.int n]))) from e1) ev (B5 _ mr) (fun c m=>m) (J0q np (by rw [V4 npr];exact hp) ho nd (by rw [V4 nar];exact ha) (RowsR.set (R7.mp nd).2 (fun c m=>(ho c (B5 _ m)).1) hr ek (Reps.append rr (show Reps W.K M H' [y] [u] from ⟨u,[],rfl,ru.rep p1,rfl⟩))))) hx.2⟩⟩
noncomputable def J8a (K:Fg)(i:Nat)(gd:D->Ev->(Ev->Prop)->Prop)(db:DS):DS:=fun F ρ=>∃ p a rs rows m,ρ[i]?=some (some (tgd K p a rs rows m))/\∃ I:Nat->Ev->Prop,I 0 ρ/\(∀ n ρ,I n ρ->∃ rows',ρ[i]?=some (some (tgd K p a rs rows' m))) /\
 (∀ n r ρ,rs[n]?=some r->I n ρ->gd (.tup [.int n,.adr r]) ρ fun ρ1=>db { F with nx:=I (n+1),ct:=I (n+1),bk:=F.nx } ρ1)/\∀ ρ,I rs.length ρ->F.nx ρ
theorem J5b {i:Nat}{g:TG}{gd:D->Ev->(Ev->Prop)->Prop}{db:DS}(hG:GD W g gd):∀ E σ H,sn W (J8a W.K i gd db) E σ H->Q4n (J1k W.K (RT (tOp (J3a W.K) (IZ i) (tC (.int 0))) J9v)) g (sn W db) E σ H:=fun E σ H hh=>hh.elim fun pn M b ρ F s l h=>by
 obtain ⟨p,a,rs,rows,m0,e,I,i0,ig,istep,idone⟩:=h
 obtain ⟨v,ev,r⟩:=s.env i _ e
 obtain ⟨rfl,np,hp,_,_,ha,_⟩:=YQ r
 have hI:KC W (Ite W.K a) [(.own (rs.map D.adr),.ref a)] (enumD (rs.map D.adr)):=J1h (fz:=false) (x:=.own (rs.map D.adr)) rfl
 have hlen:(enumD (rs.map D.adr)).length=rs.length:=by simp [enumD]
 refine ⟨.ref p,ev,p,[.ref a,.int m0],0,.ref a,rfl,rfl,SqT.of hp,rfl,a,rfl,⟨_,SqL.of ha⟩,fun i m σ H=>m=rs.length - i/\i<=rs.length/\∃ M b ρ,StS W pn M b H σ ρ/\I i ρ,⟨rs.length,by simp,D2 _,M,b,ρ,s,i0⟩,?_⟩
 rintro j m σ2 H2 ⟨rfl,hj,M2,b2,ρ2,s2,q⟩
 obtain ⟨rows2,e2⟩:=ig j ρ2 q
 obtain ⟨v2,ev2,r2⟩:=s2.env i _ e2
 obtain ⟨rfl,_,_,ho2,nd2,ha2,hr2⟩:=YQ r2
 have radr:∀ rs:List Addr,Reps W.K M2 H2 (rs.map D.adr) (rs.map V.ref):=fun rs=>by
  induction rs with
  | nil=>exact rfl
  | cons r rs ih=>exact ⟨.ref r,_,rfl,rfl,ih⟩
 obtain ⟨hgo,hstop⟩:=hI M2 b2 H2 s2.toHs fun q hq=>by
  have:=M6.mp hq
  subst this
  obtain ⟨z1,z2,z3,z4⟩:=ho2 a (B8 ..)
  exact ⟨a,_,rfl,z1,z2,z3,z4,ha2,radr rs⟩
 by_cases hlt:j<rs.length
 · have er:rs[j]?=some rs[j]:=M5 hlt
   have ei:(enumD (rs.map D.adr))[j]?=some (.tup [.int j,.adr rs[j]]):=by simp [enumD,hlt]
   replace q:=istep j _ ρ2 er q
   refine .inr ⟨(hgo j _ ei).1,fun σ' H'=>∃ M b ρ,StS W pn M b H' σ' ρ/\I (j+1) ρ,fun σ' H' n=>⟨rs.length - (j+1),by omega,rfl,hlt,n⟩,fun x H3 y=>?_⟩
   obtain ⟨S3,rx⟩:=(hgo j _ ei).2 x H3 y
   have o3:okB W.B b2 H3:=fun p e=>W.B.st p H2 H3 (s2.ok p e) fun o e'=>S3 p o e'
   have s3:=s2.step (Kp.same S3) o3
   refine hG pn M2 b2 H3 σ2 ρ2 _ x _ _ s3.toSta rx rfl q fun ρ1 σ1 h1 st4 ho=>?_
   exact ⟨pn,M2,b2,ρ1,{ F with nx:=I (j+1),ct:=I (j+1),bk:=F.nx },s3.of st4 ho,⟨fun M b ρ σ H s' h'=>⟨M,b,ρ,s',h'⟩,l.rt,fun M b ρ σ H s' h'=>l.nx _ _ _ _ _ s' h',fun M b ρ σ H s' h'=>⟨M,b,ρ,s',h'⟩,l.ro⟩,h1⟩
 · have e:j=rs.length:=by omega
   subst e
   exact .inl ⟨hstop _ (by rw [hlen];exact L8 _),l.nx _ _ _ _ _ s2 (idone _ q)⟩
theorem J3r {i:Nat}{g:TG}{gd:D->Ev->(Ev->Prop)->Prop}{db:DS}{body:List Stmt}{elts:List Expr}{c1}{tpos:Pos}(hG:GD W g gd)(hp:PassesOwn (model X.prog X.w) X.A X.env X.xe)(hc:X.calm=true)(hi:PI X (.Tuple elts c1 tpos) (.Call (.Name "enumerate" p) [a] [] pos) (J1k W.K (RT (tOp (J3a W.K) (IZ i) (tC (.int 0))) J9v))) (hg:PG X (.Tuple elts c1 tpos) g) (hb:JSs X W body db)
 (hs:∀ x,foldedSetIterable (.Call (.Name "enumerate" p) [a] [] pos) X.env x=pure x:=by intro _;rfl) {fpos:Pos}:JS X W (.For (.Tuple elts c1 tpos) (.Call (.Name "enumerate" p) [a] [] pos) body [] fpos) (J8a W.K i gd db):=⟨(YY hp hc hi hg hb.h hs).mono (J5b hG)⟩
end
end L2
namespace K
open PySem PySem.Spec PyProof.Rows L2
local macro_rules | `(tactic| walk_at "o") => `(tactic| first | exact Or.inl rfl | exact Or.inr rfl)
local macro_rules | `(tactic| walk_at "v") => `(tactic| first | exact Or.inl rfl | exact Or.inr (Or.inl rfl) | exact Or.inr (Or.inr rfl))
local macro_rules | `(tactic| walk_at "bg") => `(tactic| first | assumption | exact Bag.same (by walk_at "bg") (Same.upd (by assumption)) | exact Bag.same (by walk_at "bg") (by assumption))
local macro_rules | `(tactic| walk_at "hp") => `(tactic| first | assumption | exact V5 | (refine Same.get (Same.upd (by assumption)) ?_; walk_at "hp") | (refine Same.get (by assumption) ?_; walk_at "hp") | (refine Keep.tup (by assumption) (by walk_at "bg") ?_; (walk_at "hp")))
local macro_rules | `(tactic| walk_at "sm") => `(tactic| first | exact Same.refl _ | assumption | (refine Same.trans ?_ (Same.upd (by assumption)); walk_at "sm") | (refine Same.trans ?_ (by assumption); walk_at "sm"))
local macro_rules | `(tactic| walk_at "kp") => `(tactic| first | exact Keep.refl _ _ | assumption | (refine Keep.trans ?_ (Same.keep (Same.upd (by assumption))); walk_at "kp") | (refine Keep.trans ?_ (by assumption); walk_at "kp") | (refine Keep.trans ?_ (Same.keep (by assumption)); walk_at "kp"))
local macro_rules | `(tactic| walk_at "bd") => `(tactic| first | assumption | exact Bd.mul (by walk_at "bd") (by walk_at "bd") | exact Bd.add (by walk_at "bd") (by walk_at "bd") | exact Bd.sub (by walk_at "bd") (by walk_at "bd") | exact Bd.neg (by walk_at "bd") | exact Bd.num _ (by decide))
local macro_rules | `(tactic| walk_at "rd1") => `(tactic| first | refine ⟨_,_,rfl,rfl,?_⟩ | refine ⟨_,rfl,?_⟩ | (refine' ⟨_,?xs,_,?vv,rfl,rfl,SqT.of ?ia,?ib,?_⟩; (case ia => walk_at "hp"); (case ib => rfl)) | refine And.intro (CMulB.right (Bd.num _ (by decide))) ?_ | (refine' rd_mul ?m1 ?m2 ?m3 ?_; (case m1 => walk_at "bd"); (case m2 => walk_at "bd"); (case m3 => first | decide | omega)) | refine ⟨rfl,?_⟩)
local macro_rules | `(tactic| walk_at "rd") => `(tactic| repeat (walk_at "rd1"))
local macro_rules | `(tactic| walk_at "al") => `(tactic| (refine ⟨(R5 (R3 rfl) AF),?_⟩; intro p en))
local macro_rules | `(tactic| walk_at "w") => `(tactic| (conv => whnf))
local macro_rules | `(tactic| walk_at "go1") => `(tactic| first | refine And.intro (by exact rfl) ?_ | refine IfP.t (by exact rfl) ?_ | refine IfP.f (by exact rfl) ?_ | refine And.intro (by exact R3 rfl) ?_ | refine And.intro (by decide) ?_ | refine And.intro (by dsimp only; decide) ?_ | refine And.intro (CMulB.right (Bd.num _ (by decide))) ?_ | refine And.intro (Or.inl ⟨_,_,by walk_at "bd",by walk_at "bd",by first | decide | omega⟩) ?_| refine And.intro ⟨by decide,by decide⟩ ?_)
local macro_rules | `(tactic| walk_at "g") => `(tactic| ((conv => whnf); repeat (walk_at "go1"; (conv => whnf))))
local macro_rules | `(tactic| walk_at "nz") => `(tactic| simp only [BD,T4,B2c,B1c,List.length_nil,List.replicate,B1l,B2o,List.set_cons_succ,List.set_cons_zero,HH,List.getElem?_cons_succ,List.getElem?_cons_zero,Option.bind_some,Option.bind_none,Option.join_some,Option.join_none,FM,Nat.reduceAdd,Nat.reduceSub,Int.reduceAdd,Nat.zero_add])
local macro_rules | `(tactic| walk_at "gr") => `(tactic| ((try walk_at "nz"); refine Q1m ?_; walk_at "g"))
local macro_rules | `(tactic| walk_at "gc") => `(tactic| ((try walk_at "nz"); refine J8f ?_; walk_at "g"))
local macro_rules | `(tactic| walk_at "sp") => `(tactic| (refine IfP.of (fun h => ?_) (fun h => ?_) <;> (try simp only [U6,Bool.bne_false,Bool.bne_true,Bool.not_eq_true',decide_eq_false_iff_not,B2l,Bool.not_false,Bool.not_eq_false',bne_iff_ne,ne_eq,Bool.not_not] at h)))
def top (i:Nat):Stmt:=PySem.Challenge.pw_onceshade_k49_square_by_square.main.body.getD i (.Pass ⟨0,0,0,0⟩)
structure Bi (mg:Str->Option Value):Prop where
 abs_:mg "abs" = none
 len_:mg "len" = none
 max_:mg "max" = none
 min_:mg "min" = none
 range_:mg "range" = none
 isinstance_:mg "isinstance" = none
 int_:mg "int" = none
 bool_:mg "bool" = none
 tuple_:mg "tuple" = none
 zip_:mg "zip" = none
 sum_:mg "sum" = none
 list_:mg "list" = none
 enumerate_:mg "enumerate" = none
 all_:mg "all" = none
 any_:mg "any" = none
 ValueError_:mg "ValueError" = none
 str_:mg "str" = none
 LONGEST_:∃ t,mg "LONGEST" = some (.int 16 t)
structure Cs where
 ShadeError:Addr
 NoFraction:Addr
 NoSpot:Addr
 NoBody:Addr
 NoMove:Addr
 NoFlat:Addr
 NoFace:Addr
 NoBoard:Addr
 NoLight:Addr
 NoDeed:Addr
 NoText:Addr
 NoName:Addr
 NoRow:Addr
 Behind:Addr
 TooMany:Addr
structure Ex (K:Fg)(mg:Str->Option Value)(base:Heap)(c:Cs):Prop where
 g_ShadeError:mg "ShadeError" = some (.ref c.ShadeError)
 g_NoFraction:mg "NoFraction" = some (.ref c.NoFraction)
 g_NoSpot:mg "NoSpot" = some (.ref c.NoSpot)
 g_NoBody:mg "NoBody" = some (.ref c.NoBody)
 g_NoMove:mg "NoMove" = some (.ref c.NoMove)
 g_NoFlat:mg "NoFlat" = some (.ref c.NoFlat)
 g_NoFace:mg "NoFace" = some (.ref c.NoFace)
 g_NoBoard:mg "NoBoard" = some (.ref c.NoBoard)
 g_NoLight:mg "NoLight" = some (.ref c.NoLight)
 g_NoDeed:mg "NoDeed" = some (.ref c.NoDeed)
 g_NoText:mg "NoText" = some (.ref c.NoText)
 g_NoName:mg "NoName" = some (.ref c.NoName)
 g_NoRow:mg "NoRow" = some (.ref c.NoRow)
 g_Behind:mg "Behind" = some (.ref c.Behind)
 g_TooMany:mg "TooMany" = some (.ref c.TooMany)
 o_NoBoard:OwnCls "NoBoard" c.NoBoard bmV "ValueError.__new__" mg base
 x_NoBoard:XCls K c.NoBoard
 v_NoBoard:PySem.W.subIn K (.ref c.NoBoard) (.type "ValueError")=some true
 s_NoBoard:PySem.W.subIn K (.ref c.NoBoard) (.ref c.ShadeError)=some true
 n_NoBoard_NoFraction:PySem.W.kin_not K c.NoBoard c.NoFraction=true
 n_NoBoard_NoSpot:PySem.W.kin_not K c.NoBoard c.NoSpot=true
 n_NoBoard_NoBody:PySem.W.kin_not K c.NoBoard c.NoBody=true
 n_NoBoard_NoMove:PySem.W.kin_not K c.NoBoard c.NoMove=true
 n_NoBoard_NoFlat:PySem.W.kin_not K c.NoBoard c.NoFlat=true
 n_NoBoard_NoFace:PySem.W.kin_not K c.NoBoard c.NoFace=true
 n_NoBoard_NoLight:PySem.W.kin_not K c.NoBoard c.NoLight=true
 n_NoBoard_NoDeed:PySem.W.kin_not K c.NoBoard c.NoDeed=true
 n_NoBoard_NoText:PySem.W.kin_not K c.NoBoard c.NoText=true
 n_NoBoard_NoName:PySem.W.kin_not K c.NoBoard c.NoName=true
 n_NoBoard_NoRow:PySem.W.kin_not K c.NoBoard c.NoRow=true
 n_NoBoard_Behind:PySem.W.kin_not K c.NoBoard c.Behind=true
 n_NoBoard_TooMany:PySem.W.kin_not K c.NoBoard c.TooMany=true
 o_NoFace:OwnCls "NoFace" c.NoFace bmV "ValueError.__new__" mg base
 x_NoFace:XCls K c.NoFace
 v_NoFace:PySem.W.subIn K (.ref c.NoFace) (.type "ValueError")=some true
 s_NoFace:PySem.W.subIn K (.ref c.NoFace) (.ref c.ShadeError)=some true
 n_NoFace_NoFraction:PySem.W.kin_not K c.NoFace c.NoFraction=true
 n_NoFace_NoSpot:PySem.W.kin_not K c.NoFace c.NoSpot=true
 n_NoFace_NoBody:PySem.W.kin_not K c.NoFace c.NoBody=true
 n_NoFace_NoMove:PySem.W.kin_not K c.NoFace c.NoMove=true
 n_NoFace_NoFlat:PySem.W.kin_not K c.NoFace c.NoFlat=true
 n_NoFace_NoBoard:PySem.W.kin_not K c.NoFace c.NoBoard=true
 n_NoFace_NoLight:PySem.W.kin_not K c.NoFace c.NoLight=true
 n_NoFace_NoDeed:PySem.W.kin_not K c.NoFace c.NoDeed=true
 n_NoFace_NoText:PySem.W.kin_not K c.NoFace c.NoText=true
 n_NoFace_NoName:PySem.W.kin_not K c.NoFace c.NoName=true
 n_NoFace_NoRow:PySem.W.kin_not K c.NoFace c.NoRow=true
 n_NoFace_Behind:PySem.W.kin_not K c.NoFace c.Behind=true
 n_NoFace_TooMany:PySem.W.kin_not K c.NoFace c.TooMany=true
 sh:XBase K c.ShadeError
abbrev FI:Stmt:=top 49
abbrev xl1:List Str:=["_law_script","_law_k"]
theorem TQ:FnScope xl1 xl1 (J7 FI):=⟨rfl,rfl,rfl,by decide +kernel,rfl,by decide +kernel,by decide +kernel⟩
noncomputable def J0s (K:Fg):Sp:=fun vs H Q _=>∃ (a:Addr) (ns:List Int) (i:Nat),vs=[.ref a,.int i]/\SqL K H a (ns.map V.int)/\∀ n,Q (.int n) H
theorem RJ {f:Addr} (F:Fun K "_law_cell" "_law_cell" FI f fd) (Z:Bi mg) {c:Cs} (Y:Ex K mg base c):FnOk P w K mg base CX0 1 f fd xl1 (J0s K):=by
 refine F.ok TQ (fun vs H Q E h=>?_) (fun cdv A outer s H vs Q E hr h=>?_)
 · obtain ⟨a,ns,i,rfl,hS,k⟩:=h
   rfl
 · obtain ⟨a,ns,i,rfl,hS,k⟩:=h
   refine ⟨_,(Z2 (SB (GR MX (pv 1) (Z8 (BC K (by rfl)) rfl Z.len_ HE (Q8 (pv 0) Z0)) (Y5 _)) (AX (DB (FW (CL K (by rfl)) (pv 0) (pv 1) (fun _ _=>rfl)))) GS)
    (AX (DB Z7))),?_⟩
   walk_at "rd"
   refine ⟨_,_,rfl,.inl hS,?_⟩
   walk_at "rd"
   refine J4a (fun h=>?_) (fun h=>?_)
   · have h:(i:Int)<((ns.map V.int).length:Nat):=J7q h
     have hi:i<ns.length:=by rw [B9] at h;omega
     walk_at "rd"
     refine ⟨_,_,_,_,rfl,rfl,hS,IQ (v:=V.int ns[i]) ?_,k _⟩
     rw [M1,M5 hi]
     rfl
   · exact k _
abbrev GN:Stmt:=top 50
abbrev xl2:List Str:=["_law_cell_here","_law_place"]
theorem HM:FnScope ["_law_cell_here","_law_place","_law_far"] xl2 (J7 GN):=⟨rfl,rfl,rfl,by decide +kernel,rfl,by decide +kernel,by decide +kernel⟩
noncomputable def J5i:Sp:=fun vs H Q _=>∃ (c:Int) (i:Nat),vs=[.int c,.int i]/\i<=1000/\∀ p H',H p=none->Same H H'->Bag H' p->Q (.ref p) H'
theorem UJ {f:Addr} (F:Fun K "_law_bag" "_law_bag" GN f fd) (Z:Bi mg) {c:Cs} (Y:Ex K mg base c):FnOk P w K mg base CX0 1 f fd xl2 J5i:=by
 refine F.ok HM (fun vs H Q E h=>?_) (fun cdv A outer s H vs Q E hr h=>?_)
 · obtain ⟨c,i,rfl,hi,k⟩:=h
   rfl
 · obtain ⟨c,i,rfl,hi,k⟩:=h
   refine ⟨_,(Z2 (BQ (i:=2) HM.nd rfl (by walk_at "o") (Z8 IA rfl Z.abs_ QO (Q8 (pv 0) Z0)))
    (Z2 (SB (GR MX (pv 2) (BO TZ Z7 Z7) (Y5 _)) (AX (BQ (i:=2) HM.nd rfl (by walk_at "o") Z7)) GS)
    (AX (DB (GV (Q8 (pv 2) (Q8 (BO EZ (BO TZ (BO Y7 (BO Y7 (BO EZ (pv 0) Z7) (BO Q9 Z7 (pv 1))) Z7) Z7) Z7) Z0))))))),?_⟩
   have fin:∀ f:Int,0<=f->∀ p,H p=none->Q (.ref p) (upd H p (.lst [.int f,.int ((c % 2147483647+7919*(i:Int)+13) ^ (5:Int).toNat % 2147483629)])):=fun f hf p hp =>
    k p _ hp (Same.upd hp) (Bag.mk' hf (B0p _ (by decide)) (Int.lt_trans (B0u _ (by decide)) (by decide)))
   have hb:c % 2147483647+7919*(i:Int)+13<18446744073709551616/\0<=c % 2147483647+7919*(i:Int)+13:=by
    have h1:=B0p c (show (2147483647:Int)≠0 by decide)
    have h2:=B0u c (show (0:Int)<2147483647 by decide)
    omega
   have hab:0<=(if c<0 then -c else c):=by split<;>omega
   have bi:Bd 64 (i:Int):=Bd.of (by omega) (by omega)
   walk_at "rd"
   refine ⟨⟨by decide,by decide,by decide⟩,?_⟩
   walk_at "rd"
   refine J4a (fun h=>?_) (fun h=>?_)
   all_goals
    walk_at "rd"
    refine ⟨(by show (0:Int)<2147483647;decide),?_⟩
    walk_at "rd"
    refine ⟨⟨by decide,by decide,?_⟩,?_⟩
    · show (c % 2147483647+7919*(i:Int)+13).natAbs<2 ^ 64
      omega
    walk_at "rd"
    refine ⟨(by show (0:Int)<2147483629;decide),?_⟩
    refine ⟨(R5 (R3 rfl) AF),?_⟩
   · exact fin 0 (by decide)
   · exact fin _ hab
abbrev GH:Stmt:=top 51
abbrev xl3:List Str:=["_law_bag_here"]
theorem QX:FnScope xl3 xl3 (J7 GH):=⟨rfl,rfl,rfl,by decide +kernel,rfl,by decide +kernel,by decide +kernel⟩
noncomputable def OD:Sp:=fun vs H Q _=>∃ (p:Addr) (f m:Int),vs=[.ref p]/\H p=some (.lst [.int f,.int m])/\0<=m/\∀ r m':Int,0<=r->0<=m'->m'<2147483647->Q (.int r) (upd H p (.lst [.int f,.int m']))
theorem RD {f:Addr} (F:Fun K "_law_mixed" "_law_mixed" GH f fd) (Z:Bi mg) {c:Cs} (Y:Ex K mg base c):FnOk P w K mg base CX0 1 f fd xl3 OD:=by
 refine F.ok QX (fun vs H Q E h=>?_) (fun cdv A outer s H vs Q E hr h=>?_)
 · obtain ⟨p,f,m,rfl,hp,hm,k⟩:=h
   rfl
 · obtain ⟨p,f,m,rfl,hp,hm,k⟩:=h
   refine ⟨_,(Z2 (OQ (BO EZ (BO Y7 (BO Q9 (FW (CL K (by rfl)) (pv 0) Z7 (fun _ _=>rfl)) Z7) Z7) Z7) (LY (pv 0) Z7 KI))
    (AX (DB (BO EB (BO EZ (BO Q9 (FW (CL K (by rfl)) (pv 0) Z7 (fun _ _=>rfl)) Z7) Z7) Z7)))),?_⟩
   walk_at "rd"
   refine ⟨_,_,_,_,rfl,rfl,SqL.of hp,rfl,?_⟩
   walk_at "rd"
   refine ⟨(by show (0:Int)<2147483647;decide),?_⟩
   walk_at "rd"
   refine ⟨_,_,_,1,rfl,rfl,hp,rfl,?_⟩
   walk_at "rd"
   refine ⟨_,_,_,_,rfl,rfl,SqL.of V5,rfl,?_⟩
   walk_at "rd"
   refine ⟨(by show (0:Int)<2147483629;decide),?_⟩
   walk_at "rd"
   refine ⟨⟨by decide,64,Bd.num _ (by decide),by decide⟩,?_⟩
   exact k _ _ (B0w (B0p _ (by decide)) (by decide)) (B0p _ (by decide)) (B0u _ (by decide))
abbrev EL:Stmt:=top 52
abbrev xl4:List Str:=["_law_bag_here","_law_many"]
theorem CJ:FnScope ["_law_bag_here","_law_many","_law_found","_law_k"] xl4 (J7 EL):=⟨rfl,rfl,rfl,by decide +kernel,rfl,by decide +kernel,by decide +kernel⟩
noncomputable def WD:Sp:=fun vs H Q _=>∃ (p:Addr) (many:Int) (n:Nat),vs=[.ref p,.int many]/\Bag H p/\0<many/\Bd n many/\n<=9000/\J9e p many H Q
theorem PD {f:Addr} (F:Fun K "_law_digit" "_law_digit" EL f fd) (Z:Bi mg) {c:Cs} (Y:Ex K mg base c) (g0:Callee P w K mg base CX0 "_law_mixed" 1 xl3 OD):FnOk P w K mg base CX0 2 f fd xl4 WD:=by
 refine F.ok CJ (fun vs H Q E h=>?_) (fun cdv A outer s H vs Q E hr h=>?_)
 · obtain ⟨p,many,n,rfl,⟨f,m,hp,hf,hm,hm2⟩,h0,hb,hn,k⟩:=h
   rfl
 · obtain ⟨p,many,n,rfl,⟨f,m,hp,hf,hm,hm2⟩,h0,hb,hn,k⟩:=h
   refine ⟨_,(Z2 (SB (GR WP (FW (CL K (by rfl)) (pv 0) Z7 (fun _ _=>rfl)) Z7 (Y5 _)) (Z2 (BQ (i:=2) CJ.nd rfl (by walk_at "o") (BO EZ (FW (CL K (by rfl)) (pv 0) Z7 (fun _ _=>rfl)) (pv 1)))
    (Z2 (OQ (BO EB (FW (CL K (by rfl)) (pv 0) Z7 (fun _ _=>rfl)) (pv 1)) (LY (pv 0) Z7 KI))
    (AX (DB (pv 2))))) GS)
    (Z2 (BQ (i:=2) CJ.nd rfl (by walk_at "o") (JL g0 hr.m rfl (Q8 (pv 0) Z0)))
    (Z2 (SB (GR WP (pv 1) Z7 (Y5 _)) (AX (YY U8 rfl (SC rfl Z.range_ (Q8 Z7 Z0)) (pg_name (i:=3) CJ.nd rfl (by walk_at "o")) (AX (BQ (i:=2) CJ.nd rfl (by walk_at "o") (BO Y7 (BO Q9 (pv 2) Z7) (JL g0 hr.m rfl (Q8 (pv 0) Z0))))))) GS)
    (AX (DB (BO EZ (pv 2) (pv 1))))))),?_⟩
   have md:∀ x:Int,0<=x % many/\x % many<many:=fun x=>⟨B0p _ (by omega),B0u _ h0⟩
   walk_at "rd"
   refine ⟨_,_,_,_,rfl,rfl,SqL.of hp,rfl,?_⟩
   walk_at "rd"
   refine J4a (fun h=>?_) (fun h=>?_)
   · have h:0<f:=J7q h
     walk_at "rd"
     refine ⟨_,_,_,_,rfl,rfl,SqL.of hp,rfl,?_⟩
     walk_at "rd"
     refine ⟨h0,?_⟩
     walk_at "rd"
     refine ⟨_,_,_,_,rfl,rfl,SqL.of hp,rfl,?_⟩
     walk_at "rd"
     refine ⟨⟨h0,n,hb,hn⟩,?_⟩
     walk_at "rd"
     refine ⟨_,_,_,0,rfl,rfl,hp,rfl,?_⟩
     walk_at "rd"
     exact k _ _ (md f).1 (md f).2 (Bag.mk' (B0w hf (by omega)) hm hm2) Keep.upd
   · walk_at "rd"
     refine ⟨p,f,m,rfl,hp,hm,fun r m1 hr0 h1 h1'=>?_⟩
     walk_at "rd"
     refine J4a (fun h=>?_) (fun h=>?_)
     · refine ⟨7,rfl,by decide,by decide,J4g (n:=7) (fun i σ H2=>∃ (x:Int) (m2:Int) (v:Option V),σ=[some (.ref p),some (.int many),some (.int x),v]/\0<=m2/\m2<2147483647/\H2=upd H p (.lst [.int f,.int m2])) ⟨r,m1,none,rfl,h1,h1',rfl⟩ ?_ ?_⟩
       · rintro i σ H2 hi ⟨x,m2,v,rfl,g1,g2,rfl⟩
         walk_at "rd"
         refine ⟨p,f,m2,rfl,V5,g1,fun r' m3 hr' h3 h3'=>?_⟩
         walk_at "rd"
         exact ⟨_,_,_,rfl,h3,h3',J9r⟩
       · rintro σ H2 ⟨x,m2,v,rfl,g1,g2,rfl⟩
         walk_at "rd"
         refine ⟨h0,?_⟩
         exact k _ _ (md x).1 (md x).2 (Bag.mk' hf g1 g2) Keep.upd
     · walk_at "rd"
       refine ⟨h0,?_⟩
       exact k _ _ (md r).1 (md r).2 (Bag.mk' hf h1 h1') Keep.upd
def BT:BagT:=⟨fun p H=>Bag H p,fun p H H' b k=>by
 obtain ⟨f,m,e,q⟩:=b
 exact ⟨f,m,k _ e,q⟩,fun p H b=>by
 obtain ⟨f,m,e,q⟩:=b
 exact ⟨_,e⟩⟩
theorem Q0x {p:Addr}{H H':Hp}(k:Keep p H H'):Kp (some p) H H':=fun c o n e=>k c o (fun z=>n (by rw [z])) e
noncomputable def J0l:DSp:=fun ds P _=>∃ (ns:List Int) (i:Nat),ds=[.scr ns,.int i]/\∀ n,P (.int n)
theorem TK:∀ vs H Q E,(Q3 K BT J0l) vs H Q E->(J0s K) vs H Q E:=by
 rintro vs H Q E ⟨M,b,ds,P,Ed,⟨ns,i,rfl,hP⟩,⟨v,r,rfl,⟨a,rfl,hS⟩,u,r',rfl,h2,h3⟩,ho,hb,hd,hq,hx⟩
 cases (show _=_ from h2)
 cases (show _=_ from h3)
 exact ⟨a,ns,i,rfl,hS.imp (·.2) id,fun n=>hq _ _ H (hP n) rfl (Kp.refl _ _) ho⟩
theorem UI {f:Addr} (F:Fun K "_law_cell" "_law_cell" FI f fd) (Z:Bi mg) {c:Cs} (Y:Ex K mg base c):FnOk P w K mg base CX0 1 f fd xl1 (Q3 K BT J0l):=FnOk.imp (RJ F Z Y) TK
def TX:List D->Prop:=fun ds=>∃ (c:Int) (i:Nat),ds=[.int c,.int i]/\i<=1000
theorem VX:∀ vs H Q E,(YD K BT TX) vs H Q E->J5i vs H Q E:=by
 rintro vs H Q E ⟨M,b,ds,hr,⟨c,i,rfl,hi⟩,k⟩
 · obtain ⟨v,r,rfl,h1,u,r',rfl,h2,h3⟩:=hr
   cases (show _=_ from h1)
   cases (show _=_ from h2)
   cases (show _=_ from h3)
   exact ⟨c,i,rfl,hi,k⟩
theorem WW {f:Addr} (F:Fun K "_law_bag" "_law_bag" GN f fd) (Z:Bi mg) {c:Cs} (Y:Ex K mg base c):FnOk P w K mg base CX0 1 f fd xl2 (YD K BT TX):=FnOk.imp (UJ F Z Y) VX
noncomputable def FK:DSp:=fun ds P _=>∃ (many:Int) (n:Nat),ds=[.bag,.int many]/\0<many/\Bd n many/\n<=9000/\∀ r,0<=r->r<many->P (.int r)
theorem QS:∀ vs H Q E,(Q3 K BT FK) vs H Q E->WD vs H Q E:=by
 rintro vs H Q E ⟨M,b,ds,P,Ed,⟨many,n,rfl,h0,hbd,hn,hP⟩,⟨v,r,rfl,⟨p,rfl,rfl⟩,u,r',rfl,h2,h3⟩,ho,hb,hd,hq,hx⟩
 cases (show _=_ from h2)
 cases (show _=_ from h3)
 exact ⟨p,many,n,rfl,ho p rfl,h0,hbd,hn,fun r H' r0 r1 b' k=>hq _ _ H' (hP r r0 r1) rfl (Q0x k) fun q e=>by cases e;exact b'⟩
theorem RG {f:Addr} (F:Fun K "_law_digit" "_law_digit" EL f fd) (Z:Bi mg) {c:Cs} (Y:Ex K mg base c) (g0:Callee P w K mg base CX0 "_law_mixed" 1 xl3 OD):FnOk P w K mg base CX0 2 f fd xl4 (Q3 K BT FK):=FnOk.imp (PD F Z Y g0) QS
noncomputable def J8z:DSp:=fun ds P _=>∃ a b:Int,ds=[.int a,.int b]/\P (.int (Int.gcd a b))
abbrev DX:Stmt:=top 54
abbrev xl5:List Str:=["_law_one","_law_other"]
theorem CY:FnScope xl5 xl5 (J7 DX):=⟨rfl,rfl,rfl,by decide +kernel,rfl,by decide +kernel,by decide +kernel⟩
noncomputable def RX:Sp:=fun vs H Q _=>∃ a b:Int,vs=[.int a,.int b]/\Q (.int (Int.gcd a b)) H
theorem NO {f:Addr} (F:Fun K "_law_common" "_law_common" DX f fd) (Z:Bi mg) {c:Cs} (Y:Ex K mg base c):FnOk P w K mg base CX0 1 f fd xl5 RX:=by
 refine F.ok CY (fun vs H Q E h=>?_) (fun cdv A outer s H vs Q E hr h=>?_)
 · obtain ⟨a,b,rfl,k⟩:=h
   rfl
 · obtain ⟨a,b,rfl,k⟩:=h
   refine ⟨_,(Z2 (BQ (i:=0) CY.nd rfl (by walk_at "o") (Z8 IA rfl Z.abs_ QO (Q8 (pv 0) Z0)))
    (Z2 (BQ (i:=1) CY.nd rfl (by walk_at "o") (Z8 IA rfl Z.abs_ QO (Q8 (pv 1) Z0)))
    (Z2 (J5v U8 (GR WP (pv 1) Z7 (Y5 _)) (AX (Q4z (i:=0) (j:=1) rfl CY.nd rfl rfl (by decide) rfl rfl (Q8 (pv 1) (Q8 (BO EZ (pv 0) (pv 1)) Z0)) rfl)))
    (AX (DB (pv 0)))))),?_⟩
   have ab:∀ x:Int,(if x<0 then -x else x)=(x.natAbs:Int):=fun x=>by split<;>omega
   walk_at "rd"
   refine J5a (fun σ H'=>H'=H/\∃ x y:Int,σ=[some (.int x),some (.int y)]/\0<=x/\0<=y/\Int.gcd x y=Int.gcd a b) (fun σ _=>match σ with | [_,some (.int y)]=>y.toNat|_=>0) ⟨rfl,_,_,rfl,by rw [ab];omega,by rw [ab];omega,by rw [ab,ab];rfl⟩ ?_ ?_
   · rintro σ H' ⟨rfl,x,y,rfl,hx,hy,hg⟩
     walk_at "rd"
     refine J4a (fun h=>?_) (fun h=>?_)
     · have h:0<y:=J7q h
       walk_at "rd"
       refine ⟨h,?_⟩
       refine ⟨_,_,rfl,⟨rfl,_,_,rfl,hy,B0p _ (by omega),by rw [J7e hx h];exact hg⟩,?_⟩
       have:=B0u x h
       have:=B0p x (show y≠0 by omega)
       show (x % y).toNat<y.toNat
       omega
     · have h:¬ 0<y:=V0h h
       walk_at "rd"
       have hy0:y=0:=by omega
       subst hy0
       have e:((Int.gcd a b:Nat):Int)=x:=by rw [<- hg,Int.gcd_zero_right];omega
       rw [e] at k
       exact k
   · rintro σ H' Q1 Q2 hq ⟨v,e1,i,j,e2,e3,k',e4,q⟩
     exact ⟨v,e1,i,j,e2,e3,k',e4,hq _ _ q⟩
theorem NZ:∀ vs H Q E,(Q3 K BT J8z) vs H Q E->RX vs H Q E:=by
 rintro vs H Q E ⟨M,b,ds,P,Ed,⟨x,y,rfl,hP⟩,⟨v,r,rfl,h1,u,r',rfl,h2,h3⟩,ho,hb,hd,hq,hx⟩
 cases (show _=_ from h1)
 cases (show _=_ from h2)
 cases (show _=_ from h3)
 exact ⟨x,y,rfl,hq _ _ H hP rfl (Kp.refl _ _) ho⟩
theorem PC {f:Addr} (F:Fun K "_law_common" "_law_common" DX f fd) (Z:Bi mg) {c:Cs} (Y:Ex K mg base c):FnOk P w K mg base CX0 1 f fd xl5 (Q3 K BT J8z):=FnOk.imp (NO F Z Y) NZ
abbrev YU:Stmt:=top 19
abbrev xl6:List Str:=["number"]
theorem Q0b:FnScope xl6 xl6 (J7 YU):=⟨rfl,rfl,rfl,by decide +kernel,rfl,by decide +kernel,by decide +kernel⟩
def sgn (n:Int):Int:=if 0<n then 1 else if n<0 then -1 else 0
noncomputable def J0h:DSp:=fun ds P _=>∃ n:Int,ds=[.int n]/\P (.int (sgn n))
theorem Q0r {f:Addr} (F:Fun K "sign" "sign" YU f fd) (Z:Bi mg) {c:Cs} (Y:Ex K mg base c):FnOk P w K mg base CX0 1 f fd xl6 (Q3 K BT J0h):=by
 refine F.okD Q0b (fun ds PP Ed h=>?_) (fun cdv A outer s H E M bg ds PP Ed hr hS_=>?_)
 · obtain ⟨n,rfl,hP⟩:=h
   rfl
 · obtain ⟨n,rfl,hP⟩:=hS_
   refine ⟨_,(J4 (AJ (Z6 WP IU (jdv 0) J1 (Y5 _)) (Q0 (V6 J1)) Y6)
    (J4 (AJ (Z6 MX IU (jdv 0) J1 (Y5 _)) (Q0 (V6 (FJ J1))) Y6)
    (Q0 (V6 J1)))),?_⟩
   unfold sgn at hP
   walk_at "g"
   walk_at "sp"
   · rename_i h;rw [if_pos h] at hP;exact hP
   · rename_i h
     rw [if_neg h] at hP
     walk_at "g"
     walk_at "sp"
     · rename_i h';rw [if_pos h'] at hP;exact hP
     · rename_i h';rw [if_neg h'] at hP;exact hP
abbrev FR:Stmt:=top 21
theorem OI:FnScope ["a","b","c"] ["a","b","c"] (J7 FR):=⟨rfl,rfl,rfl,by decide +kernel,rfl,by decide +kernel,by decide +kernel⟩
def det (a0 a1 a2 b0 b1 b2 c0 c1 c2:Int):Int:=a0*(b1*c2 - b2*c1) - a1*(b0*c2 - b2*c0)+a2*(b0*c1 - b1*c0)
noncomputable def J9a:DSp:=fun ds P _=>∃ (a0 a1 a2 b0 b1 b2 c0 c1 c2:Int),ds=[t3 a0 a1 a2,t3 b0 b1 b2,t3 c0 c1 c2]/\(Bd 2000 a0/\Bd 2000 a1/\Bd 2000 a2)/\(Bd 2000 b0/\Bd 2000 b1/\Bd 2000 b2)/\(Bd 2000 c0/\Bd 2000 c1/\Bd 2000 c2)/\P (.int (det a0 a1 a2 b0 b1 b2 c0 c1 c2))
theorem OY {f:Addr} (F:Fun K "determinant" "determinant" FR f fd) (Z:Bi mg) {c:Cs} (Y:Ex K mg base c):FnOk P w K mg base CX0 1 f fd ["a","b","c"] (Q3 K BT J9a):=by
 refine F.okD OI (fun ds PP Ed h=>?_) (fun cdv A outer s H E M bg ds PP Ed hr hS_=>?_)
 · obtain ⟨a0,a1,a2,b0,b1,b2,c0,c1,c2,rfl,⟨p0,p1,p2⟩,⟨q0,q1,q2⟩,⟨r0,r1,r2⟩,hP⟩:=h
   rfl
 · obtain ⟨a0,a1,a2,b0,b1,b2,c0,c1,c2,rfl,⟨p0,p1,p2⟩,⟨q0,q1,q2⟩,⟨r0,r1,r2⟩,hP⟩:=hS_
   refine ⟨_,(Q0 (V6 (J6 Y7 V7 (J6 Y4 V7 (J6 Q9 Y9 (J8 (J9 K (by rfl)) Q5 (jdv 0) J1 (fun _ _=>rfl)) (J6 Y4 V7 (J6 Q9 Y9 (J8 (J9 K (by rfl)) Q5 (jdv 1) J1 (fun _ _=>rfl)) (J8 (J9 K (by rfl)) Q5 (jdv 2) J1 (fun _ _=>rfl))) (J6 Q9 Y9 (J8 (J9 K (by rfl)) Q5 (jdv 1) J1 (fun _ _=>rfl)) (J8 (J9 K (by rfl)) Q5 (jdv 2) J1 (fun _ _=>rfl))))) (J6 Q9 Y9 (J8 (J9 K (by rfl)) Q5 (jdv 0) J1 (fun _ _=>rfl)) (J6 Y4 V7 (J6 Q9 Y9 (J8 (J9 K (by rfl)) Q5 (jdv 1) J1 (fun _ _=>rfl)) (J8 (J9 K (by rfl)) Q5 (jdv 2) J1 (fun _ _=>rfl))) (J6 Q9 Y9 (J8 (J9 K (by rfl)) Q5 (jdv 1) J1 (fun _ _=>rfl)) (J8 (J9 K (by rfl)) Q5 (jdv 2) J1 (fun _ _=>rfl)))))) (J6 Q9 Y9 (J8 (J9 K (by rfl)) Q5 (jdv 0) J1 (fun _ _=>rfl)) (J6 Y4 V7 (J6 Q9 Y9 (J8 (J9 K (by rfl)) Q5 (jdv 1) J1 (fun _ _=>rfl)) (J8 (J9 K (by rfl)) Q5 (jdv 2) J1 (fun _ _=>rfl))) (J6 Q9 Y9 (J8 (J9 K (by rfl)) Q5 (jdv 1) J1 (fun _ _=>rfl)) (J8 (J9 K (by rfl)) Q5 (jdv 2) J1 (fun _ _=>rfl)))))))),?_⟩
   walk_at "g"
   exact hP
abbrev JH:Stmt:=top 29
theorem WE:FnScope ["a"] ["a"] (J7 JH):=⟨rfl,rfl,rfl,by decide +kernel,rfl,by decide +kernel,by decide +kernel⟩
noncomputable def KB:DSp:=fun ds P _=>∃ (x y z w:Int),ds=[sp4 x y z w]/\P (t3 x y w)
theorem WR {f:Addr} (F:Fun K "on_board" "on_board" JH f fd) (Z:Bi mg) {c:Cs} (Y:Ex K mg base c):FnOk P w K mg base CX0 1 f fd ["a"] (Q3 K BT KB):=by
 refine F.okD WE (fun ds PP Ed h=>?_) (fun cdv A outer s H E M bg ds PP Ed hr hS_=>?_)
 · obtain ⟨x,y,z,w,rfl,hP⟩:=h
   rfl
 · obtain ⟨x,y,z,w,rfl,hP⟩:=hS_
   refine ⟨_,(Q0 (V6 (V3 (J0 (J8 (J9 K (by rfl)) Q5 (jdv 0) J1 (fun _ _=>rfl)) (J0 (J8 (J9 K (by rfl)) Q5 (jdv 0) J1 (fun _ _=>rfl)) (J0 (J8 (J9 K (by rfl)) Q5 (jdv 0) J1 (fun _ _=>rfl)) J3)))))),?_⟩
   walk_at "g"
   exact hP
structure T3 where
 ax:Int
 ay:Int
 az:Int
 aw:Int
 bx:Int
 b_y:Int
 bz:Int
 bw:Int
 cx:Int
 cy:Int
 cz:Int
 cw:Int
structure T3.ok (t:T3)(n:Nat):Prop where
 ax:Bd n t.ax
 ay:Bd n t.ay
 az:Bd n t.az
 aw:Bd n t.aw
 bx:Bd n t.bx
 b_y:Bd n t.b_y
 bz:Bd n t.bz
 bw:Bd n t.bw
 cx:Bd n t.cx
 cy:Bd n t.cy
 cz:Bd n t.cz
 cw:Bd n t.cw
abbrev T3.d (t:T3):D:=.tup [sp4 t.ax t.ay t.az t.aw,sp4 t.bx t.b_y t.bz t.bw,sp4 t.cx t.cy t.cz t.cw]
def T3.tn (t:T3):Int:=det t.ax t.ay t.aw t.bx t.b_y t.bw t.cx t.cy t.cw
def T3.wA (t:T3)(px py:Int):Int:=det t.bx t.b_y t.bw t.cx t.cy t.cw px py 1
def T3.wB (t:T3)(px py:Int):Int:=det t.cx t.cy t.cw t.ax t.ay t.aw px py 1
def T3.wC (t:T3)(px py:Int):Int:=det t.ax t.ay t.aw t.bx t.b_y t.bw px py 1
def T3.top (t:T3)(px py:Int):Int:=t.wA px py*t.az+t.wB px py*t.bz+t.wC px py*t.cz
theorem MI {n:Nat}{a0 a1 a2 b0 b1 b2 c0 c1 c2:Int}(h0:Bd n a0)(h1:Bd n a1)(h2:Bd n a2)(h3:Bd n b0)(h4:Bd n b1)(h5:Bd n b2)(h6:Bd n c0)(h7:Bd n c1)(h8:Bd n c2):Bd (3*n+5) (det a0 a1 a2 b0 b1 b2 c0 c1 c2):=by
 unfold det
 have e1:=Bd.mul h0 (Bd.sub (Bd.mul h4 h8) (Bd.mul h5 h7))
 have e2:=Bd.mul h1 (Bd.sub (Bd.mul h3 h8) (Bd.mul h5 h6))
 have e3:=Bd.mul h2 (Bd.sub (Bd.mul h3 h7) (Bd.mul h4 h6))
 exact (Bd.add (Bd.sub e1 e2) e3).mono (by omega)
theorem bd1 {n:Nat}(h:3<=n):Bd n 1:=(Bd.of (by decide) (by decide):Bd 3 1).mono h
abbrev FQ:Stmt:=top 30
abbrev xl7:List Str:=["a","b","dot"]
theorem OH:FnScope xl7 xl7 (J7 FQ):=⟨rfl,rfl,rfl,by decide +kernel,rfl,by decide +kernel,by decide +kernel⟩
noncomputable def VN:DSp:=fun ds P _=>∃ (ax ay az aw bx b_y bz bw px py:Int),ds=[sp4 ax ay az aw,sp4 bx b_y bz bw,t2 px py]/\(Bd 2000 ax/\Bd 2000 ay/\Bd 2000 aw)/\(Bd 2000 bx/\Bd 2000 b_y/\Bd 2000 bw)/\(Bd 2000 px/\Bd 2000 py)/\P (.int (det ax ay aw bx b_y bw px py 1))
theorem OX {f:Addr} (F:Fun K "side_number" "side_number" FQ f fd) (Z:Bi mg) {c:Cs} (Y:Ex K mg base c) (g0:Callee P w K mg base CX0 "determinant" 1 ["a","b","c"] (Q3 K BT J9a)) (g1:Callee P w K mg base CX0 "on_board" 1 ["a"] (Q3 K BT KB)):FnOk P w K mg base CX0 2 f fd xl7 (Q3 K BT VN):=by
 refine F.okD OH (fun ds PP Ed h=>?_) (fun cdv A outer s H E M bg ds PP Ed hr hS_=>?_)
 · obtain ⟨ax,ay,az,aw,bx,b_y,bz,bw,px,py,rfl,h1,h2,⟨h3,h4⟩,hP⟩:=h
   rfl
 · obtain ⟨ax,ay,az,aw,bx,b_y,bz,bw,px,py,rfl,h1,h2,⟨h3,h4⟩,hP⟩:=hS_
   refine ⟨_,(Q0 (V6 (Q4 g0 hr.m rfl (J0 (Q4 g1 hr.m rfl (J0 (jdv 0) J3)) (J0 (Q4 g1 hr.m rfl (J0 (jdv 1) J3)) (J0 (V3 (J0 (J8 (J9 K (by rfl)) Q5 (jdv 2) J1 (fun _ _=>rfl)) (J0 (J8 (J9 K (by rfl)) Q5 (jdv 2) J1 (fun _ _=>rfl)) (J0 J1 J3)))) J3)))))),?_⟩
   walk_at "g"
   refine ⟨_,_,_,_,rfl,?_⟩
   walk_at "g"
   refine ⟨_,_,_,_,rfl,?_⟩
   walk_at "g"
   exact ⟨_,_,_,_,_,_,_,_,_,rfl,h1,h2,⟨h3,h4,bd1 (by decide)⟩,hP⟩
abbrev YT:Stmt:=top 36
theorem GC:FnScope ["face","a","b","c"] ["face"] (J7 YT):=⟨rfl,rfl,rfl,by decide +kernel,rfl,by decide +kernel,by decide +kernel⟩
noncomputable def J0g:DSp:=fun ds P _=>∃ (t:T3) (n:Nat),ds=[t.d]/\t.ok n/\n<=2000/\P (.int t.tn)
theorem Q0q {f:Addr} (F:Fun K "turn" "turn" YT f fd) (Z:Bi mg) {c:Cs} (Y:Ex K mg base c) (g0:Callee P w K mg base CX0 "determinant" 1 ["a","b","c"] (Q3 K BT J9a)) (g1:Callee P w K mg base CX0 "on_board" 1 ["a"] (Q3 K BT KB)):FnOk P w K mg base CX0 2 f fd ["face"] (Q3 K BT J0g):=by
 refine F.okD GC (fun ds PP Ed h=>?_) (fun cdv A outer s H E M bg ds PP Ed hr hS_=>?_)
 · obtain ⟨t,n,rfl,ok,hn,hP⟩:=h
   rfl
 · obtain ⟨t,n,rfl,ok,hn,hP⟩:=hS_
   refine ⟨_,(J4 (BV (BE [1,2,3]) (jdv 0) (PG.or (AO (n:=3) K (by rfl) (by rfl) (J5 (pg_name (i:=1) GC.nd rfl (by walk_at "o")) (J5 (pg_name (i:=2) GC.nd rfl (by walk_at "o")) (J5 (pg_name (i:=3) GC.nd rfl (by walk_at "o")) Y1)))) (AQ (n:=3) K (by rfl) (by rfl) (J5 (pg_name (i:=1) GC.nd rfl (by walk_at "o")) (J5 (pg_name (i:=2) GC.nd rfl (by walk_at "o")) (J5 (pg_name (i:=3) GC.nd rfl (by walk_at "o")) Y1))))))
    (Q0 (V6 (Q4 g0 hr.m rfl (J0 (Q4 g1 hr.m rfl (J0 (jdv 1) J3)) (J0 (Q4 g1 hr.m rfl (J0 (jdv 2) J3)) (J0 (Q4 g1 hr.m rfl (J0 (jdv 3) J3)) J3))))))),?_⟩
   walk_at "g"
   refine ⟨_,_,_,_,rfl,?_⟩
   walk_at "g"
   refine ⟨_,_,_,_,rfl,?_⟩
   walk_at "g"
   refine ⟨_,_,_,_,rfl,?_⟩
   walk_at "g"
   exact ⟨_,_,_,_,_,_,_,_,_,rfl,⟨ok.ax.mono hn,ok.ay.mono hn,ok.aw.mono hn⟩,⟨ok.bx.mono hn,ok.b_y.mono hn,ok.bw.mono hn⟩,⟨ok.cx.mono hn,ok.cy.mono hn,ok.cw.mono hn⟩,hP⟩
abbrev LN:Stmt:=top 38
abbrev xl8:List Str:=["face","dot"]
theorem CQ:FnScope ["face","dot","a","b","c"] xl8 (J7 LN):=⟨rfl,rfl,rfl,by decide +kernel,rfl,by decide +kernel,by decide +kernel⟩
noncomputable def TC:DSp:=fun ds P _=>∃ (t:T3) (px py:Int) (n:Nat),ds=[t.d,t2 px py]/\t.ok n/\Bd n px/\Bd n py/\n<=2000/\P (t3 (t.wA px py) (t.wB px py) (t.wC px py))
theorem ZE {f:Addr} (F:Fun K "weights" "weights" LN f fd) (Z:Bi mg) {c:Cs} (Y:Ex K mg base c) (g0:Callee P w K mg base CX0 "side_number" 2 xl7 (Q3 K BT VN)):FnOk P w K mg base CX0 3 f fd xl8 (Q3 K BT TC):=by
 refine F.okD CQ (fun ds PP Ed h=>?_) (fun cdv A outer s H E M bg ds PP Ed hr hS_=>?_)
 · obtain ⟨t,px,py,n,rfl,ok,hx,hy,hn,hP⟩:=h
   rfl
 · obtain ⟨t,px,py,n,rfl,ok,hx,hy,hn,hP⟩:=hS_
   refine ⟨_,(J4 (BV (BE [2,3,4]) (jdv 0) (PG.or (AO (n:=3) K (by rfl) (by rfl) (J5 (pg_name (i:=2) CQ.nd rfl (by walk_at "o")) (J5 (pg_name (i:=3) CQ.nd rfl (by walk_at "o")) (J5 (pg_name (i:=4) CQ.nd rfl (by walk_at "o")) Y1)))) (AQ (n:=3) K (by rfl) (by rfl) (J5 (pg_name (i:=2) CQ.nd rfl (by walk_at "o")) (J5 (pg_name (i:=3) CQ.nd rfl (by walk_at "o")) (J5 (pg_name (i:=4) CQ.nd rfl (by walk_at "o")) Y1))))))
    (Q0 (V6 (V3 (J0 (Q4 g0 hr.m rfl (J0 (jdv 3) (J0 (jdv 4) (J0 (jdv 1) J3)))) (J0 (Q4 g0 hr.m rfl (J0 (jdv 4) (J0 (jdv 2) (J0 (jdv 1) J3)))) (J0 (Q4 g0 hr.m rfl (J0 (jdv 2) (J0 (jdv 3) (J0 (jdv 1) J3)))) J3))))))),?_⟩
   walk_at "g"
   refine ⟨_,_,_,_,_,_,_,_,_,_,rfl,⟨ok.bx.mono hn,ok.b_y.mono hn,ok.bw.mono hn⟩,⟨ok.cx.mono hn,ok.cy.mono hn,ok.cw.mono hn⟩,⟨hx.mono hn,hy.mono hn⟩,?_⟩
   walk_at "g"
   refine ⟨_,_,_,_,_,_,_,_,_,_,rfl,⟨ok.cx.mono hn,ok.cy.mono hn,ok.cw.mono hn⟩,⟨ok.ax.mono hn,ok.ay.mono hn,ok.aw.mono hn⟩,⟨hx.mono hn,hy.mono hn⟩,?_⟩
   walk_at "g"
   refine ⟨_,_,_,_,_,_,_,_,_,_,rfl,⟨ok.ax.mono hn,ok.ay.mono hn,ok.aw.mono hn⟩,⟨ok.bx.mono hn,ok.b_y.mono hn,ok.bw.mono hn⟩,⟨hx.mono hn,hy.mono hn⟩,?_⟩
   walk_at "g"
   exact hP
abbrev CC:Stmt:=top 20
abbrev xl9:List Str:=["one","other"]
theorem KJ:FnScope xl9 xl9 (J7 CC):=⟨rfl,rfl,rfl,by decide +kernel,rfl,by decide +kernel,by decide +kernel⟩
noncomputable def J8t:DSp:=fun ds P _=>∃ (a b c x y z:Int),ds=[t3 a b c,.lst [.int x,.int y,.int z]]/\(Bd 7000 a/\Bd 7000 b/\Bd 7000 c)/\(Bd 2000 x/\Bd 2000 y/\Bd 2000 z)/\P (.int (a*x+b*y+c*z))
abbrev xc1 (P:Program) (w:World) (K:Fg) (mg:Str → Option Value) (base:Heap) (f:Addr) (cdv:Value) (A:Around) (outer:List Env) (s:Shared) (H:Hp) (E:XK):Cx:=BW CX0 P w K mg base xl9 "products_added" (J7 CC) f cdv A outer s H E
abbrev J2m:List Str:=["first","second"]
theorem KS {f:Addr} (F:Fun K "products_added" "products_added" CC f fd) (Z:Bi mg) {c:Cs} (Y:Ex K mg base c):FnOk P w K mg base CX0 1 f fd xl9 (Q3 K BT J8t):=by
 refine F.okD KJ (fun ds PP Ed h=>?_) (fun cdv A outer s H E M bg ds PP Ed hr hS_=>?_)
 · obtain ⟨a,b,c,x,y,z,rfl,⟨h1,h2,h3⟩,⟨k1,k2,k3⟩,hP⟩:=h
   rfl
 · obtain ⟨a,b,c,x,y,z,rfl,⟨h1,h2,h3⟩,⟨k1,k2,k3⟩,hP⟩:=hS_
   refine ⟨_,(Q0 (V6 (V2 (J4q K (by rfl) (by rfl)) Q7p rfl Z.sum_ Q7r (J0 (AS (X:=(xc1 P w K mg base f cdv A outer s H E).nox) (BE [0,1]) (HL (X:=(xc1 P w K mg base f cdv A outer s H E).nox) (N':=J2m) (map:=[none,none]) (by rfl) (by rfl) (by decide +kernel) (by rfl) True.intro (gkeep_seq (js:=[0,1]) (by decide)) fun cl0 C0 fp0 s0 H0=>⟨(PG.or (AO (n:=2) K (by rfl) (by rfl) (J5 (pg_name (i:=0) (Z4 J2m (by decide +kernel)) rfl (by walk_at "o")) (J5 (pg_name (i:=1) (Z4 J2m (by decide +kernel)) rfl (by walk_at "o")) Y1))) (AQ (n:=2) K (by rfl) (by rfl) (J5 (pg_name (i:=0) (Z4 J2m (by decide +kernel)) rfl (by walk_at "o")) (J5 (pg_name (i:=1) (Z4 J2m (by decide +kernel)) rfl (by walk_at "o")) Y1)))),Z9,(J6 (X:=(Q7 (xc1 P w K mg base f cdv A outer s H E).nox J2m _ cl0 C0 fp0 s0 H0)) Q9 Y9 (jdv 0) (jdv 1))⟩) (Q1e (by rfl) true false rfl Z.zip_ (J0 (jdv 0) (J0 (jdv 1) J3)) (Q0l K (by rfl) true false rfl Z.zip_ (JA.h (J0 (jdv 0) (J0 (jdv 1) J3)))))) J3)))),?_⟩
   walk_at "g"
   walk_at "gc"
   have e:[a*x,b*y,c*z].sum=a*x+b*y+c*z:=by simp only [List.sum_cons,List.sum_nil];omega
   rw [<- e] at hP
   exact hP
theorem T3.tn_bd {t:T3}{n:Nat}(ok:t.ok n):Bd (3*n+5) t.tn:=MI ok.ax ok.ay ok.aw ok.bx ok.b_y ok.bw ok.cx ok.cy ok.cw
theorem T3.wA_bd {t:T3}{n:Nat}{px py:Int}(ok:t.ok n)(hx:Bd n px)(hy:Bd n py)(h3:3<=n):Bd (3*n+5) (t.wA px py):=MI ok.bx ok.b_y ok.bw ok.cx ok.cy ok.cw hx hy (bd1 h3)
theorem T3.wB_bd {t:T3}{n:Nat}{px py:Int}(ok:t.ok n)(hx:Bd n px)(hy:Bd n py)(h3:3<=n):Bd (3*n+5) (t.wB px py):=MI ok.cx ok.cy ok.cw ok.ax ok.ay ok.aw hx hy (bd1 h3)
theorem T3.wC_bd {t:T3}{n:Nat}{px py:Int}(ok:t.ok n)(hx:Bd n px)(hy:Bd n py)(h3:3<=n):Bd (3*n+5) (t.wC px py):=MI ok.ax ok.ay ok.aw ok.bx ok.b_y ok.bw hx hy (bd1 h3)
theorem T3.top_bd {t:T3}{n:Nat}{px py:Int}(ok:t.ok n)(hx:Bd n px)(hy:Bd n py)(h3:3<=n):Bd (4*n+8) (t.top px py) :=
 (Bd.add (Bd.add (Bd.mul (T3.wA_bd ok hx hy h3) ok.az) (Bd.mul (T3.wB_bd ok hx hy h3) ok.bz)) (Bd.mul (T3.wC_bd ok hx hy h3) ok.cz)).mono (by omega)
theorem sgn_bd (n:Int):Bd 3 (sgn n):=by
 unfold sgn
 split
 · exact Bd.of (by decide) (by decide)
 · split<;>exact Bd.of (by decide) (by decide)
abbrev AK (i:Int):Int:=if i<0 then -i else i
theorem J1z {n:Nat}{i:Int}(h:Bd n i):Bd n (AK i):=by
 unfold AK
 split
 · exact h.neg
 · exact h
abbrev BS:Stmt:=top 39
theorem CS:FnScope ["face","dot","whole","top"] xl8 (J7 BS):=⟨rfl,rfl,rfl,by decide +kernel,rfl,by decide +kernel,by decide +kernel⟩
noncomputable def Q7w (c:Cs):DSp:=fun ds P Ed=>∃ (t:T3) (px py:Int) (n:Nat),ds=[t.d,t2 px py]/\t.ok n/\Bd n px/\Bd n py/\3<=n/\n<=1000/\(t.tn=0->Ed c.NoFace)/\(t.tn≠0->P (t2 (t.top px py*sgn t.tn) (AK t.tn)))
abbrev xc2 (P:Program) (w:World) (K:Fg) (mg:Str → Option Value) (base:Heap) (f:Addr) (cdv:Value) (A:Around) (outer:List Env) (s:Shared) (H:Hp) (E:XK):Cx:=BW (CX1 P w base) P w K mg base ["face","dot","whole","top"] "unreduced_depth" (J7 BS) f cdv A outer s H E
theorem JQ {f:Addr} (F:Fun K "unreduced_depth" "unreduced_depth" BS f fd) (Z:Bi mg) {c:Cs} (Y:Ex K mg base c) (g0:Callee P w K mg base CX0 "turn" 2 ["face"] (Q3 K BT J0g)) (g1:Callee P w K mg base CX0 "products_added" 1 xl9 (Q3 K BT J8t)) (g2:Callee P w K mg base CX0 "weights" 3 xl8 (Q3 K BT TC)) (g3:Callee P w K mg base CX0 "sign" 1 xl6 (Q3 K BT J0h)):FnOk P w K mg base (CX1 P w base) 4 f fd xl8 (Q3 K BT (Q7w c)):=by
 refine F.okDX CS (fun ds PP Ed h=>?_) (fun cdv A outer s H E M bg ds PP Ed hr hE hS_=>?_)
 · obtain ⟨t,px,py,n,rfl,ok,hx,hy,h3,hn,h0,h1⟩:=h
   rfl
 · obtain ⟨t,px,py,n,rfl,ok,hx,hy,h3,hn,h0,h1⟩:=hS_
   refine ⟨_,(J4 (V0 (i:=2) CS.nd rfl (by walk_at "o") (Q4 g0 hr.m rfl (J0 (jdv 0) J3)))
    (J4 (AJ (Z6 DD BR (jdv 2) J1 (Y5 _)) (Q0 (MF hE (LX Y.o_NoFace rfl))) Y6)
    (J4 (V0 (i:=3) CS.nd rfl (by walk_at "o") (Q4 g1 hr.m rfl (J0 (Q4 g2 hr.m rfl (J0 (jdv 0) (J0 (jdv 1) J3))) (J0 (AS (X:=(xc2 P w K mg base f cdv A outer s H E)) (Y2 0) (HL (X:=(xc2 P w K mg base f cdv A outer s H E)) (N':=["corner"]) (map:=[none]) (by rfl) (by rfl) (by decide +kernel) (by rfl) True.intro (gkeep_name rfl) fun cl0 C0 fp0 s0 H0=>⟨(pg_name (X:=(Q7 (xc2 P w K mg base f cdv A outer s H E) ["corner"] _ cl0 C0 fp0 s0 H0)) (i:=0) (Z4 ["corner"] (by decide +kernel)) rfl (by walk_at "o")),Z9,(J8 (X:=(Q7 (xc2 P w K mg base f cdv A outer s H E) ["corner"] _ cl0 C0 fp0 s0 H0)) (J9 K (by rfl)) Q5 (jdv 0) J1 (fun _ _=>rfl))⟩) (AR (by rfl) (jdv 0))) J3))))
    (Q0 (V6 (V3 (J0 (J6 Q9 Y9 (jdv 3) (Q4 g3 hr.m rfl (J0 (jdv 2) J3))) (J0 (V2 IA J8j rfl Z.abs_ QO (J0 (jdv 2) J3)) J3)))))))),?_⟩
   walk_at "g"
   refine ⟨t,n,rfl,ok,by omega,?_⟩
   walk_at "g"
   walk_at "sp"
   · rename_i z
     exact h0 z
   · rename_i z
     walk_at "g"
     refine ⟨t,px,py,n,rfl,ok,hx,hy,by omega,?_⟩
     walk_at "g"
     walk_at "gc"
     have m:=R5 (show 3*n+5<=3005 by omega) (by decide:3005<=7000)
     refine ⟨_,_,_,_,_,_,rfl,⟨(T3.wA_bd ok hx hy h3).mono m,(T3.wB_bd ok hx hy h3).mono m,(T3.wC_bd ok hx hy h3).mono m⟩,⟨ok.az.mono (by omega),ok.bz.mono (by omega),ok.cz.mono (by omega)⟩,?_⟩
     walk_at "g"
     refine ⟨_,rfl,?_⟩
     walk_at "g"
     refine And.intro (Or.inl ⟨_,_,T3.top_bd ok hx hy h3,sgn_bd _,by omega⟩) ?_
     walk_at "g"
     exact h1 z
abbrev OL:Stmt:=top 31
theorem J2v:FnScope ["a","b"] ["a","b"] (J7 OL):=⟨rfl,rfl,rfl,by decide +kernel,rfl,by decide +kernel,by decide +kernel⟩
noncomputable def YH:DSp:=fun ds P _=>∃ (ax ay az aw bx b_y bz bw:Int),ds=[sp4 ax ay az aw,sp4 bx b_y bz bw]/\(Bd 2000 ay/\Bd 2000 aw)/\(Bd 2000 b_y/\Bd 2000 bw)/\P (.int (ay*bw - aw*b_y))
theorem J3h {f:Addr} (F:Fun K "growth" "growth" OL f fd) (Z:Bi mg) {c:Cs} (Y:Ex K mg base c):FnOk P w K mg base CX0 1 f fd ["a","b"] (Q3 K BT YH):=by
 refine F.okD J2v (fun ds PP Ed h=>?_) (fun cdv A outer s H E M bg ds PP Ed hr hS_=>?_)
 · obtain ⟨ax,ay,az,aw,bx,b_y,bz,bw,rfl,⟨h1,h2⟩,⟨h3,h4⟩,hP⟩:=h
   rfl
 · obtain ⟨ax,ay,az,aw,bx,b_y,bz,bw,rfl,⟨h1,h2⟩,⟨h3,h4⟩,hP⟩:=hS_
   refine ⟨_,(Q0 (V6 (J6 Y4 V7 (J6 Q9 Y9 (J8 (J9 K (by rfl)) Q5 (jdv 0) J1 (fun _ _=>rfl)) (J8 (J9 K (by rfl)) Q5 (jdv 1) J1 (fun _ _=>rfl))) (J6 Q9 Y9 (J8 (J9 K (by rfl)) Q5 (jdv 0) J1 (fun _ _=>rfl)) (J8 (J9 K (by rfl)) Q5 (jdv 1) J1 (fun _ _=>rfl)))))),?_⟩
   walk_at "g"
   exact hP
abbrev EV:Stmt:=top 32
theorem CN:FnScope ["a","b","dot","number"] xl7 (J7 EV):=⟨rfl,rfl,rfl,by decide +kernel,rfl,by decide +kernel,by decide +kernel⟩
def shd (ax ay aw bx b_y bw px py:Int):Int:=if det ax ay aw bx b_y bw px py 1=0 then (if ay*bw - aw*b_y=0 then aw*bx - ax*bw else ay*bw - aw*b_y) else det ax ay aw bx b_y bw px py 1
noncomputable def Q3w:DSp:=fun ds P _=>∃ (ax ay az aw bx b_y bz bw px py:Int),ds=[sp4 ax ay az aw,sp4 bx b_y bz bw,t2 px py]/\(Bd 2000 ax/\Bd 2000 ay/\Bd 2000 aw)/\(Bd 2000 bx/\Bd 2000 b_y/\Bd 2000 bw)/\(Bd 2000 px/\Bd 2000 py)/\P (.int (sgn (shd ax ay aw bx b_y bw px py)))
theorem NH {f:Addr} (F:Fun K "shifted_side" "shifted_side" EV f fd) (Z:Bi mg) {c:Cs} (Y:Ex K mg base c) (g0:Callee P w K mg base CX0 "side_number" 2 xl7 (Q3 K BT VN)) (g1:Callee P w K mg base CX0 "sign" 1 xl6 (Q3 K BT J0h)) (g2:Callee P w K mg base CX0 "growth" 1 ["a","b"] (Q3 K BT YH)):FnOk P w K mg base CX0 3 f fd xl7 (Q3 K BT Q3w):=by
 refine F.okD CN (fun ds PP Ed h=>?_) (fun cdv A outer s H E M bg ds PP Ed hr hS_=>?_)
 · obtain ⟨ax,ay,az,aw,bx,b_y,bz,bw,px,py,rfl,⟨a1,a2,a3⟩,⟨b1,b2,b3⟩,⟨h3,h4⟩,hP⟩:=h
   rfl
 · obtain ⟨ax,ay,az,aw,bx,b_y,bz,bw,px,py,rfl,⟨a1,a2,a3⟩,⟨b1,b2,b3⟩,⟨h3,h4⟩,hP⟩:=hS_
   refine ⟨_,(J4 (V0 (i:=3) CN.nd rfl (by walk_at "o") (Q4 g0 hr.m rfl (J0 (jdv 0) (J0 (jdv 1) (J0 (jdv 2) J3)))))
    (J4 (AJ (Z6 DD BR (jdv 3) J1 (Y5 _)) (Q0 (V0 (i:=3) CN.nd rfl (by walk_at "o") (Q4 g2 hr.m rfl (J0 (jdv 0) (J0 (jdv 1) J3))))) Y6)
    (J4 (AJ (Z6 DD BR (jdv 3) J1 (Y5 _)) (Q0 (V0 (i:=3) CN.nd rfl (by walk_at "o") (J6 Y4 V7 (J6 Q9 Y9 (J8 (J9 K (by rfl)) Q5 (jdv 0) J1 (fun _ _=>rfl)) (J8 (J9 K (by rfl)) Q5 (jdv 1) J1 (fun _ _=>rfl))) (J6 Q9 Y9 (J8 (J9 K (by rfl)) Q5 (jdv 0) J1 (fun _ _=>rfl)) (J8 (J9 K (by rfl)) Q5 (jdv 1) J1 (fun _ _=>rfl)))))) Y6)
    (Q0 (V6 (Q4 g1 hr.m rfl (J0 (jdv 3) J3))))))),?_⟩
   walk_at "g"
   refine ⟨ax,ay,az,aw,bx,b_y,bz,bw,px,py,rfl,⟨a1,a2,a3⟩,⟨b1,b2,b3⟩,⟨h3,h4⟩,?_⟩
   walk_at "g"
   walk_at "sp"
   · rename_i z
     walk_at "g"
     refine ⟨ax,ay,az,aw,bx,b_y,bz,bw,rfl,⟨a2,a3⟩,⟨b2,b3⟩,?_⟩
     walk_at "g"
     walk_at "sp"
     · rename_i z2
       walk_at "g"
       refine ⟨_,rfl,?_⟩
       have e:shd ax ay aw bx b_y bw px py=aw*bx - ax*bw:=by unfold shd;rw [if_pos z,if_pos z2]
       rw [e] at hP
       exact hP
     · rename_i z2
       walk_at "g"
       refine ⟨_,rfl,?_⟩
       have e:shd ax ay aw bx b_y bw px py=ay*bw - aw*b_y:=by unfold shd;rw [if_pos z,if_neg z2]
       rw [e] at hP
       exact hP
   · rename_i z
     walk_at "g"
     refine IfP.f (by simp [z]) ?_
     walk_at "g"
     refine ⟨_,rfl,?_⟩
     have e:shd ax ay aw bx b_y bw px py=det ax ay aw bx b_y bw px py 1:=by unfold shd;rw [if_neg z]
     rw [e] at hP
     exact hP
abbrev LP:Stmt:=top 34
theorem BX:FnScope ["face","dot","a","b","c","first"] xl8 (J7 LP):=⟨rfl,rfl,rfl,by decide +kernel,rfl,by decide +kernel,by decide +kernel⟩
def T3.s1 (t:T3)(px py:Int):Int:=sgn (shd t.ax t.ay t.aw t.bx t.b_y t.bw px py)
def T3.s2 (t:T3)(px py:Int):Int:=sgn (shd t.bx t.b_y t.bw t.cx t.cy t.cw px py)
def T3.s3 (t:T3)(px py:Int):Int:=sgn (shd t.cx t.cy t.cw t.ax t.ay t.aw px py)
def T3.has (t:T3)(px py:Int):Prop:=t.s1 px py≠0/\t.s2 px py=t.s1 px py/\t.s3 px py=t.s1 px py
instance (t:T3) (px py:Int):Decidable (t.has px py):=inferInstanceAs (Decidable (_/\_/\_))
noncomputable def YG:DSp:=fun ds P _=>∃ (t:T3) (px py:Int) (n:Nat),ds=[t.d,t2 px py]/\t.ok n/\Bd n px/\Bd n py/\n<=2000/\P (.bl (decide (t.has px py)))
theorem ZG {f:Addr} (F:Fun K "has_dot" "has_dot" LP f fd) (Z:Bi mg) {c:Cs} (Y:Ex K mg base c) (g0:Callee P w K mg base CX0 "shifted_side" 3 xl7 (Q3 K BT Q3w)):FnOk P w K mg base CX0 4 f fd xl8 (Q3 K BT YG):=by
 refine F.okD BX (fun ds PP Ed h=>?_) (fun cdv A outer s H E M bg ds PP Ed hr hS_=>?_)
 · obtain ⟨t,px,py,n,rfl,ok,hx,hy,hn,hP⟩:=h
   rfl
 · obtain ⟨t,px,py,n,rfl,ok,hx,hy,hn,hP⟩:=hS_
   refine ⟨_,(J4 (BV (BE [2,3,4]) (jdv 0) (PG.or (AO (n:=3) K (by rfl) (by rfl) (J5 (pg_name (i:=2) BX.nd rfl (by walk_at "o")) (J5 (pg_name (i:=3) BX.nd rfl (by walk_at "o")) (J5 (pg_name (i:=4) BX.nd rfl (by walk_at "o")) Y1)))) (AQ (n:=3) K (by rfl) (by rfl) (J5 (pg_name (i:=2) BX.nd rfl (by walk_at "o")) (J5 (pg_name (i:=3) BX.nd rfl (by walk_at "o")) (J5 (pg_name (i:=4) BX.nd rfl (by walk_at "o")) Y1))))))
    (J4 (V0 (i:=5) BX.nd rfl (by walk_at "o") (Q4 g0 hr.m rfl (J0 (jdv 2) (J0 (jdv 3) (J0 (jdv 1) J3)))))
    (Q0 (V6 (HA (EO J1d ZJ (jdv 5) J1 (Y5 _)) (HA (EO DD BR (Q4 g0 hr.m rfl (J0 (jdv 3) (J0 (jdv 4) (J0 (jdv 1) J3)))) (jdv 5) (Y5 _)) (IK (EO DD BR (Q4 g0 hr.m rfl (J0 (jdv 4) (J0 (jdv 2) (J0 (jdv 1) J3)))) (jdv 5) (Y5 _))))))))),?_⟩
   walk_at "g"
   refine ⟨_,_,_,_,_,_,_,_,_,_,rfl,⟨ok.ax.mono hn,ok.ay.mono hn,ok.aw.mono hn⟩,⟨ok.bx.mono hn,ok.b_y.mono hn,ok.bw.mono hn⟩,⟨hx.mono hn,hy.mono hn⟩,?_⟩
   walk_at "g"
   have key:∀ b:Bool,(b=true↔t.has px py)->PP (.bl b):=fun b h=>by
    rw [show b=decide (t.has px py) from by rw [B1u,h];simp]
    exact hP
   unfold T3.has T3.s1 T3.s2 T3.s3 at key
   walk_at "sp"
   · rename_i h1
     walk_at "g"
     refine ⟨_,_,_,_,_,_,_,_,_,_,rfl,⟨ok.bx.mono hn,ok.b_y.mono hn,ok.bw.mono hn⟩,⟨ok.cx.mono hn,ok.cy.mono hn,ok.cw.mono hn⟩,⟨hx.mono hn,hy.mono hn⟩,?_⟩
     walk_at "g"
     walk_at "sp"
     · rename_i h2
       walk_at "g"
       refine ⟨_,_,_,_,_,_,_,_,_,_,rfl,⟨ok.cx.mono hn,ok.cy.mono hn,ok.cw.mono hn⟩,⟨ok.ax.mono hn,ok.ay.mono hn,ok.aw.mono hn⟩,⟨hx.mono hn,hy.mono hn⟩,?_⟩
       walk_at "g"
       refine key _ ?_
       simp [h1,h2]
     · rename_i h2
       walk_at "g"
       refine key _ ?_
       simp [h2]
   · rename_i h1
     walk_at "g"
     refine key _ ?_
     simp [h1]
abbrev LO:Stmt:=top 22
theorem YS:FnScope xl9 xl9 (J7 LO):=⟨rfl,rfl,rfl,by decide +kernel,rfl,by decide +kernel,by decide +kernel⟩
noncomputable def J0i:DSp:=fun ds P _=>∃ (a b c e:Int),ds=[t2 a b,t2 c e]/\(Bd 2000 a/\Bd 2000 b)/\(Bd 2000 c/\Bd 2000 e)/\P (.bl (decide (a*e<c*b)))
theorem ZF {f:Addr} (F:Fun K "is_less" "is_less" LO f fd) (Z:Bi mg) {c:Cs} (Y:Ex K mg base c):FnOk P w K mg base CX0 1 f fd xl9 (Q3 K BT J0i):=by
 refine F.okD YS (fun ds PP Ed h=>?_) (fun cdv A outer s H E M bg ds PP Ed hr hS_=>?_)
 · obtain ⟨a,b,c,e,rfl,⟨h1,h2⟩,⟨h3,h4⟩,hP⟩:=h
   rfl
 · obtain ⟨a,b,c,e,rfl,⟨h1,h2⟩,⟨h3,h4⟩,hP⟩:=hS_
   refine ⟨_,(Q0 (V6 (EO MX IU (J6 Q9 Y9 (J8 (J9 K (by rfl)) Q5 (jdv 0) J1 (fun _ _=>rfl)) (J8 (J9 K (by rfl)) Q5 (jdv 1) J1 (fun _ _=>rfl))) (J6 Q9 Y9 (J8 (J9 K (by rfl)) Q5 (jdv 1) J1 (fun _ _=>rfl)) (J8 (J9 K (by rfl)) Q5 (jdv 0) J1 (fun _ _=>rfl))) (Y5 _)))),?_⟩
   walk_at "g"
   exact hP
theorem GA {n:Int}(h:0<n):sgn n=1:=by unfold sgn;rw [if_pos h]
theorem GB {n:Int}(h:n<0):sgn n = -1:=by unfold sgn;rw [if_neg (by omega),if_pos h]
theorem J5j:sgn 0=0:=by decide
theorem KH {a:Int}(n:Int)(h:0<a):sgn (a*n)=sgn n:=by
 by_cases h1:0<n
 · rw [GA h1,GA (B1w h h1)]
 · by_cases h2:n<0
   · rw [GB h2,GB (B1n h h2)]
   · have:n=0:=by omega
     subst this
     rw [Int.mul_zero]
theorem Q0u {a b M:Int}(h1:(a.natAbs:Int)<=M)(h2:(b.natAbs:Int)<=M) : -(M*M)<=a*b/\a*b<=M*M:=by
 have h3:a.natAbs*b.natAbs<=M.toNat*M.toNat:=B2t (by omega) (by omega)
 have h4:(a*b).natAbs=a.natAbs*b.natAbs:=Int.natAbs_mul a b
 have h5:((M.toNat*M.toNat:Nat):Int)=M*M:=by rw [Int.natCast_mul];have:(M.toNat:Int)=M:=(by omega);rw [this]
 omega
theorem J5k {A B C T F:Int}(hT:0<=T)(hF:F=10+8*T)(b1 : -(2*T)<=B)(b2:B<=2*T)(c1 : -(2*T)<=C)(c2:C<=2*T) :
 sgn (F*F*A+F*B+C)=sgn (if A=0 then (if B=0 then C else B) else A):=by
 have F0:0<F:=by omega
 have e1:F*(10+6*T)=F*F - F*(2*T):=by rw [hF];grind
 have e2:10*(10+6*T)<=F*(10+6*T):=B0j (by omega) (by omega)
 have fb1:F * -(2*T)<=F*B:=U9 b1 (by omega)
 have fb2:F*B<=F*(2*T):=U9 b2 (by omega)
 have e3:F * -(2*T) = -(F*(2*T)):=Int.mul_neg _ _
 have FF:0<F*F:=B1w F0 F0
 by_cases hA:A=0
 · rw [if_pos hA,hA,Int.mul_zero]
   by_cases hB:B=0
   · rw [if_pos hB,hB,Int.mul_zero]
     congr 1
     omega
   · rw [if_neg hB]
     by_cases hp:0<B
     · have:F*1<=F*B:=U9 (by omega) (by omega)
       rw [GA hp,GA (by omega)]
     · have:F*B<=F * -1:=U9 (by omega) (by omega)
       have e4:F * -1 = -F:=by omega
       rw [GB (show B<0 by omega),GB (by omega)]
 · rw [if_neg hA]
   by_cases hp:0<A
   · have:F*F*1<=F*F*A:=U9 (by omega) (by omega)
     rw [GA hp,GA (by omega)]
   · have:F*F*A<=F*F * -1:=U9 (by omega) (by omega)
     rw [GB (show A<0 by omega),GB (by omega)]
theorem SH (ax ay aw bx b_y bw px py pw:Int):(bx*aw - ax*bw)*(py*aw - ay*pw) - (b_y*aw - ay*bw)*(px*aw - ax*pw)=aw*det ax ay aw bx b_y bw px py pw:=by unfold det;grind
theorem J6j (ax ay aw bx b_y bw px py F:Int):det ax ay aw bx b_y bw (px*F*F+F) (py*F*F+1) (F*F)=F*F*det ax ay aw bx b_y bw px py 1+F*(ay*bw - aw*b_y)+(aw*bx - ax*bw):=by unfold det;grind
theorem YV {ax ay az aw bx b_y bz bw px py M:Int}(hw:0<aw)(hM:1<=M)(h:∀ n∈[ax,ay,az,aw,bx,b_y,bz,bw],(n.natAbs:Int)<=M) :
 sgn ((bx*aw - ax*bw)*((py*(10+8*M*M)*(10+8*M*M)+1)*aw - ay*((10+8*M*M)*(10+8*M*M))) - (b_y*aw - ay*bw)*((px*(10+8*M*M)*(10+8*M*M)+(10+8*M*M))*aw - ax*((10+8*M*M)*(10+8*M*M))))=sgn (shd ax ay aw bx b_y bw px py):=by
 rw [SH,KH _ hw,J6j]
 have m1:=Q0u (h ay (by simp)) (h bw (by simp))
 have m2:=Q0u (h aw (by simp)) (h b_y (by simp))
 have m3:=Q0u (h aw (by simp)) (h bx (by simp))
 have m4:=Q0u (h ax (by simp)) (h bw (by simp))
 have hT:0<=M*M:=B0m (by omega) (by omega)
 exact J5k (T:=M*M) hT (by rw [Int.mul_assoc]) (by omega) (by omega) (by omega) (by omega)
theorem ER (n:Int):(0<n/\sgn n=1)\/(n=0/\sgn n=0)\/(n<0/\sgn n = -1):=by
 by_cases h:0<n
 · exact .inl ⟨h,GA h⟩
 · by_cases h':n<0
   · exact .inr (.inr ⟨h',GB h'⟩)
   · have:n=0:=by omega
     subst this
     exact .inr (.inl ⟨rfl,J5j⟩)
structure T3.pos (t:T3):Prop where
 a:0<t.aw
 b:0<t.bw
 c:0<t.cw
def T3.nums (t:T3):List Int:=[t.ax,t.ay,t.az,t.aw,t.bx,t.b_y,t.bz,t.bw,t.cx,t.cy,t.cz,t.cw]
def T3.in (t:T3)(M:Int):Prop:=∀ n∈t.nums,(n.natAbs:Int)<=M
def nX (px M:Int):Int:=px*(10+8*M*M)*(10+8*M*M)+(10+8*M*M)
def nY (py M:Int):Int:=py*(10+8*M*M)*(10+8*M*M)+1
def nW (M:Int):Int:=(10+8*M*M)*(10+8*M*M)
theorem GW {ax ay az aw bx b_y bz bw px py M:Int}(hw:0<aw)(hM:1<=M)(h:∀ n∈[ax,ay,az,aw,bx,b_y,bz,bw],(n.natAbs:Int)<=M):sgn (det ax ay aw bx b_y bw (nX px M) (nY py M) (nW M))=sgn (shd ax ay aw bx b_y bw px py):=by
 have e:=YV (px:=px) (py:=py) hw hM h
 rw [SH,KH _ hw] at e
 exact e
theorem T3.near {t:T3}{px py M:Int}(hp:t.pos)(hM:1<=M)(h:t.in M) :
 sgn (det t.ax t.ay t.aw t.bx t.b_y t.bw (nX px M) (nY py M) (nW M))=t.s1 px py/\sgn (det t.bx t.b_y t.bw t.cx t.cy t.cw (nX px M) (nY py M) (nW M))=t.s2 px py/\sgn (det t.cx t.cy t.cw t.ax t.ay t.aw (nX px M) (nY py M) (nW M))=t.s3 px py:=by
 unfold T3.in T3.nums at h
 refine ⟨GW (az:=t.az) (bz:=t.bz) hp.a hM fun n hn=>h n ?_,GW (az:=t.bz) (bz:=t.cz) hp.b hM fun n hn=>h n ?_,GW (az:=t.cz) (bz:=t.az) hp.c hM fun n hn=>h n ?_⟩
 all_goals
  simp only [B6,R1,W4] at hn ⊢
  rcases hn with e|e|e|e|e|e|e|e<;>simp [e]
theorem T3.sum_det (t:T3)(x y w:Int):t.cw*det t.ax t.ay t.aw t.bx t.b_y t.bw x y w+t.aw*det t.bx t.b_y t.bw t.cx t.cy t.cw x y w+t.bw*det t.cx t.cy t.cw t.ax t.ay t.aw x y w=t.tn*w:=by
 unfold T3.tn det
 grind
theorem T3.has_tn {t:T3}{px py:Int}(hp:t.pos)(h:t.has px py):t.tn≠0:=by
 intro z
 obtain ⟨f,hf⟩:∃ f:Int->Nat,∀ n,f n=n.natAbs:=⟨Int.natAbs,fun _=>rfl⟩
 obtain ⟨M,hM,hin⟩:∃ M:Int,1<=M/\t.in M:=by
  refine ⟨1+f t.ax+f t.ay+f t.az+f t.aw+f t.bx+f t.b_y+f t.bz+f t.bw+f t.cx+f t.cy+f t.cz+f t.cw,by omega,fun n hn=>?_⟩
  unfold T3.nums at hn
  rw [<- hf]
  clear hf z h
  simp only [B6,R1,W4] at hn
  rcases hn with e|e|e|e|e|e|e|e|e|e|e|e<;>rw [e]<;>omega
 obtain ⟨e1,e2,e3⟩:=T3.near (px:=px) (py:=py) hp hM hin
 have s:=t.sum_det (nX px M) (nY py M) (nW M)
 rw [z,Int.zero_mul] at s
 obtain ⟨h1,h2,h3⟩:=h
 rw [<- e1] at h1 h2 h3
 rw [<- e2] at h2
 rw [<- e3] at h3
 have pa:=hp.a
 have pb:=hp.b
 have pc:=hp.c
 generalize det t.ax t.ay t.aw t.bx t.b_y t.bw (nX px M) (nY py M) (nW M)=d1 at *
 generalize det t.bx t.b_y t.bw t.cx t.cy t.cw (nX px M) (nY py M) (nW M)=d2 at *
 generalize det t.cx t.cy t.cw t.ax t.ay t.aw (nX px M) (nY py M) (nW M)=d3 at *
 have c1:=ER d1
 have c2:=ER d2
 have c3:=ER d3
 rcases c1 with ⟨c1,q⟩|⟨c1,q⟩|⟨c1,q⟩
 · have k2:0<d2:=by omega
   have k3:0<d3:=by omega
   have m1:=B1w pc c1
   have m2:=B1w pa k2
   have m3:=B1w pb k3
   omega
 · omega
 · have k2:d2<0:=by omega
   have k3:d3<0:=by omega
   have m1:=B1n pc c1
   have m2:=B1n pa k2
   have m3:=B1n pb k3
   omega
theorem TU {a b:Nat}(h:∀ i:Nat,i<a↔i<b):a=b:=by
 rcases Nat.lt_trichotomy a b with q|q|q
 · have:=(h a).mpr q;omega
 · exact q
 · have:=(h b).mp q;omega
def Z5 (k:Int)(w:Nat):List Int:=((List.range w).map fun (n:Nat)=>(n:Int)).filter fun x=>decide (x % k=0)
theorem JU (k:Int)(w:Nat):Z5 k (w+1)=Z5 k w++if (w:Int) % k=0 then [(w:Int)] else []:=by
 unfold Z5
 rw [List.range_succ,U3,List.filter_append]
 congr 1
 by_cases h:(w:Int) % k=0<;>simp [h]
theorem J2w {k:Int}(hk:0<k)(w:Nat):rngN 0 ((w+1:Nat):Int) k=rngN 0 w k+if (w:Int) % k=0 then 1 else 0:=by
 apply TU
 intro i
 rw [TR hk,B2e]
 split
 · rename_i h
   obtain ⟨q,hq⟩:∃ q:Nat,(w:Int)=q*k:=by
    refine ⟨(w / k).toNat,?_⟩
    have h1:=B1g (w:Int) k
    rw [h,Int.add_zero] at h1
    have h2:=B0w (show (0:Int)<=w by omega) (show 0<=k by omega)
    rw [U5 h2,Int.mul_comm]
    exact h1.symm
   have e:rngN 0 (w:Int) k=q:=by
    apply TU
    intro j
    rw [TR hk,B2e,hq]
    constructor
    · intro z
      have:=Int.lt_of_mul_lt_mul_right z (show 0<=k by omega)
      omega
    · intro z
      exact Int.mul_lt_mul_of_pos_right (by omega) hk
   rw [e]
   have m:((w+1:Nat):Int)=q*k+1:=by omega
   rw [m]
   constructor
   · intro z
     have z:(i:Int)*k<=q*k:=by omega
     have:=Int.le_of_mul_le_mul_right z hk
     omega
   · intro z
     have:=B0j (show (i:Int)<=q by omega) (show 0<=k by omega)
     omega
 · rename_i h
   have z0:=@TR 0 w k hk i
   rw [B2e] at z0
   show _↔i<rngN 0 (w:Int) k
   rw [z0]
   have:(i:Int)*k≠w:=fun z=>h (by rw [<- z];exact Int.mul_emod_left ..)
   omega
theorem GQ {k:Int}(hk:0<k):∀ w:Nat,FS 0 k (rngN 0 w k)=(Z5 k w).map D.int
 | 0=>by
   have:rngN 0 ((0:Nat):Int) k=0:=by
    apply TU
    intro i
    rw [TR hk,B2e]
    have:=B0m (show (0:Int)<=i by omega) (show 0<=k by omega)
    omega
   rw [this]
   rfl
 | w+1=>by
   rw [J2w hk,JU,U3,<- GQ hk w]
   split
   · rename_i h
     unfold FS
     rw [List.range_succ,U3]
     congr 1
     have e:((rngN 0 w k:Nat):Int)*k=w:=by
      rw [LR hk]
      unfold Builtin.Range.rangeSize
      rw [if_pos hk]
      have h1:=B1g (w:Int) k
      rw [h,Int.add_zero] at h1
      split
      · rename_i h0
        have e2:(w - 0 - 1:Int) / k=w / k - 1:=by
         have:(w - 0 - 1:Int)=(k - 1)+k*(w / k - 1):=by rw [Int.mul_sub,h1];omega
         rw [this,Int.add_mul_ediv_left _ _ (by omega),Int.ediv_eq_zero_of_lt (by omega) (by omega)]
         omega
        rw [e2]
        have:(w / k - 1+1:Int)=w / k:=by omega
        rw [this,Int.mul_comm];exact h1
      · omega
     simp [e]
   · simp
def AM (px py:Int)(i:Nat)(t:T3)(st:Option (Nat×Int×Int)):Option (Nat×Int×Int) :=
 if t.has px py then (match st with
  | none=>some (i,t.top px py*sgn t.tn,AK t.tn)
  | some (j,a,b)=>if t.top px py*sgn t.tn*b<a*AK t.tn then some (i,t.top px py*sgn t.tn,AK t.tn) else some (j,a,b)) else st
def Y8 (ts:List T3)(px py:Int):Nat->Option (Nat×Int×Int)
 | 0=>none
 | i+1=>match ts[i]? with
   | some t=>AM px py i t (Y8 ts px py i)
   | none=>Y8 ts px py i
def J5m:Option (Nat×Int×Int)->D
 | none=>.non
 | some (i,_,_)=>.int i
def V1b:Option (Nat×Int×Int)->Prop
 | none=>True
 | some (_,a,b)=>Bd 500 a/\Bd 500 b
theorem SQ {ts:List T3}{i:Nat}{x:D}(h:(enumD (ts.map T3.d))[i]?=some x):∃ t,ts[i]?=some t/\x=.tup [.int i,t.d]:=by
 unfold enumD at h
 rw [R0,M1] at h
 cases e:ts[i]? with
 | none=>rw [e] at h;cases h
 | some t=>rw [e] at h;exact ⟨t,rfl,(Option.some.inj h).symm⟩
theorem HZ {t:T3}{px py:Int}(ok:t.ok 100)(hx:Bd 100 px)(hy:Bd 100 py):Bd 500 (t.top px py*sgn t.tn)/\Bd 500 (AK t.tn):=⟨(Bd.mul (T3.top_bd ok hx hy (by decide)) (sgn_bd _)).mono (by decide),(J1z (T3.tn_bd ok)).mono (by decide)⟩
theorem OG {ts:List T3}{px py:Int}{i:Nat}{t:T3}(e:ts[i]?=some t):Y8 ts px py (i+1)=AM px py i t (Y8 ts px py i):=by
 show (match ts[i]? with|some t=>AM px py i t (Y8 ts px py i)|none=>Y8 ts px py i)=_
 rw [e]
abbrev JJ:Stmt:=top 17
abbrev KE:List Str:=["thing"]
theorem WF:FnScope KE KE (J7 JJ):=⟨rfl,rfl,rfl,by decide +kernel,rfl,by decide +kernel,by decide +kernel⟩
def whD:D->Bool
 | .int _=>true
 | _=>false
noncomputable def J0k:DSp:=fun ds P _=>∃ d,ds=[d]/\(ES d).isSome=true/\Z1 d=true/\P (.bl (whD d))
theorem WS {f:Addr} (F:Fun K "is_whole" "is_whole" JJ f fd) (Z:Bi mg) {c:Cs} (Y:Ex K mg base c):FnOk P w K mg base CX0 1 f fd KE (Q3 K BT J0k):=by
 refine F.okD WF (fun ds PP Ed h=>?_) (fun cdv A outer s H E M bg ds PP Ed hr hS_=>?_)
 · obtain ⟨d,rfl,hd,hno,hP⟩:=h
   rfl
 · obtain ⟨d,rfl,hd,hno,hP⟩:=hS_
   refine ⟨_,(Q0 (V6 (HA (V2 (BB K (by rfl)) CU rfl Z.isinstance_ V1 (J0 (jdv 0) (J0 (ED rfl Z.int_ J8k) J3))) (IK (UQ (V2 (BB K (by rfl)) CU rfl Z.isinstance_ V1 (J0 (jdv 0) (J0 (ED rfl Z.bool_ J1v) J3)))))))),?_⟩
   cases d<;>(try (simp [ES] at hd;done))<;>(try (simp [Z1] at hno;done))
   all_goals first
    | (walk_at "g";refine ⟨false,by rfl,?_⟩;walk_at "g";exact hP)
    | (walk_at "g";refine ⟨true,by rfl,?_⟩;walk_at "g";refine ⟨true,by rfl,?_⟩;walk_at "g";exact hP)
    | (walk_at "g";refine ⟨true,by rfl,?_⟩;walk_at "g";refine ⟨false,by rfl,?_⟩;walk_at "g";exact hP)
abbrev CD:Stmt:=top 18
theorem KK:FnScope ["thing","many"] ["thing","many"] (J7 CD):=⟨rfl,rfl,rfl,by decide +kernel,rfl,by decide +kernel,by decide +kernel⟩
def tkD:D->Bool
 | .tup xs=>decide (xs.length<=100)&&xs.all fun d=>(ES d).isSome&&Z1 d
 | d=>(ES d).isSome&&Z1 d
def wtD (n:Nat):D->Bool
 | .tup xs=>decide (xs.length=n)&&xs.all whD
 | _=>false
noncomputable def J8q:DSp:=fun ds P _=>∃ (d:D) (n:Nat),ds=[d,.int n]/\tkD d=true/\P (.bl (wtD n d))
abbrev xc3 (P:Program) (w:World) (K:Fg) (mg:Str → Option Value) (base:Heap) (f:Addr) (cdv:Value) (A:Around) (outer:List Env) (s:Shared) (H:Hp) (E:XK):Cx:=BW CX0 P w K mg base ["thing","many"] "is_whole_tuple" (J7 CD) f cdv A outer s H E
theorem KU {f:Addr} (F:Fun K "is_whole_tuple" "is_whole_tuple" CD f fd) (Z:Bi mg) {c:Cs} (Y:Ex K mg base c) (g0:Callee P w K mg base CX0 "is_whole" 1 KE (Q3 K BT J0k)):FnOk P w K mg base CX0 2 f fd ["thing","many"] (Q3 K BT J8q):=by
 refine F.okD KK (fun ds PP Ed h=>?_) (fun cdv A outer s H E M bg ds PP Ed hr hS_=>?_)
 · obtain ⟨d,n,rfl,hd,hP⟩:=h
   rfl
 · obtain ⟨d,n,rfl,hd,hP⟩:=hS_
   refine ⟨_,(Q0 (V6 (HA (V2 (BB K (by rfl)) CU rfl Z.isinstance_ V1 (J0 (jdv 0) (J0 (ED rfl Z.tuple_ YC) J3))) (HA (EO DD BR (V2 (BC K (by rfl)) QL rfl Z.len_ HE (J0 (jdv 0) J3)) (jdv 1) (Y5 _)) (IK (V2 (MM K (by rfl) (by rfl)) QM rfl Z.all_ J0d (J0 (AS (X:=(xc3 P w K mg base f cdv A outer s H E).nox) (Y2 0) (HL (X:=(xc3 P w K mg base f cdv A outer s H E).nox) (N':=["part"]) (map:=[none]) (by rfl) (by rfl) (by decide +kernel) (by rfl) True.intro (gkeep_name rfl) fun cl0 C0 fp0 s0 H0=>⟨(pg_name (X:=(Q7 (xc3 P w K mg base f cdv A outer s H E).nox ["part"] _ cl0 C0 fp0 s0 H0)) (i:=0) (Z4 ["part"] (by decide +kernel)) rfl (by walk_at "o")),Z9,(Q4 (X:=(Q7 (xc3 P w K mg base f cdv A outer s H E).nox ["part"] _ cl0 C0 fp0 s0 H0)) g0 hr.m rfl (J0 (jdv 0) J3))⟩) (AR (by rfl) (jdv 0))) J3))))))),?_⟩
   by_cases ht:∃ xs,d=.tup xs
   · obtain ⟨xs,rfl⟩:=ht
     obtain ⟨hl,ha⟩:=(R4 _ _).mp hd
     have hl:=B0a hl
     have key:∀ b:Bool,b=wtD n (.tup xs)->PP (.bl b):=fun b h=>by rw [h];exact hP
     walk_at "g"
     refine ⟨true,by rfl,?_⟩
     walk_at "g"
     walk_at "sp"
     · rename_i hn
       walk_at "g"
       refine And.intro (by omega) ?_
       refine EE (fun x=>.bl (whD x)) (fun x Q hx q=>?_) (fun _ _=>rfl) ?_
       · have:=E5.mp ha x hx
         obtain ⟨t1,t2⟩:=(R4 _ _).mp this
         walk_at "g"
         exact ⟨by show (Z1 x&&true)=true;rw [t2];rfl,x,rfl,t1,t2,q⟩
       · have eb:FZ (xs.map fun x=>D.bl (whD x))=some (xs.map whD):=by
          have:=IP (xs.map whD)
          rw [B0k] at this
          exact this
         walk_at "g"
         rw [eb]
         walk_at "g"
         refine key _ ?_
         show _=(decide (xs.length=n)&&xs.all whD)
         rw [B1a (by omega)]
         simp [List.all_map]
     · rename_i hn
       walk_at "g"
       refine key _ ?_
       show _=(decide (xs.length=n)&&xs.all whD)
       rw [B0b (by omega)]
       simp
   · have ew:wtD n d=false:=by
      cases d<;>first|rfl|exact absurd ⟨_,rfl⟩ ht
     rw [ew] at hP
     cases d<;>(try (exact absurd ⟨_,rfl⟩ ht))<;>(try (simp [tkD,ES,Z1] at hd;done))
     all_goals
      walk_at "g"
      refine ⟨false,by rfl,?_⟩
      walk_at "g"
      exact hP
abbrev HN:Stmt:=top 25
theorem TN:FnScope xl6 xl6 (J7 HN):=⟨rfl,rfl,rfl,by decide +kernel,rfl,by decide +kernel,by decide +kernel⟩
def EC (n:Int):Bool:=decide (1<=n)&&decide (n<=16)
noncomputable def VO:DSp:=fun ds P _=>∃ n:Int,ds=[.int n]/\P (.bl (EC n))
theorem UB {f:Addr} (F:Fun K "is_length" "is_length" HN f fd) (Z:Bi mg) {c:Cs} (Y:Ex K mg base c):FnOk P w K mg base CX0 1 f fd xl6 (Q3 K BT VO):=by
 refine F.okD TN (fun ds PP Ed h=>?_) (fun cdv A outer s H E M bg ds PP Ed hr hS_=>?_)
 · obtain ⟨n,rfl,hP⟩:=h
   rfl
 · obtain ⟨n,rfl,hP⟩:=hS_
   refine ⟨_,(Q0 (V6 (J3y Q2y Q2y IU IU J1 (jdv 0) (J3x rfl Z.LONGEST_)))),?_⟩
   unfold EC at hP
   walk_at "g"
   by_cases h:1<=n
   · refine IfP.t (by simp [h]) ?_
     walk_at "g"
     simp [h] at hP
     exact hP
   · refine IfP.f (by simp [h]) ?_
     walk_at "g"
     simp [h] at hP
     exact hP
def DI:D->Bool
 | .tup [.int x,.int y]=>EC x&&EC y
 | _=>false
theorem wt2 {d:D}(h:wtD 2 d=true):∃ x y:Int,d=t2 x y:=by
 cases d<;>try (simp [wtD] at h;done)
 rename_i xs
 obtain ⟨h1,h2⟩:=(R4 _ _).mp h
 have h1:=B0a h1
 have hw:∀ d∈xs,∃ i:Int,d=.int i:=fun d hd=>by
  have:=E5.mp h2 d hd
  cases d<;>first|cases this|skip
  exact ⟨_,rfl⟩
 match xs,h1 with
 | [a,b],_ =>
   obtain ⟨x,rfl⟩:=hw a (by simp)
   obtain ⟨y,rfl⟩:=hw b (by simp)
   exact ⟨x,y,rfl⟩
theorem J8m {d:D}(h:wtD 2 d=false):DI d=false:=by
 unfold DI
 split
 · cases h
 · rfl
abbrev DW:Stmt:=top 26
theorem OJ:FnScope KE KE (J7 DW):=⟨rfl,rfl,rfl,by decide +kernel,rfl,by decide +kernel,by decide +kernel⟩
noncomputable def J9c (c:Cs):DSp:=fun ds P Ed=>∃ d:D,ds=[d]/\tkD d=true/\Z1 d=true/\(DI d=false->Ed c.NoBoard)/\(DI d=true->P .non)
abbrev xc4 (P:Program) (w:World) (K:Fg) (mg:Str → Option Value) (base:Heap) (f:Addr) (cdv:Value) (A:Around) (outer:List Env) (s:Shared) (H:Hp) (E:XK):Cx:=BW (CX1 P w base) P w K mg base KE "check_board" (J7 DW) f cdv A outer s H E
theorem PB {f:Addr} (F:Fun K "check_board" "check_board" DW f fd) (Z:Bi mg) {c:Cs} (Y:Ex K mg base c) (g0:Callee P w K mg base CX0 "is_whole_tuple" 2 ["thing","many"] (Q3 K BT J8q)) (g1:Callee P w K mg base CX0 "is_length" 1 xl6 (Q3 K BT VO)):FnOk P w K mg base (CX1 P w base) 3 f fd KE (Q3 K BT (J9c c)):=by
 refine F.okDX OJ (fun ds PP Ed h=>?_) (fun cdv A outer s H E M bg ds PP Ed hr hE hS_=>?_)
 · obtain ⟨d,rfl,hd,hno,h0,h1⟩:=h
   rfl
 · obtain ⟨d,rfl,hd,hno,h0,h1⟩:=hS_
   refine ⟨_,(Q0 (AJ (JV (DZ (AC (by rfl) (Q4 g0 hr.m rfl (J0 (jdv 0) (J0 J1 J3))) (fun _=>rfl))) (GY (DZ (AC (by rfl) (V2 (MM K (by rfl) (by rfl)) QM rfl Z.all_ J0d (J0 (AS (X:=(xc4 P w K mg base f cdv A outer s H E)) (Y2 0) (HL (X:=(xc4 P w K mg base f cdv A outer s H E)) (N':=xl6) (map:=[none]) (by rfl) (by rfl) (by decide +kernel) (by rfl) True.intro (gkeep_name rfl) fun cl0 C0 fp0 s0 H0=>⟨(pg_name (X:=(Q7 (xc4 P w K mg base f cdv A outer s H E) xl6 _ cl0 C0 fp0 s0 H0)) (i:=0) (Z4 xl6 (by decide +kernel)) rfl (by walk_at "o")),Z9,(Q4 (X:=(Q7 (xc4 P w K mg base f cdv A outer s H E) xl6 _ cl0 C0 fp0 s0 H0)) g1 hr.m rfl (J0 (jdv 0) J3))⟩) (AR (by rfl) (jdv 0))) J3)) (fun _=>rfl))))) (Q0 (MF hE (LX Y.o_NoBoard rfl))) Y6)),?_⟩
   walk_at "g"
   refine ⟨by show (Z1 d&&true)=true;rw [hno];rfl,d,2,rfl,hd,?_⟩
   cases hw:wtD 2 d
   · walk_at "g"
     exact h0 (J8m hw)
   · obtain ⟨x,y,rfl⟩:=wt2 hw
     walk_at "g"
     walk_at "gc"
     refine ⟨x,rfl,?_⟩
     walk_at "g"
     refine ⟨y,rfl,?_⟩
     walk_at "g"
     have e:DI (t2 x y)=(EC x&&EC y):=rfl
     rw [e] at h0 h1
     cases hx:EC x<;>cases hy:EC y<;>rw [hx,hy] at h0 h1<;>walk_at "g"
     · exact h0 rfl
     · exact h0 rfl
     · exact h0 rfl
     · exact h1 rfl
abbrev BY:Stmt:=top 27
theorem HI:FnScope KE KE (J7 BY):=⟨rfl,rfl,rfl,by decide +kernel,rfl,by decide +kernel,by decide +kernel⟩
def FU:D->Bool
 | .int n=>EC n
 | _=>false
noncomputable def J9b (c:Cs):DSp:=fun ds P Ed=>∃ d:D,ds=[d]/\(ES d).isSome=true/\Z1 d=true/\(FU d=false->Ed c.NoBoard)/\(FU d=true->P .non)
theorem HK {f:Addr} (F:Fun K "check_squares_side" "check_squares_side" BY f fd) (Z:Bi mg) {c:Cs} (Y:Ex K mg base c) (g0:Callee P w K mg base CX0 "is_whole" 1 KE (Q3 K BT J0k)) (g1:Callee P w K mg base CX0 "is_length" 1 xl6 (Q3 K BT VO)):FnOk P w K mg base (CX1 P w base) 2 f fd KE (Q3 K BT (J9b c)):=by
 refine F.okDX HI (fun ds PP Ed h=>?_) (fun cdv A outer s H E M bg ds PP Ed hr hE hS_=>?_)
 · obtain ⟨d,rfl,hd,hno,h0,h1⟩:=h
   rfl
 · obtain ⟨d,rfl,hd,hno,h0,h1⟩:=hS_
   refine ⟨_,(Q0 (AJ (JV (DZ (AC (by rfl) (Q4 g0 hr.m rfl (J0 (jdv 0) J3)) (fun _=>rfl))) (GY (DZ (AC (by rfl) (Q4 g1 hr.m rfl (J0 (jdv 0) J3)) (fun _=>rfl))))) (Q0 (MF hE (LX Y.o_NoBoard rfl))) Y6)),?_⟩
   walk_at "g"
   refine ⟨by show (Z1 d&&true)=true;rw [hno];rfl,d,rfl,hd,hno,?_⟩
   cases hw:whD d
   · have:FU d=false:=by cases d<;>first|rfl|cases hw
     walk_at "g"
     exact h0 this
   · obtain ⟨n,rfl⟩:∃ n,d=.int n:=by cases d<;>first|exact ⟨_,rfl⟩|cases hw
     walk_at "g"
     refine ⟨n,rfl,?_⟩
     have e:FU (.int n)=EC n:=rfl
     rw [e] at h0 h1
     cases hx:EC n<;>rw [hx] at h0 h1<;>walk_at "g"
     · exact h0 rfl
     · exact h1 rfl
abbrev mn (a b:Int):Int:=if b<a then b else a
def sq1 (k:Int)(w h:Nat)(x y:Int):D:=sp4 x y (mn k (w - x)) (mn k (h - y))
def sqs (k:Int)(w h:Nat):List D:=(Z5 k w).flatMap fun x=>(Z5 k h).map fun y=>sq1 k w h x y
theorem II {k:Int}{w i:Nat}{d:D}(h:((Z5 k w).map D.int)[i]?=some d):∃ x:Int,(Z5 k w)[i]?=some x/\d=.int x/\0<=x/\x<w:=by
 rw [M1] at h
 obtain ⟨x,ex,rfl⟩:=M7.mp h
 have m:=L4 ex
 unfold Z5 at m
 simp only [B2q,M3,E2] at m
 obtain ⟨⟨n,hn,rfl⟩,_⟩:=m
 exact ⟨_,ex,rfl,by omega,by omega⟩
theorem IH (k:Int)(w:Nat):(Z5 k w).length<=w:=by
 unfold Z5
 refine R5 (List.length_filter_le ..) ?_
 simp
abbrev EJ:Stmt:=top 41
theorem CI:FnScope ["board","side","wide","high"] ["board","side"] (J7 EJ):=⟨rfl,rfl,rfl,by decide +kernel,rfl,by decide +kernel,by decide +kernel⟩
noncomputable def Q3u (c:Cs):DSO:=fun ds P Ed=>∃ d d':D,ds=[d,d']/\tkD d=true/\Z1 d=true/\(ES d').isSome=true/\Z1 d'=true/\(DI d=false->Ed c.NoBoard)/\(FU d'=false->Ed c.NoBoard)/\∀ (w h:Nat) (k:Int),d=t2 w h->d'=.int k->(1<=w/\w<=16/\1<=h/\h<=16/\1<=k/\k<=16)->P (sqs k w h)
abbrev xc5 (P:Program) (w:World) (K:Fg) (mg:Str → Option Value) (base:Heap) (f:Addr) (cdv:Value) (A:Around) (outer:List Env) (s:Shared) (H:Hp) (E:XK):Cx:=BW (CX1 P w base) P w K mg base ["board","side","wide","high"] "squares_of" (J7 EJ) f cdv A outer s H E
abbrev YM:List Str:=["left","top","high","side","wide"]
theorem QZ {f:Addr} (F:Fun K "squares_of" "squares_of" EJ f fd) (Z:Bi mg) {c:Cs} (Y:Ex K mg base c) (g0:Callee P w K mg base (CX1 P w base) "check_board" 3 KE (Q3 K BT (J9c c))) (g1:Callee P w K mg base (CX1 P w base) "check_squares_side" 2 KE (Q3 K BT (J9b c))):FnOk P w K mg base (CX1 P w base) 4 f fd ["board","side"] (EN K BT (Q3u c)):=by
 refine F.okDXO CI (fun ds PP Ed h=>?_) (fun cdv A outer s H E M bg ds PP Ed hr hE hS_=>?_)
 · obtain ⟨d,d',rfl,hd,hno,hd',hno',h0,h0',hP⟩:=h
   rfl
 · obtain ⟨d,d',rfl,hd,hno,hd',hno',h0,h0',hP⟩:=hS_
   refine ⟨_,(J4 (PR (LD hE TJ g0 hr.m rfl (J0 (jdv 0) J3)))
    (J4 (PR (LD hE TJ g1 hr.m rfl (J0 (jdv 1) J3)))
    (J4 (BV (BE [2,3]) (jdv 0) (PG.or (AO (n:=2) K (by rfl) (by rfl) (J5 (pg_name (i:=2) CI.nd rfl (by walk_at "o")) (J5 (pg_name (i:=3) CI.nd rfl (by walk_at "o")) Y1))) (AQ (n:=2) K (by rfl) (by rfl) (J5 (pg_name (i:=2) CI.nd rfl (by walk_at "o")) (J5 (pg_name (i:=3) CI.nd rfl (by walk_at "o")) Y1)))))
    (Q0 (ZR (X:=(xc5 P w K mg base f cdv A outer s H E)) (Y2 0) (Y2 1) (J1x (X:=(xc5 P w K mg base f cdv A outer s H E)) (N':=YM) (map:=[none,none,some 3,some 1,some 2]) (mp2:=[some 0,none,some 2,some 3,some 4]) (by rfl) (by rfl) (by decide +kernel) (by rfl) ⟨⟨rfl,rfl,rfl,by walk_at "o"⟩,⟨⟨rfl,rfl,rfl,by walk_at "o"⟩,⟨⟨rfl,rfl,rfl,by walk_at "o"⟩,True.intro⟩⟩⟩ (gkeep_name rfl) (gkeep_name rfl) rfl rfl fun cl0 C0 fp0 s0 H0=>⟨(pg_name (X:=(Q7 (xc5 P w K mg base f cdv A outer s H E) YM _ cl0 C0 fp0 s0 H0).nox) (i:=0) (Z4 YM (by decide +kernel)) rfl (by walk_at "o")),(PV (X:=(Q7 (xc5 P w K mg base f cdv A outer s H E) YM _ cl0 C0 fp0 s0 H0).nox) rfl Z.range_ (J0 J1 (J0 (jdv 2) (J0 (jdv 3) J3)))),(pg_name (X:=(Q7 (xc5 P w K mg base f cdv A outer s H E) YM _ cl0 C0 fp0 s0 H0).nox) (i:=1) (Z4 YM (by decide +kernel)) rfl (by walk_at "o")),Z9,(V3 (X:=(Q7 (xc5 P w K mg base f cdv A outer s H E) YM _ cl0 C0 fp0 s0 H0).nox) (J0 (jdv 0) (J0 (jdv 1) (J0 (V2 (CV (by rfl)) NE rfl Z.min_ HC (J0 (jdv 3) (J0 (J6 Y4 V7 (jdv 4) (jdv 0)) J3))) (J0 (V2 (CV (by rfl)) NE rfl Z.min_ HC (J0 (jdv 3) (J0 (J6 Y4 V7 (jdv 2) (jdv 1)) J3))) J3)))))⟩) (PV rfl Z.range_ (J0 J1 (J0 (jdv 2) (J0 (jdv 1) J3))))))))),?_⟩
   walk_at "g"
   refine ⟨by show (Z1 d&&true)=true;rw [hno];rfl,d,rfl,hd,hno,h0,fun hb=>?_⟩
   walk_at "g"
   refine ⟨by show (Z1 d'&&true)=true;rw [hno'];rfl,d',rfl,hd',hno',h0',fun hb'=>?_⟩
   obtain ⟨w,h,rfl,h1,h2,h3,h4⟩:∃ w h:Nat,d=t2 w h/\1<=w/\w<=16/\1<=h/\h<=16:=by
    unfold DI at hb
    split at hb
    · rename_i x y
      simp only [EC,R4,U6] at hb
      exact ⟨x.toNat,y.toNat,by rw [U5 (by omega),U5 (by omega)],by omega,by omega,by omega,by omega⟩
    · cases hb
   obtain ⟨k,rfl,h5,h6⟩:∃ k:Int,d'=.int k/\1<=k/\k<=16:=by
    unfold FU at hb'
    split at hb'
    · simp only [EC,R4,U6] at hb'
      exact ⟨_,rfl,hb'.1,hb'.2⟩
    · cases hb'
   replace hP:=hP w h k rfl rfl ⟨h1,h2,h3,h4,h5,h6⟩
   have mw:=IH k w
   have mh:=IH k h
   walk_at "g"
   refine And.intro (by omega) ?_
   rw [GQ (by omega)]
   refine And.intro (by rw [B9];omega) ?_
   refine ⟨fun i acc=>acc=((Z5 k w).take i).flatMap fun x=>(Z5 k h).map fun y=>sq1 k w h x y,rfl,?_,?_⟩
   · rintro i x acc e rfl
     obtain ⟨x,ex,rfl,x0,x1⟩:=II e
     clear e
     walk_at "g"
     refine And.intro (by omega) ?_
     rw [GQ (by omega)]
     refine And.intro (by rw [B9];omega) ?_
     rw [W7,ex,E9,B2s]
     refine ⟨fun j acc=>acc=((Z5 k w).take i).flatMap (fun x=>(Z5 k h).map fun y=>sq1 k w h x y)++((Z5 k h).take j).map fun y=>sq1 k w h x y,by simp,?_,?_⟩
     · rintro j y acc e rfl
       obtain ⟨y,ey,rfl,y0,y1⟩:=II e
       clear e
       walk_at "g"
       rw [W7,ey,E9,U3,<- B3a]
       rfl
     · rintro acc rfl
       rw [B9,E4]
       simp
   · rintro acc rfl
     rw [B9,E4]
     exact hP
noncomputable def V2d (d1 d2:DS):DS:=fun F ρ=>∃ C:Ev->Prop,d1 { F with nx:=C } ρ/\∀ ρ',C ρ'->d2 F ρ'
theorem PN {X:Cx}{W:Wd}{st:Stmt}{rest:List Stmt}{d1 d2:DS}(h1:JS X W st d1)(h2:JSs X W rest d2):JSs X W (st::rest) (V2d d1 d2):=⟨(Z2 h1.h h2.h).mono fun E σ H hh=>hh.elim fun pn M b ρ F s l h=>by
 obtain ⟨C,q1,q2⟩:=h
 exact ⟨pn,M,b,ρ,{ F with nx:=C },s,⟨fun M b ρ σ H s' h'=>⟨pn,M,b,ρ,F,s',l,q2 ρ h'⟩,l.rt,l.bk,l.ct,l.ro⟩,q1⟩⟩
abbrev GG:Stmt:=top 53
theorem QV:FnScope ["_law_thing"] ["_law_thing"] (J7 GG):=⟨rfl,rfl,rfl,by decide +kernel,rfl,by decide +kernel,by decide +kernel⟩
noncomputable def J2a:DSp:=fun ds P _=>∃ n:Int,ds=[.int n]/\P (.bl true)
theorem RB {f:Addr} (F:Fun K "_law_whole" "_law_whole" GG f fd) (Z:Bi mg) {c:Cs} (Y:Ex K mg base c):FnOk P w K mg base CX0 1 f fd ["_law_thing"] (Q3 K BT J2a):=by
 refine F.okD QV (fun ds PP Ed h=>?_) (fun cdv A outer s H E M bg ds PP Ed hr hS_=>?_)
 · obtain ⟨n,rfl,hP⟩:=h
   rfl
 · obtain ⟨n,rfl,hP⟩:=hS_
   refine ⟨_,(Q0 (V6 (HA (V2 (BB K (by rfl)) CU rfl Z.isinstance_ V1 (J0 (jdv 0) (J0 (ED rfl Z.int_ J8k) J3))) (IK (UQ (V2 (BB K (by rfl)) CU rfl Z.isinstance_ V1 (J0 (jdv 0) (J0 (ED rfl Z.bool_ J1v) J3)))))))),?_⟩
   walk_at "g"
   refine ⟨true,by rfl,?_⟩
   walk_at "g"
   refine ⟨false,by rfl,?_⟩
   walk_at "g"
   exact hP
abbrev HQ:Stmt:=top 55
abbrev J4y:List Str:=["_law_x","_law_y","_law_z","_law_w"]
theorem KM:FnScope ["_law_x","_law_y","_law_z","_law_w","_law_common_here"] J4y (J7 HQ):=⟨rfl,rfl,rfl,by decide +kernel,rfl,by decide +kernel,by decide +kernel⟩
noncomputable def NX:DSp:=fun ds P _=>∃ (x y z w:Int) (n:Nat),ds=[.int x,.int y,.int z,.int w]/\0<w/\(Bd n x/\Bd n y/\Bd n z/\Bd n w)/\n<=9000/\∀ x' y' z' w':Int,(Bd n x'/\Bd n y'/\Bd n z'/\Bd n w')->0<w'->P (sp4 x' y' z' w')
theorem UD {f:Addr} (F:Fun K "_law_spot" "_law_spot" HQ f fd) (Z:Bi mg) {c:Cs} (Y:Ex K mg base c) (g0:Callee P w K mg base CX0 "_law_common" 1 xl5 (Q3 K BT J8z)):FnOk P w K mg base CX0 2 f fd J4y (Q3 K BT NX):=by
 refine F.okD KM (fun ds PP Ed h=>?_) (fun cdv A outer s H E M bg ds PP Ed hr hS_=>?_)
 · obtain ⟨x,y,z,w',n,rfl,h0,⟨h1,h2,h3,h4⟩,hn,hP⟩:=h
   rfl
 · obtain ⟨x,y,z,w',n,rfl,h0,⟨h1,h2,h3,h4⟩,hn,hP⟩:=hS_
   refine ⟨_,(J4 (V0 (i:=4) KM.nd rfl (by walk_at "o") (Q4 g0 hr.m rfl (J0 (Q4 g0 hr.m rfl (J0 (jdv 0) (J0 (jdv 1) J3))) (J0 (Q4 g0 hr.m rfl (J0 (jdv 2) (J0 (jdv 3) J3))) J3))))
    (Q0 (V6 (V3 (J0 (J6 EB Y9 (jdv 0) (jdv 4)) (J0 (J6 EB Y9 (jdv 1) (jdv 4)) (J0 (J6 EB Y9 (jdv 2) (jdv 4)) (J0 (J6 EB Y9 (jdv 3) (jdv 4)) J3)))))))),?_⟩
   walk_at "g"
   refine ⟨_,_,rfl,?_⟩
   walk_at "g"
   refine ⟨_,_,rfl,?_⟩
   walk_at "g"
   refine ⟨_,_,rfl,?_⟩
   generalize hg:((Int.gcd ((Int.gcd x y:Nat):Int) ((Int.gcd z w':Nat):Int):Nat):Int)=gg
   have d1:Int.gcd ((Int.gcd x y:Nat):Int) ((Int.gcd z w':Nat):Int) ∣ Int.gcd z w':=by
    have:=Int.gcd_dvd_natAbs_right ((Int.gcd x y:Nat):Int) ((Int.gcd z w':Nat):Int)
    simpa using this
   have d2:Int.gcd z w' ∣ w'.natAbs:=Int.gcd_dvd_natAbs_right ..
   have d3:=Nat.dvd_trans d1 d2
   have l1:=Nat.le_of_dvd (by omega) d3
   have l2:0<Int.gcd ((Int.gcd x y:Nat):Int) ((Int.gcd z w':Nat):Int):=Nat.pos_of_dvd_of_pos d3 (by omega)
   have g0:0<gg:=by omega
   have gl:gg<=w':=by omega
   have gb:Bd n gg:=by unfold Bd at h4 ⊢;omega
   walk_at "g"
   refine ⟨⟨g0,n,gb,hn⟩,⟨g0,n,gb,hn⟩,⟨g0,n,gb,hn⟩,⟨g0,n,gb,hn⟩,?_⟩
   walk_at "g"
   refine hP _ _ _ _ ⟨h1.ediv g0,h2.ediv g0,h3.ediv g0,h4.ediv g0⟩ ?_
   have:=Int.le_ediv_of_mul_le g0 (show 1*gg<=w' by omega)
   omega
abbrev LQ:Stmt:=top 56
abbrev J2l:List Str:=["_law_bag_here","_law_wide"]
theorem DN:FnScope ["_law_bag_here","_law_wide","_law_way","_law_w","_law_reach","_law_x","_law_y"] J2l (J7 LQ):=⟨rfl,rfl,rfl,by decide +kernel,rfl,by decide +kernel,by decide +kernel⟩
noncomputable def Q3y:DSp:=fun ds P _=>∃ wide:Int,ds=[.bag,.int wide]/\0<=wide/\wide<=1000/\∀ x y z w:Int,(Bd 24 x/\Bd 24 y/\Bd 24 z/\Bd 24 w)->0<w->P (sp4 x y z w)
theorem ZI {f:Addr} (F:Fun K "_law_at" "_law_at" LQ f fd) (Z:Bi mg) {c:Cs} (Y:Ex K mg base c) (g0:Callee P w K mg base CX0 "_law_digit" 2 xl4 (Q3 K BT FK)) (g1:Callee P w K mg base CX0 "_law_spot" 2 J4y (Q3 K BT NX)):FnOk P w K mg base CX0 3 f fd J2l (Q3 K BT Q3y):=by
 refine F.okD DN (fun ds PP Ed h=>?_) (fun cdv A outer s H E M bg ds PP Ed hr hS_=>?_)
 · obtain ⟨wide,rfl,w0,w1,hP⟩:=h
   rfl
 · obtain ⟨wide,rfl,w0,w1,hP⟩:=hS_
   refine ⟨_,(J4 (V0 (i:=2) DN.nd rfl (by walk_at "o") (Q4 g0 hr.m rfl (J0 (jdv 0) (J0 J1 J3))))
    (J4 (V0 (i:=3) DN.nd rfl (by walk_at "o") (J8 (J9 K (by rfl)) Q5 (AT (J0 J1 (J0 J1 (J0 J1 (J0 J1 (J0 J1 (J0 J1 (J0 J1 (J0 J1 J3))))))))) (jdv 2) (fun _ _=>rfl)))
    (J4 (V0 (i:=4) DN.nd rfl (by walk_at "o") (J8 (J9 K (by rfl)) Q5 (AT (J0 (jdv 1) (J0 (jdv 1) (J0 (J6 Y7 V7 (jdv 1) J1) (J0 (jdv 1) (J0 (J6 Y7 V7 (jdv 1) J1) (J0 (jdv 1) (J0 (jdv 1) (J0 (J6 TZ Y9 J1 J1) J3))))))))) (jdv 2) (fun _ _=>rfl)))
    (J4 (V0 (i:=5) DN.nd rfl (by walk_at "o") (J6 Y4 V7 (Q4 g0 hr.m rfl (J0 (jdv 0) (J0 (J6 Q9 Y9 (J6 Y7 V7 (jdv 4) J1) (jdv 3)) J3))) (J6 Q9 Y9 J1 (jdv 3))))
    (J4 (V0 (i:=6) DN.nd rfl (by walk_at "o") (J6 Y4 V7 (Q4 g0 hr.m rfl (J0 (jdv 0) (J0 (J6 Q9 Y9 (J6 Y7 V7 (jdv 4) J1) (jdv 3)) J3))) (J6 Q9 Y9 J1 (jdv 3))))
    (Q0 (V6 (Q4 g1 hr.m rfl (J0 (jdv 5) (J0 (jdv 6) (J0 (J6 Y4 V7 (Q4 g0 hr.m rfl (J0 (jdv 0) (J0 J1 J3))) J1) (J0 (jdv 3) J3)))))))))))),?_⟩
   walk_at "g"
   refine ⟨_,64,rfl,by decide,Bd.num _ (by decide),by decide,fun way y0 y1=>?_⟩
   walk_at "g"
   refine ixm y0 (by exact y1) fun dw mw=>?_
   obtain ⟨w',rfl,wp,wl⟩:∃ w':Int,dw=.int w'/\0<w'/\w'<=6:=by
    simp only [B6,R1,W4] at mw
    rcases mw with e|e|e|e|e|e|e|e<;>exact ⟨_,e,by decide,by decide⟩
   walk_at "g"
   refine ixm y0 (by exact y1) fun dr mr=>?_
   obtain ⟨re,rfl,rp,rl⟩:∃ re:Int,dr=.int re/\0<=re/\re<=1000000:=by
    simp only [B6,R1,W4] at mr
    rcases mr with e|e|e|e|e|e|e|e<;>first|exact ⟨_,e,by omega,by omega⟩|exact ⟨_,e,by decide,by decide⟩
   have bw:Bd 4 w':=Bd.of (by omega) (by omega)
   have br:Bd 20 (re+4):=Bd.of (by omega) (by omega)
   have bm:Bd 64 ((re+4)*w'):=(Bd.mul br bw).mono (by decide)
   have pm:0<(re+4)*w':=B1w (by omega) wp
   have um:(re+4)*w'<=1000004*6:=Int.mul_le_mul (by omega) wl (by omega) (by decide)
   walk_at "g"
   refine ⟨_,64,rfl,pm,bm,by decide,fun x x0 x1=>?_⟩
   walk_at "g"
   refine ⟨_,64,rfl,pm,bm,by decide,fun y z0 z1=>?_⟩
   walk_at "g"
   refine ⟨_,64,rfl,by decide,Bd.num _ (by decide),by decide,fun z u0 u1=>?_⟩
   walk_at "g"
   refine ⟨_,_,_,_,24,rfl,wp,⟨Bd.of (by omega) (by omega),Bd.of (by omega) (by omega),Bd.of (by omega) (by omega),bw.mono (by decide)⟩,by decide,fun x' y' z' w2 hb h0=>?_⟩
   exact hP _ _ _ _ hb h0
abbrev HR:Stmt:=top 57
abbrev J9l:List Str:=["_law_a","_law_b","_law_p"]
theorem CW:FnScope ["_law_a","_law_b","_law_p","_law_x","_law_y","_law_u","_law_v"] J9l (J7 HR):=⟨rfl,rfl,rfl,by decide +kernel,rfl,by decide +kernel,by decide +kernel⟩
def Q3b (ax ay aw bx b_y bw px py pw:Int):Int:=(bx*aw - ax*bw)*(py*aw - ay*pw) - (b_y*aw - ay*bw)*(px*aw - ax*pw)
theorem J6l (ax ay aw bx b_y bw px py pw:Int):Q3b ax ay aw bx b_y bw px py pw=aw*det ax ay aw bx b_y bw px py pw:=by unfold Q3b det;grind
noncomputable def J0j:DSp:=fun ds P _=>∃ (ax ay az aw bx b_y bz bw px py pw:Int),ds=[sp4 ax ay az aw,sp4 bx b_y bz bw,t3 px py pw]/\(Bd 600 ax/\Bd 600 ay/\Bd 600 aw)/\(Bd 600 bx/\Bd 600 b_y/\Bd 600 bw)/\(Bd 600 px/\Bd 600 py/\Bd 600 pw)/\P (.int (aw*det ax ay aw bx b_y bw px py pw))
theorem UF {f:Addr} (F:Fun K "_law_lean" "_law_lean" HR f fd) (Z:Bi mg) {c:Cs} (Y:Ex K mg base c):FnOk P w K mg base CX0 1 f fd J9l (Q3 K BT J0j):=by
 refine F.okD CW (fun ds PP Ed h=>?_) (fun cdv A outer s H E M bg ds PP Ed hr hS_=>?_)
 · obtain ⟨ax,ay,az,aw,bx,b_y,bz,bw,px,py,pw,rfl,⟨p0,p1,p2⟩,⟨q0,q1,q2⟩,⟨r0,r1,r2⟩,hP⟩:=h
   rfl
 · obtain ⟨ax,ay,az,aw,bx,b_y,bz,bw,px,py,pw,rfl,⟨p0,p1,p2⟩,⟨q0,q1,q2⟩,⟨r0,r1,r2⟩,hP⟩:=hS_
   refine ⟨_,(J4 (V0 (i:=3) CW.nd rfl (by walk_at "o") (J6 Y4 V7 (J6 Q9 Y9 (J8 (J9 K (by rfl)) Q5 (jdv 2) J1 (fun _ _=>rfl)) (J8 (J9 K (by rfl)) Q5 (jdv 0) J1 (fun _ _=>rfl))) (J6 Q9 Y9 (J8 (J9 K (by rfl)) Q5 (jdv 0) J1 (fun _ _=>rfl)) (J8 (J9 K (by rfl)) Q5 (jdv 2) J1 (fun _ _=>rfl)))))
    (J4 (V0 (i:=4) CW.nd rfl (by walk_at "o") (J6 Y4 V7 (J6 Q9 Y9 (J8 (J9 K (by rfl)) Q5 (jdv 2) J1 (fun _ _=>rfl)) (J8 (J9 K (by rfl)) Q5 (jdv 0) J1 (fun _ _=>rfl))) (J6 Q9 Y9 (J8 (J9 K (by rfl)) Q5 (jdv 0) J1 (fun _ _=>rfl)) (J8 (J9 K (by rfl)) Q5 (jdv 2) J1 (fun _ _=>rfl)))))
    (J4 (V0 (i:=5) CW.nd rfl (by walk_at "o") (J6 Y4 V7 (J6 Q9 Y9 (J8 (J9 K (by rfl)) Q5 (jdv 1) J1 (fun _ _=>rfl)) (J8 (J9 K (by rfl)) Q5 (jdv 0) J1 (fun _ _=>rfl))) (J6 Q9 Y9 (J8 (J9 K (by rfl)) Q5 (jdv 0) J1 (fun _ _=>rfl)) (J8 (J9 K (by rfl)) Q5 (jdv 1) J1 (fun _ _=>rfl)))))
    (J4 (V0 (i:=6) CW.nd rfl (by walk_at "o") (J6 Y4 V7 (J6 Q9 Y9 (J8 (J9 K (by rfl)) Q5 (jdv 1) J1 (fun _ _=>rfl)) (J8 (J9 K (by rfl)) Q5 (jdv 0) J1 (fun _ _=>rfl))) (J6 Q9 Y9 (J8 (J9 K (by rfl)) Q5 (jdv 0) J1 (fun _ _=>rfl)) (J8 (J9 K (by rfl)) Q5 (jdv 1) J1 (fun _ _=>rfl)))))
    (Q0 (V6 (J6 Y4 V7 (J6 Q9 Y9 (jdv 5) (jdv 4)) (J6 Q9 Y9 (jdv 6) (jdv 3))))))))),?_⟩
   walk_at "g"
   rw [<- J6l] at hP
   exact hP
abbrev HS:Stmt:=top 60
theorem BK:FnScope ["_law_bag_here","_law_wide","_law_way","_law_a","_law_b","_law_c"] J2l (J7 HS):=⟨rfl,rfl,rfl,by decide +kernel,rfl,by decide +kernel,by decide +kernel⟩
noncomputable def J2f:DSp:=fun ds P _=>∃ wide:Int,ds=[.bag,.int wide]/\0<=wide/\wide<=1000/\∀ t:T3,t.ok 60->t.pos->P t.d
theorem UH {f:Addr} (F:Fun K "_law_face" "_law_face" HS f fd) (Z:Bi mg) {c:Cs} (Y:Ex K mg base c) (g0:Callee P w K mg base CX0 "_law_digit" 2 xl4 (Q3 K BT FK)) (g1:Callee P w K mg base CX0 "_law_at" 3 J2l (Q3 K BT Q3y)) (g2:Callee P w K mg base CX0 "_law_spot" 2 J4y (Q3 K BT NX)):FnOk P w K mg base CX0 4 f fd J2l (Q3 K BT J2f):=by
 refine F.okD BK (fun ds PP Ed h=>?_) (fun cdv A outer s H E M bg ds PP Ed hr hS_=>?_)
 · obtain ⟨wide,rfl,w0,w1,hP⟩:=h
   rfl
 · obtain ⟨wide,rfl,w0,w1,hP⟩:=hS_
   refine ⟨_,(J4 (V0 (i:=2) BK.nd rfl (by walk_at "o") (Q4 g0 hr.m rfl (J0 (jdv 0) (J0 J1 J3))))
    (J4 (V0 (i:=3) BK.nd rfl (by walk_at "o") (Q4 g1 hr.m rfl (J0 (jdv 0) (J0 (jdv 1) J3))))
    (J4 (V0 (i:=4) BK.nd rfl (by walk_at "o") (Q4 g1 hr.m rfl (J0 (jdv 0) (J0 (jdv 1) J3))))
    (J4 (V0 (i:=5) BK.nd rfl (by walk_at "o") (Q4 g1 hr.m rfl (J0 (jdv 0) (J0 (jdv 1) J3))))
    (J4 (AJ (Z6 DD BR (jdv 2) J1 (Y5 _)) (Q0 (V0 (i:=5) BK.nd rfl (by walk_at "o") (Q4 g2 hr.m rfl (J0 (J6 Y7 V7 (J6 Q9 Y9 (J8 (J9 K (by rfl)) Q5 (jdv 3) J1 (fun _ _=>rfl)) (J8 (J9 K (by rfl)) Q5 (jdv 4) J1 (fun _ _=>rfl))) (J6 Q9 Y9 (J8 (J9 K (by rfl)) Q5 (jdv 4) J1 (fun _ _=>rfl)) (J8 (J9 K (by rfl)) Q5 (jdv 3) J1 (fun _ _=>rfl)))) (J0 (J6 Y7 V7 (J6 Q9 Y9 (J8 (J9 K (by rfl)) Q5 (jdv 3) J1 (fun _ _=>rfl)) (J8 (J9 K (by rfl)) Q5 (jdv 4) J1 (fun _ _=>rfl))) (J6 Q9 Y9 (J8 (J9 K (by rfl)) Q5 (jdv 4) J1 (fun _ _=>rfl)) (J8 (J9 K (by rfl)) Q5 (jdv 3) J1 (fun _ _=>rfl)))) (J0 J1 (J0 (J6 Q9 Y9 (J6 Q9 Y9 J1 (J8 (J9 K (by rfl)) Q5 (jdv 3) J1 (fun _ _=>rfl))) (J8 (J9 K (by rfl)) Q5 (jdv 4) J1 (fun _ _=>rfl))) J3))))))) Y6)
    (J4 (AJ (Z6 DD BR (jdv 2) J1 (Y5 _)) (Q0 (V0 (i:=5) BK.nd rfl (by walk_at "o") (Q4 g2 hr.m rfl (J0 (J6 Y7 V7 (J8 (J9 K (by rfl)) Q5 (jdv 4) J1 (fun _ _=>rfl)) (J8 (J9 K (by rfl)) Q5 (jdv 4) J1 (fun _ _=>rfl))) (J0 (J8 (J9 K (by rfl)) Q5 (jdv 4) J1 (fun _ _=>rfl)) (J0 (J8 (J9 K (by rfl)) Q5 (jdv 4) J1 (fun _ _=>rfl)) (J0 (J8 (J9 K (by rfl)) Q5 (jdv 4) J1 (fun _ _=>rfl)) J3))))))) Y6)
    (Q0 (V6 (V3 (J0 (jdv 3) (J0 (jdv 4) (J0 (jdv 5) J3)))))))))))),?_⟩
   walk_at "g"
   refine ⟨_,64,rfl,by decide,Bd.num _ (by decide),by decide,fun way y0 y1=>?_⟩
   walk_at "g"
   refine ⟨_,rfl,w0,w1,fun ax ay az aw ⟨a1,a2,a3,a4⟩ a0=>?_⟩
   walk_at "g"
   refine ⟨_,rfl,w0,w1,fun bx b_y bz bw ⟨b1,b2,b3,b4⟩ b0=>?_⟩
   walk_at "g"
   refine ⟨_,rfl,w0,w1,fun cx cy cz cw ⟨c1,c2,c3,c4⟩ c0=>?_⟩
   have fin:∀ cx cy cz cw:Int,(Bd 60 cx/\Bd 60 cy/\Bd 60 cz/\Bd 60 cw)->0<cw->PP (.tup [sp4 ax ay az aw,sp4 bx b_y bz bw,sp4 cx cy cz cw]):=fun cx cy cz cw ⟨c1,c2,c3,c4⟩ c0 =>
    hP ⟨ax,ay,az,aw,bx,b_y,bz,bw,cx,cy,cz,cw⟩ ⟨a1.mono (by decide),a2.mono (by decide),a3.mono (by decide),a4.mono (by decide),b1.mono (by decide),b2.mono (by decide),b3.mono (by decide),b4.mono (by decide),c1,c2,c3,c4⟩ ⟨a0,b0,c0⟩
   walk_at "g"
   walk_at "sp"
   · rename_i z
     subst z
     walk_at "g"
     have bb:Bd 60 (2*aw*bw):=(Bd.mul (Bd.mul (Bd.of (by decide) (by decide):Bd 2 2) a4) b4).mono (by decide)
     refine ⟨_,_,_,_,60,rfl,B1w (B1w (by decide) a0) b0,⟨(Bd.add (Bd.mul a1 b4) (Bd.mul b1 a4)).mono (by decide),(Bd.add (Bd.mul a2 b4) (Bd.mul b2 a4)).mono (by decide),Bd.of (by decide) (by decide),bb⟩,by decide,fun x' y' z' w2 hb h0=>?_⟩
     walk_at "g"
     exact fin _ _ _ _ hb h0
   · walk_at "g"
     walk_at "sp"
     · walk_at "g"
       refine ⟨_,_,_,_,60,rfl,b0,⟨(Bd.add b1 b4).mono (by decide),b2.mono (by decide),b3.mono (by decide),b4.mono (by decide)⟩,by decide,fun x' y' z' w2 hb h0=>?_⟩
       walk_at "g"
       exact fin _ _ _ _ hb h0
     · walk_at "g"
       exact fin _ _ _ _ ⟨c1.mono (by decide),c2.mono (by decide),c3.mono (by decide),c4.mono (by decide)⟩ c0
abbrev FG:Stmt:=top 58
abbrev TH:List Str:=["_law_face_here","_law_dot"]
theorem GE:FnScope ["_law_face_here","_law_dot","_law_most","_law_far"] TH (J7 FG):=⟨rfl,rfl,rfl,by decide +kernel,rfl,by decide +kernel,by decide +kernel⟩
theorem Q2p (n:Int):AK n=(n.natAbs:Int):=by unfold AK;split<;>omega
theorem Q5j {a b c e M:Int}{n:Nat}(h1:Bd n a)(h2:Bd n b)(h3:Bd n c)(h4:Bd n e)(h:M∈[AK a,AK b,AK c,AK e])(g:∀ x∈[AK a,AK b,AK c,AK e],x<=M):Bd n M/\∀ x∈[a,b,c,e],(x.natAbs:Int)<=M:=by
 refine ⟨?_,fun x hx=>?_⟩
 · simp only [B6,R1,W4] at h
   rcases h with e|e|e|e<;>rw [e]<;>exact J1z (by assumption)
 · rw [<- Q2p]
   apply g
   simp only [B6,R1,W4] at hx ⊢
   rcases hx with e|e|e|e<;>simp [e]
noncomputable def J8w:DSp:=fun ds P _=>∃ (t:T3) (px py:Int),ds=[t.d,t2 px py]/\t.ok 100/\Bd 100 px/\Bd 100 py/\∀ M:Int,1<=M->Bd 101 M->t.in M->P (t3 (nX px M) (nY py M) (nW M))
abbrev xc6 (P:Program) (w:World) (K:Fg) (mg:Str → Option Value) (base:Heap) (f:Addr) (cdv:Value) (A:Around) (outer:List Env) (s:Shared) (H:Hp) (E:XK):Cx:=BW CX0 P w K mg base ["_law_face_here","_law_dot","_law_most","_law_far"] "_law_near" (J7 FG) f cdv A outer s H E
abbrev VT:List Str:=["_law_corner"]
theorem UE {f:Addr} (F:Fun K "_law_near" "_law_near" FG f fd) (Z:Bi mg) {c:Cs} (Y:Ex K mg base c):FnOk P w K mg base CX0 1 f fd TH (Q3 K BT J8w):=by
 refine F.okD GE (fun ds PP Ed h=>?_) (fun cdv A outer s H E M bg ds PP Ed hr hS_=>?_)
 · obtain ⟨t,px,py,rfl,ok,hx,hy,hP⟩:=h
   rfl
 · obtain ⟨t,px,py,rfl,ok,hx,hy,hP⟩:=hS_
   refine ⟨_,(J4 (V0 (i:=2) GE.nd rfl (by walk_at "o") (V2 (ML K (by rfl) (by rfl)) NW rfl Z.max_ VG (J0 (J6 JP ZK (AS (X:=(xc6 P w K mg base f cdv A outer s H E).nox) (Y2 0) (HL (X:=(xc6 P w K mg base f cdv A outer s H E).nox) (N':=VT) (map:=[none]) (by rfl) (by rfl) (by decide +kernel) (by rfl) True.intro (gkeep_name rfl) fun cl0 C0 fp0 s0 H0=>⟨(pg_name (X:=(Q7 (xc6 P w K mg base f cdv A outer s H E).nox VT _ cl0 C0 fp0 s0 H0)) (i:=0) (Z4 VT (by decide +kernel)) rfl (by walk_at "o")),Z9,(V2 (X:=(Q7 (xc6 P w K mg base f cdv A outer s H E).nox VT _ cl0 C0 fp0 s0 H0)) (ML K (by rfl) (by rfl)) NW rfl Z.max_ VG (J0 (AS (X:=(Q7 (xc6 P w K mg base f cdv A outer s H E).nox VT _ cl0 C0 fp0 s0 H0)) (Y2 0) (HL (X:=(Q7 (xc6 P w K mg base f cdv A outer s H E).nox VT _ cl0 C0 fp0 s0 H0)) (N':=["_law_number"]) (map:=[none]) (by rfl) (by rfl) (by decide +kernel) (by rfl) True.intro (gkeep_name rfl) fun cl1 C1 fp1 s1 H1=>⟨(pg_name (X:=(Q7 (Q7 (xc6 P w K mg base f cdv A outer s H E).nox VT _ cl0 C0 fp0 s0 H0) ["_law_number"] _ cl1 C1 fp1 s1 H1)) (i:=0) (Z4 ["_law_number"] (by decide +kernel)) rfl (by walk_at "o")),Z9,(V2 (X:=(Q7 (Q7 (xc6 P w K mg base f cdv A outer s H E).nox VT _ cl0 C0 fp0 s0 H0) ["_law_number"] _ cl1 C1 fp1 s1 H1)) IA J8j rfl Z.abs_ QO (J0 (jdv 0) J3))⟩) (AR (by rfl) (jdv 0))) J3))⟩) (AR (by rfl) (jdv 0))) (AT (J0 J1 J3))) J3)))
    (J4 (V0 (i:=3) GE.nd rfl (by walk_at "o") (J6 Y7 V7 J1 (J6 Q9 Y9 (J6 Q9 Y9 J1 (jdv 2)) (jdv 2))))
    (Q0 (V6 (V3 (J0 (J6 Y7 V7 (J6 Q9 Y9 (J6 Q9 Y9 (J8 (J9 K (by rfl)) Q5 (jdv 1) J1 (fun _ _=>rfl)) (jdv 3)) (jdv 3)) (jdv 3)) (J0 (J6 Y7 V7 (J6 Q9 Y9 (J6 Q9 Y9 (J8 (J9 K (by rfl)) Q5 (jdv 1) J1 (fun _ _=>rfl)) (jdv 3)) (jdv 3)) J1) (J0 (J6 Q9 Y9 (jdv 3) (jdv 3)) J3)))))))),?_⟩
   walk_at "g"
   repeat (walk_at "gc")
   intro m1 h1 g1
   walk_at "g"
   repeat (walk_at "gc")
   intro m2 h2 g2
   walk_at "g"
   repeat (walk_at "gc")
   intro m3 h3 g3
   obtain ⟨q1,r1⟩:=Q5j ok.ax ok.ay ok.az ok.aw h1 g1
   obtain ⟨q2,r2⟩:=Q5j ok.bx ok.b_y ok.bz ok.bw h2 g2
   obtain ⟨q3,r3⟩:=Q5j ok.cx ok.cy ok.cz ok.cw h3 g3
   clear h1 g1 h2 g2 h3 g3
   walk_at "g"
   intro M hM gM
   have bM:Bd 101 M:=by
    simp only [T4,B2c,B1l,B2o,B6,R1,W4] at hM
    rcases hM with e|e|e|e<;>rw [e]<;>first|exact Bd.mono (by assumption) (by decide)|exact Bd.of (by decide) (by decide)
   have l0:1<=M:=gM 1 (by simp)
   have l1:m1<=M:=gM m1 (by simp)
   have l2:m2<=M:=gM m2 (by simp)
   have l3:m3<=M:=gM m3 (by simp)
   have hin:t.in M:=fun n hn=>by
    have:n∈[t.ax,t.ay,t.az,t.aw]\/n∈[t.bx,t.b_y,t.bz,t.bw]\/n∈[t.cx,t.cy,t.cz,t.cw]:=by
     unfold T3.nums at hn
     simp only [B6,R1,W4] at hn ⊢
     rcases hn with e|e|e|e|e|e|e|e|e|e|e|e<;>simp [e]
    rcases this with z|z|z
    · have:=r1 n z;omega
    · have:=r2 n z;omega
    · have:=r3 n z;omega
   replace hP:=hP M l0 bM hin
   unfold nX nY nW at hP
   have bF:Bd 210 (10+8*M*M):=(Bd.add ((Bd.of (by decide) (by decide):Bd 4 10).mono (show 4<=4+101+101 by decide)) (Bd.mul (Bd.mul (Bd.of (by decide) (by decide):Bd 4 8) bM) bM)).mono (by decide)
   walk_at "g"
   exact hP
abbrev JK:Stmt:=top 59
theorem AV:FnScope ["_law_face_here","_law_dot","_law_p","_law_a","_law_b","_law_c","_law_some"] TH (J7 JK):=⟨rfl,rfl,rfl,by decide +kernel,rfl,by decide +kernel,by decide +kernel⟩
noncomputable def J8y:DSp:=fun ds P _=>∃ (t:T3) (px py:Int),ds=[t.d,t2 px py]/\t.ok 100/\t.pos/\Bd 100 px/\Bd 100 py/\P (.bl (decide (t.has px py)))
theorem V1w {px py M:Int}(hx:Bd 100 px)(hy:Bd 100 py)(bM:Bd 101 M):Bd 600 (nX px M)/\Bd 600 (nY py M)/\Bd 600 (nW M):=by
 have bF:Bd 210 (10+8*M*M):=(Bd.add ((Bd.of (by decide) (by decide):Bd 4 10).mono (show 4<=4+101+101 by decide)) (Bd.mul (Bd.mul (Bd.of (by decide) (by decide):Bd 4 8) bM) bM)).mono (by decide)
 unfold nX nY nW
 exact ⟨(Bd.add (Bd.mul (Bd.mul hx bF) bF) (bF.mono (show 210<=100+210+210 by decide))).mono (by decide),(Bd.add (Bd.mul (Bd.mul hy bF) bF) ((Bd.of (by decide) (by decide):Bd 3 1).mono (show 3<=100+210+210 by decide))).mono (by decide),(Bd.mul bF bF).mono (by decide)⟩
theorem QA {t:T3}{px py l1 l2 l3 m M:Int}(e1:sgn l1=t.s1 px py)(e2:sgn l2=t.s2 px py)(e3:sgn l3=t.s3 px py)(hm:m∈[l1,l2,l3])(hm':∀ a∈[l1,l2,l3],m<=a)(hM:M∈[l1,l2,l3])(hM':∀ a∈[l1,l2,l3],a<=M):t.has px py↔(m>0\/M<0):=by
 unfold T3.has
 rw [<- e1,<- e2,<- e3]
 simp only [B6,R1,W4] at hm hM
 have a1:=hm' l1 (by simp)
 have a2:=hm' l2 (by simp)
 have a3:=hm' l3 (by simp)
 have b1:=hM' l1 (by simp)
 have b2:=hM' l2 (by simp)
 have b3:=hM' l3 (by simp)
 have c1:=ER l1
 have c2:=ER l2
 have c3:=ER l3
 omega
theorem V2b (l1 l2 l3:Int):∃ M∈[l1,l2,l3],∀ a∈[l1,l2,l3],a<=M:=by
 by_cases h1:l2<=l1/\l3<=l1
 · exact ⟨l1,by simp,fun a ha=>by simp at ha;omega⟩
 · by_cases h2:l1<=l2/\l3<=l2
   · exact ⟨l2,by simp,fun a ha=>by simp at ha;omega⟩
   · exact ⟨l3,by simp,fun a ha=>by simp at ha;omega⟩
theorem WT {f:Addr} (F:Fun K "_law_has" "_law_has" JK f fd) (Z:Bi mg) {c:Cs} (Y:Ex K mg base c) (g0:Callee P w K mg base CX0 "_law_near" 1 TH (Q3 K BT J8w)) (g1:Callee P w K mg base CX0 "_law_lean" 1 J9l (Q3 K BT J0j)):FnOk P w K mg base CX0 2 f fd TH (Q3 K BT J8y):=by
 refine F.okD AV (fun ds PP Ed h=>?_) (fun cdv A outer s H E M bg ds PP Ed hr hS_=>?_)
 · obtain ⟨t,px,py,rfl,ok,pos,hx,hy,hP⟩:=h
   rfl
 · obtain ⟨t,px,py,rfl,ok,pos,hx,hy,hP⟩:=hS_
   refine ⟨_,(J4 (V0 (i:=2) AV.nd rfl (by walk_at "o") (Q4 g0 hr.m rfl (J0 (jdv 0) (J0 (jdv 1) J3))))
    (J4 (BV (BE [3,4,5]) (jdv 0) (PG.or (AO (n:=3) K (by rfl) (by rfl) (J5 (pg_name (i:=3) AV.nd rfl (by walk_at "o")) (J5 (pg_name (i:=4) AV.nd rfl (by walk_at "o")) (J5 (pg_name (i:=5) AV.nd rfl (by walk_at "o")) Y1)))) (AQ (n:=3) K (by rfl) (by rfl) (J5 (pg_name (i:=3) AV.nd rfl (by walk_at "o")) (J5 (pg_name (i:=4) AV.nd rfl (by walk_at "o")) (J5 (pg_name (i:=5) AV.nd rfl (by walk_at "o")) Y1))))))
    (J4 (V0 (i:=6) AV.nd rfl (by walk_at "o") (AT (J0 (Q4 g1 hr.m rfl (J0 (jdv 3) (J0 (jdv 4) (J0 (jdv 2) J3)))) (J0 (Q4 g1 hr.m rfl (J0 (jdv 4) (J0 (jdv 5) (J0 (jdv 2) J3)))) (J0 (Q4 g1 hr.m rfl (J0 (jdv 5) (J0 (jdv 3) (J0 (jdv 2) J3)))) J3)))))
    (Q0 (V6 (Q5o (EO WP IU (V2 (J4s K (by rfl) (by rfl)) NW rfl Z.min_ HC (J0 (jdv 6) J3)) J1 (Y5 _)) (IK (EO MX IU (V2 (ML K (by rfl) (by rfl)) NW rfl Z.max_ VG (J0 (jdv 6) J3)) J1 (Y5 _))))))))),?_⟩
   walk_at "g"
   refine ⟨t,px,py,rfl,ok,hx,hy,fun M hM bM hin=>?_⟩
   obtain ⟨n1,n2,n3⟩:=T3.near (px:=px) (py:=py) pos hM hin
   obtain ⟨b1,b2,b3⟩:=V1w hx hy bM
   generalize nX px M=nx at *
   generalize nY py M=ny at *
   generalize nW M=nw at *
   walk_at "g"
   refine ⟨_,_,_,_,_,_,_,_,_,_,_,rfl,⟨ok.ax.mono (by decide),ok.ay.mono (by decide),ok.aw.mono (by decide)⟩,⟨ok.bx.mono (by decide),ok.b_y.mono (by decide),ok.bw.mono (by decide)⟩,⟨b1,b2,b3⟩,?_⟩
   walk_at "g"
   refine ⟨_,_,_,_,_,_,_,_,_,_,_,rfl,⟨ok.bx.mono (by decide),ok.b_y.mono (by decide),ok.bw.mono (by decide)⟩,⟨ok.cx.mono (by decide),ok.cy.mono (by decide),ok.cw.mono (by decide)⟩,⟨b1,b2,b3⟩,?_⟩
   walk_at "g"
   refine ⟨_,_,_,_,_,_,_,_,_,_,_,rfl,⟨ok.cx.mono (by decide),ok.cy.mono (by decide),ok.cw.mono (by decide)⟩,⟨ok.ax.mono (by decide),ok.ay.mono (by decide),ok.aw.mono (by decide)⟩,⟨b1,b2,b3⟩,?_⟩
   rw [<- KH _ pos.a] at n1
   rw [<- KH _ pos.b] at n2
   rw [<- KH _ pos.c] at n3
   generalize t.aw*det t.ax t.ay t.aw t.bx t.b_y t.bw nx ny nw=l1 at *
   generalize t.bw*det t.bx t.b_y t.bw t.cx t.cy t.cw nx ny nw=l2 at *
   generalize t.cw*det t.cx t.cy t.cw t.ax t.ay t.aw nx ny nw=l3 at *
   have key:∀ b:Bool,(b=true↔t.has px py)->PP (.bl b):=fun b h=>by
    rw [show b=decide (t.has px py) from by rw [B1u,h];simp]
    exact hP
   walk_at "g"
   intro m hm hm'
   walk_at "g"
   walk_at "sp"
   · rename_i h
     obtain ⟨M',k1,k2⟩:=V2b l1 l2 l3
     walk_at "g"
     refine key _ ?_
     rw [QA n1 n2 n3 hm hm' k1 k2]
     simp only [U6]
     exact ⟨fun _=>.inl h,fun _=>by first|exact h|trivial⟩
   · rename_i h
     walk_at "g"
     intro M' k1 k2
     walk_at "g"
     refine key _ ?_
     rw [QA n1 n2 n3 hm hm' k1 k2]
     simp only [U6]
     exact ⟨fun z=>.inr z,fun z=>z.elim (fun y=>absurd y h) id⟩
abbrev GJ:Stmt:=top 64
abbrev Q4d:List Str:=["_law_bag_here","_law_wide","_law_many"]
theorem V8:FnScope ["_law_bag_here","_law_wide","_law_many","_law_faces_here","_law_over","_law_again","_law_way","_law_face_here","_law_far","_law_z","_law_one","_law_other","_law_a","_law_b","_law_c"] Q4d (J7 GJ):=⟨rfl,rfl,rfl,by decide +kernel,rfl,by decide +kernel,by decide +kernel⟩
theorem T3.ok.mono {t:T3}{m n:Nat}(h:t.ok m)(k:m<=n):t.ok n:=⟨h.ax.mono k,h.ay.mono k,h.az.mono k,h.aw.mono k,h.bx.mono k,h.b_y.mono k,h.bz.mono k,h.bw.mono k,h.cx.mono k,h.cy.mono k,h.cz.mono k,h.cw.mono k⟩
theorem MZ (ts:List T3):EG 2 (ts.map T3.d)=true:=IM (fun d hd=>by obtain ⟨t,_,rfl⟩:=M3.mp hd;rfl)
noncomputable def YE:DSp:=fun ds P _=>∃ (wide many:Int),ds=[.bag,.int wide,.int many]/\(0<=wide/\wide<=1000)/\(0<=many/\many<=30)/\∀ ts:List T3,ts.length<=30->(∀ t∈ts,t.ok 100/\t.pos)->P (.lst (ts.map T3.d))
theorem RF {f:Addr} (F:Fun K "_law_faces" "_law_faces" GJ f fd) (Z:Bi mg) {c:Cs} (Y:Ex K mg base c) (g0:Callee P w K mg base CX0 "_law_digit" 2 xl4 (Q3 K BT FK)) (g1:Callee P w K mg base CX0 "_law_face" 4 J2l (Q3 K BT J2f)) (g2:Callee P w K mg base CX0 "_law_spot" 2 J4y (Q3 K BT NX)):FnOk P w K mg base CX0 5 f fd Q4d (Q3 K BT YE):=by
 refine F.okD V8 (fun ds PP Ed h=>?_) (fun cdv A outer s H E M bg ds PP Ed hr hS_=>?_)
 · obtain ⟨wide,many,rfl,⟨w0,w1⟩,⟨m0,m1⟩,hP⟩:=h
   rfl
 · obtain ⟨wide,many,rfl,⟨w0,w1⟩,⟨m0,m1⟩,hP⟩:=hS_
   refine ⟨_,(J4 (LC (i:=3) V8.nd rfl (by walk_at "o") J3)
    (J4 (V0 (i:=4) V8.nd rfl (by walk_at "o") (EO DD BR (Q4 g0 hr.m rfl (J0 (jdv 0) (J0 J1 J3))) J1 (Y5 _)))
    (J4 (BU (Y2 5) U8 rfl (BM rfl Z.range_ (J0 (jdv 2) J3)) (pg_name (i:=5) V8.nd rfl (by walk_at "o")) (PN (V0 (i:=6) V8.nd rfl (by walk_at "o") (Q5p (AC (by rfl) (jdv 4) (fun _=>rfl)) J1 (Q4 g0 hr.m rfl (J0 (jdv 0) (J0 J1 J3)))))
    (J4 (V0 (i:=7) V8.nd rfl (by walk_at "o") (Q4 g1 hr.m rfl (J0 (jdv 0) (J0 (jdv 1) J3))))
    (J4 (AJ (UO (Z6 DD BR (jdv 6) J1 (Y5 _)) (PM (Z6 (OW K (by rfl) hr.units) PF (jdv 3) (AT J3) (Y5 _)))) (Q0 (V0 (i:=7) V8.nd rfl (by walk_at "o") (J8 (J9 K (by rfl)) Q5 (jdv 3) (Q4 g0 hr.m rfl (J0 (jdv 0) (J0 (V2 (BC K (by rfl)) QL rfl Z.len_ HE (J0 (jdv 3) J3)) J3))) (fun _ _=>rfl)))) Y6)
    (J4 (AJ (Z6 DD BR (jdv 6) J1 (Y5 _)) (J4 (V0 (i:=8) V8.nd rfl (by walk_at "o") (J6 Y7 V7 (J6 Q9 Y9 J1 (jdv 1)) J1))
    (J4 (V0 (i:=9) V8.nd rfl (by walk_at "o") (J8 (J9 K (by rfl)) Q5 (AT (J0 (FJ J1) (J0 J1 (J0 J1 (J0 J1 J3))))) (Q4 g0 hr.m rfl (J0 (jdv 0) (J0 J1 J3))) (fun _ _=>rfl)))
    (J4 (V0 (i:=10) V8.nd rfl (by walk_at "o") (J6 Y4 V7 (J6 Y7 V7 (jdv 9) (J6 Q9 Y9 J1 (Q4 g0 hr.m rfl (J0 (jdv 0) (J0 J1 J3))))) J1))
    (J4 (V0 (i:=11) V8.nd rfl (by walk_at "o") (J6 Y4 V7 (J6 Y7 V7 (jdv 9) (J6 Q9 Y9 J1 (Q4 g0 hr.m rfl (J0 (jdv 0) (J0 J1 J3))))) J1))
    (Q0 (V0 (i:=7) V8.nd rfl (by walk_at "o") (V3 (J0 (V3 (J0 (FJ J1) (J0 (FJ J1) (J0 (jdv 9) (J0 J1 J3))))) (J0 (V3 (J0 (jdv 8) (J0 (FJ J1) (J0 (jdv 10) (J0 J1 J3))))) (J0 (V3 (J0 (FJ J1) (J0 (jdv 8) (J0 (jdv 11) (J0 J1 J3))))) J3)))))))))) Y6)
    (J4 (AJ (UO (Z6 DD BR (jdv 6) J1 (Y5 _)) (PM (Z6 (OW K (by rfl) hr.units) PF (jdv 3) (AT J3) (Y5 _)))) (J4 (BV (BE [12,13,14]) (J8 (J9 K (by rfl)) Q5 (jdv 3) (Q4 g0 hr.m rfl (J0 (jdv 0) (J0 (V2 (BC K (by rfl)) QL rfl Z.len_ HE (J0 (jdv 3) J3)) J3))) (fun _ _=>rfl)) (PG.or (AO (n:=3) K (by rfl) (by rfl) (J5 (pg_name (i:=12) V8.nd rfl (by walk_at "o")) (J5 (pg_name (i:=13) V8.nd rfl (by walk_at "o")) (J5 (pg_name (i:=14) V8.nd rfl (by walk_at "o")) Y1)))) (AQ (n:=3) K (by rfl) (by rfl) (J5 (pg_name (i:=12) V8.nd rfl (by walk_at "o")) (J5 (pg_name (i:=13) V8.nd rfl (by walk_at "o")) (J5 (pg_name (i:=14) V8.nd rfl (by walk_at "o")) Y1))))))
    (Q0 (V0 (i:=7) V8.nd rfl (by walk_at "o") (V3 (J0 (jdv 13) (J0 (jdv 14) (J0 (Q4 g2 hr.m rfl (J0 (J6 Y7 V7 (J8 (J9 K (by rfl)) Q5 (jdv 12) J1 (fun _ _=>rfl)) (J8 (J9 K (by rfl)) Q5 (jdv 12) J1 (fun _ _=>rfl))) (J0 (J8 (J9 K (by rfl)) Q5 (jdv 12) J1 (fun _ _=>rfl)) (J0 (J8 (J9 K (by rfl)) Q5 (jdv 12) J1 (fun _ _=>rfl)) (J0 (J8 (J9 K (by rfl)) Q5 (jdv 12) J1 (fun _ _=>rfl)) J3))))) J3))))))) Y6)
    (Q0 (JX (i:=3) (by rfl) rfl (by walk_at "v") (J0 (jdv 7) J3) (WO B1b B1r B1q IJ (pv 3) (JA.h (J0 (jdv 7) J3)))))))))))
    (Q0 (V6 (jdv 3)))))),?_⟩
   walk_at "g"
   refine ⟨_,64,rfl,by decide,Bd.num _ (by decide),by decide,fun ov ov0 ov1=>?_⟩
   walk_at "g"
   refine And.intro ⟨by omega,by omega⟩ ?_
   refine ⟨fun i ρ=>∃ (ts:List T3) (v4 v5 v6 v7 v8 v9 v10 v11 v12 v13:Option D),ρ=[some .bag,some (.int wide),some (.int many),some (.own (ts.map T3.d)),some (.bl (decide (ov=5)!=false)),v4,v5,v6,v7,v8,v9,v10,v11,v12,v13]/\ts.length=i/\∀ t∈ts,t.ok (61+i)/\t.pos,⟨[],_,_,_,_,_,_,_,_,_,_,rfl,rfl,by simp⟩,?_,?_⟩
   · rintro i x ρ e ⟨ts,v4,v5,v6,v7,v8,v9,v10,v11,v12,v13,rfl,hl,hts⟩
     obtain ⟨rfl,hi⟩:=DP e
     have hi3:i<30:=by omega
     have hf:=MZ ts
     have hml:(ts.map T3.d).length=i:=by rw [B9];exact hl
     have add:∀ t:T3,t.ok (62+i)->t.pos->∀ t'∈ts++[t],t'.ok (61+(i+1))/\t'.pos:=fun t ok pos t' h=>by
      rcases U7.mp h with z|z
      · exact ⟨(hts t' z).1.mono (by omega),(hts t' z).2⟩
      · have:t'=t:=by simpa using z
        subst this
        exact ⟨ok.mono (by omega),pos⟩
     refine ⟨fun ρ=>∃ (way:Int) (v7 v8 v9 v10 v11 v12 v13 v14:Option D),(0<=way/\way<8)/\ρ=[some .bag,some (.int wide),some (.int many),some (.own (ts.map T3.d)),some (.bl (decide (ov=5)!=false)),some (.int (0+(i:Int))),some (.int way),v7,v8,v9,v10,v11,v12,v13,v14],?_,?_⟩
     · walk_at "g"
       by_cases hov:ov=5
       · refine IfP.t (by simp [hov]) ?_
         walk_at "g"
         exact ⟨2,_,_,_,_,_,_,_,_,⟨by decide,by decide⟩,rfl⟩
       · refine IfP.f (by simp [hov]) ?_
         walk_at "g"
         refine ⟨_,64,rfl,by decide,Bd.num _ (by decide),by decide,fun way y0 y1=>?_⟩
         walk_at "g"
         exact ⟨way,_,_,_,_,_,_,_,_,⟨y0,y1⟩,rfl⟩
     rintro ρ ⟨way,v7,v8,v9,v10,v11,v12,v13,v14,⟨y0,y1⟩,rfl⟩
     walk_at "g"
     refine ⟨wide,rfl,w0,w1,fun t ok pos=>?_⟩
     have ok':t.ok (62+i):=ok.mono (by omega)
     obtain rfl|rfl|rfl|rfl|rfl|rfl|rfl|rfl:=(show way=0\/way=1\/way=2\/way=3\/way=4\/way=5\/way=6\/way=7 by omega)
     case inl|inr.inr.inr.inr.inl|inr.inr.inr.inr.inr.inl|inr.inr.inr.inr.inr.inr.inl|inr.inr.inr.inr.inr.inr.inr =>
      walk_at "g"
      refine And.intro (by show (true&&decide ((ts.map T3.d).length<1000))=true;rw [hml];simp;omega) ?_
      exact ⟨ts++[t],_,_,_,_,_,_,_,_,_,_,by rw [U3];rfl,by simp [hl],add t ok' pos⟩
     case inr.inl =>
      walk_at "g"
      refine J1m 2 hf ?_
      by_cases hz:ts=[]
      · subst hz
        walk_at "g"
        exact ⟨[]++[t],_,_,_,_,_,_,_,_,_,_,by rw [U3];rfl,by simp [<- hl],add t ok' pos⟩
      · have he:(ts.map T3.d).isEmpty=false:=by cases ts with|nil=>exact absurd rfl hz|cons a b=>rfl
        have hp:0<ts.length:=by cases ts with|nil=>exact absurd rfl hz|cons a b=>simp
        rw [he]
        walk_at "g"
        refine ⟨_,64,rfl,by rw [B9];omega,Bd.of (by rw [B9];omega) (by rw [B9];omega),by decide,fun k k0 k1=>?_⟩
        walk_at "g"
        refine ixm k0 k1 fun d md=>?_
        obtain ⟨t',ht',rfl⟩:=M3.mp md
        walk_at "g"
        refine And.intro (by show (true&&decide ((ts.map T3.d).length<1000))=true;rw [hml];simp;omega) ?_
        exact ⟨ts++[t'],_,_,_,_,_,_,_,_,_,_,by rw [U3];rfl,by simp [hl],add t' ((hts t' ht').1.mono (by omega)) (hts t' ht').2⟩
     case inr.inr.inl =>
      have bw:Bd 12 wide:=Bd.of (by omega) (by omega)
      walk_at "g"
      refine ⟨_,64,rfl,by decide,Bd.num _ (by decide),by decide,fun k k0 k1=>?_⟩
      walk_at "g"
      refine ixm k0 (by exact k1) fun dz mz=>?_
      obtain ⟨z,rfl,z0,z1⟩:∃ z:Int,dz=.int z/\-3<=z/\z<=12:=by
       simp only [B6,R1,W4] at mz
       rcases mz with e|e|e|e<;>exact ⟨_,e,by decide,by decide⟩
      walk_at "g"
      refine ⟨_,64,rfl,by decide,Bd.num _ (by decide),by decide,fun q q0 q1=>?_⟩
      have bq:Bd 64 q:=Bd.of (by omega) (by omega)
      walk_at "g"
      refine ⟨_,64,rfl,by decide,Bd.num _ (by decide),by decide,fun u u0 u1=>?_⟩
      have bu:Bd 64 u:=Bd.of (by omega) (by omega)
      walk_at "g"
      refine And.intro (by show (true&&decide ((ts.map T3.d).length<1000))=true;rw [hml];simp;omega) ?_
      have hbd:∀ n:Int,-100<=n->n<=4000->Bd (62+i) n:=fun n h1 h2=>(Bd.of (by omega) (by omega):Bd 13 n).mono (by omega)
      refine ⟨ts++[⟨-2,-2,z,1,3*wide+3,-2,z+4*q - 12,1,-2,3*wide+3,z+4*u - 12,1⟩],_,_,_,_,_,_,_,_,_,_,by rw [U3];rfl,by simp [hl],add _ ⟨hbd _ (by dsimp only;omega) (by dsimp only;omega),hbd _ (by dsimp only;omega) (by dsimp only;omega),hbd _ (by dsimp only;omega) (by dsimp only;omega),hbd _ (by dsimp only;omega) (by dsimp only;omega),hbd _ (by dsimp only;omega) (by dsimp only;omega),hbd _ (by dsimp only;omega) (by dsimp only;omega),hbd _ (by dsimp only;omega) (by dsimp only;omega),hbd _ (by dsimp only;omega) (by dsimp only;omega),hbd _ (by dsimp only;omega) (by dsimp only;omega),hbd _ (by dsimp only;omega) (by dsimp only;omega),hbd _ (by dsimp only;omega) (by dsimp only;omega),hbd _ (by dsimp only;omega) (by dsimp only;omega)⟩ ⟨Int.one_pos,Int.one_pos,Int.one_pos⟩⟩
     case inr.inr.inr.inl =>
      walk_at "g"
      refine J1m 2 hf ?_
      by_cases hz:ts=[]
      · subst hz
        walk_at "g"
        exact ⟨[]++[t],_,_,_,_,_,_,_,_,_,_,by rw [U3];rfl,by simp [<- hl],add t ok' pos⟩
      · have he:(ts.map T3.d).isEmpty=false:=by cases ts with|nil=>exact absurd rfl hz|cons a b=>rfl
        have hp:0<ts.length:=by cases ts with|nil=>exact absurd rfl hz|cons a b=>simp
        rw [he]
        walk_at "g"
        refine ⟨_,64,rfl,by rw [B9];omega,Bd.of (by rw [B9];omega) (by rw [B9];omega),by decide,fun k k0 k1=>?_⟩
        walk_at "g"
        refine ixm k0 k1 fun d md=>?_
        obtain ⟨t',ht',rfl⟩:=M3.mp md
        obtain ⟨o',p'⟩:=hts t' ht'
        walk_at "g"
        refine ⟨t'.ax+t'.aw,t'.ay,t'.az,t'.aw,62+i,rfl,p'.a,⟨(Bd.add o'.ax o'.aw).mono (by omega),o'.ay.mono (by omega),o'.az.mono (by omega),o'.aw.mono (by omega)⟩,by omega,fun x' y' z' w' hb h0=>?_⟩
        walk_at "g"
        refine And.intro (by show (true&&decide ((ts.map T3.d).length<1000))=true;rw [hml];simp;omega) ?_
        exact ⟨ts++[⟨t'.bx,t'.b_y,t'.bz,t'.bw,t'.cx,t'.cy,t'.cz,t'.cw,x',y',z',w'⟩],_,_,_,_,_,_,_,_,_,_,by rw [U3];rfl,by simp [hl],add _ ⟨o'.bx.mono (by omega),o'.b_y.mono (by omega),o'.bz.mono (by omega),o'.bw.mono (by omega),o'.cx.mono (by omega),o'.cy.mono (by omega),o'.cz.mono (by omega),o'.cw.mono (by omega),hb.1,hb.2.1,hb.2.2.1,hb.2.2.2⟩ ⟨p'.b,p'.c,h0⟩⟩
   · rintro ρ ⟨ts,v4,v5,v6,v7,v8,v9,v10,v11,v12,v13,rfl,hl,hts⟩
     rw [rangeD_len] at hl hts
     walk_at "g"
     exact hP ts (by omega) fun t ht=>⟨(hts t ht).1.mono (by omega),(hts t ht).2⟩
def Q0a (ts:List T3)(y:Int):D->D
 | .int x=>J5m (Y8 ts x y ts.length)
 | _=>.non
def V1p (ts:List T3)(w:Nat):D->List D
 | .int y=>(Y3 0 w).map (Q0a ts y)
 | _=>[]
def HV (ts:List T3)(w h:Nat):List (List D):=(Y3 0 h).map (V1p ts w)
theorem ON {n:Nat}{d:D}(h:d∈Y3 0 n):∃ i:Nat,i<n/\d=.int i:=by
 unfold Y3 at h
 obtain ⟨i,hi,rfl⟩:=M3.mp h
 exact ⟨i,E2.mp hi,by simp⟩
theorem RZ (n:Nat):(Y3 0 n).length=n:=by unfold Y3;simp
def isN (d:D):Prop:=d=.non\/∃ i,d=.int i
theorem J2t (o:Option (Nat×Int×Int)):isN (J5m o):=by
 rcases o with _|⟨a,b,e⟩
 · exact .inl rfl
 · exact .inr ⟨_,rfl⟩
theorem isN.noL {d:D}(h:isN d):noL d=true:=by rcases h with rfl|⟨i,rfl⟩<;>rfl
theorem isN.fine {d:D}(h:isN d)(n:Nat):BG n d=true:=by rcases h with rfl|⟨i,rfl⟩<;>cases n<;>rfl
theorem J6g {ts:List T3}{w h:Nat}:(HV ts w h).length=h/\∀ r∈HV ts w h,r.length=w/\∀ d∈r,isN d:=by
 refine ⟨by unfold HV;rw [B9,RZ],fun r hr=>?_⟩
 obtain ⟨d,hd,rfl⟩:=M3.mp hr
 obtain ⟨y,hy,rfl⟩:=ON hd
 refine ⟨by show ((Y3 0 w).map (Q0a ts y)).length=w;rw [B9,RZ],fun d hd=>?_⟩
 obtain ⟨x,hx,rfl⟩:=M3.mp hd
 obtain ⟨x,hx,rfl⟩:=ON hx
 exact J2t _
abbrev HP:Stmt:=top 61
abbrev J2k:List Str:=["_law_face_here"]
theorem BJ:FnScope ["_law_face_here","_law_a","_law_b","_law_c"] J2k (J7 HP):=⟨rfl,rfl,rfl,by decide +kernel,rfl,by decide +kernel,by decide +kernel⟩
noncomputable def J2d:DSp:=fun ds P _=>∃ t:T3,ds=[t.d]/\t.ok 100/\P (.int (t.aw*t.tn))
theorem UC {f:Addr} (F:Fun K "_law_turn" "_law_turn" HP f fd) (Z:Bi mg) {c:Cs} (Y:Ex K mg base c) (g0:Callee P w K mg base CX0 "_law_lean" 1 J9l (Q3 K BT J0j)):FnOk P w K mg base CX0 2 f fd J2k (Q3 K BT J2d):=by
 refine F.okD BJ (fun ds PP Ed h=>?_) (fun cdv A outer s H E M bg ds PP Ed hr hS_=>?_)
 · obtain ⟨t,rfl,ok,hP⟩:=h
   rfl
 · obtain ⟨t,rfl,ok,hP⟩:=hS_
   refine ⟨_,(J4 (BV (BE [1,2,3]) (jdv 0) (PG.or (AO (n:=3) K (by rfl) (by rfl) (J5 (pg_name (i:=1) BJ.nd rfl (by walk_at "o")) (J5 (pg_name (i:=2) BJ.nd rfl (by walk_at "o")) (J5 (pg_name (i:=3) BJ.nd rfl (by walk_at "o")) Y1)))) (AQ (n:=3) K (by rfl) (by rfl) (J5 (pg_name (i:=1) BJ.nd rfl (by walk_at "o")) (J5 (pg_name (i:=2) BJ.nd rfl (by walk_at "o")) (J5 (pg_name (i:=3) BJ.nd rfl (by walk_at "o")) Y1))))))
    (Q0 (V6 (Q4 g0 hr.m rfl (J0 (jdv 1) (J0 (jdv 2) (J0 (V3 (J0 (J8 (J9 K (by rfl)) Q5 (jdv 3) J1 (fun _ _=>rfl)) (J0 (J8 (J9 K (by rfl)) Q5 (jdv 3) J1 (fun _ _=>rfl)) (J0 (J8 (J9 K (by rfl)) Q5 (jdv 3) J1 (fun _ _=>rfl)) J3)))) J3))))))),?_⟩
   walk_at "g"
   exact ⟨_,_,_,_,_,_,_,_,_,_,_,rfl,⟨ok.ax.mono (by decide),ok.ay.mono (by decide),ok.aw.mono (by decide)⟩,⟨ok.bx.mono (by decide),ok.b_y.mono (by decide),ok.bw.mono (by decide)⟩,⟨ok.cx.mono (by decide),ok.cy.mono (by decide),ok.cw.mono (by decide)⟩,hP⟩
abbrev FH:Stmt:=top 62
abbrev Q8h:List Str:=["_law_face_here","_law_found","_law_j","_law_p","_law_q","_law_r","_law_whole_here"]
theorem AA:FnScope Q8h J2k (J7 FH):=⟨rfl,rfl,rfl,by decide +kernel,rfl,by decide +kernel,by decide +kernel⟩
noncomputable def J2e:DSp:=fun ds P _=>∃ t:T3,ds=[t.d]/\t.ok 100/\P (.lst [.int (det t.ay t.az t.aw t.b_y t.bz t.bw t.cy t.cz t.cw*(-1)),.int (det t.ax t.az t.aw t.bx t.bz t.bw t.cx t.cz t.cw*1),.int (det t.ax t.ay t.aw t.bx t.b_y t.bw t.cx t.cy t.cw*(-1)),.int (det t.ax t.ay t.az t.bx t.b_y t.bz t.cx t.cy t.cz*1)])
abbrev xc7 (P:Program) (w:World) (K:Fg) (mg:Str → Option Value) (base:Heap) (f:Addr) (cdv:Value) (A:Around) (outer:List Env) (s:Shared) (H:Hp) (E:XK):Cx:=BW CX0 P w K mg base Q8h "_law_flat" (J7 FH) f cdv A outer s H E
abbrev YL:List Str:=["_law_corner","_law_j"]
abbrev J9k:List Str:=["_law_k","_law_corner","_law_j"]
theorem UG {f:Addr} (F:Fun K "_law_flat" "_law_flat" FH f fd) (Z:Bi mg) {c:Cs} (Y:Ex K mg base c):FnOk P w K mg base CX0 1 f fd J2k (Q3 K BT J2e):=by
 refine F.okD AA (fun ds PP Ed h=>?_) (fun cdv A outer s H E M bg ds PP Ed hr hS_=>?_)
 · obtain ⟨t,rfl,ok,hP⟩:=h
   rfl
 · obtain ⟨t,rfl,ok,hP⟩:=hS_
   refine ⟨_,(J4 (LC (i:=1) AA.nd rfl (by walk_at "o") J3)
    (J4 (BU (Y2 2) U8 rfl (BM rfl Z.range_ (J0 J1 J3)) (pg_name (i:=2) AA.nd rfl (by walk_at "o")) (J4 (BV (BE [3,4,5]) (AS (X:=(xc7 P w K mg base f cdv A outer s H E).nox) (Y2 0) (HL (X:=(xc7 P w K mg base f cdv A outer s H E).nox) (N':=YL) (map:=[none,some 2]) (by rfl) (by rfl) (by decide +kernel) (by rfl) ⟨⟨rfl,rfl,rfl,by walk_at "o"⟩,True.intro⟩ (gkeep_name rfl) fun cl0 C0 fp0 s0 H0=>⟨(pg_name (X:=(Q7 (xc7 P w K mg base f cdv A outer s H E).nox YL _ cl0 C0 fp0 s0 H0)) (i:=0) (Z4 YL (by decide +kernel)) rfl (by walk_at "o")),Z9,(AS (X:=(Q7 (xc7 P w K mg base f cdv A outer s H E).nox YL _ cl0 C0 fp0 s0 H0)) (Y2 0) (HL (X:=(Q7 (xc7 P w K mg base f cdv A outer s H E).nox YL _ cl0 C0 fp0 s0 H0)) (N':=J9k) (map:=[none,some 0,some 1]) (by rfl) (by rfl) (by decide +kernel) (by rfl) ⟨⟨rfl,rfl,rfl,by walk_at "o"⟩,⟨⟨rfl,rfl,rfl,by walk_at "o"⟩,True.intro⟩⟩ (gkeep_name rfl) fun cl1 C1 fp1 s1 H1=>⟨(pg_name (X:=(Q7 (Q7 (xc7 P w K mg base f cdv A outer s H E).nox YL _ cl0 C0 fp0 s0 H0) J9k _ cl1 C1 fp1 s1 H1)) (i:=0) (Z4 J9k (by decide +kernel)) rfl (by walk_at "o")),(PU (Z6 J1d ZJ (jdv 0) (jdv 2) (Y5 _))),(J8 (X:=(Q7 (Q7 (xc7 P w K mg base f cdv A outer s H E).nox YL _ cl0 C0 fp0 s0 H0) J9k _ cl1 C1 fp1 s1 H1)) (J9 K (by rfl)) Q5 (jdv 1) (jdv 0) (fun _ _=>rfl))⟩) (BM rfl Z.range_ (J0 J1 J3)))⟩) (AR (by rfl) (jdv 0))) (PG.or (AO (n:=3) K (by rfl) (by rfl) (J5 (pg_name (i:=3) AA.nd rfl (by walk_at "o")) (J5 (pg_name (i:=4) AA.nd rfl (by walk_at "o")) (J5 (pg_name (i:=5) AA.nd rfl (by walk_at "o")) Y1)))) (AQ (n:=3) K (by rfl) (by rfl) (J5 (pg_name (i:=3) AA.nd rfl (by walk_at "o")) (J5 (pg_name (i:=4) AA.nd rfl (by walk_at "o")) (J5 (pg_name (i:=5) AA.nd rfl (by walk_at "o")) Y1))))))
    (J4 (V0 (i:=6) AA.nd rfl (by walk_at "o") (J6 Q9 Y9 (J8 (J9 K (by rfl)) Q5 (jdv 3) J1 (fun _ _=>rfl)) (J6 Y4 V7 (J6 Q9 Y9 (J8 (J9 K (by rfl)) Q5 (jdv 4) J1 (fun _ _=>rfl)) (J8 (J9 K (by rfl)) Q5 (jdv 5) J1 (fun _ _=>rfl))) (J6 Q9 Y9 (J8 (J9 K (by rfl)) Q5 (jdv 4) J1 (fun _ _=>rfl)) (J8 (J9 K (by rfl)) Q5 (jdv 5) J1 (fun _ _=>rfl))))))
    (J4 (V0 (i:=6) AA.nd rfl (by walk_at "o") (J6 Y4 V7 (jdv 6) (J6 Q9 Y9 (J8 (J9 K (by rfl)) Q5 (jdv 3) J1 (fun _ _=>rfl)) (J6 Y4 V7 (J6 Q9 Y9 (J8 (J9 K (by rfl)) Q5 (jdv 4) J1 (fun _ _=>rfl)) (J8 (J9 K (by rfl)) Q5 (jdv 5) J1 (fun _ _=>rfl))) (J6 Q9 Y9 (J8 (J9 K (by rfl)) Q5 (jdv 4) J1 (fun _ _=>rfl)) (J8 (J9 K (by rfl)) Q5 (jdv 5) J1 (fun _ _=>rfl)))))))
    (J4 (V0 (i:=6) AA.nd rfl (by walk_at "o") (J6 Y7 V7 (jdv 6) (J6 Q9 Y9 (J8 (J9 K (by rfl)) Q5 (jdv 3) J1 (fun _ _=>rfl)) (J6 Y4 V7 (J6 Q9 Y9 (J8 (J9 K (by rfl)) Q5 (jdv 4) J1 (fun _ _=>rfl)) (J8 (J9 K (by rfl)) Q5 (jdv 5) J1 (fun _ _=>rfl))) (J6 Q9 Y9 (J8 (J9 K (by rfl)) Q5 (jdv 4) J1 (fun _ _=>rfl)) (J8 (J9 K (by rfl)) Q5 (jdv 5) J1 (fun _ _=>rfl)))))))
    (Q0 (JX (i:=1) (by rfl) rfl (by walk_at "v") (J0 (J6 Q9 Y9 (jdv 6) (J6 Y4 V7 (J6 Q9 Y9 J1 (J6 EZ Y9 (jdv 2) J1)) J1)) J3) (WO B1b B1r B1q IJ (pv 1) (JA.h (J0 (J6 Q9 Y9 (jdv 6) (J6 Y4 V7 (J6 Q9 Y9 J1 (J6 EZ Y9 (jdv 2) J1)) J1)) J3))))))))))
    (Q0 (V6 (jdv 1))))),?_⟩
   obtain ⟨p0,p1,p2,p3,q0,q1,q2,q3,r0,r1,r2,r3⟩:=ok
   unfold det at hP
   walk_at "g"
   walk_at "gr"
   repeat (walk_at "gc")
   exact hP
theorem J7o (t:T3)(px py:Int):0 - det t.ay t.az t.aw t.b_y t.bz t.bw t.cy t.cz t.cw*(-1)*px - det t.ax t.az t.aw t.bx t.bz t.bw t.cx t.cz t.cw*1*py - det t.ax t.ay t.az t.bx t.b_y t.bz t.cx t.cy t.cz*1 = - t.top px py:=by
 unfold T3.top T3.wA T3.wB T3.wC det
 grind
abbrev GL:Stmt:=top 63
theorem FP:FnScope ["_law_face_here","_law_dot","_law_m","_law_top"] TH (J7 GL):=⟨rfl,rfl,rfl,by decide +kernel,rfl,by decide +kernel,by decide +kernel⟩
noncomputable def YF:DSp:=fun ds P _=>∃ (t:T3) (px py:Int),ds=[t.d,t2 px py]/\t.ok 100/\Bd 100 px/\Bd 100 py/\(t.tn≠0->P (t2 (t.top px py*sgn t.tn) (AK t.tn)))/\t.tn≠0
theorem RH {f:Addr} (F:Fun K "_law_depth" "_law_depth" GL f fd) (Z:Bi mg) {c:Cs} (Y:Ex K mg base c) (g0:Callee P w K mg base CX0 "_law_flat" 1 J2k (Q3 K BT J2e)):FnOk P w K mg base CX0 2 f fd TH (Q3 K BT YF):=by
 refine F.okD FP (fun ds PP Ed h=>?_) (fun cdv A outer s H E M bg ds PP Ed hr hS_=>?_)
 · obtain ⟨t,px,py,rfl,ok,hx,hy,hP,hz⟩:=h
   rfl
 · obtain ⟨t,px,py,rfl,ok,hx,hy,hP,hz⟩:=hS_
   refine ⟨_,(J4 (V0 (i:=2) FP.nd rfl (by walk_at "o") (Q4 g0 hr.m rfl (J0 (jdv 0) J3)))
    (J4 (V0 (i:=3) FP.nd rfl (by walk_at "o") (J6 Y4 V7 (J6 Y4 V7 (J6 Y4 V7 J1 (J6 Q9 Y9 (J8 (J9 K (by rfl)) Q5 (jdv 2) J1 (fun _ _=>rfl)) (J8 (J9 K (by rfl)) Q5 (jdv 1) J1 (fun _ _=>rfl)))) (J6 Q9 Y9 (J8 (J9 K (by rfl)) Q5 (jdv 2) J1 (fun _ _=>rfl)) (J8 (J9 K (by rfl)) Q5 (jdv 1) J1 (fun _ _=>rfl)))) (J8 (J9 K (by rfl)) Q5 (jdv 2) J1 (fun _ _=>rfl))))
    (J4 (AJ (Z6 MX IU (J8 (J9 K (by rfl)) Q5 (jdv 2) J1 (fun _ _=>rfl)) J1 (Y5 _)) (Q0 (V6 (V3 (J0 (J6 Y4 V7 J1 (jdv 3)) (J0 (J6 Y4 V7 J1 (J8 (J9 K (by rfl)) Q5 (jdv 2) J1 (fun _ _=>rfl))) J3))))) Y6)
    (Q0 (V6 (V3 (J0 (jdv 3) (J0 (J8 (J9 K (by rfl)) Q5 (jdv 2) J1 (fun _ _=>rfl)) J3)))))))),?_⟩
   replace hP:=hP hz
   have D0:Bd 400 (det t.ay t.az t.aw t.b_y t.bz t.bw t.cy t.cz t.cw*(-1)):=(Bd.mul (MI ok.ay ok.az ok.aw ok.b_y ok.bz ok.bw ok.cy ok.cz ok.cw) (Bd.of (by decide) (by decide):Bd 3 (-1))).mono (by decide)
   have D1:Bd 400 (det t.ax t.az t.aw t.bx t.bz t.bw t.cx t.cz t.cw*1):=(Bd.mul (MI ok.ax ok.az ok.aw ok.bx ok.bz ok.bw ok.cx ok.cz ok.cw) (Bd.of (by decide) (by decide):Bd 3 1)).mono (by decide)
   have eid:=J7o t px py
   walk_at "g"
   refine ⟨t,rfl,ok,?_⟩
   walk_at "g"
   have et:det t.ax t.ay t.aw t.bx t.b_y t.bw t.cx t.cy t.cw=t.tn:=rfl
   walk_at "sp"
   · rename_i h
     have h1:t.tn*(-1)<0:=h
     walk_at "g"
     rw [eid]
     have e1:sgn t.tn=1:=by unfold sgn;rw [if_pos (by omega)]
     have e2:AK t.tn=t.tn:=by unfold AK;rw [if_neg (by omega)]
     rw [e1,e2] at hP
     have e3:(0:Int) - -t.top px py=t.top px py*1:=by omega
     have e4:(0:Int) - det t.ax t.ay t.aw t.bx t.b_y t.bw t.cx t.cy t.cw*(-1)=t.tn:=by rw [et];omega
     rw [e3,e4]
     exact hP
   · rename_i h
     have h1:¬ t.tn*(-1)<0:=h
     walk_at "g"
     rw [eid]
     have e1:sgn t.tn = -1:=by unfold sgn;rw [if_neg (by omega),if_pos (by omega)]
     have e2:AK t.tn = -t.tn:=by unfold AK;rw [if_pos (by omega)]
     rw [e1,e2] at hP
     have e3 : -t.top px py=t.top px py*(-1):=by omega
     have e4:det t.ax t.ay t.aw t.bx t.b_y t.bw t.cx t.cy t.cw*(-1) = -t.tn:=by rw [et];omega
     rw [e3,e4]
     exact hP
abbrev CZ:Stmt:=top 68
theorem CO:FnScope ["_law_board","_law_edge","_law_found","_law_left","_law_top"] ["_law_board","_law_edge"] (J7 CZ):=⟨rfl,rfl,rfl,by decide +kernel,rfl,by decide +kernel,by decide +kernel⟩
noncomputable def J8x:DSp:=fun ds P _=>∃ (w h:Nat) (k:Int),ds=[t2 w h,.int k]/\(w<=16/\h<=16/\1<=k/\k<=16)/\P (.lst (sqs k w h))
abbrev xc8 (P:Program) (w:World) (K:Fg) (mg:Str → Option Value) (base:Heap) (f:Addr) (cdv:Value) (A:Around) (outer:List Env) (s:Shared) (H:Hp) (E:XK):Cx:=BW CX0 P w K mg base ["_law_board","_law_edge","_law_found","_law_left","_law_top"] "_law_squares" (J7 CZ) f cdv A outer s H E
theorem NK {f:Addr} (F:Fun K "_law_squares" "_law_squares" CZ f fd) (Z:Bi mg) {c:Cs} (Y:Ex K mg base c):FnOk P w K mg base CX0 1 f fd ["_law_board","_law_edge"] (Q3 K BT J8x):=by
 refine F.okD CO (fun ds PP Ed h=>?_) (fun cdv A outer s H E M bg ds PP Ed hr hS_=>?_)
 · obtain ⟨wd,hg,k,rfl,⟨h2,h4,h5,h6⟩,hP⟩:=h
   rfl
 · obtain ⟨wd,hg,k,rfl,⟨h2,h4,h5,h6⟩,hP⟩:=hS_
   refine ⟨_,(J4 (LC (i:=2) CO.nd rfl (by walk_at "o") J3)
    (J4 (BU (Y2 3) U8 rfl (AR (by rfl) (AS (X:=(xc8 P w K mg base f cdv A outer s H E).nox) (Y2 0) (HL (X:=(xc8 P w K mg base f cdv A outer s H E).nox) (N':=["_law_x","_law_edge"]) (map:=[none,some 1]) (by rfl) (by rfl) (by decide +kernel) (by rfl) ⟨⟨rfl,rfl,rfl,by walk_at "o"⟩,True.intro⟩ (gkeep_name rfl) fun cl0 C0 fp0 s0 H0=>⟨(pg_name (X:=(Q7 (xc8 P w K mg base f cdv A outer s H E).nox ["_law_x","_law_edge"] _ cl0 C0 fp0 s0 H0)) (i:=0) (Z4 ["_law_x","_law_edge"] (by decide +kernel)) rfl (by walk_at "o")),(PU (Z6 DD BR (J6 EZ Y9 (jdv 0) (jdv 1)) J1 (Y5 _))),(jdv (X:=(Q7 (xc8 P w K mg base f cdv A outer s H E).nox ["_law_x","_law_edge"] _ cl0 C0 fp0 s0 H0)) 0)⟩) (BM rfl Z.range_ (J0 (J8 (J9 K (by rfl)) Q5 (jdv 0) J1 (fun _ _=>rfl)) J3)))) (pg_name (i:=3) CO.nd rfl (by walk_at "o")) (Q0 (BU (Y2 4) U8 rfl (AR (by rfl) (AS (X:=(xc8 P w K mg base f cdv A outer s H E).nox) (Y2 0) (HL (X:=(xc8 P w K mg base f cdv A outer s H E).nox) (N':=["_law_y","_law_edge"]) (map:=[none,some 1]) (by rfl) (by rfl) (by decide +kernel) (by rfl) ⟨⟨rfl,rfl,rfl,by walk_at "o"⟩,True.intro⟩ (gkeep_name rfl) fun cl0 C0 fp0 s0 H0=>⟨(pg_name (X:=(Q7 (xc8 P w K mg base f cdv A outer s H E).nox ["_law_y","_law_edge"] _ cl0 C0 fp0 s0 H0)) (i:=0) (Z4 ["_law_y","_law_edge"] (by decide +kernel)) rfl (by walk_at "o")),(PU (Z6 DD BR (J6 EZ Y9 (jdv 0) (jdv 1)) J1 (Y5 _))),(jdv (X:=(Q7 (xc8 P w K mg base f cdv A outer s H E).nox ["_law_y","_law_edge"] _ cl0 C0 fp0 s0 H0)) 0)⟩) (BM rfl Z.range_ (J0 (J8 (J9 K (by rfl)) Q5 (jdv 0) J1 (fun _ _=>rfl)) J3)))) (pg_name (i:=4) CO.nd rfl (by walk_at "o")) (Q0 (JX (i:=2) (by rfl) rfl (by walk_at "v") (J0 (V3 (J0 (jdv 3) (J0 (jdv 4) (J0 (V2 (CV (by rfl)) NE rfl Z.min_ HC (J0 (jdv 1) (J0 (J6 Y4 V7 (J8 (J9 K (by rfl)) Q5 (jdv 0) J1 (fun _ _=>rfl)) (jdv 3)) J3))) (J0 (V2 (CV (by rfl)) NE rfl Z.min_ HC (J0 (jdv 1) (J0 (J6 Y4 V7 (J8 (J9 K (by rfl)) Q5 (jdv 0) J1 (fun _ _=>rfl)) (jdv 4)) J3))) J3))))) J3) (WO B1b B1r B1q IJ (pv 2) (JA.h (J0 (V3 (J0 (jdv 3) (J0 (jdv 4) (J0 (V2 (CV (by rfl)) NE rfl Z.min_ HC (J0 (jdv 1) (J0 (J6 Y4 V7 (J8 (J9 K (by rfl)) Q5 (jdv 0) J1 (fun _ _=>rfl)) (jdv 3)) J3))) (J0 (V2 (CV (by rfl)) NE rfl Z.min_ HC (J0 (jdv 1) (J0 (J6 Y4 V7 (J8 (J9 K (by rfl)) Q5 (jdv 0) J1 (fun _ _=>rfl)) (jdv 4)) J3))) J3))))) J3))))))))
    (Q0 (V6 (jdv 2))))),?_⟩
   have mw:=IH k wd
   have mh:=IH k hg
   have bk:Bd 6 k:=Bd.of (by omega) (by omega)
   have lenB:∀ i:Nat,i<=wd->(((Z5 k wd).take i).flatMap fun x=>(Z5 k hg).map fun y=>sq1 k wd hg x y).length<=16*i:=fun i _=>by
    rw [List.length_flatMap]
    have e:((Z5 k wd).take i).map (fun x=>((Z5 k hg).map fun y=>sq1 k wd hg x y).length)=((Z5 k wd).take i).map fun _=>(Z5 k hg).length:=by simp
    rw [e]
    have:((Z5 k wd).take i).length<=i:=by simp [B2k];omega
    generalize (Z5 k wd).take i=l at *
    have q:∀ l:List Int,(l.map fun _=>(Z5 k hg).length).sum<=16*l.length:=fun l=>by
     induction l with
     | nil=>simp
     | cons a l ih=>simp only [T4,List.sum_cons,B1c];omega
    have:=q l
    omega
   have hk:0<k:=by omega
   walk_at "g"
   refine And.intro ⟨by omega,by omega⟩ ?_
   refine And.intro (by rw [rangeD_len];omega) ?_
   refine ⟨fun i acc=>acc=(Z5 k i).map D.int,rfl,?_,?_⟩
   · rintro i x acc e rfl
     obtain ⟨rfl,hi⟩:=DP e
     clear e
     rw [B2e,JU,U3]
     walk_at "g"
     refine And.intro hk ?_
     by_cases z:(i:Int) % k=0
     · refine IfP.t (by simp [z]) ?_
       rw [if_pos z]
       walk_at "g"
       rfl
     · refine IfP.f (by simp [z]) ?_
       rw [if_neg z,B2c,D5]
   · rintro acc rfl
     rw [rangeD_len,W8]
     walk_at "g"
     refine ⟨fun i ρ=>∃ v3 v4,ρ=[some (t2 wd hg),some (.int k),some (.own (((Z5 k wd).take i).flatMap fun x=>(Z5 k hg).map fun y=>sq1 k wd hg x y)),v3,v4],⟨_,_,rfl⟩,?_,?_⟩
     · rintro i x ρ e ⟨v3,v4,rfl⟩
       obtain ⟨x,ex,rfl,x0,x1⟩:=II e
       clear e
       have hi:i<(Z5 k wd).length:=(B7.mp ex).1
       have lb:=lenB i (by omega)
       walk_at "g"
       refine And.intro ⟨by omega,by omega⟩ ?_
       refine And.intro (by rw [rangeD_len];omega) ?_
       refine ⟨fun i acc=>acc=(Z5 k i).map D.int,rfl,?_,?_⟩
       · rintro i x acc e rfl
         obtain ⟨rfl,hi⟩:=DP e
         clear e
         rw [B2e,JU,U3]
         walk_at "g"
         refine And.intro hk ?_
         by_cases z:(i:Int) % k=0
         · refine IfP.t (by simp [z]) ?_
           rw [if_pos z]
           walk_at "g"
           rfl
         · refine IfP.f (by simp [z]) ?_
           rw [if_neg z,B2c,D5]
       · rintro acc rfl
         rw [rangeD_len,W8]
         generalize hA:((Z5 k wd).take i).flatMap (fun x=>(Z5 k hg).map fun y=>sq1 k wd hg x y)=A0 at *
         walk_at "g"
         refine ⟨fun j ρ=>∃ v4,ρ=[some (t2 wd hg),some (.int k),some (.own (A0++((Z5 k hg).take j).map fun y=>sq1 k wd hg x y)),some (.int x),v4],⟨_,by simp;rfl⟩,?_,?_⟩
         · rintro j y ρ e ⟨v4,rfl⟩
           obtain ⟨y,ey,rfl,y0,y1⟩:=II e
           clear e
           have hj:j<(Z5 k hg).length:=(B7.mp ey).1
           walk_at "g"
           refine And.intro (by simp [L2.plain];omega) ?_
           walk_at "nz"
           rw [W7,ey,E9,U3,<- B3a]
           exact ⟨_,rfl⟩
         · rintro ρ ⟨v4,rfl⟩
           rw [B9,E4,W7,ex,E9,B2s,hA]
           refine ⟨some (.int x),v4,?_⟩
           simp
     · rintro ρ ⟨v3,v4,rfl⟩
       rw [B9,E4]
       walk_at "g"
       exact hP
structure Sq where
 l:Nat
 t:Nat
 w:Nat
 h:Nat
abbrev Sq.d (q:Sq):D:=sp4 q.l q.t q.w q.h
def Sq.in (q:Sq)(x y:Int):Prop:=(q.l:Int)<=x/\x<q.l+q.w/\(q.t:Int)<=y/\y<q.t+q.h
instance (q:Sq) (x y:Int):Decidable (q.in x y):=inferInstanceAs (Decidable (_/\_/\_/\_))
def Sq.dots (q:Sq):List (Int×Int):=(List.range q.w).flatMap fun (i:Nat)=>(List.range q.h).map fun (j:Nat)=>((q.l:Int)+(i:Int),(q.t:Int)+(j:Int))
theorem Sq.mem_dots {q:Sq}{x y:Int}:(x,y)∈q.dots↔q.in x y:=by
 unfold Sq.dots Sq.in
 rw [D6]
 constructor
 · rintro ⟨i,hi,h⟩
   obtain ⟨j,hj,e⟩:=M3.mp h
   have hi:=E2.mp hi
   have hj:=E2.mp hj
   injection e with e1 e2
   omega
 · rintro ⟨h1,h2,h3,h4⟩
   exact ⟨(x - q.l).toNat,E2.mpr (by omega),M3.mpr ⟨(y - q.t).toNat,E2.mpr (by omega),Prod.ext (show (q.l:Int)+((x - q.l).toNat:Int)=x by omega) (show (q.t:Int)+((y - q.t).toNat:Int)=y by omega)⟩⟩
theorem QD {α β:Type}(f:α->List β)(n:Nat):∀ l:List α,(∀ a∈l,(f a).length=n)->(l.flatMap f).length=l.length*n
 | [],_=>by simp
 | a::l,h=>by
   rw [B2z,B0d,h a (B8 ..),QD f n l fun b hb=>h b (B5 _ hb),B1c,Nat.succ_mul]
   omega
theorem Sq.dots_len (q:Sq):q.dots.length=q.w*q.h:=by
 unfold Sq.dots
 rw [QD _ q.h _ fun a _=>by simp]
 simp
theorem Sq.dots_nodup (q:Sq):q.dots.Nodup:=by
 unfold Sq.dots
 have key:∀ l:List Nat,l.Nodup->(l.flatMap fun (i:Nat)=>(List.range q.h).map fun (j:Nat)=>((q.l:Int)+(i:Int),(q.t:Int)+(j:Int))).Nodup:=by
  intro l
  induction l with
  | nil=>intro _;exact B0t
  | cons a l ih =>
    intro nd
    rw [R7] at nd
    rw [B2z]
    refine List.nodup_append.mpr ⟨?_,ih nd.2,fun x hx y hy e=>?_⟩
    · have:∀ m:List Nat,m.Nodup->(m.map fun j:Nat=>((q.l:Int)+(a:Int),(q.t:Int)+(j:Int))).Nodup:=by
       intro m
       induction m with
       | nil=>intro _;exact B0t
       | cons b m ih2 =>
         intro nm
         rw [R7] at nm
         rw [T4,R7]
         refine ⟨fun z=>nm.1 ?_,ih2 nm.2⟩
         obtain ⟨c,hc,e⟩:=M3.mp z
         injection e with _ e2
         have:c=b:=by omega
         rw [<- this];exact hc
      exact this _ List.nodup_range
    · obtain ⟨j,_,rfl⟩:=M3.mp hx
      obtain ⟨i2,hi2,hy⟩:=D6.mp hy
      obtain ⟨j2,_,rfl⟩:=M3.mp hy
      injection e with e1 _
      have:i2=a:=by omega
      exact nd.1 (by rw [<- this];exact hi2)
 exact key _ List.nodup_range
theorem CG {α:Type}[DecidableEq α]:∀ {l1 l2:List α},l1.Nodup->(∀ x∈l1,x∈l2)->l1.length<=l2.length
 | [],_,_,_=>D2 _
 | a::l1,l2,nd,h=>by
   rw [R7] at nd
   have m:=h a (B8 ..)
   have ih:=CG (l1:=l1) (l2:=l2.erase a) nd.2 fun x hx=>(List.mem_erase_of_ne (fun z=>nd.1 (by rw [<- z];exact hx))).mpr (h x (B5 _ hx))
   rw [List.length_erase_of_mem m] at ih
   have:=List.length_pos_of_mem m
   rw [B1c]
   omega
abbrev Sn:=Option (Nat×Int×Int)
def dpD:Sn->Option D:=Option.map fun z=>t2 z.2.1 z.2.2
structure DpOk (q:Sq)(st:Int->Int->Sn)(ks:List (List Int))(xs:List D):Prop where
 len:ks.length=xs.length
 nd:ks.Nodup
 inn:∀ k∈ks,∃ x y,k=[x,y]/\q.in x y
 at':∀ x y,q.in x y->AL ks xs [x,y]=dpD (st x y)
 bd:∀ x y,q.in x y->V1b (st x y)
 pb:∀ x y i a b,q.in x y->st x y=some (i,a,b)->0<b
theorem XL {k:List Int}{d:D}:∀ {ks:List (List Int)} {xs:List D} {j:Nat},ks.Nodup->ks[j]?=some k->xs[j]?=some d->AL ks xs k=some d
 | [],_,_,_,e,_=>by simp at e
 | _::_,[],_,_,_,e=>by simp at e
 | k0::ks,x::xs,0,nd,e1,e2=>by
   simp at e1 e2
   unfold AL
   rw [if_pos e1,e2]
 | k0::ks,x::xs,j+1,nd,e1,e2=>by
   simp at e1 e2
   rw [R7] at nd
   unfold AL
   rw [if_neg (fun z=>nd.1 (by rw [z];exact L4 e1))]
   exact XL nd.2 e1 e2
theorem FY {k:List Int}{d:D}:∀ {ks:List (List Int)} {xs:List D},AL ks xs k=some d->d∈xs/\k∈ks
 | [],_,h=>by unfold AL at h;cases h
 | _::_,[],h=>by unfold AL at h;cases h
 | k0::ks,x::xs,h=>by
   unfold AL at h
   by_cases e:k0=k
   · rw [if_pos e] at h
     cases h
     exact ⟨B8 ..,by rw [e];exact B8 ..⟩
   · rw [if_neg e] at h
     obtain ⟨h1,h2⟩:=FY h
     exact ⟨B5 _ h1,B5 _ h2⟩
section
variable {q:Sq}{st:Int->Int->Sn}{ks:List (List Int)}{xs:List D}
theorem DpOk.val (h:DpOk q st ks xs){d:D}(m:d∈xs):∃ x y i a b,q.in x y/\st x y=some (i,a,b)/\d=t2 a b/\Bd 500 a/\Bd 500 b:=by
 obtain ⟨j,ej⟩:=D3 m
 have hj:=(B7.mp ej).1
 have ek:ks[j]?=some (ks[j]'(by rw [h.len];exact hj)):=M5 _
 obtain ⟨x,y,e,hin⟩:=h.inn _ (L4 ek)
 have f:=XL h.nd ek ej
 rw [e,h.at' x y hin] at f
 have ok:=h.bd x y hin
 cases es:st x y with
 | none=>rw [es] at f;cases f
 | some z =>
   obtain ⟨i,a,b⟩:=z
   rw [es] at f ok
   exact ⟨x,y,i,a,b,hin,es,(Option.some.inj f).symm,ok.1,ok.2⟩
theorem DpOk.has (h:DpOk q st ks xs){x y:Int}{i:Nat}{a b:Int}(hin:q.in x y)(e:st x y=some (i,a,b)):t2 a b∈xs:=by
 have f:=h.at' x y hin
 rw [e] at f
 exact (FY f).1
theorem DpOk.all (h:DpOk q st ks xs):(∀ x y,q.in x y->∃ z,st x y=some z)↔¬ (ks.length<q.w*q.h):=by
 have mem:∀ x y,q.in x y->([x,y]∈ks↔∃ z,st x y=some z):=fun x y hin=>by
  have f:=h.at' x y hin
  constructor
  · intro m
    obtain ⟨d,e⟩:=HB h.len m
    rw [e] at f
    cases es:st x y with
    | none=>rw [es] at f;cases f
    | some z=>exact ⟨z,rfl⟩
  · rintro ⟨z,e⟩
    rw [e] at f
    exact (FY f).2
 have tok:∀ k∈ks,k∈q.dots.map fun p=>[p.1,p.2]:=fun k m=>by
  obtain ⟨x,y,rfl,hin⟩:=h.inn k m
  exact M3.mpr ⟨(x,y),Sq.mem_dots.mpr hin,rfl⟩
 have lenm:(q.dots.map fun p=>[p.1,p.2]).length=q.w*q.h:=by rw [B9,Sq.dots_len]
 constructor
 · intro ha
   have nd:(q.dots.map fun p=>[p.1,p.2]).Nodup:=by
    have:∀ l:List (Int×Int),l.Nodup->(l.map fun p=>[p.1,p.2]).Nodup:=by
     intro l
     induction l with
     | nil=>intro _;exact B0t
     | cons a l ih =>
       intro nd
       rw [R7] at nd
       rw [T4,R7]
       refine ⟨fun z=>nd.1 ?_,ih nd.2⟩
       obtain ⟨c,hc,e⟩:=M3.mp z
       have:c=a:=by
        obtain ⟨c1,c2⟩:=c
        obtain ⟨a1,a2⟩:=a
        simp at e
        rw [Prod.mk.injEq];exact e
       rw [<- this];exact hc
    exact this _ q.dots_nodup
   have:=CG nd (l2:=ks) fun k m=>by
    obtain ⟨⟨x,y⟩,hm,rfl⟩:=M3.mp m
    have hin:=Sq.mem_dots.mp hm
    exact (mem x y hin).mpr (ha x y hin)
   omega
 · intro hl x y hin
   by_cases z:[x,y]∈ks
   · exact (mem x y hin).mp z
   · have:=CG (l1:=[x,y]::ks) (l2:=q.dots.map fun p=>[p.1,p.2]) (R7.mpr ⟨z,h.nd⟩) fun k m=>by
      rcases B6.mp m with e|e
      · rw [e];exact M3.mpr ⟨(x,y),Sq.mem_dots.mpr hin,rfl⟩
      · exact tok k e
     rw [B1c] at this
     omega
theorem DpOk.nil (hst:∀ x y,q.in x y->st x y=none):DpOk q st [] []:=⟨rfl,B0t,(fun _ m=>by cases m),fun x y hin=>by rw [hst x y hin];rfl,fun x y hin=>by rw [hst x y hin];trivial,fun x y i a b hin e=>by rw [hst x y hin] at e;cases e⟩
theorem DpOk.congr {st':Int->Int->Sn}(h:DpOk q st ks xs)(e:∀ x y,q.in x y->st' x y=st x y):DpOk q st' ks xs:=⟨h.len,h.nd,h.inn,fun x y hin=>by rw [e x y hin];exact h.at' x y hin,fun x y hin=>by rw [e x y hin];exact h.bd x y hin,fun x y i a b hin q=>h.pb x y i a b hin (by rw [<- e x y hin];exact q)⟩
def IY (st:Int->Int->Sn)(x y:Int)(v:Sn):Int->Int->Sn:=fun x' y'=>if x'=x/\y'=y then v else st x' y'
theorem DM {x y:Int}{v:Sn}:IY st x y v x y=v:=by unfold IY;rw [if_pos ⟨rfl,rfl⟩]
theorem FE {x y x' y':Int}{v:Sn}(h:¬ (x'=x/\y'=y)):IY st x y v x' y'=st x' y':=by unfold IY;rw [if_neg h]
theorem DpOk.put (h:DpOk q st ks xs){x y:Int}{i:Nat}{a b:Int}(hin:q.in x y)(ok:Bd 500 a/\Bd 500 b)(b0:0<b):DpOk q (IY st x y (some (i,a,b))) (EM ks xs [x,y] (t2 a b)).1 (EM ks xs [x,y] (t2 a b)).2 where
 len:=WK _ _ h.len
 nd:=OO h.nd
 inn:=fun k m=>by
  rw [LV] at m
  split at m
  · exact h.inn k m
  · rcases U7.mp m with z|z
    · exact h.inn k z
    · rw [M6.mp z];exact ⟨x,y,rfl,hin⟩
 at':=fun x' y' hin'=>by
  rw [SA _ _ h.len]
  by_cases z:x'=x/\y'=y
  · obtain ⟨rfl,rfl⟩:=z
    rw [if_pos rfl,DM];rfl
  · rw [if_neg (fun e=>z (by simp at e;exact ⟨e.1.symm,e.2.symm⟩)),FE z]
    exact h.at' x' y' hin'
 bd:=fun x' y' hin'=>by
  by_cases z:x'=x/\y'=y
  · obtain ⟨rfl,rfl⟩:=z
    rw [DM];exact ok
  · rw [FE z];exact h.bd x' y' hin'
 pb:=fun x' y' i' a' b' hin' e=>by
  by_cases z:x'=x/\y'=y
  · obtain ⟨rfl,rfl⟩:=z
    rw [DM] at e;cases e;exact b0
  · rw [FE z] at e;exact h.pb x' y' i' a' b' hin' e
end
def DL (q:Sq)(st:Int->Int->Sn)(x y:Nat)(d:D):D:=if q.in x y then (match st x y with|some (k,_,_)=>.int k|none=>d) else d
def AI (q:Sq)(st:Int->Int->Sn)(rows:List (List D)):List (List D):=rows.mapIdx fun y row=>row.mapIdx fun x d=>DL q st x y d
section
variable {q:Sq}{st st':Int->Int->Sn}{rows:List (List D)}
theorem JM:(AI q st rows).length=rows.length:=by unfold AI;simp
theorem LZ {y:Nat}{row:List D}(e:rows[y]?=some row):(AI q st rows)[y]?=some (row.mapIdx fun x d=>DL q st x y d):=by
 unfold AI
 rw [R0,e];rfl
theorem DC (h:∀ x y:Int,q.in x y->st' x y=st x y):AI q st' rows=AI q st rows:=by
 unfold AI
 congr 1
 funext y row
 congr 1
 funext x d
 unfold DL
 by_cases z:q.in x y
 · rw [if_pos z,if_pos z,h _ _ z]
 · rw [if_neg z,if_neg z]
theorem MU (h:∀ x y:Int,q.in x y->st x y=none):AI q st rows=rows:=by
 unfold AI
 apply T5
 intro y
 rw [R0]
 cases rows[y]? with
 | none=>rfl
 | some row =>
   show some _=some _
   congr 1
   apply T5
   intro x
   rw [R0]
   cases row[x]? with
   | none=>rfl
   | some d =>
     show some _=some _
     congr 1
     show DL q st x y d=d
     unfold DL
     by_cases z:q.in x y
     · rw [if_pos z,h _ _ z]
     · rw [if_neg z]
theorem OT {x y:Nat}{row:List D}{n:Nat}{a b:Int}(hin:q.in x y)(e:rows[y]?=some row):(AI q st rows).set y ((row.mapIdx fun x d=>DL q st x y d).set x (.int n))=AI q (IY st x y (some (n,a,b))) rows:=by
 apply T5
 intro y'
 by_cases z:y=y'
 · subst z
   have hy:y<(AI q st rows).length:=by rw [JM];exact (B7.mp e).1
   rw [R6,if_pos rfl,if_pos hy,LZ e]
   congr 1
   apply T5
   intro x'
   rw [R0]
   by_cases z2:x=x'
   · subst z2
     rw [R6,if_pos rfl,B2u]
     cases er:row[x]? with
     | none =>
       rw [if_neg (by have:=B2x.mp er;omega)];rfl
     | some d =>
       rw [if_pos (B7.mp er).1]
       show some _=some _
       congr 1
       show D.int n=DL q (IY st x y (some (n,a,b))) x y d
       unfold DL
       rw [if_pos hin,DM]
   · rw [L6 z2,R0]
     cases row[x']? with
     | none=>rfl
     | some d =>
       show some _=some _
       congr 1
       unfold DL
       rw [FE (fun w=>z2 (by omega))]
 · rw [L6 z]
   unfold AI
   rw [R0,R0]
   cases rows[y']? with
   | none=>rfl
   | some row' =>
     show some (row'.mapIdx fun x' d=>DL q st x' y' d)=some (row'.mapIdx fun x' d=>DL q (IY st x y (some (n,a,b))) x' y' d)
     have:(fun (x':Nat) d=>DL q st x' y' d)=fun (x':Nat) d=>DL q (IY st x y (some (n,a,b))) x' y' d:=by
      funext x' d
      unfold DL
      rw [FE (fun w=>z (by omega))]
     rw [this]
end
def CM (q:Sq):List (Int×Int):=[((q.l:Int),(q.t:Int)),((q.l:Int),(q.t:Int)+q.h - 1),((q.l:Int)+q.w - 1,(q.t:Int)),((q.l:Int)+q.w - 1,(q.t:Int)+q.h - 1)]
def IT (t:T3)(q:Sq)(st:Int->Int->Sn):Prop:=(∀ x y,q.in x y->∃ z,st x y=some z)/\∀ c∈CM q,∀ x y i a b,q.in x y->st x y=some (i,a,b)->¬ (t.top c.1 c.2*sgn t.tn*b<a*AK t.tn)
theorem Q4l (t:T3)(x y u v:Int):t.top x y=t.top u v+(t.top 1 0 - t.top 0 0)*(x - u)+(t.top 0 1 - t.top 0 0)*(y - v):=by
 unfold T3.top T3.wA T3.wB T3.wC det
 grind
theorem SV {q:Sq}{x y:Int}(t:T3)(s:Int)(hin:q.in x y):∃ c∈CM q,t.top c.1 c.2*s<=t.top x y*s:=by
 have key:∀ u v:Int,(u,v)∈CM q->0<=(t.top 1 0 - t.top 0 0)*s*(x - u)->0<=(t.top 0 1 - t.top 0 0)*s*(y - v)->∃ c∈CM q,t.top c.1 c.2*s<=t.top x y*s:=fun u v m h1 h2=>by
  refine ⟨(u,v),m,?_⟩
  have e:t.top x y*s=t.top u v*s+(t.top 1 0 - t.top 0 0)*s*(x - u)+(t.top 0 1 - t.top 0 0)*s*(y - v):=by
   rw [Q4l t x y u v]
   generalize t.top 1 0 - t.top 0 0=A
   generalize t.top 0 1 - t.top 0 0=B
   grind
  show t.top u v*s<=_
  omega
 generalize (t.top 1 0 - t.top 0 0)*s=A at key
 generalize (t.top 0 1 - t.top 0 0)*s=B at key
 obtain ⟨h1,h2,h3,h4⟩:=hin
 have nn:∀ a b:Int,a<=0->b<=0->0<=a*b:=fun a b ha hb=>by
  have:=B0m (show 0<=-a by omega) (show 0<=-b by omega)
  rw [Int.neg_mul_neg] at this
  exact this
 by_cases ha:0<=A<;>by_cases hb:0<=B
 · exact key _ _ (by simp [CM]) (B0m ha (show 0<=x - q.l by omega)) (B0m hb (show 0<=y - q.t by omega))
 · exact key _ _ (B5 _ (B8 ..)) (B0m ha (show 0<=x - q.l by omega)) (nn _ _ (by omega) (show y - (q.t+q.h - 1)<=0 by omega))
 · exact key _ _ (B5 _ (B5 _ (B8 ..))) (nn _ _ (by omega) (show x - (q.l+q.w - 1)<=0 by omega)) (B0m hb (show 0<=y - q.t by omega))
 · exact key _ _ (B5 _ (B5 _ (B5 _ (B8 ..)))) (nn _ _ (by omega) (show x - (q.l+q.w - 1)<=0 by omega)) (nn _ _ (by omega) (show y - (q.t+q.h - 1)<=0 by omega))
theorem J3f {q:Sq}{st:Int->Int->Sn}{ks:List (List Int)}{xs:List D}{t:T3}{n:Nat}{x y:Int}(h:DpOk q st ks xs)(hp:IT t q st)(hin:q.in x y):AM x y n t (st x y)=st x y:=by
 obtain ⟨⟨i,a,b⟩,e⟩:=hp.1 x y hin
 have b0:=h.pb x y i a b hin e
 obtain ⟨c,mc,hc⟩:=SV t (sgn t.tn) hin
 have no:=hp.2 c mc x y i a b hin e
 rw [e]
 unfold AM
 by_cases z:t.has x y
 · rw [if_pos z]
   show (if t.top x y*sgn t.tn*b<a*AK t.tn then _ else _)=_
   rw [if_neg]
   have:=B0j hc (B1m b0)
   omega
 · rw [if_neg z]
theorem RU {x y:Int}{n:Nat}{t:T3}{s:Sn}:AM x y n t (AM x y n t s)=AM x y n t s:=by
 unfold AM
 by_cases z:t.has x y
 · rw [if_pos z,if_pos z]
   match s with
   | none=>simp
   | some (i,a,b) =>
     by_cases w:t.top x y*sgn t.tn*b<a*AK t.tn
     · simp [w]
     · simp [w]
 · rw [if_neg z,if_neg z]
theorem IE {x y:Int}{n:Nat}{t:T3}{s:Sn}(h:¬ t.has x y):AM x y n t s=s:=by unfold AM;rw [if_neg h]
theorem RV {x y:Int}{n:Nat}{t:T3}(h:t.has x y):AM x y n t none=some (n,t.top x y*sgn t.tn,AK t.tn):=by unfold AM;rw [if_pos h]
theorem OB {x y:Int}{n i:Nat}{a b:Int}{t:T3}(h:t.has x y)(l:t.top x y*sgn t.tn*b<a*AK t.tn):AM x y n t (some (i,a,b))=some (n,t.top x y*sgn t.tn,AK t.tn):=by unfold AM;rw [if_pos h];simp [l]
theorem RW {x y:Int}{n i:Nat}{a b:Int}{t:T3}(h:t.has x y)(l:¬ t.top x y*sgn t.tn*b<a*AK t.tn):AM x y n t (some (i,a,b))=some (i,a,b):=by unfold AM;rw [if_pos h];simp [l]
theorem absI_pos {n:Int}(h:n≠0):0<AK n:=by unfold AK;split<;>omega
abbrev IF:Stmt:=top 42
abbrev J9j:List Str:=["square","left","top","wide","high"]
theorem BI:FnScope J9j ["square"] (J7 IF):=⟨rfl,rfl,rfl,by decide +kernel,rfl,by decide +kernel,by decide +kernel⟩
def QH (q:Sq):List D:=q.dots.map fun p=>t2 p.1 p.2
def Q2j (q:Sq):D->List D
 | .int x=>(List.range q.h).map fun (j:Nat)=>t2 x ((q.t:Int)+(j:Int))
 | _=>[]
theorem ZX (q:Sq):(Y3 q.l q.w).flatMap (Q2j q)=QH q:=by
 unfold QH Sq.dots Y3
 rw [List.flatMap_map,B3e]
 congr 1
 funext i
 show (List.range q.h).map _=_
 rw [B0k];rfl
def rowT (x:Int):D->D
 | .int y=>t2 x y
 | _=>.non
theorem J8h (q:Sq)(x:Int):(Y3 q.t q.h).map (rowT x)=Q2j q (.int x):=by
 unfold Y3 Q2j
 rw [B0k];rfl
theorem HU {l:Int}{n:Nat}{d:D}(h:d∈Y3 l n):∃ i:Nat,i<n/\d=.int (l+i):=by
 unfold Y3 at h
 obtain ⟨i,hi,rfl⟩:=M3.mp h
 exact ⟨i,E2.mp hi,rfl⟩
noncomputable def YI:DSp:=fun ds P _=>∃ q:Sq,ds=[q.d]/\q.l<=16/\q.t<=16/\q.w<=16/\q.h<=16/\P (.lst (QH q))
abbrev xc9 (P:Program) (w:World) (K:Fg) (mg:Str → Option Value) (base:Heap) (f:Addr) (cdv:Value) (A:Around) (outer:List Env) (s:Shared) (H:Hp) (E:XK):Cx:=BW CX0 P w K mg base J9j "dots_in" (J7 IF) f cdv A outer s H E
abbrev KD:List Str:=["x","y","top","high"]
theorem ZH {f:Addr} (F:Fun K "dots_in" "dots_in" IF f fd) (Z:Bi mg) {c:Cs} (Y:Ex K mg base c):FnOk P w K mg base CX0 1 f fd ["square"] (Q3 K BT YI):=by
 refine F.okD BI (fun ds PP Ed h=>?_) (fun cdv A outer s H E M bg ds PP Ed hr hS_=>?_)
 · obtain ⟨q,rfl,hl,ht,hw,hh,hP⟩:=h
   rfl
 · obtain ⟨q,rfl,hl,ht,hw,hh,hP⟩:=hS_
   refine ⟨_,(J4 (BV (BE [1,2,3,4]) (jdv 0) (PG.or (AO (n:=4) K (by rfl) (by rfl) (J5 (pg_name (i:=1) BI.nd rfl (by walk_at "o")) (J5 (pg_name (i:=2) BI.nd rfl (by walk_at "o")) (J5 (pg_name (i:=3) BI.nd rfl (by walk_at "o")) (J5 (pg_name (i:=4) BI.nd rfl (by walk_at "o")) Y1))))) (AQ (n:=4) K (by rfl) (by rfl) (J5 (pg_name (i:=1) BI.nd rfl (by walk_at "o")) (J5 (pg_name (i:=2) BI.nd rfl (by walk_at "o")) (J5 (pg_name (i:=3) BI.nd rfl (by walk_at "o")) (J5 (pg_name (i:=4) BI.nd rfl (by walk_at "o")) Y1)))))))
    (Q0 (V6 (MG (X:=(xc9 P w K mg base f cdv A outer s H E).nox) (Y2 0) (Y2 1) (J1x (X:=(xc9 P w K mg base f cdv A outer s H E).nox) (N':=KD) (map:=[none,none,some 2,some 4]) (mp2:=[some 0,none,some 2,some 3]) (by rfl) (by rfl) (by decide +kernel) (by rfl) ⟨⟨rfl,rfl,rfl,by walk_at "o"⟩,⟨⟨rfl,rfl,rfl,by walk_at "o"⟩,True.intro⟩⟩ (gkeep_name rfl) (gkeep_name rfl) rfl rfl fun cl0 C0 fp0 s0 H0=>⟨(pg_name (X:=(Q7 (xc9 P w K mg base f cdv A outer s H E).nox KD _ cl0 C0 fp0 s0 H0).nox) (i:=0) (Z4 KD (by decide +kernel)) rfl (by walk_at "o")),(FA (X:=(Q7 (xc9 P w K mg base f cdv A outer s H E).nox KD _ cl0 C0 fp0 s0 H0).nox) rfl Z.range_ (J0 (jdv 2) (J0 (J6 Y7 V7 (jdv 2) (jdv 3)) J3))),(pg_name (X:=(Q7 (xc9 P w K mg base f cdv A outer s H E).nox KD _ cl0 C0 fp0 s0 H0).nox) (i:=1) (Z4 KD (by decide +kernel)) rfl (by walk_at "o")),Z9,(V3 (X:=(Q7 (xc9 P w K mg base f cdv A outer s H E).nox KD _ cl0 C0 fp0 s0 H0).nox) (J0 (jdv 0) (J0 (jdv 1) J3)))⟩) (FA rfl Z.range_ (J0 (jdv 1) (J0 (J6 Y7 V7 (jdv 1) (jdv 3)) J3))))))),?_⟩
   walk_at "g"
   refine And.intro ⟨by omega,by omega,by omega,by omega⟩ ?_
   rw [show ((q.l:Int)+q.w - q.l).toNat=q.w by omega]
   refine And.intro (by rw [rangeD_len];omega) ?_
   refine QK (Q2j q) (fun x hx acc Q hQ=>?_) (by rw [ZX];exact hP)
   obtain ⟨i,hi,rfl⟩:=HU hx
   walk_at "g"
   refine And.intro ⟨by omega,by omega,by omega,by omega⟩ ?_
   rw [show ((q.t:Int)+q.h - q.t).toNat=q.h by omega]
   refine And.intro (by rw [rangeD_len];omega) ?_
   refine MK (rowT ((q.l:Int)+i)) (fun y Q hy hQ=>?_) (fun y hy=>?_) (by rw [J8h];exact hQ)
   · obtain ⟨j,hj,rfl⟩:=HU hy
     walk_at "g"
     exact hQ
   · obtain ⟨j,hj,rfl⟩:=HU hy
     rfl
abbrev DV:Stmt:=top 43
theorem AE:FnScope J9j ["square"] (J7 DV):=⟨rfl,rfl,rfl,by decide +kernel,rfl,by decide +kernel,by decide +kernel⟩
def V0y (q:Sq):D->List D
 | .int x=>[t2 x q.t,t2 x ((q.t:Int)+q.h - 1)]
 | _=>[]
noncomputable def TF:DSp:=fun ds P _=>∃ q:Sq,ds=[q.d]/\P (.lst ((CM q).map fun p=>t2 p.1 p.2))
abbrev J2o (P:Program) (w:World) (K:Fg) (mg:Str → Option Value) (base:Heap) (f:Addr) (cdv:Value) (A:Around) (outer:List Env) (s:Shared) (H:Hp) (E:XK):Cx:=BW CX0 P w K mg base J9j "corner_dots" (J7 DV) f cdv A outer s H E
theorem OZ {f:Addr} (F:Fun K "corner_dots" "corner_dots" DV f fd) (Z:Bi mg) {c:Cs} (Y:Ex K mg base c):FnOk P w K mg base CX0 1 f fd ["square"] (Q3 K BT TF):=by
 refine F.okD AE (fun ds PP Ed h=>?_) (fun cdv A outer s H E M bg ds PP Ed hr hS_=>?_)
 · obtain ⟨q,rfl,hP⟩:=h
   rfl
 · obtain ⟨q,rfl,hP⟩:=hS_
   refine ⟨_,(J4 (BV (BE [1,2,3,4]) (jdv 0) (PG.or (AO (n:=4) K (by rfl) (by rfl) (J5 (pg_name (i:=1) AE.nd rfl (by walk_at "o")) (J5 (pg_name (i:=2) AE.nd rfl (by walk_at "o")) (J5 (pg_name (i:=3) AE.nd rfl (by walk_at "o")) (J5 (pg_name (i:=4) AE.nd rfl (by walk_at "o")) Y1))))) (AQ (n:=4) K (by rfl) (by rfl) (J5 (pg_name (i:=1) AE.nd rfl (by walk_at "o")) (J5 (pg_name (i:=2) AE.nd rfl (by walk_at "o")) (J5 (pg_name (i:=3) AE.nd rfl (by walk_at "o")) (J5 (pg_name (i:=4) AE.nd rfl (by walk_at "o")) Y1)))))))
    (Q0 (V6 (MG (X:=(J2o P w K mg base f cdv A outer s H E).nox) (Y2 0) (Y2 1) (J1x (X:=(J2o P w K mg base f cdv A outer s H E).nox) (N':=KD) (map:=[none,none,some 2,some 4]) (mp2:=[some 0,none,some 2,some 3]) (by rfl) (by rfl) (by decide +kernel) (by rfl) ⟨⟨rfl,rfl,rfl,by walk_at "o"⟩,⟨⟨rfl,rfl,rfl,by walk_at "o"⟩,True.intro⟩⟩ (gkeep_name rfl) (gkeep_name rfl) rfl rfl fun cl0 C0 fp0 s0 H0=>⟨(pg_name (X:=(Q7 (J2o P w K mg base f cdv A outer s H E).nox KD _ cl0 C0 fp0 s0 H0).nox) (i:=0) (Z4 KD (by decide +kernel)) rfl (by walk_at "o")),(AR (X:=(Q7 (J2o P w K mg base f cdv A outer s H E).nox KD _ cl0 C0 fp0 s0 H0).nox) (by rfl) (V3 (J0 (jdv 2) (J0 (J6 Y4 V7 (J6 Y7 V7 (jdv 2) (jdv 3)) J1) J3)))),(pg_name (X:=(Q7 (J2o P w K mg base f cdv A outer s H E).nox KD _ cl0 C0 fp0 s0 H0).nox) (i:=1) (Z4 KD (by decide +kernel)) rfl (by walk_at "o")),Z9,(V3 (X:=(Q7 (J2o P w K mg base f cdv A outer s H E).nox KD _ cl0 C0 fp0 s0 H0).nox) (J0 (jdv 0) (J0 (jdv 1) J3)))⟩) (AR (by rfl) (V3 (J0 (jdv 1) (J0 (J6 Y4 V7 (J6 Y7 V7 (jdv 1) (jdv 3)) J1) J3)))))))),?_⟩
   walk_at "g"
   refine QK (V0y q) (fun x hx acc Q hQ=>?_) hP
   obtain ⟨n,rfl⟩:∃ n,x=.int n:=by
    simp only [B6,R1,W4] at hx
    rcases hx with e|e<;>exact ⟨_,e⟩
   clear hx
   walk_at "g"
   refine MK (rowT n) (fun y Q hy hQ=>?_) (fun y hy=>?_) hQ
   · simp only [B6,R1,W4] at hy
     rcases hy with rfl|rfl<;>(walk_at "g";exact hQ)
   · simp only [B6,R1,W4] at hy
     rcases hy with rfl|rfl<;>rfl
abbrev CF:Stmt:=top 44
theorem AN:FnScope ["face","square","depths","wide","high","corners"] ["face","square","depths"] (J7 CF):=⟨rfl,rfl,rfl,by decide +kernel,rfl,by decide +kernel,by decide +kernel⟩
def J7p (t:T3):D->D
 | .tup [.int x,.int y]=>t2 (t.top x y*sgn t.tn) (AK t.tn)
 | _=>.non
theorem MJ {q:Sq}{x y:Int}(m:(x,y)∈CM q)(hl:q.l<=16)(ht:q.t<=16)(hw:q.w<=16)(hh:q.h<=16)(w1:1<=q.w)(h1:1<=q.h):Bd 100 x/\Bd 100 y:=by
 unfold CM at m
 simp only [B6,R1,W4,Prod.mk.injEq] at m
 rcases m with ⟨rfl,rfl⟩|⟨rfl,rfl⟩|⟨rfl,rfl⟩|⟨rfl,rfl⟩<;>exact ⟨(Bd.of (by omega) (by omega):Bd 8 _).mono (by decide),(Bd.of (by omega) (by omega):Bd 8 _).mono (by decide)⟩
def J1e:D->D->Bool
 | .tup [.int a,.int b],.tup [.int c,.int e]=>decide (a*e<c*b)
 | _,_=>false
theorem J7g (l xs:List D):(l.flatMap fun d=>xs.map fun e=>D.bl (J1e d e))=(l.flatMap fun d=>xs.map (J1e d)).map D.bl:=by
 rw [B3e]
 congr 1
 funext d
 rw [B0k];rfl
noncomputable def J8s:DSp:=fun ds P _=>∃ (t:T3) (q:Sq) (tg:Tg) (ks:List (List Int)) (xs:List D) (st:Int->Int->Sn),ds=[t.d,q.d,.dct tg ks xs]/\t.ok 100/\t.tn≠0/\(q.l<=16/\q.t<=16/\1<=q.w/\q.w<=16/\1<=q.h/\q.h<=16)/\DpOk q st ks xs/\∀ b:Bool,(b=true↔IT t q st)->P (.bl b)
abbrev QR (P:Program) (w:World) (K:Fg) (mg:Str → Option Value) (base:Heap) (f:Addr) (cdv:Value) (A:Around) (outer:List Env) (s:Shared) (H:Hp) (E:XK):Cx:=BW CX0 P w K mg base ["face","square","depths","wide","high","corners"] "is_passed_over" (J7 CF) f cdv A outer s H E
abbrev YK:List Str:=["depth","there","depths"]
theorem KW {f:Addr} (F:Fun K "is_passed_over" "is_passed_over" CF f fd) (Z:Bi mg) {c:Cs} (Y:Ex K mg base c) (g0:Callee P w K mg base (CX1 P w base) "unreduced_depth" 4 xl8 (Q3 K BT (Q7w c))) (g1:Callee P w K mg base CX0 "corner_dots" 1 ["square"] (Q3 K BT TF)) (g2:Callee P w K mg base CX0 "is_less" 1 xl9 (Q3 K BT J0i)):FnOk P w K mg base CX0 5 f fd ["face","square","depths"] (Q3 K BT J8s):=by
 refine F.okD AN (fun ds PP Ed h=>?_) (fun cdv A outer s H E M bg ds PP Ed hr hS_=>?_)
 · obtain ⟨t,q,tg,ks,xs,st,rfl,ok,hn,⟨hl,ht,w1,hw,h1,hh⟩,hD,hP⟩:=h
   rfl
 · obtain ⟨t,q,tg,ks,xs,st,rfl,ok,hn,⟨hl,ht,w1,hw,h1,hh⟩,hD,hP⟩:=hS_
   refine ⟨_,(J4 (BV (BE [3,4]) (J3u (Q4t K (by rfl)) (jdv 1) (J6r J1) J6s) (PG.or (AO (n:=2) K (by rfl) (by rfl) (J5 (pg_name (i:=3) AN.nd rfl (by walk_at "o")) (J5 (pg_name (i:=4) AN.nd rfl (by walk_at "o")) Y1))) (AQ (n:=2) K (by rfl) (by rfl) (J5 (pg_name (i:=3) AN.nd rfl (by walk_at "o")) (J5 (pg_name (i:=4) AN.nd rfl (by walk_at "o")) Y1)))))
    (J4 (AJ (Z6 MX IU (V2 SX J1u rfl Z.len_ HE (J0 (jdv 2) J3)) (J6 Q9 Y9 (jdv 3) (jdv 4)) (Y5 _)) (Q0 (V6 FT)) Y6)
    (J4 (J6p (X:=(QR P w K mg base f cdv A outer s H E).nox) false (i:=5) AN.nd rfl (by walk_at "o") (Y2 0) (HL (X:=(QR P w K mg base f cdv A outer s H E).nox) (N':=["dot","face"]) (map:=[none,some 0]) (by rfl) (by rfl) (by decide +kernel) (by rfl) ⟨⟨rfl,rfl,rfl,by walk_at "o"⟩,True.intro⟩ (gkeep_name rfl) fun cl0 C0 fp0 s0 H0=>⟨(pg_name (X:=(Q7 (QR P w K mg base f cdv A outer s H E).nox ["dot","face"] _ cl0 C0 fp0 s0 H0)) (i:=0) (Z4 ["dot","face"] (by decide +kernel)) rfl (by walk_at "o")),Z9,(LD (X:=(Q7 (QR P w K mg base f cdv A outer s H E).nox ["dot","face"] _ cl0 C0 fp0 s0 H0)) UV ZD g0 hr.m rfl (J0 (jdv 1) (J0 (jdv 0) J3)))⟩) (AR (by rfl) (Q4 g1 hr.m rfl (J0 (jdv 1) J3))))
    (Q0 (V6 (UQ (V2 (SY K (by rfl) (by rfl)) QM rfl Z.any_ J8l (J0 (MG (X:=(QR P w K mg base f cdv A outer s H E).nox) (Y2 0) (Y2 1) (J1x (X:=(QR P w K mg base f cdv A outer s H E).nox) (N':=YK) (map:=[none,none,some 2]) (mp2:=[some 0,none,some 2]) (by rfl) (by rfl) (by decide +kernel) (by rfl) ⟨⟨rfl,rfl,rfl,by walk_at "o"⟩,True.intro⟩ (gkeep_name rfl) (gkeep_name rfl) rfl rfl fun cl0 C0 fp0 s0 H0=>⟨(pg_name (X:=(Q7 (QR P w K mg base f cdv A outer s H E).nox YK _ cl0 C0 fp0 s0 H0).nox) (i:=0) (Z4 YK (by decide +kernel)) rfl (by walk_at "o")),(J6t (X:=(Q7 (QR P w K mg base f cdv A outer s H E).nox YK _ cl0 C0 fp0 s0 H0).nox) (by rfl) (jdv 2)),(pg_name (X:=(Q7 (QR P w K mg base f cdv A outer s H E).nox YK _ cl0 C0 fp0 s0 H0).nox) (i:=1) (Z4 YK (by decide +kernel)) rfl (by walk_at "o")),Z9,(Q4 (X:=(Q7 (QR P w K mg base f cdv A outer s H E).nox YK _ cl0 C0 fp0 s0 H0).nox) g2 hr.m rfl (J0 (jdv 0) (J0 (jdv 1) J3)))⟩) (AR (by rfl) (jdv 5))) J3)))))))),?_⟩
   have wb:Bd 64 (q.w:Int):=Bd.of (by omega) (by omega)
   have hb:Bd 64 (q.h:Int):=Bd.of (by omega) (by omega)
   walk_at "g"
   refine And.intro (fun z=>absurd z.1 (show ¬ (HT.sIx 4 0 (some 2)=0) by decide)) ?_
   walk_at "g"
   refine ⟨tg,ks,xs,.inl rfl,?_⟩
   walk_at "g"
   have hall:=hD.all
   by_cases hlt:ks.length<q.w*q.h
   · refine IfP.t (B1a (by rw [<- Int.natCast_mul];omega)) ?_
     walk_at "g"
     exact hP false ⟨fun z=>(by cases z),fun z=>absurd hlt (hall.mp z.1)⟩
   · refine IfP.f (B0b (by rw [<- Int.natCast_mul];omega)) ?_
     walk_at "g"
     refine ⟨q,rfl,?_⟩
     walk_at "g"
     refine EE (J7p t) (fun d Q hd hQ=>?_) (fun d hd=>?_) ?_
     · obtain ⟨⟨x,y⟩,hm,rfl⟩:=M3.mp hd
       have hx:=MJ hm hl ht hw hh w1 h1
       walk_at "g"
       exact ⟨t,x,y,100,rfl,ok,hx.1,hx.2,by decide,by decide,fun z=>absurd z hn,fun _=>hQ⟩
     · obtain ⟨⟨x,y⟩,hm,rfl⟩:=M3.mp hd
       rfl
     walk_at "g"
     refine QK (fun d=>xs.map fun e=>.bl (J1e d e)) (fun d hd acc Q hQ=>?_) ?_
     · obtain ⟨⟨x,y⟩,hm,rfl⟩:=M3.mp (by rw [B0k] at hd;exact hd)
       have hx:=MJ hm hl ht hw hh w1 h1
       obtain ⟨o1,o2⟩:=HZ ok hx.1 hx.2
       walk_at "g"
       refine ⟨tg,ks,xs,.inl rfl,?_⟩
       refine And.intro (by
        rw [<- hD.len]
        have:=CG hD.nd (l2:=q.dots.map fun p=>[p.1,p.2]) fun k m=>by
         obtain ⟨x,y,rfl,hin⟩:=hD.inn k m
         exact M3.mpr ⟨(x,y),Sq.mem_dots.mpr hin,rfl⟩
        rw [B9,Sq.dots_len] at this
        have:=B2t hw hh
        omega) ?_
       refine MK (fun e=>.bl (J1e (J7p t (t2 x y)) e)) (fun e Q he hQ=>?_) (fun e he=>rfl) hQ
       obtain ⟨x',y',i,a,b,hin,es,rfl,ba,bb⟩:=hD.val he
       walk_at "g"
       exact ⟨_,_,_,_,rfl,⟨o1.mono (by decide),o2.mono (by decide)⟩,⟨ba.mono (by decide),bb.mono (by decide)⟩,hQ⟩
     · rw [J7g]
       walk_at "g"
       rw [IP]
       walk_at "g"
       refine hP _ ?_
       rw [Bool.not_eq_true',<- Bool.not_eq_true,List.any_eq_true]
       constructor
       · intro hno
         refine ⟨hall.mpr hlt,fun c mc x y i a b hin es hlt'=>hno ⟨true,D6.mpr ⟨J7p t (t2 c.1 c.2),M3.mpr ⟨t2 c.1 c.2,M3.mpr ⟨c,mc,rfl⟩,rfl⟩,M3.mpr ⟨t2 a b,hD.has hin es,B1a hlt'⟩⟩,rfl⟩⟩
       · rintro hp ⟨z,mz,ez⟩
         obtain ⟨d,md,mz⟩:=D6.mp mz
         obtain ⟨d',md',rfl⟩:=M3.mp md
         obtain ⟨c,mc,rfl⟩:=M3.mp md'
         obtain ⟨e,me,rfl⟩:=M3.mp mz
         obtain ⟨x',y',i,a,b,hin,es,rfl,ba,bb⟩:=hD.val me
         exact hp.2 c mc x' y' i a b hin es (B0a ez)
abbrev GF:Stmt:=top 45
abbrev Q4c:List Str:=["rows","depths","square","number","face"]
theorem FN:FnScope ["rows","depths","square","number","face","dot","depth"] Q4c (J7 GF):=⟨rfl,rfl,rfl,by decide +kernel,rfl,by decide +kernel,by decide +kernel⟩
theorem J4k {q:Sq}{i:Nat}{d:D}(e:(QH q)[i]?=some d):∃ x y:Int,q.dots[i]?=some (x,y)/\d=t2 x y/\q.in x y:=by
 unfold QH at e
 rw [M1] at e
 obtain ⟨⟨x,y⟩,e1,rfl⟩:=M7.mp e
 exact ⟨x,y,e1,rfl,Sq.mem_dots.mp (L4 e1)⟩
theorem J4j (q:Sq):(QH q).length=q.dots.length:=by unfold QH;simp
theorem QG {q:Sq}{st st' st'':Int->Int->Sn}{i:Nat}{x y:Int}{n:Nat}{t:T3}(ed:q.dots[i]?=some (x,y))(hst:∀ x y,st' x y=if (x,y)∈q.dots.take i then AM x y n t (st x y) else st x y)(h2:∀ x' y',st'' x' y'=if x'=x/\y'=y then AM x y n t (st' x y) else st' x' y'):∀ x' y',st'' x' y'=if (x',y')∈q.dots.take (i+1) then AM x' y' n t (st x' y') else st x' y':=fun x' y'=>by
 rw [h2,W7,ed,E9]
 by_cases z:x'=x/\y'=y
 · obtain ⟨rfl,rfl⟩:=z
   rw [if_pos ⟨rfl,rfl⟩,if_pos (by simp),hst]
   split
   · exact RU
   · rfl
 · rw [if_neg z,hst]
   have:((x',y')∈List.take i q.dots++[(x,y)])↔(x',y')∈List.take i q.dots:=by
    rw [U7,M6,Prod.mk.injEq]
    exact ⟨fun w=>w.elim id fun w=>absurd w z,.inl⟩
   by_cases w:(x',y')∈List.take i q.dots
   · rw [if_pos w,if_pos (this.mpr w)]
   · rw [if_neg w,if_neg (fun v=>w (this.mp v))]
theorem KN {st':Int->Int->Sn}{x y:Int}{s:Sn}(e:s=st' x y):∀ x' y',st' x' y'=if x'=x/\y'=y then s else st' x' y':=fun x' y'=>by
 by_cases z:x'=x/\y'=y
 · obtain ⟨rfl,rfl⟩:=z
   rw [if_pos ⟨rfl,rfl⟩,e]
 · rw [if_neg z]
theorem DpOk.small {q:Sq}{st:Int->Int->Sn}{ks:List (List Int)}{xs:List D}(h:DpOk q st ks xs)(hw:q.w<=16)(hh:q.h<=16):ks.length<=256:=by
 have:=CG h.nd (l2:=q.dots.map fun p=>[p.1,p.2]) fun k m=>by
  obtain ⟨x,y,rfl,hin⟩:=h.inn k m
  exact M3.mpr ⟨(x,y),Sq.mem_dots.mpr hin,rfl⟩
 rw [B9,Sq.dots_len] at this
 have:=B2t hw hh
 omega
theorem V0e {a a2:Addr}{rs:List Addr}{r1 r2:List (List D)}{t1 t2:Tg}{k1 k2:List (List Int)}{x1 x2:List D}{ρ:Ev}(e0:ρ[0]?=some (some (grd K a rs r2)))(e1:ρ[1]?=some (some (dcg K a2 t2 k2 x2))):J1n [grp K a rs r1,dcp K a2 t1 k1 x1] ρ [grp K a rs r2,dcp K a2 t2 k2 x2]:=by
 refine ⟨rfl,fun p hp=>?_,fun i p' e=>?_⟩
 · rcases B6.mp hp with z|z
   · rw [z];exact UT
   · rw [M6.mp z];exact J7w
 · match i,e with
   | 0,e=>cases e;exact e0
   | 1,e=>cases e;exact e1
   | i+2,e=>simp at e
def V1d (q:Sq)(rows:List (List D)):Prop:=q.t+q.h<=rows.length/\∀ row∈rows,q.l+q.w<=row.length
noncomputable def J2c (K:Fg):DSU:=fun qs ds P=>∃ (a a2:Addr) (rs:List Addr) (rows:List (List D)) (tg:Tg) (ks:List (List Int)) (xs:List D) (q:Sq) (n:Nat) (t:T3) (st:Int->Int->Sn),(qs=[grp K a rs (AI q st rows),dcp K a2 tg ks xs]/\ds=[q.d,.int n,t.d])/\rs.length=rows.length/\V1d q rows/\(q.l<=16/\q.t<=16/\q.w<=16/\q.h<=16)/\t.ok 100/\t.pos/\DpOk q st ks xs /\
 ∀ tg' ks' xs' st',(∀ x y,q.in x y->st' x y=AM x y n t (st x y))->DpOk q st' ks' xs'->P [grp K a rs (AI q st' rows),dcp K a2 tg' ks' xs'] .non
theorem RA {f:Addr} (F:Fun K "paint_face" "paint_face" GF f fd) (Z:Bi mg) {c:Cs} (Y:Ex K mg base c) (g0:Callee P w K mg base CX0 "dots_in" 1 ["square"] (Q3 K BT YI)) (g1:Callee P w K mg base CX0 "has_dot" 4 xl8 (Q3 K BT YG)) (g2:Callee P w K mg base (CX1 P w base) "unreduced_depth" 4 xl8 (Q3 K BT (Q7w c))) (g3:Callee P w K mg base CX0 "is_less" 1 xl9 (Q3 K BT J0i)):FnOk P w K mg base CX0 5 f fd Q4c (DG K BT (J2c K)):=by
 refine F.okDU FN (fun qs ds PP h=>?_) (fun cdv A outer s H E M bg qs ds PP hr hS_ hat=>?_)
 · obtain ⟨a,a2,rs,rows,tg,ks,xs,q,n,t,st,⟨rfl,rfl⟩,hlr,⟨ft,fl⟩,⟨hl,ht,hw,hh⟩,ok,pos,hD,hP⟩:=h
   rfl
 · obtain ⟨a,a2,rs,rows,tg,ks,xs,q,n,t,st,⟨rfl,rfl⟩,hlr,⟨ft,fl⟩,⟨hl,ht,hw,hh⟩,ok,pos,hD,hP⟩:=hS_
   refine ⟨_,(LA (BU (Y2 5) U8 rfl (AR (by rfl) (Q4 g0 hr.m rfl (J0 (jdv 2) J3))) (pg_name (i:=5) FN.nd rfl (by walk_at "o")) (Q0 (AJ (AC (by rfl) (Q4 g1 hr.m rfl (J0 (jdv 4) (J0 (jdv 5) J3))) (fun _=>rfl)) (J4 (V0 (i:=6) FN.nd rfl (by walk_at "o") (LD UV ZD g2 hr.m rfl (J0 (jdv 4) (J0 (jdv 5) J3))))
    (Q0 (AJ (JV (Z6 (SD K (by rfl) hr.units) J6h (jdv 5) (jdv 1) (by with_unfolding_all rfl)) (GY (AC (by rfl) (Q4 g3 hr.m rfl (J0 (jdv 6) (J0 (J8 (NV K (by rfl) hr.units) UK (jdv 1) (jdv 5) (fun _ _=>rfl)) J3))) (fun _=>rfl)))) (J4 (XD (i:=1) (by rfl) (jdv 6) (LY (pv 1) (JE.h (jdv 5)) (J0t K (by rfl) hr.units)))
    (Q0 (XC (i:=0) (by rfl) (jdv 3) (LY (FW UR (pv 0) (JE.h (J8 (J9 K (by rfl)) Q5 (jdv 5) J1 (fun _ _=>rfl))) (fun _ _=>rfl)) (JE.h (J8 (J9 K (by rfl)) Q5 (jdv 5) J1 (fun _ _=>rfl))) KI)))) Y6))) Y6)))
    Q0z),?_⟩
   walk_at "g"
   refine ⟨q,rfl,hl,ht,hw,hh,?_⟩
   walk_at "g"
   refine ⟨fun i ρ=>∃ tg' ks' xs' st' v5 v6,ρ=[some (grd K a rs (AI q st' rows)),some (dcg K a2 tg' ks' xs'),some q.d,some (.int n),some t.d,v5,v6]/\DpOk q st' ks' xs'/\∀ x y,st' x y=if (x,y)∈q.dots.take i then AM x y n t (st x y) else st x y,⟨tg,ks,xs,st,_,_,rfl,hD,fun x y=>by simp⟩,?_,?_⟩
   · rintro i z ρ e ⟨tg',ks',xs',st',v5,v6,rfl,hD',hst⟩
     obtain ⟨x,y,ed,rfl,hin⟩:=J4k e
     clear e
     have hin0:=hin
     obtain ⟨x0,x1,y0,y1⟩:=hin0
     obtain ⟨x,rfl⟩:∃ m:Nat,x=m:=⟨x.toNat,by omega⟩
     obtain ⟨y,rfl⟩:∃ m:Nat,y=m:=⟨y.toNat,by omega⟩
     have bx:Bd 100 (x:Int):=(Bd.of (by omega) (by omega):Bd 8 _).mono (by decide)
     have b_y:Bd 100 (y:Int):=(Bd.of (by omega) (by omega):Bd 8 _).mono (by decide)
     obtain ⟨o1,o2⟩:=HZ ok bx b_y
     have hf:=hD'.at' x y hin
     have hsm:=hD'.small hw hh
     obtain ⟨row,er⟩:∃ row,rows[y]?=some row:=⟨rows[y]'(by omega),M5 _⟩
     have hrow:=fl row (L4 er)
     walk_at "g"
     refine ⟨t,x,y,100,rfl,ok,bx,b_y,by decide,?_⟩
     by_cases hhas:t.has x y
     · refine IfP.t (by simp [hhas]) ?_
       have tn0:=T3.has_tn pos hhas
       walk_at "g"
       refine ⟨t,x,y,100,rfl,ok,bx,b_y,by decide,by decide,fun z=>absurd z tn0,fun _=>?_⟩
       walk_at "g"
       refine ⟨tg',ks',xs',[(x:Int),(y:Int)],.inr ⟨a2,rfl⟩,rfl,?_⟩
       have put:AM x y n t (st' x y)=some (n,t.top x y*sgn t.tn,AK t.tn)->∀ tg'',∃ tg1 ks1 xs1 st1 v5 v6,[some (grd K a rs ((AI q st' rows).set y ((row.mapIdx fun x d=>DL q st' x y d).set x (.int n)))),some (dcg K a2 tg'' (EM ks' xs' [(x:Int),(y:Int)] (t2 (t.top x y*sgn t.tn) (AK t.tn))).1 (EM ks' xs' [(x:Int),(y:Int)] (t2 (t.top x y*sgn t.tn) (AK t.tn))).2),some q.d,some (D.int n),some t.d,some (t2 x y),some (t2 (t.top x y*sgn t.tn) (AK t.tn))]=[some (grd K a rs (AI q st1 rows)),some (dcg K a2 tg1 ks1 xs1),some q.d,some (.int n),some t.d,v5,v6]/\DpOk q st1 ks1 xs1/\∀ x y,st1 x y=if (x,y)∈q.dots.take (i+1) then AM x y n t (st x y) else st x y:=fun hs tg'' =>
        ⟨tg'',_,_,IY st' x y (some (n,t.top x y*sgn t.tn,AK t.tn)),_,_,by rw [OT hin er],hD'.put hin ⟨o1,o2⟩ (absI_pos tn0),QG ed hst fun x' y'=>by rw [hs];rfl⟩
       have store:AM x y n t (st' x y)=some (n,t.top x y*sgn t.tn,AK t.tn)->Q7e (Q3l K 1 (XR 6) (XR 5)) (Q3k K 0 (XR 3) (dOp oIx (XR 5) (dC (D.int 1))) (dOp oIx (XR 5) (dC (D.int 0)))) { nx:=fun ρ=>∃ tg1 ks1 xs1 st1 v5 v6,ρ=[some (grd K a rs (AI q st1 rows)),some (dcg K a2 tg1 ks1 xs1),some q.d,some (.int n),some t.d,v5,v6]/\DpOk q st1 ks1 xs1/\∀ x y,st1 x y=if (x,y)∈q.dots.take (i+1) then AM x y n t (st x y) else st x y,rt:=fun _=>False } [some (grd K a rs (AI q st' rows)),some (dcg K a2 tg' ks' xs'),some q.d,some (.int n),some t.d,some (t2 x y),some (t2 (t.top x y*sgn t.tn) (AK t.tn))]:=fun hs=>by
        refine ⟨a2,tg',ks',xs',rfl,?_⟩
        walk_at "g"
        refine ⟨[(x:Int),(y:Int)],rfl,by omega,fun tg''=>?_⟩
        refine ⟨a,rs,AI q st' rows,rfl,by rw [JM];exact hlr,?_⟩
        walk_at "g"
        refine ⟨y,_,rfl,LZ er,?_⟩
        walk_at "g"
        refine ⟨x,rfl,by rw [B2u];omega,?_⟩
        exact put hs tg''
       cases es:st' x y with
       | none =>
         rw [es] at hf
         rw [show AL ks' xs' [(x:Int),(y:Int)]=none from hf]
         walk_at "g"
         exact store (by rw [es];exact RV hhas)
       | some zz =>
         obtain ⟨j,aa,bb⟩:=zz
         rw [es] at hf
         have hf:AL ks' xs' [(x:Int),(y:Int)]=some (t2 aa bb):=hf
         have hb:=hD'.bd x y hin
         rw [es] at hb
         rw [hf]
         walk_at "g"
         refine ⟨tg',ks',xs',[(x:Int),(y:Int)],t2 aa bb,.inr ⟨a2,rfl⟩,rfl,hf,?_⟩
         walk_at "g"
         refine ⟨_,_,_,_,rfl,⟨o1.mono (by decide),o2.mono (by decide)⟩,⟨hb.1.mono (by decide),hb.2.mono (by decide)⟩,?_⟩
         by_cases hlt:t.top x y*sgn t.tn*bb<aa*AK t.tn
         · refine IfP.t (by simp [hlt]) ?_
           exact store (by rw [es];exact OB hhas hlt)
         · refine IfP.f (by simp [hlt]) ?_
           walk_at "g"
           exact ⟨tg',ks',xs',st',_,_,rfl,hD',QG ed hst (KN (by rw [es];exact RW hhas hlt))⟩
     · refine IfP.f (by simp [hhas]) ?_
       walk_at "g"
       exact ⟨tg',ks',xs',st',_,_,rfl,hD',QG ed hst (KN (IE hhas))⟩
   · rintro ρ ⟨tg',ks',xs',st',v5,v6,rfl,hD',hst⟩
     refine ⟨_,V0e rfl rfl,hP tg' ks' xs' st' (fun x y hin=>?_) hD'⟩
     rw [hst,J4j,E4,if_pos (Sq.mem_dots.mpr hin)]
abbrev EW:Stmt:=top 46
theorem AG:FnScope ["rows","faces","square","depths","passed","number","face"] ["rows","faces","square"] (J7 EW):=⟨rfl,rfl,rfl,by decide +kernel,rfl,by decide +kernel,by decide +kernel⟩
theorem Q9z {i j:Nat}{p1 p2:Pc}{ρ:Ev}(a1:p1.at)(a2:p2.at)(e1:ρ[i]?=some (some p1.g))(e2:ρ[j]?=some (some p2.g)):IW [i,j] [p1,p2] ρ:=by
 refine ⟨rfl,fun k p e=>?_⟩
 match k,e with
 | 0,e=>cases e;exact ⟨a1,i,rfl,e1⟩
 | 1,e=>cases e;exact ⟨a2,j,rfl,e2⟩
 | k+2,e=>simp at e
theorem V0a {i:Nat}{p1:Pc}{ρ:Ev}(a1:p1.at)(e1:ρ[i]?=some (some p1.g)):IW [i] [p1] ρ:=by
 refine ⟨rfl,fun k p e=>?_⟩
 match k,e with
 | 0,e=>cases e;exact ⟨a1,i,rfl,e1⟩
 | k+1,e=>simp at e
theorem V0f {a:Addr}{rs:List Addr}{r1 r2:List (List D)}{ρ:Ev}(e0:ρ[0]?=some (some (grd K a rs r2))):J1n [grp K a rs r1] ρ [grp K a rs r2]:=by
 refine ⟨rfl,fun p hp=>?_,fun i p' e=>?_⟩
 · rw [M6.mp hp];exact UT
 · match i,e with
   | 0,e=>cases e;exact e0
   | i+1,e=>simp at e
open Classical in
noncomputable def CK (ts:List T3) (q:Sq):Nat->Nat
 | 0=>0
 | i+1=>match ts[i]? with
   | some t=>if t.tn≠0/\IT t q (fun x y=>Y8 ts x y i) then CK ts q i+1 else CK ts q i
   | none=>CK ts q i
open Classical in
theorem OS {ts:List T3}{q:Sq}{i:Nat}{t:T3}(e:ts[i]?=some t):CK ts q (i+1)=if t.tn≠0/\IT t q (fun x y=>Y8 ts x y i) then CK ts q i+1 else CK ts q i:=by
 show (match ts[i]? with|some t=>(if t.tn≠0/\IT t q (fun x y=>Y8 ts x y i) then CK ts q i+1 else CK ts q i)|none=>CK ts q i)=_
 rw [e]
structure Sq.ok (q:Sq):Prop where
 l:q.l<=16
 t:q.t<=16
 w1:1<=q.w
 w:q.w<=16
 h1:1<=q.h
 h:q.h<=16
noncomputable def Q3x (K:Fg):DSU:=fun qs ds P=>∃ (a:Addr) (rs:List Addr) (rows:List (List D)) (q:Sq) (ts:List T3),(qs=[grp K a rs rows]/\ds=[.lst (ts.map T3.d),q.d])/\rs.length=rows.length/\V1d q rows/\q.ok/\(∀ t∈ts,t.ok 100/\t.pos)/\ts.length<=500/\P [grp K a rs (AI q (fun x y=>Y8 ts x y ts.length) rows)] (.int (CK ts q ts.length))
theorem NI {f:Addr} (F:Fun K "paint_square" "paint_square" EW f fd) (Z:Bi mg) {c:Cs} (Y:Ex K mg base c) (g0:Callee P w K mg base CX0 "is_passed_over" 5 ["face","square","depths"] (Q3 K BT J8s)) (g1:Callee P w K mg base CX0 "turn" 2 ["face"] (Q3 K BT J0g)) (g2:Callee P w K mg base CX0 "paint_face" 5 Q4c (DG K BT (J2c K))):FnOk P w K mg base CX0 6 f fd ["rows","faces","square"] (DG K BT (Q3x K)):=by
 refine F.okDU AG (fun qs ds PP h=>?_) (fun cdv A outer s H E M bg qs ds PP hr hS_ hat=>?_)
 · obtain ⟨a,rs,rows,q,ts,⟨rfl,rfl⟩,hlr,fits,qok,hts,htl,hP⟩:=h
   rfl
 · obtain ⟨a,rs,rows,q,ts,⟨rfl,rfl⟩,hlr,fits,qok,hts,htl,hP⟩:=hS_
   refine ⟨_,(LA (SI (i:=3) AG.nd rfl (by walk_at "o"))
    (LA (V0 (i:=4) AG.nd rfl (by walk_at "o") J1)
    (LA (BU (BE [5,6]) U8 rfl (PX (by rfl) (J0 (jdv 1) J3) (NR K (by rfl) rfl Z.enumerate_ (JA.h (J0 (jdv 1) J3)))) (PG.or (AO (n:=2) K (by rfl) (by rfl) (J5 (pg_name (i:=5) AG.nd rfl (by walk_at "o")) (J5 (pg_name (i:=6) AG.nd rfl (by walk_at "o")) Y1))) (AQ (n:=2) K (by rfl) (by rfl) (J5 (pg_name (i:=5) AG.nd rfl (by walk_at "o")) (J5 (pg_name (i:=6) AG.nd rfl (by walk_at "o")) Y1)))) (J4 (AJ (Z6 DD BR (Q4 g1 hr.m rfl (J0 (jdv 6) J3)) J1 (Y5 _)) (Q0 GZ) Y6)
    (Q0 (AJ (AC (by rfl) (XE g0 hr.m rfl (J0 (jdv 6) (J0 (jdv 2) (J0 (jdv 3) J3)))) (fun _=>rfl)) (Q0 (Q1d (i:=4) AG.nd rfl (by walk_at "o") J1 J6z)) (Q0 (J3s (js:=[0,3]) (by decide) (JL g2 hr.m rfl (Q8 (pv 0) (Q8 (pv 3) (JA.h (J0 (jdv 2) (J0 (jdv 5) (J0 (jdv 6) J3)))))))))))))
    (Q0y (jdv 4))))),?_⟩
   walk_at "g"
   intro a2 tg0
   walk_at "g"
   refine ⟨fun i ρ=>∃ tg ks xs v5 v6,ρ=[some (grd K a rs (AI q (fun x y=>Y8 ts x y i) rows)),some (.lst (ts.map T3.d)),some q.d,some (dcg K a2 tg ks xs),some (.int (CK ts q i)),v5,v6]/\DpOk q (fun x y=>Y8 ts x y i) ks xs,⟨tg0,[],[],_,_,by rw [MU (q:=q) (st:=fun x y=>Y8 ts x y 0) (rows:=rows) (fun _ _ _=>rfl)];rfl,DpOk.nil fun _ _ _=>rfl⟩,?_,?_⟩
   · rintro i z ρ e ⟨tg,ks,xs,v5,v6,rfl,hD⟩
     obtain ⟨t,et,rfl⟩:=SQ e
     clear e
     obtain ⟨ok,pos⟩:=hts t (L4 et)
     have hs:∀ x y:Int,Y8 ts x y (i+1)=AM x y i t (Y8 ts x y i):=fun x y=>OG et
     have hpn:=OS (q:=q) et
     walk_at "g"
     refine ⟨t,100,rfl,ok,by decide,?_⟩
     walk_at "g"
     by_cases tn0:t.tn=0
     · refine IfP.t (by simp [tn0]) ?_
       have hsame:∀ x y:Int,q.in x y->Y8 ts x y (i+1)=Y8 ts x y i:=fun x y _=>by rw [hs];exact IE fun hh=>T3.has_tn pos hh tn0
       rw [if_neg (fun z=>z.1 tn0)] at hpn
       walk_at "g"
       exact ⟨tg,ks,xs,_,_,by rw [DC hsame,hpn];rfl,hD.congr hsame⟩
     · refine IfP.f (by simp [tn0]) ?_
       walk_at "g"
       refine ⟨t,q,tg,ks,xs,_,rfl,ok,tn0,⟨qok.l,qok.t,qok.w1,qok.w,qok.h1,qok.h⟩,hD,fun b hb=>⟨rfl,?_⟩⟩
       cases b with
       | true =>
         have hp:=hb.mp rfl
         have hsame:∀ x y:Int,q.in x y->Y8 ts x y (i+1)=Y8 ts x y i:=fun x y hin=>by rw [hs];exact J3f hD hp hin
         rw [if_pos ⟨tn0,hp⟩] at hpn
         walk_at "g"
         exact ⟨tg,ks,xs,_,_,by rw [DC hsame,hpn];rfl,hD.congr hsame⟩
       | false =>
         have hp:¬ IT t q (fun x y=>Y8 ts x y i):=fun z=>by have:=hb.mpr z;cases this
         rw [if_neg (fun z=>hp z.2)] at hpn
         walk_at "g"
         refine ⟨_,Q9z UT J7w rfl rfl,?_⟩
         walk_at "g"
         refine ⟨a,a2,rs,rows,tg,ks,xs,q,i,t,_,⟨rfl,rfl⟩,hlr,fits,⟨qok.l,qok.t,qok.w,qok.h⟩,ok,pos,hD,fun tg' ks' xs' st' hst hD'=>?_⟩
         have hsame:∀ x y:Int,q.in x y->Y8 ts x y (i+1)=st' x y:=fun x y hin=>by rw [hs,hst x y hin]
         exact ⟨tg',ks',xs',_,_,by rw [DC hsame,hpn];rfl,hD'.congr hsame⟩
   · rintro ρ ⟨tg,ks,xs,v5,v6,rfl,hD⟩
     have el:(enumD (ts.map T3.d)).length=ts.length:=by simp [enumD]
     rw [el]
     walk_at "g"
     exact ⟨_,V0f rfl,hP⟩
theorem VJ {d:D}(h:Z1 d=true):bor d=d:=by cases d<;>first|rfl|cases h
def sqQ (k:Int)(w h:Nat)(x y:Int):Sq:=⟨x.toNat,y.toNat,(mn k (w - x)).toNat,(mn k (h - y)).toNat⟩
def sqL (k:Int)(w h:Nat):List Sq:=(Z5 k w).flatMap fun x=>(Z5 k h).map fun y=>sqQ k w h x y
theorem IG {k:Int}{w:Nat}{x:Int}(m:x∈Z5 k w):0<=x/\x<w/\x % k=0:=by
 unfold Z5 at m
 simp only [B2q,M3,E2,U6] at m
 obtain ⟨⟨n,hn,rfl⟩,h⟩:=m
 exact ⟨by omega,by omega,h⟩
theorem J3n {k:Int}{w:Nat}{x:Int}(h0:0<=x)(h1:x<w)(h2:x % k=0):x∈Z5 k w:=by
 unfold Z5
 simp only [B2q,M3,E2,U6]
 exact ⟨⟨x.toNat,by omega,by omega⟩,h2⟩
theorem Q8w {k:Int}{w h:Nat}{x y:Int}(hk:1<=k)(mx:x∈Z5 k w)(my:y∈Z5 k h):sq1 k w h x y=(sqQ k w h x y).d:=by
 obtain ⟨x0,x1,_⟩:=IG mx
 obtain ⟨y0,y1,_⟩:=IG my
 have e1:((sqQ k w h x y).l:Int)=x:=U5 x0
 have e2:((sqQ k w h x y).t:Int)=y:=U5 y0
 have e3:((sqQ k w h x y).w:Int)=mn k (w - x):=U5 (by unfold mn;split<;>omega)
 have e4:((sqQ k w h x y).h:Int)=mn k (h - y):=U5 (by unfold mn;split<;>omega)
 show sq1 k w h x y=sp4 _ _ _ _
 rw [e1,e2,e3,e4]
 rfl
theorem J5h {k:Int}{w h:Nat}(hk:1<=k):sqs k w h=(sqL k w h).map Sq.d:=by
 unfold sqs sqL
 rw [B3e]
 have key:∀ l:List Int,(∀ x∈l,x∈Z5 k w)->(l.flatMap fun x=>(Z5 k h).map fun y=>sq1 k w h x y)=l.flatMap fun x=>((Z5 k h).map fun y=>sqQ k w h x y).map Sq.d:=by
  intro l
  induction l with
  | nil=>intro _;rfl
  | cons a l ih =>
    intro hm
    rw [B2z,B2z,ih fun x hx=>hm x (B5 _ hx),B0k]
    congr 1
    exact List.map_congr_left fun y hy=>Q8w hk (hm a (B8 ..)) hy
 exact key _ fun x hx=>hx
theorem J0r {k:Int}{w h:Nat}{q:Sq}(m:q∈sqL k w h)(hk:1<=k)(hk2:k<=16)(hw:w<=16)(hh:h<=16):q.ok/\q.l+q.w<=w/\q.t+q.h<=h:=by
 unfold sqL at m
 obtain ⟨x,mx,m⟩:=D6.mp m
 obtain ⟨y,my,rfl⟩:=M3.mp m
 obtain ⟨x0,x1,_⟩:=IG mx
 obtain ⟨y0,y1,_⟩:=IG my
 have e1:((sqQ k w h x y).l:Int)=x:=U5 x0
 have e2:((sqQ k w h x y).t:Int)=y:=U5 y0
 have e3:((sqQ k w h x y).w:Int)=mn k (w - x):=U5 (by unfold mn;split<;>omega)
 have e4:((sqQ k w h x y).h:Int)=mn k (h - y):=U5 (by unfold mn;split<;>omega)
 generalize sqQ k w h x y=q at *
 have b1:mn k (w - x)<=k/\mn k (w - x)<=w - x/\1<=mn k (w - x):=by unfold mn;split<;>omega
 have b2:mn k (h - y)<=k/\mn k (h - y)<=h - y/\1<=mn k (h - y):=by unfold mn;split<;>omega
 exact ⟨⟨by omega,by omega,by omega,by omega,by omega,by omega⟩,by omega,by omega⟩
theorem J9x {k:Int}{w h:Nat}(hk:1<=k){x y:Nat}(hx:x<w)(hy:y<h):∃ q∈sqL k w h,q.in x y:=by
 have one:∀ {n m:Nat},n<m->∃ u∈Z5 k m,(u.toNat:Int)<=n/\(n:Int)<u.toNat+(mn k (m - u)).toNat:=fun {n m} hn=>by
  have h1:=B1g (n:Int) k
  have h2:=B0p (n:Int) (show k≠0 by omega)
  have h3:=B0u (n:Int) (show 0<k by omega)
  have h4:0<=k*((n:Int) / k):=B0m (by omega) (B0w (by omega) (by omega))
  refine ⟨k*((n:Int) / k),J3n h4 (by omega) (Int.mul_emod_right ..),?_,?_⟩
  · rw [U5 h4];omega
  · rw [U5 h4]
    have:(n:Int)<k*((n:Int) / k)+mn k (m - k*((n:Int) / k)):=by unfold mn;split<;>omega
    omega
 obtain ⟨u,mu,u1,u2⟩:=one hx
 obtain ⟨v,mv,v1,v2⟩:=one hy
 exact ⟨sqQ k w h u v,D6.mpr ⟨u,mu,M3.mpr ⟨v,mv,rfl⟩⟩,u1,u2,v1,v2⟩
def SK (qs:List Sq)(x y:Int):Bool:=qs.any fun q=>decide (q.in x y)
def ND (qs:List Sq)(st:Int->Int->Sn)(x y:Nat)(d:D):D:=if SK qs x y=true then (match st x y with|some (k,_,_)=>.int k|none=>d) else d
def paintA (qs:List Sq)(st:Int->Int->Sn)(rows:List (List D)):List (List D):=rows.mapIdx fun y row=>row.mapIdx fun x d=>ND qs st x y d
theorem J0c {qs:List Sq}{q:Sq}{st:Int->Int->Sn}{x y:Nat}{d:D}:DL q st x y (ND qs st x y d)=ND (qs++[q]) st x y d:=by
 unfold DL ND
 have e:SK (qs++[q]) x y=(SK qs x y||decide (q.in x y)):=by unfold SK;simp
 rw [e]
 by_cases z:q.in x y
 · rw [if_pos z,B1a z,Bool.or_true,if_pos rfl]
   cases st x y with
   | none=>cases SK qs x y<;>rfl
   | some s=>rfl
 · rw [if_neg z,B0b z,Bool.or_false]
theorem MV {qs:List Sq}{q:Sq}{st:Int->Int->Sn}{rows:List (List D)}:AI q st (paintA qs st rows)=paintA (qs++[q]) st rows:=by
 unfold AI paintA
 apply T5
 intro y
 rw [R0,R0,R0]
 cases rows[y]? with
 | none=>rfl
 | some row =>
   show some _=some _
   congr 1
   apply T5
   intro x
   show ((row.mapIdx _).mapIdx _)[x]?=(row.mapIdx _)[x]?
   rw [R0,R0,R0]
   cases row[x]? with
   | none=>rfl
   | some d =>
     show some (DL q st x y (ND qs st x y d))=some (ND (qs++[q]) st x y d)
     rw [J0c]
theorem OU {st:Int->Int->Sn}{rows:List (List D)}:paintA [] st rows=rows:=by
 unfold paintA
 apply T5
 intro y
 rw [R0]
 cases rows[y]? with
 | none=>rfl
 | some row =>
   show some _=some _
   congr 1
   apply T5
   intro x
   rw [R0]
   cases row[x]?<;>rfl
theorem JN {qs:List Sq}{st:Int->Int->Sn}{rows:List (List D)}:(paintA qs st rows).length=rows.length:=by unfold paintA;simp
theorem MW {qs:List Sq}{st:Int->Int->Sn}{rows:List (List D)}{w:Nat}(h:∀ r∈rows,r.length=w):∀ r∈paintA qs st rows,r.length=w:=fun r m=>by
 unfold paintA at m
 obtain ⟨i,hi,rfl⟩:=B2p.mp m
 rw [B2u]
 exact h _ (W5 hi)
def DK (w h:Nat):List (List D):=List.replicate h (List.replicate w .non)
theorem OV {ts:List T3}{k:Int}{w h:Nat}(hk:1<=k):paintA (sqL k w h) (fun x y=>Y8 ts x y ts.length) (DK w h)=HV ts w h:=by
 unfold paintA DK HV
 apply T5
 intro y
 rw [R0,M1]
 by_cases hy:y<h
 · rw [E8,if_pos hy,show (Y3 0 h)[y]?=some (.int y) by unfold Y3;simp [hy]]
   show some _=some _
   congr 1
   apply T5
   intro x
   show ((List.replicate w D.non).mapIdx _)[x]?=((Y3 0 w).map (Q0a ts y))[x]?
   rw [R0,M1]
   by_cases hx:x<w
   · rw [E8,if_pos hx,show (Y3 0 w)[x]?=some (.int x) by unfold Y3;simp [hx]]
     show some (ND (sqL k w h) _ x y .non)=some (Q0a ts y (.int x))
     congr 1
     unfold ND
     obtain ⟨q,mq,hin⟩:=J9x hk hx hy
     have ha:SK (sqL k w h) x y=true:=List.any_eq_true.mpr ⟨q,mq,B1a hin⟩
     rw [if_pos ha]
     show (match Y8 ts x y ts.length with|some (k,_,_)=>D.int k|none=>D.non)=J5m (Y8 ts x y ts.length)
     cases Y8 ts x y ts.length with
     | none=>rfl
     | some z=>obtain ⟨a,b,c⟩:=z;rfl
   · rw [E8,if_neg hx,show (Y3 0 w)[x]?=none by unfold Y3;simp;omega]
     rfl
 · rw [E8,if_neg hy,show (Y3 0 h)[y]?=none by unfold Y3;simp;omega]
   rfl
noncomputable def KR (ts:List T3) (qs:List Sq):Nat:=(qs.map fun q=>CK ts q ts.length).sum
theorem OR (ts:List T3)(qs:List Sq)(q:Sq):KR ts (qs++[q])=KR ts qs+CK ts q ts.length:=by unfold KR;simp
abbrev AW:Stmt:=top 47
abbrev Q8g:List Str:=["faces","board","side","squares","wide","high","rows","passed","square"]
abbrev J9i:List Str:=["faces","board","side"]
theorem Y0:FnScope Q8g J9i (J7 AW):=⟨rfl,rfl,rfl,by decide +kernel,rfl,by decide +kernel,by decide +kernel⟩
theorem SN:∀ w:Nat,(List.replicate w [D.non]).flatten=List.replicate w D.non
 | 0=>rfl
 | w+1=>by rw [B0i,B0x,SN w];rfl
theorem NP {α:Type}(h:Nat)(a:α):((List.range h).map ((fun _=>a)∘fun (i:Nat)=>D.int (0+(i:Int))))=List.replicate h a:=by
 apply T5
 intro i
 rw [M1,E8]
 by_cases z:i<h
 · simp [z]
 · simp [z]
noncomputable def J8r (c:Cs):DST:=fun ds P Ed=>∃ (ts:List T3) (d d':D),ds=[.lst (ts.map T3.d),d,d']/\(∀ t∈ts,t.ok 100/\t.pos)/\ts.length<=500/\tkD d=true/\Z1 d=true/\(ES d').isSome=true/\Z1 d'=true/\(DI d=false->Ed c.NoBoard)/\(FU d'=false->Ed c.NoBoard)/\∀ (w h:Nat) (k:Int),d=t2 w h->d'=.int k->(1<=w/\w<=16/\1<=h/\h<=16/\1<=k/\k<=16)->P (HV ts w h) (KR ts (sqL k w h))
abbrev J9o (P:Program) (w:World) (K:Fg) (mg:Str → Option Value) (base:Heap) (f:Addr) (cdv:Value) (A:Around) (outer:List Env) (s:Shared) (H:Hp) (E:XK):Cx:=BW (CX1 P w base) P w K mg base Q8g "painted_by_squares" (J7 AW) f cdv A outer s H E
theorem HJ {f:Addr} (F:Fun K "painted_by_squares" "painted_by_squares" AW f fd) (Z:Bi mg) {c:Cs} (Y:Ex K mg base c) (g0:Callee P w K mg base (CX1 P w base) "squares_of" 4 ["board","side"] (EN K BT (Q3u c))) (g1:Callee P w K mg base CX0 "paint_square" 6 ["rows","faces","square"] (DG K BT (Q3x K))):FnOk P w K mg base (CX1 P w base) 7 f fd J9i (CP K BT (J8r c)):=by
 refine F.okDXT Y0 (fun ds PP Ed h=>?_) (fun cdv A outer s H E M bg ds PP Ed hr hE hS_=>?_)
 · obtain ⟨ts,d,d',rfl,hts,htl,hd,hno,hd',hno',h0,h0',hP⟩:=h
   rfl
 · obtain ⟨ts,d,d',rfl,hts,htl,hd,hno,hd',hno',h0,h0',hP⟩:=hS_
   refine ⟨_,(HW (V0 (i:=3) Y0.nd rfl (by walk_at "o") (J3w hE TJ g0 hr.m rfl (J0 (jdv 1) (J0 (jdv 2) J3))))
    (HW (BV (BE [4,5]) (jdv 1) (PG.or (AO (n:=2) K (by rfl) (by rfl) (J5 (pg_name (i:=4) Y0.nd rfl (by walk_at "o")) (J5 (pg_name (i:=5) Y0.nd rfl (by walk_at "o")) Y1))) (AQ (n:=2) K (by rfl) (by rfl) (J5 (pg_name (i:=4) Y0.nd rfl (by walk_at "o")) (J5 (pg_name (i:=5) Y0.nd rfl (by walk_at "o")) Y1)))))
    (HW (PQ (X:=(J9o P w K mg base f cdv A outer s H E)) (i:=6) Y0.nd rfl (by walk_at "o") (Y2 0) (V0z (X:=(J9o P w K mg base f cdv A outer s H E)) (N':=["y","wide"]) (map:=[none,some 4]) (by rfl) (by rfl) (by decide +kernel) (by rfl) ⟨⟨rfl,rfl,rfl,by walk_at "o"⟩,True.intro⟩ (gkeep_name rfl) fun cl0 C0 fp0 s0 H0=>⟨(pg_name (X:=(Q7 (J9o P w K mg base f cdv A outer s H E) ["y","wide"] _ cl0 C0 fp0 s0 H0)) (i:=0) (Z4 ["y","wide"] (by decide +kernel)) rfl (by walk_at "o")),Z9,(Q1f (X:=(Q7 (J9o P w K mg base f cdv A outer s H E) ["y","wide"] _ cl0 C0 fp0 s0 H0)) (AT (J0 LF J3)) (jdv 1))⟩) (BM rfl Z.range_ (J0 (jdv 5) J3)))
    (HW (V0 (i:=7) Y0.nd rfl (by walk_at "o") J1)
    (HW (BU (Y2 8) PassesOwn.leaving rfl (AR (by rfl) (jdv 3)) (pg_name (i:=8) Y0.nd rfl (by walk_at "o")) (Q0 (J6q (i:=7) (js:=[6]) (by decide) Y0.nd rfl (by walk_at "o") (JL g1 hr.m rfl (Q8 (pv 6) (JA.h (J0 (jdv 0) (J0 (jdv 8) J3))))) J6z)))
    (Q1a (Q8 (pv 6) (Q8 (pv 7) Z0)))))))),?_⟩
   walk_at "g"
   refine ⟨d,d',by simp [VJ hno,VJ hno'],hd,hno,hd',hno',h0,h0',fun w h k e1 e2 hb=>?_⟩
   subst e1 e2
   replace hP:=hP w h k rfl rfl hb
   obtain ⟨w1,w2,h1,h2,k1,k2⟩:=hb
   refine ⟨PJ fun d hd=>?_,?_⟩
   · rw [J5h k1] at hd
     obtain ⟨q,_,rfl⟩:=M3.mp hd
     rfl
   rw [J5h k1]
   walk_at "g"
   refine And.intro ⟨by omega,by omega⟩ ?_
   refine And.intro (by rw [rangeD_len];omega) ?_
   refine SW (fun _=>List.replicate w .non) (fun x Q hx hQ=>?_) ?_
   · walk_at "g"
     refine And.intro ⟨by omega,by omega,by simp;omega⟩ ?_
     rw [show (List.replicate (Int.toNat (w:Int)) [D.non]).flatten=List.replicate w D.non by rw [W8];exact SN w]
     exact hQ
   rw [show (Y3 0 (Int.toNat (h:Int))).map (fun _=>List.replicate w D.non)=DK w h by unfold Y3 DK;rw [B0k,W8];exact NP h _]
   intro a rs hrs
   walk_at "g"
   have hrl:rs.length=h:=by rw [hrs];unfold DK;simp
   have key:∀ q∈sqL k w h,q.ok/\q.l+q.w<=w/\q.t+q.h<=h:=fun q m=>J0r m k1 k2 w2 h2
   have hall:=OV (ts:=ts) (k:=k) (w:=w) (h:=h) k1
   generalize sqL k w h=qs at hP key hall ⊢
   refine ⟨fun i ρ=>∃ v8,ρ=[some (.lst (ts.map T3.d)),some (t2 w h),some (.int k),some (.lst (qs.map Sq.d)),some (.int w),some (.int h),some (grd K a rs (paintA (qs.take i) (fun x y=>Y8 ts x y ts.length) (DK w h))),some (.int (KR ts (qs.take i))),v8],⟨_,by rw [List.take_zero,OU];rfl⟩,?_,?_⟩
   · rintro i z ρ e ⟨v8,rfl⟩
     rw [M1] at e
     obtain ⟨q,eq,rfl⟩:=M7.mp e
     obtain ⟨qok,ql,qt⟩:=key q (L4 eq)
     have et:qs.take (i+1)=qs.take i++[q]:=by rw [W7,eq];rfl
     rw [et]
     walk_at "g"
     refine ⟨_,V0a UT rfl,?_⟩
     walk_at "g"
     refine ⟨a,rs,_,q,ts,⟨rfl,rfl⟩,by rw [JN,hrl];unfold DK;simp,⟨by rw [JN];unfold DK;rw [B2j];exact qt,fun row m=>?_⟩,qok,hts,htl,?_⟩
     · rw [MW (w:=w) (fun r m=>by unfold DK at m;rw [List.eq_of_mem_replicate m];simp) row m]
       exact ql
     · exact ⟨_,by rw [OR,<- MV,Int.natCast_add];rfl⟩
   · rintro ρ ⟨v8,rfl⟩
     rw [B9,E4,hall]
     exact ⟨a,rs,_,rfl,_,rfl,hP⟩
abbrev kv (i:Nat)(a b:Int):D:=.tup [t2 a b,.int i]
def dkD:Sn->Option D:=Option.map fun z=>kv z.1 z.2.1 z.2.2
structure DkOk (q:Sq)(st:Int->Int->Sn)(ks:List (List Int))(xs:List D):Prop where
 len:ks.length=xs.length
 nd:ks.Nodup
 inn:∀ k∈ks,∃ x y,k=[x,y]/\q.in x y
 at':∀ x y,q.in x y->AL ks xs [x,y]=dkD (st x y)
 bd:∀ x y,q.in x y->V1b (st x y)
 pb:∀ x y i a b,q.in x y->st x y=some (i,a,b)->0<b
section
variable {q:Sq}{st:Int->Int->Sn}{ks:List (List Int)}{xs:List D}
theorem DkOk.all (h:DkOk q st ks xs):(∀ x y,q.in x y->∃ z,st x y=some z)↔¬ (ks.length<q.w*q.h):=by
 have mem:∀ x y,q.in x y->([x,y]∈ks↔∃ z,st x y=some z):=fun x y hin=>by
  have f:=h.at' x y hin
  constructor
  · intro m
    obtain ⟨d,e⟩:=HB h.len m
    rw [e] at f
    cases es:st x y with
    | none=>rw [es] at f;cases f
    | some z=>exact ⟨z,rfl⟩
  · rintro ⟨z,e⟩
    rw [e] at f
    exact (FY f).2
 have tok:∀ k∈ks,k∈q.dots.map fun p=>[p.1,p.2]:=fun k m=>by
  obtain ⟨x,y,rfl,hin⟩:=h.inn k m
  exact M3.mpr ⟨(x,y),Sq.mem_dots.mpr hin,rfl⟩
 have lenm:(q.dots.map fun p=>[p.1,p.2]).length=q.w*q.h:=by rw [B9,Sq.dots_len]
 constructor
 · intro ha
   have nd:(q.dots.map fun p=>[p.1,p.2]).Nodup:=by
    have:∀ l:List (Int×Int),l.Nodup->(l.map fun p=>[p.1,p.2]).Nodup:=by
     intro l
     induction l with
     | nil=>intro _;exact B0t
     | cons a l ih =>
       intro nd
       rw [R7] at nd
       rw [T4,R7]
       refine ⟨fun z=>nd.1 ?_,ih nd.2⟩
       obtain ⟨c,hc,e⟩:=M3.mp z
       have:c=a:=by
        obtain ⟨c1,c2⟩:=c
        obtain ⟨a1,a2⟩:=a
        simp at e
        rw [Prod.mk.injEq];exact e
       rw [<- this];exact hc
    exact this _ q.dots_nodup
   have:=CG nd (l2:=ks) fun k m=>by
    obtain ⟨⟨x,y⟩,hm,rfl⟩:=M3.mp m
    have hin:=Sq.mem_dots.mp hm
    exact (mem x y hin).mpr (ha x y hin)
   omega
 · intro hl x y hin
   by_cases z:[x,y]∈ks
   · exact (mem x y hin).mp z
   · have:=CG (l1:=[x,y]::ks) (l2:=q.dots.map fun p=>[p.1,p.2]) (R7.mpr ⟨z,h.nd⟩) fun k m=>by
      rcases B6.mp m with e|e
      · rw [e];exact M3.mpr ⟨(x,y),Sq.mem_dots.mpr hin,rfl⟩
      · exact tok k e
     rw [B1c] at this
     omega
theorem DkOk.nil (hst:∀ x y,q.in x y->st x y=none):DkOk q st [] []:=⟨rfl,B0t,(fun _ m=>by cases m),fun x y hin=>by rw [hst x y hin];rfl,fun x y hin=>by rw [hst x y hin];trivial,fun x y i a b hin e=>by rw [hst x y hin] at e;cases e⟩
theorem DkOk.congr {st':Int->Int->Sn}(h:DkOk q st ks xs)(e:∀ x y,q.in x y->st' x y=st x y):DkOk q st' ks xs:=⟨h.len,h.nd,h.inn,fun x y hin=>by rw [e x y hin];exact h.at' x y hin,fun x y hin=>by rw [e x y hin];exact h.bd x y hin,fun x y i a b hin q=>h.pb x y i a b hin (by rw [<- e x y hin];exact q)⟩
theorem DkOk.put (h:DkOk q st ks xs){x y:Int}{i:Nat}{a b:Int}(hin:q.in x y)(ok:Bd 500 a/\Bd 500 b)(b0:0<b):DkOk q (IY st x y (some (i,a,b))) (EM ks xs [x,y] (kv i a b)).1 (EM ks xs [x,y] (kv i a b)).2 where
 len:=WK _ _ h.len
 nd:=OO h.nd
 inn:=fun k m=>by
  rw [LV] at m
  split at m
  · exact h.inn k m
  · rcases U7.mp m with z|z
    · exact h.inn k z
    · rw [M6.mp z];exact ⟨x,y,rfl,hin⟩
 at':=fun x' y' hin'=>by
  rw [SA _ _ h.len]
  by_cases z:x'=x/\y'=y
  · obtain ⟨rfl,rfl⟩:=z
    rw [if_pos rfl,DM];rfl
  · rw [if_neg (fun e=>z (by simp at e;exact ⟨e.1.symm,e.2.symm⟩)),FE z]
    exact h.at' x' y' hin'
 bd:=fun x' y' hin'=>by
  by_cases z:x'=x/\y'=y
  · obtain ⟨rfl,rfl⟩:=z
    rw [DM];exact ok
  · rw [FE z];exact h.bd x' y' hin'
 pb:=fun x' y' i' a' b' hin' e=>by
  by_cases z:x'=x/\y'=y
  · obtain ⟨rfl,rfl⟩:=z
    rw [DM] at e;cases e;exact b0
  · rw [FE z] at e;exact h.pb x' y' i' a' b' hin' e
end
theorem DkOk.small {q:Sq}{st:Int->Int->Sn}{ks:List (List Int)}{xs:List D}(h:DkOk q st ks xs)(hw:q.w<=16)(hh:q.h<=16):ks.length<=256:=by
 have:=CG h.nd (l2:=q.dots.map fun p=>[p.1,p.2]) fun k m=>by
  obtain ⟨x,y,rfl,hin⟩:=h.inn k m
  exact M3.mpr ⟨(x,y),Sq.mem_dots.mpr hin,rfl⟩
 rw [B9,Sq.dots_len] at this
 have:=B2t hw hh
 omega
theorem ZC {q:Sq}{st:Int->Int->Sn}{ks:List (List Int)}{xs:List D}{t:T3}{n:Nat}{x y:Int}(h:DkOk q st ks xs)(hp:IT t q st)(hin:q.in x y):AM x y n t (st x y)=st x y:=by
 obtain ⟨⟨i,a,b⟩,e⟩:=hp.1 x y hin
 have b0:=h.pb x y i a b hin e
 obtain ⟨c,mc,hc⟩:=SV t (sgn t.tn) hin
 have no:=hp.2 c mc x y i a b hin e
 rw [e]
 unfold AM
 by_cases z:t.has x y
 · rw [if_pos z]
   show (if t.top x y*sgn t.tn*b<a*AK t.tn then _ else _)=_
   rw [if_neg]
   have:=B0j hc (B1m b0)
   omega
 · rw [if_neg z]
def Sq.rowT (q:Sq)(j:Nat):List D:=(List.range q.w).map fun (i:Nat)=>t2 ((q.l:Int)+(i:Int)) ((q.t:Int)+(j:Int))
def Sq.dotsY (q:Sq):List (Int×Int):=(List.range q.h).flatMap fun (j:Nat)=>(List.range q.w).map fun (i:Nat)=>((q.l:Int)+(i:Int),(q.t:Int)+(j:Int))
def NA (q:Sq)(n:Nat):List D:=(List.range n).flatMap q.rowT
theorem ZW (q:Sq)(n:Nat):NA q (n+1)=NA q n++q.rowT n:=by unfold NA;rw [List.range_succ,B2s];simp
theorem SS (q:Sq)(n:Nat):(NA q n).length=n*q.w:=by
 unfold NA
 rw [QD _ q.w _ fun a _=>by unfold Sq.rowT;simp]
 simp
theorem ST (q:Sq):NA q q.h=q.dotsY.map fun p=>t2 p.1 p.2:=by
 unfold NA Sq.dotsY
 rw [B3e]
 congr 1
 funext j
 unfold Sq.rowT
 rw [B0k];rfl
theorem Sq.mem_dotsY {q:Sq}{x y:Int}:(x,y)∈q.dotsY↔q.in x y:=by
 unfold Sq.dotsY Sq.in
 rw [D6]
 constructor
 · rintro ⟨i,hi,h⟩
   obtain ⟨j,hj,e⟩:=M3.mp h
   have hi:=E2.mp hi
   have hj:=E2.mp hj
   injection e with e1 e2
   omega
 · rintro ⟨h1,h2,h3,h4⟩
   exact ⟨(y - q.t).toNat,E2.mpr (by omega),M3.mpr ⟨(x - q.l).toNat,E2.mpr (by omega),Prod.ext (show (q.l:Int)+((x - q.l).toNat:Int)=x by omega) (show (q.t:Int)+((y - q.t).toNat:Int)=y by omega)⟩⟩
theorem dotsY_len (q:Sq):q.dotsY.length=q.w*q.h:=by
 have:=D7 List.length (ST q)
 rw [SS,B9] at this
 rw [<- this,Nat.mul_comm]
theorem J4i {q:Sq}{i:Nat}{d:D}(e:(q.dotsY.map fun p=>t2 p.1 p.2)[i]?=some d):∃ x y:Int,q.dotsY[i]?=some (x,y)/\d=t2 x y/\q.in x y:=by
 rw [M1] at e
 obtain ⟨⟨x,y⟩,e1,rfl⟩:=M7.mp e
 exact ⟨x,y,e1,rfl,Sq.mem_dotsY.mp (L4 e1)⟩
theorem IN {q:Sq}{st st' st'':Int->Int->Sn}{i:Nat}{x y:Int}{n:Nat}{t:T3}(ed:q.dotsY[i]?=some (x,y))(hst:∀ x y,st' x y=if (x,y)∈q.dotsY.take i then AM x y n t (st x y) else st x y)(h2:∀ x' y',st'' x' y'=if x'=x/\y'=y then AM x y n t (st' x y) else st' x' y'):∀ x' y',st'' x' y'=if (x',y')∈q.dotsY.take (i+1) then AM x' y' n t (st x' y') else st x' y':=fun x' y'=>by
 rw [h2,W7,ed,E9]
 by_cases z:x'=x/\y'=y
 · obtain ⟨rfl,rfl⟩:=z
   rw [if_pos ⟨rfl,rfl⟩,if_pos (by simp),hst]
   split
   · exact RU
   · rfl
 · rw [if_neg z,hst]
   have:((x',y')∈List.take i q.dotsY++[(x,y)])↔(x',y')∈List.take i q.dotsY:=by
    rw [U7,M6,Prod.mk.injEq]
    exact ⟨fun w=>w.elim id fun w=>absurd w z,.inl⟩
   by_cases w:(x',y')∈List.take i q.dotsY
   · rw [if_pos w,if_pos (this.mpr w)]
   · rw [if_neg w,if_neg (fun v=>w (this.mp v))]
abbrev GM:Stmt:=top 65
theorem QY:FnScope xl5 xl5 (J7 GM):=⟨rfl,rfl,rfl,by decide +kernel,rfl,by decide +kernel,by decide +kernel⟩
noncomputable def VP:DSp:=fun ds P _=>∃ (a b c d:Int) (n:Nat),ds=[t2 a b,t2 c d]/\(Bd n a/\Bd n b/\Bd n c/\Bd n d)/\n<=3000/\P (.bl (decide (a*d<c*b)))
theorem RI {f:Addr} (F:Fun K "_law_below" "_law_below" GM f fd) (Z:Bi mg) {c:Cs} (Y:Ex K mg base c):FnOk P w K mg base CX0 1 f fd xl5 (Q3 K BT VP):=by
 refine F.okD QY (fun ds PP Ed h=>?_) (fun cdv A outer s H E M bg ds PP Ed hr hS_=>?_)
 · obtain ⟨a,b,c,d,n,rfl,⟨b1,b2,b3,b4⟩,hn,hP⟩:=h
   rfl
 · obtain ⟨a,b,c,d,n,rfl,⟨b1,b2,b3,b4⟩,hn,hP⟩:=hS_
   refine ⟨_,(Q0 (V6 (EO MX IU (J6 Q9 Y9 (J8 (J9 K (by rfl)) Q5 (jdv 0) J1 (fun _ _=>rfl)) (J8 (J9 K (by rfl)) Q5 (jdv 1) J1 (fun _ _=>rfl))) (J6 Q9 Y9 (J8 (J9 K (by rfl)) Q5 (jdv 1) J1 (fun _ _=>rfl)) (J8 (J9 K (by rfl)) Q5 (jdv 0) J1 (fun _ _=>rfl))) (Y5 _)))),?_⟩
   walk_at "g"
   exact hP
abbrev GI:Stmt:=top 66
theorem DR:FnScope ["_law_some","_law_found","_law_one"] ["_law_some"] (J7 GI):=⟨rfl,rfl,rfl,by decide +kernel,rfl,by decide +kernel,by decide +kernel⟩
noncomputable def J2g:DSp:=fun ds P _=>∃ (as:List Int) (e:Int) (n:Nat),ds=[.lst (as.map fun a=>t2 a e)]/\0<e/\(∀ a∈as,Bd n a)/\Bd n e/\n<=3000/\(as≠[]/\as.length<=100)/\∀ m:Int,m∈as->(∀ a∈as,m<=a)->P (t2 m e)
theorem RE {f:Addr} (F:Fun K "_law_least" "_law_least" GI f fd) (Z:Bi mg) {c:Cs} (Y:Ex K mg base c) (g0:Callee P w K mg base CX0 "_law_below" 1 xl5 (Q3 K BT VP)):FnOk P w K mg base CX0 2 f fd ["_law_some"] (Q3 K BT J2g):=by
 refine F.okD DR (fun ds PP Ed h=>?_) (fun cdv A outer s H E M bg ds PP Ed hr hS_=>?_)
 · obtain ⟨as,e,n,rfl,e0,ha,be,hn,⟨ne,hl⟩,hP⟩:=h
   rfl
 · obtain ⟨as,e,n,rfl,e0,ha,be,hn,⟨ne,hl⟩,hP⟩:=hS_
   refine ⟨_,(J4 (V0 (i:=1) DR.nd rfl (by walk_at "o") (J8 (J9 K (by rfl)) Q5 (jdv 0) J1 (fun _ _=>rfl)))
    (J4 (BU (Y2 2) U8 rfl (AR (by rfl) (jdv 0)) (pg_name (i:=2) DR.nd rfl (by walk_at "o")) (Q0 (AJ (AC (by rfl) (Q4 g0 hr.m rfl (J0 (jdv 2) (J0 (jdv 1) J3))) (fun _=>rfl)) (Q0 (V0 (i:=1) DR.nd rfl (by walk_at "o") (jdv 2))) Y6)))
    (Q0 (V6 (jdv 1))))),?_⟩
   obtain ⟨a0,as',rfl⟩:∃ a l,as=a::l:=by cases as with|nil=>exact absurd rfl ne|cons a l=>exact ⟨a,l,rfl⟩
   walk_at "g"
   rw [show atI ((a0::as').map fun a=>t2 a e) 0=some (t2 a0 e) from IQ (j:=0) rfl]
   walk_at "g"
   refine ⟨fun i ρ=>∃ m v2,ρ=[some (.lst ((a0::as').map fun a=>t2 a e)),some (t2 m e),v2]/\m∈a0::as'/\∀ j a,j<i->(a0::as')[j]?=some a->m<=a,⟨a0,_,rfl,B8 ..,fun j a h=>by omega⟩,?_,?_⟩
   · rintro i x ρ ei ⟨m,v2,rfl,mm,hm⟩
     rw [M1] at ei
     obtain ⟨a,ea,rfl⟩:=M7.mp ei
     have ma:=L4 ea
     clear ei
     walk_at "g"
     refine ⟨a,e,m,e,n,rfl,⟨ha a ma,be,ha m mm,be⟩,hn,?_⟩
     by_cases hlt:a<m
     · refine IfP.t (B1a (Int.mul_lt_mul_of_pos_right hlt e0)) ?_
       walk_at "g"
       refine ⟨a,_,rfl,ma,fun j b hj eb=>?_⟩
       by_cases z:j=i
       · subst z;rw [ea] at eb;cases eb;exact Int.le_refl _
       · exact Int.le_trans (B1m hlt) (hm j b (by omega) eb)
     · refine IfP.f (B0b fun z=>hlt (Int.lt_of_mul_lt_mul_right z (B1m e0))) ?_
       walk_at "g"
       refine ⟨m,_,rfl,mm,fun j b hj eb=>?_⟩
       by_cases z:j=i
       · subst z;rw [ea] at eb;cases eb;omega
       · exact hm j b (by omega) eb
   · rintro ρ ⟨m,v2,rfl,mm,hm⟩
     walk_at "g"
     refine hP m mm fun a ma=>?_
     obtain ⟨j,ej⟩:=D3 ma
     have:=(B7.mp ej).1
     exact hm j a (by simpa using this) ej
abbrev BL:Stmt:=top 67
abbrev Q8f:List Str:=["_law_faces_here","_law_square","_law_left","_law_top","_law_wide","_law_high","_law_dots","_law_y","_law_kept","_law_passed","_law_number","_law_face_here","_law_ends","_law_least_here","_law_dot","_law_depth_here"]
theorem Q6:FnScope Q8f ["_law_faces_here","_law_square"] (J7 BL):=⟨rfl,rfl,rfl,by decide +kernel,rfl,by decide +kernel,by decide +kernel⟩
def BA (q:Sq):List (Int×Int):=[((q.l:Int),(q.t:Int)),((q.l:Int)+q.w - 1,(q.t:Int)),((q.l:Int),(q.t:Int)+q.h - 1),((q.l:Int)+q.w - 1,(q.t:Int)+q.h - 1)]
theorem JZ {q:Sq}{c:Int×Int}:c∈BA q↔c∈CM q:=by
 unfold BA CM
 simp only [B6,R1,W4]
 constructor<;>(rintro (h|h|h|h)<;>simp [h])
theorem DkOk.le {q:Sq}{st:Int->Int->Sn}{ks:List (List Int)}{xs:List D}(h:DkOk q st ks xs):ks.length<=q.w*q.h:=by
 have:=CG h.nd (l2:=q.dots.map fun p=>[p.1,p.2]) fun k m=>by
  obtain ⟨x,y,rfl,hin⟩:=h.inn k m
  exact M3.mpr ⟨(x,y),Sq.mem_dots.mpr hin,rfl⟩
 rw [B9,Sq.dots_len] at this
 exact this
theorem corn_ne {α:Type}(f:Int×Int->α)(q:Sq):(BA q).map f≠[]:=fun z=>by cases z
theorem J8e (t:T3)(q:Sq):List.map (J7p t) [.tup [.int q.l,.int q.t],.tup [.int ((q.l:Int)+q.w - 1),.int q.t],.tup [.int q.l,.int ((q.t:Int)+q.h - 1)],.tup [.int ((q.l:Int)+q.w - 1),.int ((q.t:Int)+q.h - 1)]]=((BA q).map fun c=>t.top c.1 c.2*sgn t.tn).map fun a=>t2 a (AK t.tn):=by
 simp only [BA,T4,B2c]
 rfl
def Q8y (y:Int):D->D
 | .int x=>t2 x y
 | _=>.non
theorem J5n (q:Sq)(i:Nat):(Y3 q.l q.w).map (Q8y ((q.t:Int)+(i:Int)))=q.rowT i:=by
 unfold Y3 Sq.rowT
 rw [B0k];rfl
open Classical in
noncomputable def UN (st:Int->Int->Sn) (m e:Int) (d:D):Bool:=decide (∃ x y j a b,d=t2 x y/\st x y=some (j,a,b)/\m*b<a*e)
theorem Q4r {x y x' y':Int}(h:t2 x y=t2 x' y'):x=x'/\y=y':=by
 unfold t2 at h
 simp at h
 exact h
theorem UM {st:Int->Int->Sn}{m e x y:Int}{j:Nat}{a b:Int}(h:st x y=some (j,a,b)):UN st m e (t2 x y)=decide (m*b<a*e):=by
 unfold UN
 rw [decide_eq_decide]
 constructor
 · rintro ⟨x',y',j',a',b',e1,e2,e3⟩
   obtain ⟨rfl,rfl⟩:=Q4r e1
   rw [h] at e2;cases e2
   exact e3
 · intro z
   exact ⟨x,y,j,a,b,rfl,h,z⟩
theorem J6f {t:T3}{q:Sq}{st:Int->Int->Sn}{ks:List (List Int)}{xs:List D}(hD:DkOk q st ks xs)(full:∀ x y,q.in x y->∃ z,st x y=some z){m:Int}(mm:m∈(BA q).map fun c=>t.top c.1 c.2*sgn t.tn)(hm:∀ a∈(BA q).map fun c=>t.top c.1 c.2*sgn t.tn,m<=a):(q.dotsY.map fun p=>t2 p.1 p.2).any (UN st m (AK t.tn))=true↔¬ IT t q st:=by
 rw [List.any_eq_true]
 constructor
 · rintro ⟨d,md,hd⟩ hp
   obtain ⟨p,mp,rfl⟩:=M3.mp md
   obtain ⟨x,y⟩:=p
   have hin:=Sq.mem_dotsY.mp mp
   obtain ⟨⟨j,a,b⟩,e⟩:=full x y hin
   rw [UM e] at hd
   obtain ⟨c,mc,rfl⟩:=M3.mp mm
   exact hp.2 c (JZ.mp mc) x y j a b hin e (B0a hd)
 · intro hp
   refine Classical.byContradiction fun hn=>hp ⟨full,fun c mc x y j a b hin e hlt=>hn ?_⟩
   refine ⟨t2 x y,M3.mpr ⟨(x,y),Sq.mem_dotsY.mpr hin,rfl⟩,?_⟩
   rw [UM e]
   have b0:=hD.pb x y j a b hin e
   have:=hm _ (M3.mpr ⟨c,JZ.mpr mc,rfl⟩)
   exact B1a (Int.lt_of_le_of_lt (B0j this (B1m b0)) hlt)
noncomputable def Q3v:DSp:=fun ds P _=>∃ (q:Sq) (ts:List T3),ds=[.lst (ts.map T3.d),q.d]/\q.ok/\(∀ t∈ts,t.ok 100/\t.pos)/\ts.length<=500/\∀ tg ks xs,DkOk q (fun x y=>Y8 ts x y ts.length) ks xs->P (.tup [.dct tg ks xs,.int (CK ts q ts.length)])
abbrev IR (P:Program) (w:World) (K:Fg) (mg:Str → Option Value) (base:Heap) (f:Addr) (cdv:Value) (A:Around) (outer:List Env) (s:Shared) (H:Hp) (E:XK):Cx:=BW CX0 P w K mg base Q8f "_law_square_kept" (J7 BL) f cdv A outer s H E
abbrev VS:List Str:=["_law_x","_law_y"]
abbrev J9h:List Str:=["_law_dot","_law_face_here"]
abbrev J9g:List Str:=["_law_dot","_law_least_here","_law_kept"]
theorem IS {f:Addr} (F:Fun K "_law_square_kept" "_law_square_kept" BL f fd) (Z:Bi mg) {c:Cs} (Y:Ex K mg base c) (g0:Callee P w K mg base CX0 "_law_least" 2 ["_law_some"] (Q3 K BT J2g)) (g1:Callee P w K mg base CX0 "_law_turn" 2 J2k (Q3 K BT J2d)) (g2:Callee P w K mg base CX0 "_law_has" 2 TH (Q3 K BT J8y)) (g3:Callee P w K mg base CX0 "_law_depth" 2 TH (Q3 K BT YF)) (g4:Callee P w K mg base CX0 "_law_below" 1 xl5 (Q3 K BT VP)):FnOk P w K mg base CX0 3 f fd ["_law_faces_here","_law_square"] (Q3 K BT Q3v):=by
 refine F.okD Q6 (fun ds PP Ed h=>?_) (fun cdv A outer s H E M bg ds PP Ed hr hS_=>?_)
 · obtain ⟨q,ts,rfl,qok,hts,htl,hP⟩:=h
   rfl
 · obtain ⟨q,ts,rfl,qok,hts,htl,hP⟩:=hS_
   refine ⟨_,(J4 (BV (BE [2,3,4,5]) (jdv 1) (PG.or (AO (n:=4) K (by rfl) (by rfl) (J5 (pg_name (i:=2) Q6.nd rfl (by walk_at "o")) (J5 (pg_name (i:=3) Q6.nd rfl (by walk_at "o")) (J5 (pg_name (i:=4) Q6.nd rfl (by walk_at "o")) (J5 (pg_name (i:=5) Q6.nd rfl (by walk_at "o")) Y1))))) (AQ (n:=4) K (by rfl) (by rfl) (J5 (pg_name (i:=2) Q6.nd rfl (by walk_at "o")) (J5 (pg_name (i:=3) Q6.nd rfl (by walk_at "o")) (J5 (pg_name (i:=4) Q6.nd rfl (by walk_at "o")) (J5 (pg_name (i:=5) Q6.nd rfl (by walk_at "o")) Y1)))))))
    (J4 (LC (i:=6) Q6.nd rfl (by walk_at "o") J3)
    (J4 (BU (Y2 7) U8 rfl (FA rfl Z.range_ (J0 (jdv 3) (J0 (J6 Y7 V7 (jdv 3) (jdv 5)) J3))) (pg_name (i:=7) Q6.nd rfl (by walk_at "o")) (Q0 (ZS (i:=6) (by rfl) (J0 (AS (X:=(IR P w K mg base f cdv A outer s H E).nox) (Y2 0) (HL (X:=(IR P w K mg base f cdv A outer s H E).nox) (N':=VS) (map:=[none,some 7]) (by rfl) (by rfl) (by decide +kernel) (by rfl) ⟨⟨rfl,rfl,rfl,by walk_at "o"⟩,True.intro⟩ (gkeep_name rfl) fun cl0 C0 fp0 s0 H0=>⟨(pg_name (X:=(Q7 (IR P w K mg base f cdv A outer s H E).nox VS _ cl0 C0 fp0 s0 H0)) (i:=0) (Z4 VS (by decide +kernel)) rfl (by walk_at "o")),Z9,(V3 (X:=(Q7 (IR P w K mg base f cdv A outer s H E).nox VS _ cl0 C0 fp0 s0 H0)) (J0 (jdv 0) (J0 (jdv 1) J3)))⟩) (FA rfl Z.range_ (J0 (jdv 2) (J0 (J6 Y7 V7 (jdv 2) (jdv 4)) J3)))) J3) (WO B1b PySem.F.slot_list_extend PySem.F.type_list_extend J3m (pv 6) (JA.h (J0 (AS (X:=(IR P w K mg base f cdv A outer s H E).nox) (Y2 0) (HL (X:=(IR P w K mg base f cdv A outer s H E).nox) (N':=VS) (map:=[none,some 7]) (by rfl) (by rfl) (by decide +kernel) (by rfl) ⟨⟨rfl,rfl,rfl,by walk_at "o"⟩,True.intro⟩ (gkeep_name rfl) fun cl0 C0 fp0 s0 H0=>⟨(pg_name (X:=(Q7 (IR P w K mg base f cdv A outer s H E).nox VS _ cl0 C0 fp0 s0 H0)) (i:=0) (Z4 VS (by decide +kernel)) rfl (by walk_at "o")),Z9,(V3 (X:=(Q7 (IR P w K mg base f cdv A outer s H E).nox VS _ cl0 C0 fp0 s0 H0)) (J0 (jdv 0) (J0 (jdv 1) J3)))⟩) (FA rfl Z.range_ (J0 (jdv 2) (J0 (J6 Y7 V7 (jdv 2) (jdv 4)) J3)))) J3))))))
    (J6o 6 (J4 (SI (i:=8) Q6.nd rfl (by walk_at "o"))
    (J4 (V0 (i:=9) Q6.nd rfl (by walk_at "o") J1)
    (J4 (BU (BE [10,11]) U8 rfl (PX (by rfl) (J0 (jdv 0) J3) (NR K (by rfl) rfl Z.enumerate_ (JA.h (J0 (jdv 0) J3)))) (PG.or (AO (n:=2) K (by rfl) (by rfl) (J5 (pg_name (i:=10) Q6.nd rfl (by walk_at "o")) (J5 (pg_name (i:=11) Q6.nd rfl (by walk_at "o")) Y1))) (AQ (n:=2) K (by rfl) (by rfl) (J5 (pg_name (i:=10) Q6.nd rfl (by walk_at "o")) (J5 (pg_name (i:=11) Q6.nd rfl (by walk_at "o")) Y1)))) (J4 (AJ (Z6 DD BR (Q4 g1 hr.m rfl (J0 (jdv 11) J3)) J1 (Y5 _)) (Q0 GZ) Y6)
    (J4 (V0 (i:=12) Q6.nd rfl (by walk_at "o") (AT (J0 (V3 (J0 (jdv 2) (J0 (jdv 3) J3))) (J0 (V3 (J0 (J6 Y4 V7 (J6 Y7 V7 (jdv 2) (jdv 4)) J1) (J0 (jdv 3) J3))) (J0 (V3 (J0 (jdv 2) (J0 (J6 Y4 V7 (J6 Y7 V7 (jdv 3) (jdv 5)) J1) J3))) (J0 (V3 (J0 (J6 Y4 V7 (J6 Y7 V7 (jdv 2) (jdv 4)) J1) (J0 (J6 Y4 V7 (J6 Y7 V7 (jdv 3) (jdv 5)) J1) J3))) J3))))))
    (J4 (V0 (i:=13) Q6.nd rfl (by walk_at "o") (Q4 g0 hr.m rfl (J0 (AS (X:=(IR P w K mg base f cdv A outer s H E).nox) (Y2 0) (HL (X:=(IR P w K mg base f cdv A outer s H E).nox) (N':=J9h) (map:=[none,some 11]) (by rfl) (by rfl) (by decide +kernel) (by rfl) ⟨⟨rfl,rfl,rfl,by walk_at "o"⟩,True.intro⟩ (gkeep_name rfl) fun cl0 C0 fp0 s0 H0=>⟨(pg_name (X:=(Q7 (IR P w K mg base f cdv A outer s H E).nox J9h _ cl0 C0 fp0 s0 H0)) (i:=0) (Z4 J9h (by decide +kernel)) rfl (by walk_at "o")),Z9,(Q4 (X:=(Q7 (IR P w K mg base f cdv A outer s H E).nox J9h _ cl0 C0 fp0 s0 H0)) g3 hr.m rfl (J0 (jdv 1) (J0 (jdv 0) J3)))⟩) (AR (by rfl) (jdv 12))) J3)))
    (PN (AJ (UO (Z6 DD BR (V2 SX J1u rfl Z.len_ HE (J0 (jdv 8) J3)) (V2 (BC K (by rfl)) QL rfl Z.len_ HE (J0 (jdv 6) J3)) (Y5 _)) (PM (DZ (AC (by rfl) (V2 (SY K (by rfl) (by rfl)) QM rfl Z.any_ J8l (J0 (AS (X:=(IR P w K mg base f cdv A outer s H E).nox) (Y2 0) (HL (X:=(IR P w K mg base f cdv A outer s H E).nox) (N':=J9g) (map:=[none,some 13,some 8]) (by rfl) (by rfl) (by decide +kernel) (by rfl) ⟨⟨rfl,rfl,rfl,by walk_at "o"⟩,⟨⟨rfl,rfl,rfl,by walk_at "o"⟩,True.intro⟩⟩ (gkeep_name rfl) fun cl0 C0 fp0 s0 H0=>⟨(pg_name (X:=(Q7 (IR P w K mg base f cdv A outer s H E).nox J9g _ cl0 C0 fp0 s0 H0)) (i:=0) (Z4 J9g (by decide +kernel)) rfl (by walk_at "o")),Z9,(Q4 (X:=(Q7 (IR P w K mg base f cdv A outer s H E).nox J9g _ cl0 C0 fp0 s0 H0)) g4 hr.m rfl (J0 (jdv 1) (J0 (J8 (J9 K (by rfl)) Q5 (J8 (NV K (by rfl) hr.units) UK (jdv 2) (jdv 0) (fun _ _=>rfl)) J1 (fun _ _=>rfl)) J3)))⟩) (AR (by rfl) (jdv 6))) J3)) (fun _=>rfl))))) (J4 (V0 (i:=9) Q6.nd rfl (by walk_at "o") (J6 Y7 V7 (jdv 9) J1))
    (Q0 GZ)) Y6)
    (Q0 (BU (Y2 14) U8 rfl (AR (by rfl) (jdv 6)) (pg_name (i:=14) Q6.nd rfl (by walk_at "o")) (Q0 (AJ (AC (by rfl) (Q4 g2 hr.m rfl (J0 (jdv 11) (J0 (jdv 14) J3))) (fun _=>rfl)) (J4 (V0 (i:=15) Q6.nd rfl (by walk_at "o") (Q4 g3 hr.m rfl (J0 (jdv 11) (J0 (jdv 14) J3))))
    (Q0 (AJ (JV (Z6 (SD K (by rfl) hr.units) J6h (jdv 14) (jdv 8) (by with_unfolding_all rfl)) (GY (AC (by rfl) (Q4 g4 hr.m rfl (J0 (jdv 15) (J0 (J8 (J9 K (by rfl)) Q5 (J8 (NV K (by rfl) hr.units) UK (jdv 8) (jdv 14) (fun _ _=>rfl)) J1 (fun _ _=>rfl)) J3))) (fun _=>rfl)))) (Q0 (XD (i:=8) (by rfl) (V3 (J0 (jdv 15) (J0 (jdv 10) J3))) (LY (pv 8) (JE.h (jdv 14)) (J0t K (by rfl) hr.units)))) Y6))) Y6)))))))))
    (ME 8 (Q0 (V6 (V3 (J0 (jdv 8) (J0 (jdv 9) J3))))))))))))),?_⟩
   have wb:Bd 64 (q.w:Int):=Bd.of (by have:=qok.w;omega) (by have:=qok.w;omega)
   have hb:Bd 64 (q.h:Int):=Bd.of (by have:=qok.h;omega) (by have:=qok.h;omega)
   have lb:Bd 64 (q.l:Int):=Bd.of (by have:=qok.l;omega) (by have:=qok.l;omega)
   have tb:Bd 64 (q.t:Int):=Bd.of (by have:=qok.t;omega) (by have:=qok.t;omega)
   have q1:=qok.l
   have q2:=qok.t
   have q3:=qok.w
   have q4:=qok.h
   have q5:=qok.w1
   have q6:=qok.h1
   have hww:q.w*q.h<=256:=B2t q3 q4
   walk_at "g"
   refine And.intro ⟨by omega,by omega,by omega,by omega⟩ ?_
   rw [show ((q.t:Int)+q.h - q.t).toNat=q.h by omega]
   refine ⟨fun i ρ=>∃ v7,ρ=[some (.lst (ts.map T3.d)),some q.d,some (.int q.l),some (.int q.t),some (.int q.w),some (.int q.h),some (.own (NA q i)),v7,none,none,none,none,none,none,none,none],⟨_,rfl⟩,?_,?_⟩
   · rintro i x ρ e ⟨v7,rfl⟩
     obtain ⟨rfl,hi⟩:=DP e
     clear e
     walk_at "g"
     refine And.intro ⟨by omega,by omega,by omega,by omega⟩ ?_
     rw [show ((q.l:Int)+q.w - q.l).toNat=q.w by omega]
     refine And.intro (by rw [rangeD_len];omega) ?_
     refine EE (Q8y ((q.t:Int)+(i:Int))) (fun x Q hx hQ=>?_) (fun x hx=>?_) ?_
     · obtain ⟨j,ej⟩:=D3 hx
       obtain ⟨rfl,hj⟩:=DP ej
       walk_at "g"
       exact hQ
     · obtain ⟨j,ej⟩:=D3 hx
       obtain ⟨rfl,hj⟩:=DP ej
       rfl
     rw [J5n]
     have hdl:=SS q i
     have hil:i*q.w<=q.h*q.w:=Nat.mul_le_mul_right _ (by omega)
     rw [Nat.mul_comm q.h] at hil
     walk_at "g"
     rw [ZW]
     have e1:i*q.w+q.w=(i+1)*q.w:=(Nat.succ_mul i q.w).symm
     have e2:=Nat.mul_le_mul_right q.w (show i+1<=16 by omega)
     refine And.intro (by rw [hdl];unfold Sq.rowT;rw [B9,List.length_range];omega) ?_
     exact ⟨_,rfl⟩
   · rintro ρ ⟨v7,rfl⟩
     rw [rangeD_len,ST]
     walk_at "g"
     intro a2 tg0
     walk_at "g"
     refine ⟨fun i ρ=>∃ tg ks xs v7 v10 v11 v12 v13 v14 v15,ρ=[some (.lst (ts.map T3.d)),some q.d,some (.int q.l),some (.int q.t),some (.int q.w),some (.int q.h),some (.lst (q.dotsY.map fun p=>t2 p.1 p.2)),v7,some (dcg K a2 tg ks xs),some (.int (CK ts q i)),v10,v11,v12,v13,v14,v15]/\DkOk q (fun x y=>Y8 ts x y i) ks xs,⟨tg0,[],[],_,_,_,_,_,_,_,rfl,DkOk.nil fun _ _ _=>rfl⟩,?_,?_⟩
     · rintro i z ρ e ⟨tg,ks,xs,v7,v10,v11,v12,v13,v14,v15,rfl,hD⟩
       obtain ⟨t,et,rfl⟩:=SQ e
       clear e
       obtain ⟨ok,pos⟩:=hts t (L4 et)
       have hs:∀ x y:Int,Y8 ts x y (i+1)=AM x y i t (Y8 ts x y i):=fun x y=>OG et
       have hpn:=OS (q:=q) et
       walk_at "g"
       refine ⟨t,rfl,ok,?_⟩
       walk_at "g"
       by_cases tn0:t.tn=0
       · refine IfP.t (by simp [tn0]) ?_
         have hsame:∀ x y:Int,q.in x y->Y8 ts x y (i+1)=Y8 ts x y i:=fun x y _=>by rw [hs];exact IE fun hh=>T3.has_tn pos hh tn0
         rw [if_neg (fun z=>z.1 tn0)] at hpn
         walk_at "g"
         exact ⟨tg,ks,xs,_,_,_,_,_,_,_,by rw [hpn];rfl,hD.congr hsame⟩
       refine IfP.f (by have:=pos.a;simp [tn0];omega) ?_
       have cb:∀ c∈BA q,Bd 100 c.1/\Bd 100 c.2:=fun c mc=>MJ (JZ.mp mc) q1 q2 q3 q4 q5 q6
       walk_at "g"
       refine EE (J7p t) (fun x Q hx hQ=>?_) (fun x hx=>?_) ?_
       · obtain ⟨c,mc,rfl⟩:∃ c,c∈BA q/\x=t2 c.1 c.2:=by
          simp only [B6,R1,W4] at hx
          unfold BA
          rcases hx with e|e|e|e<;>exact ⟨(_,_),by simp,e⟩
         walk_at "g"
         exact ⟨t,c.1,c.2,rfl,ok,(cb c mc).1,(cb c mc).2,fun _=>hQ,tn0⟩
       · simp only [B6,R1,W4] at hx
         rcases hx with rfl|rfl|rfl|rfl<;>rfl
       walk_at "g"
       rw [J8e]
       have hbA:∀ a∈(BA q).map (fun c=>t.top c.1 c.2*sgn t.tn),Bd 500 a:=fun a ma=>by
        obtain ⟨c,mc,rfl⟩:=M3.mp ma
        exact (HZ ok (cb c mc).1 (cb c mc).2).1
       have be:Bd 500 (AK t.tn):=(HZ ok (cb _ (B8 ..)).1 (cb _ (B8 ..)).2).2
       refine ⟨(BA q).map fun c=>t.top c.1 c.2*sgn t.tn,AK t.tn,500,?_⟩
       refine And.intro (Eq.refl _) (And.intro (absI_pos tn0) (And.intro hbA (And.intro be (And.intro (by decide) (And.intro ⟨corn_ne _ _,R3 rfl⟩ fun m mm hm=>?_)))))
       have bm:Bd 500 m:=hbA m mm
       walk_at "g"
       refine ⟨fun ρ=>CK ts q (i+1)=CK ts q i/\ρ=[some (.lst (ts.map T3.d)),some q.d,some (.int q.l),some (.int q.t),some (.int q.w),some (.int q.h),some (.lst (q.dotsY.map fun p=>t2 p.1 p.2)),v7,some (dcg K a2 tg ks xs),some (.int (CK ts q i)),some (.int i),some t.d,some (.lst ((BA q).map fun p=>t2 p.1 p.2)),some (t2 m (AK t.tn)),v14,v15],?_,?_⟩
       · walk_at "g"
         refine ⟨tg,ks,xs,.inr ⟨a2,rfl⟩,?_⟩
         walk_at "g"
         have hsm:=hD.all
         have hle:=hD.le
         by_cases hfull:ks.length=q.w*q.h
         · have full:=hsm.mpr (by omega)
           refine IfP.t (by simp [dotsY_len,hfull]) ?_
           walk_at "g"
           refine And.intro (by rw [B9,dotsY_len];omega) ?_
           refine EE (fun d=>.bl (UN (fun x y=>Y8 ts x y i) m (AK t.tn) d)) (fun d Q hd hQ=>?_) (fun _ _=>rfl) ?_
           · obtain ⟨p,mp,rfl⟩:=M3.mp hd
             obtain ⟨x,y⟩:=p
             have hin:=Sq.mem_dotsY.mp mp
             obtain ⟨⟨j,a,b⟩,e⟩:=full x y hin
             have hf:=hD.at' x y hin
             have hb:=hD.bd x y hin
             rw [e] at hf hb
             rw [UM e] at hQ
             walk_at "g"
             refine ⟨tg,ks,xs,[x,y],kv j a b,.inr ⟨a2,rfl⟩,rfl,hf,?_⟩
             walk_at "g"
             exact ⟨m,AK t.tn,a,b,500,rfl,⟨bm,be,hb.1,hb.2⟩,by decide,hQ⟩
           have eb:FZ ((q.dotsY.map fun p=>t2 p.1 p.2).map fun d=>D.bl (UN (fun x y=>Y8 ts x y i) m (AK t.tn) d))=some ((q.dotsY.map fun p=>t2 p.1 p.2).map (UN (fun x y=>Y8 ts x y i) m (AK t.tn))):=by
            have:=IP ((q.dotsY.map fun p=>t2 p.1 p.2).map (UN (fun x y=>Y8 ts x y i) m (AK t.tn)))
            rw [B0k] at this
            exact this
           have pa:=J6f (t:=t) hD full mm hm
           walk_at "g"
           rw [eb]
           walk_at "g"
           by_cases hp:IT t q (fun x y=>Y8 ts x y i)
           · have an:(q.dotsY.map fun p=>t2 p.1 p.2).any (UN (fun x y=>Y8 ts x y i) m (AK t.tn))=false:=by
              cases z:(q.dotsY.map fun p=>t2 p.1 p.2).any (UN (fun x y=>Y8 ts x y i) m (AK t.tn)) with
              | false=>rfl
              | true=>exact absurd hp (pa.mp z)
             have hsame:∀ x y:Int,q.in x y->Y8 ts x y (i+1)=Y8 ts x y i:=fun x y hin=>by rw [hs];exact ZC hD hp hin
             rw [if_pos ⟨tn0,hp⟩] at hpn
             refine IfP.t (by dsimp only;rw [List.any_map];exact D7 not an) ?_
             walk_at "g"
             exact ⟨tg,ks,xs,_,_,_,_,_,_,_,by rw [hpn];rfl,hD.congr hsame⟩
           · have an:=pa.mpr hp
             rw [if_neg (fun z=>hp z.2)] at hpn
             refine IfP.f (by dsimp only;rw [List.any_map];exact D7 not an) ?_
             walk_at "g"
             exact ⟨hpn,rfl⟩
         · have hp:¬ IT t q (fun x y=>Y8 ts x y i):=fun z=>absurd (hsm.mp z.1) (by omega)
           rw [if_neg (fun z=>hp z.2)] at hpn
           refine IfP.f (by first|(simp [dotsY_len];done)|(simp [dotsY_len];omega)) ?_
           walk_at "g"
           exact ⟨hpn,rfl⟩
       rintro ρ ⟨hpn,rfl⟩
       walk_at "g"
       refine ⟨fun j ρ=>∃ tg' ks' xs' st' v14 v15,ρ=[some (.lst (ts.map T3.d)),some q.d,some (.int q.l),some (.int q.t),some (.int q.w),some (.int q.h),some (.lst (q.dotsY.map fun p=>t2 p.1 p.2)),v7,some (dcg K a2 tg' ks' xs'),some (.int (CK ts q i)),some (.int i),some t.d,some (.lst ((BA q).map fun p=>t2 p.1 p.2)),some (t2 m (AK t.tn)),v14,v15]/\DkOk q st' ks' xs'/\∀ x y,st' x y=if (x,y)∈q.dotsY.take j then AM x y i t (Y8 ts x y i) else Y8 ts x y i,⟨tg,ks,xs,_,_,_,rfl,hD,fun x y=>by simp⟩,?_,?_⟩
       · rintro j z ρ e ⟨tg',ks',xs',st',v14,v15,rfl,hD',hst⟩
         obtain ⟨x,y,ed,rfl,hin⟩:=J4i e
         clear e
         have hin0:=hin
         obtain ⟨x0,x1,y0,y1⟩:=hin0
         have bx:Bd 100 x:=(Bd.of (by omega) (by omega):Bd 8 _).mono (by decide)
         have b_y:Bd 100 y:=(Bd.of (by omega) (by omega):Bd 8 _).mono (by decide)
         obtain ⟨o1,o2⟩:=HZ ok bx b_y
         have hf:=hD'.at' x y hin
         have hsm:=hD'.small q3 q4
         walk_at "g"
         refine ⟨t,x,y,rfl,ok,pos,bx,b_y,?_⟩
         by_cases hhas:t.has x y
         · refine IfP.t (by simp [hhas]) ?_
           walk_at "g"
           refine ⟨t,x,y,rfl,ok,bx,b_y,fun _=>?_,tn0⟩
           walk_at "g"
           refine ⟨tg',ks',xs',[x,y],.inr ⟨a2,rfl⟩,rfl,?_⟩
           cases es:st' x y with
           | none =>
             rw [es] at hf
             rw [show AL ks' xs' [x,y]=none from hf]
             walk_at "g"
             refine ⟨a2,tg',ks',xs',rfl,?_⟩
             walk_at "g"
             refine ⟨[x,y],rfl,by omega,fun tg''=>?_⟩
             exact ⟨tg'',_,_,IY st' x y (some (i,t.top x y*sgn t.tn,AK t.tn)),_,_,rfl,hD'.put hin ⟨o1,o2⟩ (absI_pos tn0),IN ed hst fun x' y'=>by rw [es,RV hhas];rfl⟩
           | some zz =>
             obtain ⟨jj,aa,bb⟩:=zz
             rw [es] at hf
             have hf:AL ks' xs' [x,y]=some (kv jj aa bb):=hf
             have hb:=hD'.bd x y hin
             rw [es] at hb
             rw [hf]
             walk_at "g"
             refine ⟨tg',ks',xs',[x,y],kv jj aa bb,.inr ⟨a2,rfl⟩,rfl,hf,?_⟩
             walk_at "g"
             refine ⟨_,_,_,_,500,rfl,⟨o1,o2,hb.1,hb.2⟩,by decide,?_⟩
             by_cases hlt:t.top x y*sgn t.tn*bb<aa*AK t.tn
             · refine IfP.t (by simp [hlt]) ?_
               refine ⟨a2,tg',ks',xs',rfl,?_⟩
               walk_at "g"
               refine ⟨[x,y],rfl,by omega,fun tg''=>?_⟩
               exact ⟨tg'',_,_,IY st' x y (some (i,t.top x y*sgn t.tn,AK t.tn)),_,_,rfl,hD'.put hin ⟨o1,o2⟩ (absI_pos tn0),IN ed hst fun x' y'=>by rw [es,OB hhas hlt];rfl⟩
             · refine IfP.f (by simp [hlt]) ?_
               walk_at "g"
               exact ⟨tg',ks',xs',st',_,_,rfl,hD',IN ed hst (KN (by rw [es];exact RW hhas hlt))⟩
         · refine IfP.f (by simp [hhas]) ?_
           walk_at "g"
           exact ⟨tg',ks',xs',st',_,_,rfl,hD',IN ed hst (KN (IE hhas))⟩
       · rintro ρ ⟨tg',ks',xs',st',v14,v15,rfl,hD',hst⟩
         refine ⟨tg',ks',xs',_,_,_,_,_,_,_,by rw [hpn],hD'.congr fun x y hin=>?_⟩
         rw [hs,hst,B9,E4,if_pos (Sq.mem_dotsY.mpr hin)]
     · rintro ρ ⟨tg,ks,xs,v7,v10,v11,v12,v13,v14,v15,rfl,hD⟩
       have el:(enumD (ts.map T3.d)).length=ts.length:=by simp [enumD]
       rw [el] at hD ⊢
       walk_at "g"
       exact hP tg ks xs hD
abbrev GK:Stmt:=top 73
abbrev Q8e:List Str:=["_law_faces_here","_law_board","_law_length","_law_rows","_law_total","_law_square","_law_kept","_law_passed","_law_x","_law_y"]
abbrev Q4b:List Str:=["_law_faces_here","_law_board","_law_length"]
theorem AB:FnScope Q8e Q4b (J7 GK):=⟨rfl,rfl,rfl,by decide +kernel,rfl,by decide +kernel,by decide +kernel⟩
def stJ (st:Int->Int->Sn)(ks:List (List Int))(j:Nat):Int->Int->Sn:=fun x y=>if [x,y]∈ks.take j then st x y else none
theorem DkOk.key {q:Sq}{st:Int->Int->Sn}{ks:List (List Int)}{xs:List D}(h:DkOk q st ks xs){x y:Int}(hin:q.in x y)(m:[x,y]∈ks):∃ n a b,st x y=some (n,a,b)/\AL ks xs [x,y]=some (kv n a b):=by
 obtain ⟨d,e⟩:=HB h.len m
 have f:=h.at' x y hin
 rw [e] at f
 cases es:st x y with
 | none=>rw [es] at f;cases f
 | some z =>
   obtain ⟨n,a,b⟩:=z
   rw [es] at f
   exact ⟨n,a,b,rfl,e.trans f⟩
theorem DkOk.nokey {q:Sq}{st:Int->Int->Sn}{ks:List (List Int)}{xs:List D}(h:DkOk q st ks xs){x y:Int}(hin:q.in x y)(m:¬ [x,y]∈ks):st x y=none:=by
 have f:=h.at' x y hin
 cases es:st x y with
 | none=>rfl
 | some z =>
   rw [es] at f
   exact absurd (FY f).2 m
noncomputable def Q3z:DSp:=fun ds P _=>∃ (ts:List T3) (wd hg:Nat) (k:Int),ds=[.lst (ts.map T3.d),t2 wd hg,.int k]/\(∀ t∈ts,t.ok 100/\t.pos)/\ts.length<=500/\(1<=wd/\wd<=16/\1<=hg/\hg<=16/\1<=k/\k<=16)/\P (.tup [EA (HV ts wd hg),.int (KR ts (sqL k wd hg))])
abbrev J2n (P:Program) (w:World) (K:Fg) (mg:Str → Option Value) (base:Heap) (f:Addr) (cdv:Value) (A:Around) (outer:List Env) (s:Shared) (H:Hp) (E:XK):Cx:=BW CX0 P w K mg base Q8e "_law_due" (J7 GK) f cdv A outer s H E
abbrev J2j:List Str:=["_law_y","_law_board"]
theorem WV {f:Addr} (F:Fun K "_law_due" "_law_due" GK f fd) (Z:Bi mg) {c:Cs} (Y:Ex K mg base c) (g0:Callee P w K mg base CX0 "_law_squares" 1 ["_law_board","_law_edge"] (Q3 K BT J8x)) (g1:Callee P w K mg base CX0 "_law_square_kept" 3 ["_law_faces_here","_law_square"] (Q3 K BT Q3v)):FnOk P w K mg base CX0 4 f fd Q4b (Q3 K BT Q3z):=by
 refine F.okD AB (fun ds PP Ed h=>?_) (fun cdv A outer s H E M bg ds PP Ed hr hS_=>?_)
 · obtain ⟨ts,wd,hg,k,rfl,hts,htl,⟨w1,w2,h1,h2,k1,k2⟩,hP⟩:=h
   rfl
 · obtain ⟨ts,wd,hg,k,rfl,hts,htl,⟨w1,w2,h1,h2,k1,k2⟩,hP⟩:=hS_
   refine ⟨_,(J4 (PQ (X:=(J2n P w K mg base f cdv A outer s H E).nox) (i:=3) AB.nd rfl (by walk_at "o") (Y2 0) (V0z (X:=(J2n P w K mg base f cdv A outer s H E).nox) (N':=J2j) (map:=[none,some 1]) (by rfl) (by rfl) (by decide +kernel) (by rfl) ⟨⟨rfl,rfl,rfl,by walk_at "o"⟩,True.intro⟩ (gkeep_name rfl) fun cl0 C0 fp0 s0 H0=>⟨(pg_name (X:=(Q7 (J2n P w K mg base f cdv A outer s H E).nox J2j _ cl0 C0 fp0 s0 H0)) (i:=0) (Z4 J2j (by decide +kernel)) rfl (by walk_at "o")),Z9,(J6v (X:=(Q7 (J2n P w K mg base f cdv A outer s H E).nox J2j _ cl0 C0 fp0 s0 H0)) (Y2 0) (HL (X:=(Q7 (J2n P w K mg base f cdv A outer s H E).nox J2j _ cl0 C0 fp0 s0 H0)) (N':=["_law_x"]) (map:=[none]) (by rfl) (by rfl) (by decide +kernel) (by rfl) True.intro (gkeep_name rfl) fun cl1 C1 fp1 s1 H1=>⟨(pg_name (X:=(Q7 (Q7 (J2n P w K mg base f cdv A outer s H E).nox J2j _ cl0 C0 fp0 s0 H0) ["_law_x"] _ cl1 C1 fp1 s1 H1)) (i:=0) (Z4 ["_law_x"] (by decide +kernel)) rfl (by walk_at "o")),Z9,LF⟩) (BM rfl Z.range_ (J0 (J8 (J9 K (by rfl)) Q5 (jdv 1) J1 (fun _ _=>rfl)) J3)))⟩) (BM rfl Z.range_ (J0 (J8 (J9 K (by rfl)) Q5 (jdv 1) J1 (fun _ _=>rfl)) J3)))
    (J4 (V0 (i:=4) AB.nd rfl (by walk_at "o") J1)
    (J4 (BU (Y2 5) U8 rfl (AR (by rfl) (Q4 g0 hr.m rfl (J0 (jdv 1) (J0 (jdv 2) J3)))) (pg_name (i:=5) AB.nd rfl (by walk_at "o")) (J4 (BV (BE [6,7]) (Q4 g1 hr.m rfl (J0 (jdv 0) (J0 (jdv 5) J3))) (PG.or (AO (n:=2) K (by rfl) (by rfl) (J5 (pg_name (i:=6) AB.nd rfl (by walk_at "o")) (J5 (pg_name (i:=7) AB.nd rfl (by walk_at "o")) Y1))) (AQ (n:=2) K (by rfl) (by rfl) (J5 (pg_name (i:=6) AB.nd rfl (by walk_at "o")) (J5 (pg_name (i:=7) AB.nd rfl (by walk_at "o")) Y1)))))
    (J4 (V0 (i:=4) AB.nd rfl (by walk_at "o") (J6 Y7 V7 (jdv 4) (jdv 7)))
    (Q0 (BU (BE [8,9]) U8 rfl (J6u (by rfl) (jdv 6)) (PG.or (AO (n:=2) K (by rfl) (by rfl) (J5 (pg_name (i:=8) AB.nd rfl (by walk_at "o")) (J5 (pg_name (i:=9) AB.nd rfl (by walk_at "o")) Y1))) (AQ (n:=2) K (by rfl) (by rfl) (J5 (pg_name (i:=8) AB.nd rfl (by walk_at "o")) (J5 (pg_name (i:=9) AB.nd rfl (by walk_at "o")) Y1)))) (Q0 (XC (i:=3) (by rfl) (J8 (J9 K (by rfl)) Q5 (J8 (NV K (by rfl) hr.units) UK (jdv 6) (V3 (J0 (jdv 8) (J0 (jdv 9) J3))) (fun _ _=>rfl)) J1 (fun _ _=>rfl)) (LY (FW UR (pv 3) (JE.h (jdv 9)) (fun _ _=>rfl)) (JE.h (jdv 8)) KI))))))))
    (ME 3 (Q0 (V6 (V3 (J0 (jdv 3) (J0 (jdv 4) J3))))))))),?_⟩
   have key:∀ q∈sqL k wd hg,q.ok/\q.l+q.w<=wd/\q.t+q.h<=hg:=fun q m=>J0r m k1 k2 w2 h2
   have hall:=OV (ts:=ts) (k:=k) (w:=wd) (h:=hg) k1
   walk_at "g"
   refine And.intro ⟨by omega,by omega⟩ ?_
   refine And.intro (by rw [rangeD_len];omega) ?_
   refine SW (fun _=>(Y3 0 wd).map fun _=>.non) (fun x Q hx hQ=>?_) ?_
   · walk_at "g"
     refine And.intro ⟨by omega,by omega⟩ ?_
     rw [W8]
     refine And.intro (by rw [rangeD_len];omega) ?_
     refine EE (fun _=>.non) (fun x Q hx hQ=>?_) (fun _ _=>rfl) ?_
     · walk_at "g"
       exact hQ
     · exact hQ
   rw [show (Y3 0 (Int.toNat (hg:Int))).map (fun _=>(Y3 0 wd).map fun _=>D.non)=DK wd hg by rw [List.map_const',List.map_const',rangeD_len,rangeD_len,W8];rfl]
   intro a rs hrs
   walk_at "g"
   have hrl:rs.length=hg:=by rw [hrs];unfold DK;simp
   refine ⟨wd,hg,k,rfl,⟨w2,h2,k1,k2⟩,?_⟩
   rw [J5h k1]
   generalize sqL k wd hg=qs at hP key hall ⊢
   walk_at "g"
   refine ⟨fun i ρ=>∃ v5 v6 v7 v8 v9,ρ=[some (.lst (ts.map T3.d)),some (t2 wd hg),some (.int k),some (grd K a rs (paintA (qs.take i) (fun x y=>Y8 ts x y ts.length) (DK wd hg))),some (.int (KR ts (qs.take i))),v5,v6,v7,v8,v9],⟨_,_,_,_,_,by rw [List.take_zero,OU];rfl⟩,?_,?_⟩
   · rintro i z ρ e ⟨v5,v6,v7,v8,v9,rfl⟩
     rw [M1] at e
     obtain ⟨q,eq,rfl⟩:=M7.mp e
     clear e
     obtain ⟨qok,ql,qt⟩:=key q (L4 eq)
     have et:qs.take (i+1)=qs.take i++[q]:=by rw [W7,eq];rfl
     rw [et]
     have rl:(paintA (qs.take i) (fun x y=>Y8 ts x y ts.length) (DK wd hg)).length=hg:=by rw [JN];unfold DK;simp
     have rw':∀ row∈paintA (qs.take i) (fun x y=>Y8 ts x y ts.length) (DK wd hg),row.length=wd:=MW (w:=wd) fun r m=>by unfold DK at m;rw [List.eq_of_mem_replicate m];simp
     have hsn:=MV (qs:=qs.take i) (q:=q) (st:=fun x y=>Y8 ts x y ts.length) (rows:=DK wd hg)
     rw [OR,<- hsn]
     generalize paintA (qs.take i) (fun x y=>Y8 ts x y ts.length) (DK wd hg)=rows0 at rl rw' ⊢
     walk_at "g"
     refine ⟨q,ts,rfl,qok,hts,htl,fun tg ks xs hD=>?_⟩
     walk_at "g"
     refine ⟨tg,ks,xs,.inl rfl,?_⟩
     generalize hst:(fun x y=>Y8 ts x y ts.length)=st at hD ⊢
     refine ⟨fun j ρ=>∃ v8 v9,ρ=[some (.lst (ts.map T3.d)),some (t2 wd hg),some (.int k),some (grd K a rs (AI q (stJ st ks j) rows0)),some (.int ((KR ts (qs.take i):Nat)+(CK ts q ts.length:Nat))),some q.d,some (.dct tg ks xs),some (.int (CK ts q ts.length)),v8,v9],⟨_,_,by rw [MU fun x y _=>by unfold stJ;simp];rfl⟩,?_,?_⟩
     · rintro j z ρ e ⟨v8,v9,rfl⟩
       unfold IV at e
       rw [M1] at e
       obtain ⟨ky,ek,rfl⟩:=M7.mp e
       clear e
       have mk:=L4 ek
       obtain ⟨x,y,rfl,hin⟩:=hD.inn ky mk
       have hin0:=hin
       obtain ⟨x0,x1,y0,y1⟩:=hin0
       obtain ⟨x,rfl⟩:∃ m:Nat,x=m:=⟨x.toNat,by omega⟩
       obtain ⟨y,rfl⟩:∃ m:Nat,y=m:=⟨y.toNat,by omega⟩
       obtain ⟨n,aa,bb,es,hf⟩:=hD.key hin mk
       obtain ⟨row,er⟩:∃ row,rows0[y]?=some row:=⟨rows0[y]'(by omega),M5 _⟩
       have hrow:=rw' row (L4 er)
       have adv:AI q (IY (stJ st ks j) x y (some (n,aa,bb))) rows0=AI q (stJ st ks (j+1)) rows0:=DC fun x' y' hin'=>by
        unfold IY stJ
        rw [W7,ek,E9]
        by_cases w:x'=x/\y'=y
        · obtain ⟨rfl,rfl⟩:=w
          rw [if_pos ⟨rfl,rfl⟩,if_pos (by simp),es]
        · rw [if_neg w]
          have:([x',y']∈ks.take j++[[(x:Int),(y:Int)]])↔[x',y']∈ks.take j:=by
           rw [U7,M6]
           exact ⟨fun v=>v.elim id fun v=>absurd (by simpa using v) w,.inl⟩
          by_cases v:[x',y']∈ks.take j
          · rw [if_pos v,if_pos (this.mpr v)]
          · rw [if_neg v,if_neg (fun u=>v (this.mp u))]
       walk_at "g"
       refine ⟨a,rs,_,rfl,by rw [JM,hrl,rl],?_⟩
       walk_at "g"
       refine ⟨tg,ks,xs,[(x:Int),(y:Int)],kv n aa bb,.inl rfl,rfl,hf,?_⟩
       walk_at "g"
       refine ⟨y,_,rfl,LZ er,?_⟩
       walk_at "g"
       refine ⟨x,rfl,by rw [B2u];omega,?_⟩
       exact ⟨_,_,by rw [OT (a:=aa) (b:=bb) hin er,adv];rfl⟩
     · rintro ρ ⟨v8,v9,rfl⟩
       have hk:(IV ks).length=ks.length:=by unfold IV;simp
       rw [hk]
       exact ⟨_,_,_,_,_,by rw [DC (st:=st) (st':=stJ st ks ks.length) fun x y hin=>by
        unfold stJ
        rw [E4]
        by_cases m:[x,y]∈ks
        · rw [if_pos m]
        · rw [if_neg m,hD.nokey hin m]];rfl⟩
   · rintro ρ ⟨v5,v6,v7,v8,v9,rfl⟩
     rw [B9,E4,hall]
     walk_at "g"
     exact hP
abbrev EF:Stmt:=top 69
theorem FV:FnScope ["_law_bag_here","_law_some"] xl3 (J7 EF):=⟨rfl,rfl,rfl,by decide +kernel,rfl,by decide +kernel,by decide +kernel⟩
noncomputable def J8v:DSp:=fun ds P _=>ds=[.bag]/\∀ d,tkD d=true->Z1 d=true->plain d=true->DI d=false->P d
theorem MA {f:Addr} (F:Fun K "_law_no_board" "_law_no_board" EF f fd) (Z:Bi mg) {c:Cs} (Y:Ex K mg base c) (g0:Callee P w K mg base CX0 "_law_digit" 2 xl4 (Q3 K BT FK)):FnOk P w K mg base CX0 3 f fd xl3 (Q3 K BT J8v):=by
 refine F.okD FV (fun ds PP Ed h=>?_) (fun cdv A outer s H E M bg ds PP Ed hr hS_=>?_)
 · obtain ⟨rfl,hP⟩:=h
   rfl
 · obtain ⟨rfl,hP⟩:=hS_
   refine ⟨_,(J4 (V0 (i:=1) FV.nd rfl (by walk_at "o") (AT (J0 (V3 (J0 J1 (J0 J1 J3))) (J0 (V3 (J0 J1 (J0 J1 J3))) (J0 (V3 (J0 J1 (J0 J1 J3))) (J0 (V3 (J0 J1 (J0 J1 J3))) (J0 (V3 (J0 (FJ J1) (J0 J1 J3))) (J0 (V3 (J0 FT (J0 J1 J3))) (J0 (V3 (J0 J1 (J0 FT J3))) (J0 (V3 (J0 J1 J3)) (J0 (V3 (J0 J1 (J0 J1 (J0 J1 J3)))) (J0 (AT (J0 J1 (J0 J1 J3))) (J0 LF (J0 J1 (J0 UP J3)))))))))))))))
    (Q0 (V6 (J8 (J9 K (by rfl)) Q5 (J6 JP ZK (jdv 1) (AT (J0 (V3 (J0 UP (J0 J1 J3))) (J0 (V3 (J0 J1 (J0 LF J3))) (J0 (V3 (J0 J1 (J0 (V3 (J0 J1 J3)) J3))) (J0 (V3 (J0 (AT (J0 J1 J3)) (J0 J1 J3))) J3)))))) (Q4 g0 hr.m rfl (J0 (jdv 0) (J0 J1 J3))) (fun _ _=>rfl))))),?_⟩
   walk_at "g"
   refine ⟨_,64,rfl,by decide,Bd.num _ (by decide),by decide,fun q q0 q1=>?_⟩
   walk_at "g"
   refine ixm q0 (by exact q1) fun d md=>?_
   simp only [B6,R1,W4,B1l,B2o] at md
   rcases md with rfl|rfl|rfl|rfl|rfl|rfl|rfl|rfl|rfl|rfl|rfl|rfl|rfl|rfl|rfl|rfl|rfl
   all_goals exact hP _ rfl rfl rfl rfl
abbrev BZ:Stmt:=top 71
theorem AH:FnScope ["_law_e","_law_named","_law_words","_law_some"] ["_law_e"] (J7 BZ):=⟨rfl,rfl,rfl,by decide +kernel,rfl,by decide +kernel,by decide +kernel⟩
noncomputable def OC (c:Cs):Addr->Sp:=fun y vs H Q _=>vs=[.ref y]/\H y=some (ExcO y c.NoBoard)/\∀ H',Same H H'->Q (.str "NoBoard") H'
abbrev VU (P:Program) (w:World) (K:Fg) (mg:Str → Option Value) (base:Heap) (f:Addr) (cdv:Value) (A:Around) (outer:List Env) (s:Shared) (H:Hp):Cx:=QJ P w K mg base ["_law_e","_law_named","_law_words","_law_some"] "_law_word_of" (J7 BZ) f cdv A outer s H
abbrev J4x:List Str:=["_law_k","_law_words","_law_named"]
abbrev xv1:List V:=[V.str "NoFraction",V.str "NoSpot",V.str "NoBody",V.str "NoMove",V.str "NoFlat",V.str "NoFace",V.str "NoBoard",V.str "NoLight",V.str "NoDeed",V.str "NoText",V.str "NoName",V.str "NoRow",V.str "Behind",V.str "TooMany"]
abbrev xv2:List V:=[V.str "NoFraction",V.str "NoSpot",V.str "NoBody",V.str "NoMove",V.str "NoFlat",V.str "NoFace",V.str "NoBoard",V.str "NoLight",V.str "NoDeed",V.str "NoText"]
abbrev xv3:List V:=[V.str "NoName",V.str "NoRow",V.str "Behind",V.str "TooMany"]
abbrev xv4:List V:=[.bl false,.bl false,.bl false,.bl false,.bl false,.bl false,.bl true,.bl false,.bl false,.bl false,.bl false,.bl false,.bl false,.bl false]
abbrev xv5:List V:=[.bl false,.bl false,.bl false,.bl false,.bl false,.bl false,.bl true,.bl false,.bl false,.bl false,.bl false,.bl false]
abbrev xv6:List V:=[.bl false,.bl false,.bl false,.bl false,.bl false,.bl false,.bl true,.bl false]
abbrev xv7:List V:=[.bl false,.bl false,.bl false,.bl false]
abbrev xv8:List V:=[.bl false,.bl false,.bl true,.bl false]
abbrev xv9:List V:=[.bl false,.bl false]
theorem NJ {f:Addr} (F:Fun K "_law_word_of" "_law_word_of" BZ f fd) (Z:Bi mg) {c:Cs} (Y:Ex K mg base c):FnOkM P w K mg base 1 f fd ["_law_e"] (OC c):=by
 refine F.okM AH (fun y vs H Q E h=>?_) (fun cdv A outer s H vs Q y hr hh h=>?_)
 · obtain ⟨rfl,hx,k⟩:=h
   rfl
 · obtain ⟨rfl,hx,k⟩:=h
   obtain ⟨es1,hes1⟩:∃ es:List Expr,es=List.map (fun c:Str×Nat×Pos=>Expr.Constant (.str c.1) c.2.1 c.2.2) [("NoFraction",0,⟨284,18,284,30⟩),("NoSpot",0,⟨284,32,284,40⟩),("NoBody",0,⟨284,42,284,50⟩),("NoMove",0,⟨284,52,284,60⟩),("NoFlat",0,⟨284,62,284,70⟩),("NoFace",0,⟨284,72,284,80⟩),("NoBoard",0,⟨284,82,284,91⟩),("NoLight",0,⟨284,93,284,102⟩),("NoDeed",0,⟨284,104,284,112⟩),("NoText",0,⟨284,114,284,122⟩)]:=⟨_,rfl⟩
   have hT1:=BQ (X:=(VU P w K mg base f cdv A outer s H)) (i:=2) (x:="_law_words") (pos':=⟨284,4,284,14⟩) (pos:=⟨284,4,284,123⟩) AH.nd rfl (by walk_at "o") (ZB (pos:=⟨284,17,284,123⟩) [("NoFraction",0,⟨284,18,284,30⟩),("NoSpot",0,⟨284,32,284,40⟩),("NoBody",0,⟨284,42,284,50⟩),("NoMove",0,⟨284,52,284,60⟩),("NoFlat",0,⟨284,62,284,70⟩),("NoFace",0,⟨284,72,284,80⟩),("NoBoard",0,⟨284,82,284,91⟩),("NoLight",0,⟨284,93,284,102⟩),("NoDeed",0,⟨284,104,284,112⟩),("NoText",0,⟨284,114,284,122⟩)] hes1) rfl (.inl rfl)
   generalize hst1:Stmt.Assign [Expr.Name "_law_words" ⟨284,4,284,14⟩] (Expr.List es1 ⟨284,17,284,123⟩) ⟨284,4,284,123⟩=st1 at hT1
   have hR1:=((Z2 (BQ (i:=2) AH.nd rfl (by walk_at "o") (BO JP (pv 2) (GV (Q8 GU (Q8 GU (Q8 GU (Q8 GU Z0)))))))
    (Z2 (WL (X:=(VU P w K mg base f cdv A outer s H)) (i:=3) AH.nd rfl (by walk_at "o") (BlkM.mk (X:=(VU P w K mg base f cdv A outer s H)) (N':=J4x) (map:=[none,some 2,some 1]) (by rfl) (by decide +kernel) (by rfl) ⟨⟨rfl,rfl,rfl,by walk_at "o"⟩,⟨⟨rfl,rfl,rfl,by walk_at "o"⟩,True.intro⟩⟩ (gkeep_name rfl) fun cl0 C0 fp0 s0 H0=>⟨(pg_name (X:=(Q7 (VU P w K mg base f cdv A outer s H) J4x _ cl0 C0 fp0 s0 H0)) (i:=0) (Z4 J4x (by decide +kernel)) rfl (by walk_at "o")),(J0w (X:=(Q7 (VU P w K mg base f cdv A outer s H) J4x _ cl0 C0 fp0 s0 H0)) (LW K (by rfl) (FW (CL K (by rfl)) (pv 2) (pv 0) (fun _ _=>rfl)) (fun _=>rfl))),(FW (X:=(Q7 (VU P w K mg base f cdv A outer s H) J4x _ cl0 C0 fp0 s0 H0)) (CL K (by rfl)) (pv 1) (pv 0) (fun _ _=>rfl))⟩) (ZA (X:=(VU P w K mg base f cdv A outer s H)) (C:=c.NoBoard) (by exact hh) rfl Z.range_ (Q8 Z7 Z0)))
    (Z2 (SB (PW.pt (Q2w (GR J1d (Z8 (BC K (by rfl)) rfl Z.len_ HE (Q8 (pv 3) Z0)) Z7 (Y5 _)) (J5r (J5t (LW K (by rfl) (Z8 (RN K (by rfl)) rfl Z.isinstance_ V1 (Q8 (pv 0) (Q8 (J1b (v:=.ty "ValueError") rfl Z.ValueError_ RO rfl) Z0))) (fun _=>rfl)))))) (AX (DB GU)) GS)
    (AX (DB (FW (CL K (by rfl)) (pv 3) Z7 (fun _ _=>rfl))))))):PSs (VU P w K mg base f cdv A outer s H) ((BN BZ).drop 5) _)
   have hV1:=@J5u _ _ _ (Z2 hT1 hR1)
   refine ⟨_,(Z2 (BQ (i:=1) AH.nd rfl (by walk_at "o") (GV (Q8 (Z8 (Z3 K (by rfl)) rfl Z.isinstance_ V1 (Q8 (pv 0) (Q8 (AY rfl Y.g_NoFraction) Z0))) (Q8 (Z8 (Z3 K (by rfl)) rfl Z.isinstance_ V1 (Q8 (pv 0) (Q8 (AY rfl Y.g_NoSpot) Z0))) (Q8 (Z8 (Z3 K (by rfl)) rfl Z.isinstance_ V1 (Q8 (pv 0) (Q8 (AY rfl Y.g_NoBody) Z0))) (Q8 (Z8 (Z3 K (by rfl)) rfl Z.isinstance_ V1 (Q8 (pv 0) (Q8 (AY rfl Y.g_NoMove) Z0))) Z0))))))
    (Z2 (BQ (i:=1) AH.nd rfl (by walk_at "o") (BO JP (pv 1) (GV (Q8 (Z8 (Z3 K (by rfl)) rfl Z.isinstance_ V1 (Q8 (pv 0) (Q8 (AY rfl Y.g_NoFlat) Z0))) (Q8 (Z8 (Z3 K (by rfl)) rfl Z.isinstance_ V1 (Q8 (pv 0) (Q8 (AY rfl Y.g_NoFace) Z0))) (Q8 (Z8 (Z3 K (by rfl)) rfl Z.isinstance_ V1 (Q8 (pv 0) (Q8 (AY rfl Y.g_NoBoard) Z0))) (Q8 (Z8 (Z3 K (by rfl)) rfl Z.isinstance_ V1 (Q8 (pv 0) (Q8 (AY rfl Y.g_NoLight) Z0))) Z0)))))))
    (Z2 (BQ (i:=1) AH.nd rfl (by walk_at "o") (BO JP (pv 1) (GV (Q8 (Z8 (Z3 K (by rfl)) rfl Z.isinstance_ V1 (Q8 (pv 0) (Q8 (AY rfl Y.g_NoDeed) Z0))) (Q8 (Z8 (Z3 K (by rfl)) rfl Z.isinstance_ V1 (Q8 (pv 0) (Q8 (AY rfl Y.g_NoText) Z0))) (Q8 (Z8 (Z3 K (by rfl)) rfl Z.isinstance_ V1 (Q8 (pv 0) (Q8 (AY rfl Y.g_NoName) Z0))) (Q8 (Z8 (Z3 K (by rfl)) rfl Z.isinstance_ V1 (Q8 (pv 0) (Q8 (AY rfl Y.g_NoRow) Z0))) Z0)))))))
    (Z2 (BQ (i:=1) AH.nd rfl (by walk_at "o") (BO JP (pv 1) (GV (Q8 (Z8 (Z3 K (by rfl)) rfl Z.isinstance_ V1 (Q8 (pv 0) (Q8 (AY rfl Y.g_Behind) Z0))) (Q8 (Z8 (Z3 K (by rfl)) rfl Z.isinstance_ V1 (Q8 (pv 0) (Q8 (AY rfl Y.g_TooMany) Z0))) Z0)))))
    hV1)))),?_⟩
   walk_at "rd"
   refine ⟨_,_,_,false,rfl,hx,.inr ⟨rfl,Y.x_NoBoard,Y.n_NoBoard_NoFraction⟩,?_⟩
   walk_at "rd"
   refine ⟨_,_,_,false,rfl,hx,.inr ⟨rfl,Y.x_NoBoard,Y.n_NoBoard_NoSpot⟩,?_⟩
   walk_at "rd"
   refine ⟨_,_,_,false,rfl,hx,.inr ⟨rfl,Y.x_NoBoard,Y.n_NoBoard_NoBody⟩,?_⟩
   walk_at "rd"
   refine ⟨_,_,_,false,rfl,hx,.inr ⟨rfl,Y.x_NoBoard,Y.n_NoBoard_NoMove⟩,?_⟩
   walk_at "rd"
   refine ⟨R5 (R3 rfl) AF,fun p1 en1=>?_⟩
   have hN:upd H p1 (.lst xv7) p1=some (.lst xv7):=V5
   have hx:upd H p1 (.lst xv7) y=some (ExcO y c.NoBoard):=Same.upd en1 _ _ hx
   have S1:Same H (upd H p1 (.lst xv7)):=Same.upd en1
   generalize upd H p1 (.lst xv7)=G0 at hN hx S1 ⊢
   clear en1
   walk_at "rd"
   refine ⟨_,_,_,false,rfl,hx,.inr ⟨rfl,Y.x_NoBoard,Y.n_NoBoard_NoFlat⟩,?_⟩
   walk_at "rd"
   refine ⟨_,_,_,false,rfl,hx,.inr ⟨rfl,Y.x_NoBoard,Y.n_NoBoard_NoFace⟩,?_⟩
   walk_at "rd"
   refine ⟨_,_,_,true,rfl,hx,.inl ⟨rfl,rfl⟩,?_⟩
   walk_at "rd"
   refine ⟨_,_,_,false,rfl,hx,.inr ⟨rfl,Y.x_NoBoard,Y.n_NoBoard_NoLight⟩,?_⟩
   walk_at "rd"
   refine ⟨R5 (R3 rfl) AF,fun q1 eq1=>?_⟩
   refine ⟨_,_,xv7,xv8,rfl,rfl,Same.upd eq1 _ _ hN,V5,R5 (R3 rfl) AF,fun p2 en2=>?_⟩
   have S2:=(Same.upd (o:=.lst xv8) eq1).trans (Same.upd (o:=.lst (xv7++xv8)) en2)
   have hN':upd (upd G0 q1 (.lst xv8)) p2 (.lst (xv7++xv8)) p2=some (.lst xv6):=V5
   replace hx:=S2 _ _ hx
   replace S1:=S1.trans S2
   clear S2
   generalize upd (upd G0 q1 (.lst xv8)) p2 (.lst (xv7++xv8))=G1 at hN' hx S1 ⊢
   clear hN en2 eq1
   have hN:=hN'
   clear hN'
   walk_at "rd"
   refine ⟨_,_,_,false,rfl,hx,.inr ⟨rfl,Y.x_NoBoard,Y.n_NoBoard_NoDeed⟩,?_⟩
   walk_at "rd"
   refine ⟨_,_,_,false,rfl,hx,.inr ⟨rfl,Y.x_NoBoard,Y.n_NoBoard_NoText⟩,?_⟩
   walk_at "rd"
   refine ⟨_,_,_,false,rfl,hx,.inr ⟨rfl,Y.x_NoBoard,Y.n_NoBoard_NoName⟩,?_⟩
   walk_at "rd"
   refine ⟨_,_,_,false,rfl,hx,.inr ⟨rfl,Y.x_NoBoard,Y.n_NoBoard_NoRow⟩,?_⟩
   walk_at "rd"
   refine ⟨R5 (R3 rfl) AF,fun q2 eq2=>?_⟩
   refine ⟨_,_,xv6,xv7,rfl,rfl,Same.upd eq2 _ _ hN,V5,R5 (R3 rfl) AF,fun p3 en3=>?_⟩
   have S2:=(Same.upd (o:=.lst xv7) eq2).trans (Same.upd (o:=.lst (xv6++xv7)) en3)
   have hN':upd (upd G1 q2 (.lst xv7)) p3 (.lst (xv6++xv7)) p3=some (.lst xv5):=V5
   replace hx:=S2 _ _ hx
   replace S1:=S1.trans S2
   clear S2
   generalize upd (upd G1 q2 (.lst xv7)) p3 (.lst (xv6++xv7))=G2 at hN' hx S1 ⊢
   clear hN en3 eq2
   have hN:=hN'
   clear hN'
   walk_at "rd"
   refine ⟨_,_,_,false,rfl,hx,.inr ⟨rfl,Y.x_NoBoard,Y.n_NoBoard_Behind⟩,?_⟩
   walk_at "rd"
   refine ⟨_,_,_,false,rfl,hx,.inr ⟨rfl,Y.x_NoBoard,Y.n_NoBoard_TooMany⟩,?_⟩
   walk_at "rd"
   refine ⟨R5 (R3 rfl) AF,fun q3 eq3=>?_⟩
   refine ⟨_,_,xv5,xv9,rfl,rfl,Same.upd eq3 _ _ hN,V5,R5 (R3 rfl) AF,fun p4 en4=>?_⟩
   have S2:=(Same.upd (o:=.lst xv9) eq3).trans (Same.upd (o:=.lst (xv5++xv9)) en4)
   have hN':upd (upd G2 q3 (.lst xv9)) p4 (.lst (xv5++xv9)) p4=some (.lst xv4):=V5
   replace hx:=S2 _ _ hx
   replace S1:=S1.trans S2
   clear S2
   generalize upd (upd G2 q3 (.lst xv9)) p4 (.lst (xv5++xv9))=G3 at hN' hx S1 ⊢
   clear hN en4 eq3
   have hN:=hN'
   clear hN'
   walk_at "rd"
   refine ⟨by rw [<- hst1,hes1];rfl,?_⟩
   walk_at "rd"
   refine ⟨R5 (R3 rfl) AF,fun w1 ew1=>?_⟩
   have hW:upd G3 w1 (.lst xv2) w1=some (.lst xv2):=V5
   have S2:Same G3 (upd G3 w1 (.lst xv2)):=Same.upd ew1
   replace hx:=S2 _ _ hx
   replace hN:=S2 _ _ hN
   replace S1:=S1.trans S2
   clear S2
   show Q8m _ _ _ _ (upd G3 w1 (.lst xv2))
   generalize upd G3 w1 (.lst xv2)=G4 at hW hx hN S1 ⊢
   clear ew1
   walk_at "rd"
   refine ⟨R5 (R3 rfl) AF,fun w2 ew2=>?_⟩
   refine ⟨_,_,xv2,xv3,rfl,rfl,Same.upd ew2 _ _ hW,V5,R5 (R3 rfl) AF,fun w3 ew3=>?_⟩
   have S2:=(Same.upd (o:=.lst xv3) ew2).trans (Same.upd (o:=.lst (xv2++xv3)) ew3)
   have hW':upd (upd G4 w2 (.lst xv3)) w3 (.lst (xv2++xv3)) w3=some (.lst xv1):=V5
   replace hx:=S2 _ _ hx
   replace hN:=S2 _ _ hN
   replace S1:=S1.trans S2
   clear S2
   generalize upd (upd G4 w2 (.lst xv3)) w3 (.lst (xv2++xv3))=G5 at hW' hx hN S1 ⊢
   clear hW ew2 ew3
   have hW:=hW'
   clear hW'
   have getN:∀ i:Nat,i<14->(xv4:List V)[i]?=some (.bl (decide (i=6))):=by decide
   have getW:(xv1:List V)[6]?=some (.str "NoBoard"):=rfl
   refine ⟨14,rfl,by decide,by decide,XW (fun i acc H'=>H'=G5/\acc=if i<=6 then [] else [V.str "NoBoard"]) (R5 (R3 rfl) AF) ⟨rfl,rfl⟩ (fun i acc H' ⟨e1,e2⟩=>⟨?_,by rw [e1];exact hx⟩) (fun i acc H' hi ⟨e1,e2⟩=>?_) (fun acc H' ⟨e1,e2⟩=>?_)⟩
   · rw [e2]
     split
     · simp
     · simp;omega
   · subst e1
     rw [B2e]
     walk_at "rd"
     refine ⟨_,_,_,_,rfl,rfl,SqL.of hN,IQ (getN i hi),?_⟩
     walk_at "rd"
     by_cases hr:i=6
     · subst hr
       refine Q9r ?_
       walk_at "rd"
       refine ⟨_,_,_,_,rfl,rfl,SqL.of hW,IQ getW,?_⟩
       refine ⟨rfl,?_⟩
       rw [e2]
       rfl
     · refine J4a (fun h=>absurd (B0a h) hr) (fun _=>?_)
       refine ⟨rfl,?_⟩
       rw [e2]
       by_cases h2:i<=6
       · rw [if_pos h2,if_pos (by omega)]
       · rw [if_neg h2,if_neg (by omega)]
   · subst e1
     intro d hd
     rw [e2,if_neg (by decide)]
     have hS:upd H' d (.lst [V.str "NoBoard"]) d=some (.lst [V.str "NoBoard"]):=V5
     have S2:Same H' (upd H' d (.lst [V.str "NoBoard"])):=Same.upd hd
     replace hx:=S2 _ _ hx
     replace S1:=S1.trans S2
     walk_at "rd"
     refine ⟨_,_,rfl,.inl (SqL.of hS),?_⟩
     walk_at "rd"
     refine ⟨_,_,_,rfl,hx,Y.v_NoBoard,QT,?_⟩
     walk_at "rd"
     refine ⟨_,_,_,_,rfl,rfl,SqL.of hS,rfl,?_⟩
     exact k _ S1
abbrev EY:Stmt:=top 70
theorem NG:FnScope xl3 xl3 (J7 EY):=⟨rfl,rfl,rfl,by decide +kernel,rfl,by decide +kernel,by decide +kernel⟩
noncomputable def J8u:DSp:=fun ds P _=>ds=[.bag]/\∀ d,(ES d).isSome=true->Z1 d=true->plain d=true->FU d=false->P d
theorem NM {f:Addr} (F:Fun K "_law_no_side" "_law_no_side" EY f fd) (Z:Bi mg) {c:Cs} (Y:Ex K mg base c) (g0:Callee P w K mg base CX0 "_law_digit" 2 xl4 (Q3 K BT FK)):FnOk P w K mg base CX0 3 f fd xl3 (Q3 K BT J8u):=by
 refine F.okD NG (fun ds PP Ed h=>?_) (fun cdv A outer s H E M bg ds PP Ed hr hS_=>?_)
 · obtain ⟨rfl,hP⟩:=h
   rfl
 · obtain ⟨rfl,hP⟩:=hS_
   refine ⟨_,(Q0 (V6 (J8 (J9 K (by rfl)) Q5 (AT (J0 J1 (J0 (FJ J1) (J0 J1 (J0 FT (J0 FT (J0 LF (J0 UP (J0 (V3 (J0 J1 J3)) (J0 (AT (J0 J1 J3)) (J0 (J6 Y4 V7 (J6 TZ Y9 J1 J1) J1) J3))))))))))) (Q4 g0 hr.m rfl (J0 (jdv 0) (J0 J1 J3))) (fun _ _=>rfl)))),?_⟩
   walk_at "g"
   refine ⟨_,64,rfl,by decide,Bd.num _ (by decide),by decide,fun q q0 q1=>?_⟩
   walk_at "g"
   refine ixm q0 (by exact q1) fun d md=>?_
   simp only [B6,R1,W4,B1l,B2o] at md
   rcases md with rfl|rfl|rfl|rfl|rfl|rfl|rfl|rfl|rfl|rfl
   all_goals exact hP _ rfl rfl rfl rfl
abbrev EX:Stmt:=top 72
abbrev Q4a:List Str:=["_law_faces_here","_law_board","_law_thing"]
theorem HG:FnScope ["_law_faces_here","_law_board","_law_thing","_law_e"] Q4a (J7 EX):=⟨rfl,rfl,rfl,by decide +kernel,rfl,by decide +kernel,by decide +kernel⟩
noncomputable def TD (c:Cs):DSp:=fun ds P _=>∃ (ts:List T3) (d d':D),ds=[.lst (ts.map T3.d),d,d']/\(∀ t∈ts,t.ok 100/\t.pos)/\ts.length<=500/\tkD d=true/\Z1 d=true/\plain d=true/\(ES d').isSome=true/\Z1 d'=true/\plain d'=true/\(DI d=false\/FU d'=false)/\P (.bl true)
theorem NL {f:Addr} (F:Fun K "_law_refused" "_law_refused" EX f fd) (Z:Bi mg) {c:Cs} (Y:Ex K mg base c) (g0:Callee P w K mg base (CX1 P w base) "painted_by_squares" 7 J9i (CP K BT (J8r c))) (g1:CalleeM P w K mg base "_law_word_of" 1 ["_law_e"] (OC c)):FnOk P w K mg base CX0 8 f fd Q4a (Q3 K BT (TD c)):=by
 refine F.okD HG (fun ds PP Ed h=>?_) (fun cdv A outer s H E M bg ds PP Ed hr hS_=>?_)
 · obtain ⟨ts,d,d',rfl,hts,htl,h1,h2,h4,h1',h2',h4',h3,hP⟩:=h
   rfl
 · obtain ⟨ts,d,d',rfl,hts,htl,h1,h2,h4,h1',h2',h4',h3,hP⟩:=hS_
   refine ⟨_,(J4 (Q1b (fun C=>C=c.NoBoard) (hd:=fun C F=>C=c.NoBoard/\F.rt (.bl true)) (by
    intro C x H' E F pn l hd k o hx
    obtain ⟨rfl,hd⟩:=hd
    refine ⟨Y.s_NoBoard,?_⟩
    walk_at "rd"
    refine ⟨V5,fun H2 S2=>?_⟩
    walk_at "rd"
    exact l.rt (.bl true) (.bl true) H2 hd rfl (Kp.trans k (Kp.same ((Same.upd hx).trans S2))) (okB.same o ((Same.upd hx).trans S2))) (Q4y (i:=3) K (by rfl) (by rfl) (by rfl) rfl Y.g_ShadeError Y.sh HG.nd rfl rfl (fun xe pn E1 hp=>PSs.withE fun hE1=>JSs.h (Q0 (PR (J3v hE1 hp g0 hr.m rfl (J0 (jdv 0) (J0 (jdv 1) (J0 (jdv 2) J3))))))) (fun y=>(AX (DB (J0z DD (Q0o (by exact rfl) g1 (hr.m.mark _) rfl (Q8 (pv 3) Z0)) GU (Y5 _)))))))
    (Q0 (V6 FT))),?_⟩
   refine ⟨?_,fun C e=>⟨e,hP⟩⟩
   walk_at "g"
   refine ⟨ts,d,d',by show [_,bor d,bor d']=_;rw [VJ h2,VJ h2'];rfl,hts,htl,h1,h2,h1',h2',fun z=>rfl,fun z=>rfl,fun wd hg k e e' hb=>?_⟩
   subst e e'
   have q1:DI (t2 wd hg)=true:=by
    simp only [DI,EC,R4,U6]
    omega
   have q2:FU (.int k)=true:=by
    simp only [FU,EC,R4,U6]
    omega
   rcases h3 with z|z
   · rw [q1] at z;cases z
   · rw [q2] at z;cases z
theorem RY {rows:List (List D)}(h:∀ r∈rows,∀ d∈r,isN d)(n:Nat):BG (n+2) (.lst (rows.map D.lst))=true:=by
 unfold BG
 refine IM fun d hd=>?_
 obtain ⟨r,hr,rfl⟩:=M3.mp hd
 unfold BG
 exact IM fun d hd=>(h r hr d hd).fine n
abbrev EK:Stmt:=top 74
abbrev J4w:List Str:=["_law_found","_law_due_here"]
theorem QW:FnScope J4w J4w (J7 EK):=⟨rfl,rfl,rfl,by decide +kernel,rfl,by decide +kernel,by decide +kernel⟩
theorem J5e {rows:List (List D)}{n:Int}(h:∀ r∈rows,∀ d∈r,isN d):BG 3 (.tup [EA rows,.int n])=true:=by
 have:=RY h 0
 unfold BG
 simp only [EG,Bool.and_true]
 rw [R4]
 exact ⟨this,rfl⟩
noncomputable def J2b:DSp:=fun ds P _=>∃ (rows:List (List D)) (n:Int),ds=[.tup [EA rows,.int n],.tup [EA rows,.int n]]/\rows.length<=16/\(∀ r∈rows,∀ d∈r,isN d)/\P (.bl true)
abbrev J9n (P:Program) (w:World) (K:Fg) (mg:Str → Option Value) (base:Heap) (f:Addr) (cdv:Value) (A:Around) (outer:List Env) (s:Shared) (H:Hp) (E:XK):Cx:=BW CX0 P w K mg base J4w "_law_right" (J7 EK) f cdv A outer s H E
theorem RC {f:Addr} (F:Fun K "_law_right" "_law_right" EK f fd) (Z:Bi mg) {c:Cs} (Y:Ex K mg base c) (g0:Callee P w K mg base CX0 "_law_whole" 1 ["_law_thing"] (Q3 K BT J2a)):FnOk P w K mg base CX0 2 f fd J4w (Q3 K BT J2b):=by
 refine F.okD QW (fun ds PP Ed h=>?_) (fun cdv A outer s H E M bg ds PP Ed hr hS_=>?_)
 · obtain ⟨rows,n,rfl,hl,hN,hP⟩:=h
   rfl
 · obtain ⟨rows,n,rfl,hl,hN,hP⟩:=hS_
   refine ⟨_,(J4 (AJ (JV (DZ (AC (by rfl) (V2 (BB K (by rfl)) CU rfl Z.isinstance_ V1 (J0 (jdv 0) (J0 (ED rfl Z.tuple_ YC) J3))) (fun _=>rfl))) (J6n (Z6 J1d ZJ (V2 (BC K (by rfl)) QL rfl Z.len_ HE (J0 (jdv 0) J3)) J1 (Y5 _)) (J6n (DZ (AC (by rfl) (Q4 g0 hr.m rfl (J0 (J8 (J9 K (by rfl)) Q5 (jdv 0) J1 (fun _ _=>rfl)) J3)) (fun _=>rfl))) (GY (Z6 (OW K (by rfl) hr.units) PF (jdv 0) (jdv 1) (Y5 _)))))) (Q0 (V6 FT)) Y6)
    (Q0 (V6 (HA (V2 (BB K (by rfl)) CU rfl Z.isinstance_ V1 (J0 (J8 (J9 K (by rfl)) Q5 (jdv 0) J1 (fun _ _=>rfl)) (J0 (ED rfl Z.list_ VH) J3))) (IK (V2 (MM K (by rfl) (by rfl)) QM rfl Z.all_ J0d (J0 (AS (X:=(J9n P w K mg base f cdv A outer s H E).nox) (Y2 0) (HL (X:=(J9n P w K mg base f cdv A outer s H E).nox) (N':=["_law_row"]) (map:=[none]) (by rfl) (by rfl) (by decide +kernel) (by rfl) True.intro (gkeep_name rfl) fun cl0 C0 fp0 s0 H0=>⟨(pg_name (X:=(Q7 (J9n P w K mg base f cdv A outer s H E).nox ["_law_row"] _ cl0 C0 fp0 s0 H0)) (i:=0) (Z4 ["_law_row"] (by decide +kernel)) rfl (by walk_at "o")),Z9,(V2 (X:=(Q7 (J9n P w K mg base f cdv A outer s H E).nox ["_law_row"] _ cl0 C0 fp0 s0 H0)) (BB K (by rfl)) CU rfl Z.isinstance_ V1 (J0 (jdv 0) (J0 (ED rfl Z.list_ VH) J3)))⟩) (AR (by rfl) (J8 (J9 K (by rfl)) Q5 (jdv 0) J1 (fun _ _=>rfl)))) J3))))))),?_⟩
   walk_at "g"
   refine ⟨true,by rfl,?_⟩
   walk_at "g"
   refine ⟨n,rfl,?_⟩
   walk_at "g"
   refine QF 3 (J5e hN) rfl (by decide) ?_
   walk_at "g"
   refine ⟨true,by rfl,?_⟩
   walk_at "g"
   refine And.intro (by rw [B9];omega) ?_
   refine EE (fun x=>.bl true) (fun x Q hx q=>?_) (fun _ _=>rfl) ?_
   · obtain ⟨z,_,rfl⟩:=M3.mp hx
     walk_at "g"
     refine ⟨true,by rfl,?_⟩
     walk_at "g"
     exact q
   have eb:FZ ((rows.map D.lst).map fun _=>D.bl true)=some ((rows.map D.lst).map fun _=>true):=by
    have:=IP ((rows.map D.lst).map fun _=>true)
    rw [B0k] at this
    exact this
   walk_at "g"
   rw [eb]
   walk_at "g"
   have ea:((fun bs:List Bool=>bs.all id) ((rows.map D.lst).map fun _=>true))=true:=by simp
   rw [ea]
   exact hP
def MR (rows:List (List D))(n:Nat):List (List D):=rows.mapIdx fun i r=>if i<n then r++[.int (100+(i:Int))] else r
theorem J4u (rows:List (List D)):MR rows 0=rows:=by
 unfold MR
 apply T5
 intro i
 rw [R0]
 cases rows[i]?<;>simp
theorem Q2n {rows:List (List D)}{n:Nat}{row:List D}(e:rows[n]?=some row):(MR rows n)[n]?=some row:=by
 unfold MR
 rw [R0,e]
 simp
theorem J8o {rows:List (List D)}{n:Nat}{row:List D}(e:rows[n]?=some row):(MR rows n).set n (row++[.int (100+(n:Int))])=MR rows (n+1):=by
 have hn:=(B7.mp e).1
 apply T5
 intro i
 unfold MR
 rw [R0]
 by_cases z:n=i
 · subst z
   rw [R6,e]
   simp [hn]
 · rw [L6 z,R0]
   cases rows[i]? with
   | none=>rfl
   | some r =>
     simp only [Option.map_some]
     congr 1
     by_cases y:i<n
     · rw [if_pos y,if_pos (by omega)]
     · rw [if_neg y,if_neg (by omega)]
def UA:D->D
 | .tup [.int n,.lst r]=>.lst (r++[.int (100+n)])
 | _=>.non
theorem WQ (rows:List (List D)):(enumD (rows.map D.lst)).map UA=(MR rows rows.length).map D.lst:=by
 apply T5
 intro i
 unfold enumD MR
 simp only [M1,R0]
 cases e:rows[i]? with
 | none=>rfl
 | some r =>
   have:=(B7.mp e).1
   simp [UA,this]
theorem J8p {rows:List (List D)}(h:∀ r∈rows,∀ d∈r,isN d)(n:Nat):∀ r∈MR rows n,∀ d∈r,isN d:=fun r hr d hd=>by
 unfold MR at hr
 obtain ⟨i,hi,rfl⟩:=B2p.mp hr
 split at hd
 · rcases U7.mp hd with z|z
   · exact h _ (W5 hi) d z
   · rw [M6.mp z];exact .inr ⟨_,rfl⟩
 · exact h _ (W5 hi) d hd
abbrev J0u:Stmt:=top 75
abbrev Q8d:List Str:=["_law_script","_law_bag_here","_law_large","_law_most","_law_board","_law_length","_law_odd","_law_other","_law_faces_here","_law_due_here","_law_handed","_law_again","_law_found","_law_number","_law_row"]
theorem BH:FnScope Q8d ["_law_script"] (J7 J0u):=⟨rfl,rfl,rfl,by decide +kernel,rfl,by decide +kernel,by decide +kernel⟩
noncomputable def TL (K:Fg):Sp:=fun vs H Q _=>∃ (a:Addr) (ns:List Int),vs=[.ref a]/\SqL K H a (ns.map V.int)/\ns.length<=63/\∀ H',Q (.bl true) H'
abbrev J9m (P:Program) (w:World) (K:Fg) (mg:Str → Option Value) (base:Heap) (f:Addr) (cdv:Value) (A:Around) (outer:List Env) (s:Shared) (H:Hp) (E:XK):Cx:=BW CX0 P w K mg base Q8d "law" (J7 J0u) f cdv A outer s H E
abbrev J2i:List Str:=["_law_number","_law_row"]
theorem Q5i {f:Addr} (F:Fun K "law" "law" J0u f fd) (Z:Bi mg) {c:Cs} (Y:Ex K mg base c) (g0:Callee P w K mg base CX0 "_law_bag" 1 xl2 (YD K BT TX)) (g1:Callee P w K mg base CX0 "_law_no_board" 3 xl3 (Q3 K BT J8v)) (g2:Callee P w K mg base CX0 "_law_no_side" 3 xl3 (Q3 K BT J8u)) (g3:Callee P w K mg base CX0 "_law_faces" 5 Q4d (Q3 K BT YE)) (g4:Callee P w K mg base CX0 "_law_due" 4 Q4b (Q3 K BT Q3z)) (g5:Callee P w K mg base CX0 "_law_refused" 8 Q4a (Q3 K BT (TD c))) (g6:Callee P w K mg base CX0 "_law_cell" 1 xl1 (Q3 K BT J0l)) (g7:Callee P w K mg base CX0 "_law_digit" 2 xl4 (Q3 K BT FK)) (g8:Callee P w K mg base (CX1 P w base) "painted_by_squares" 7 J9i (CP K BT (J8r c))) (g9:Callee P w K mg base CX0 "_law_right" 2 J4w (Q3 K BT J2b)):FnOk P w K mg base CX0 9 f fd ["_law_script"] (TL K):=by
 refine F.okL BT BH (fun cdv A outer s H E ns hr hlen=>?_)
 · refine ⟨_,(J4 (Q1c (i:=1) rfl BH.nd rfl (by walk_at "o") g0 hr.m rfl (J0 (Q4 g6 hr.m rfl (J0 (jdv 0) (J0 J1 J3))) (J0 J1 J3)))
    (J4 (V0 (i:=2) BH.nd rfl (by walk_at "o") (J6 EB Y9 (Q4 g7 hr.m rfl (J0 (jdv 1) (J0 J1 J3))) J1))
    (J4 (V0 (i:=3) BH.nd rfl (by walk_at "o") (J8 (J9 K (by rfl)) Q5 (AT (J0 J1 (J0 J1 J3))) (jdv 2) (fun _ _=>rfl)))
    (J4 (V0 (i:=4) BH.nd rfl (by walk_at "o") (V3 (J0 (J6 Y7 V7 J1 (Q4 g7 hr.m rfl (J0 (jdv 1) (J0 (jdv 3) J3)))) (J0 (J6 Y7 V7 J1 (Q4 g7 hr.m rfl (J0 (jdv 1) (J0 (jdv 3) J3)))) J3))))
    (J4 (V0 (i:=5) BH.nd rfl (by walk_at "o") (J6 Y7 V7 J1 (Q4 g7 hr.m rfl (J0 (jdv 1) (J0 (J8 (J9 K (by rfl)) Q5 (AT (J0 (jdv 3) (J0 J1 J3))) (J6 EB Y9 (Q4 g7 hr.m rfl (J0 (jdv 1) (J0 J1 J3))) J1) (fun _ _=>rfl)) J3)))))
    (J4 (V0 (i:=6) BH.nd rfl (by walk_at "o") (Q4 g1 hr.m rfl (J0 (jdv 1) J3)))
    (J4 (V0 (i:=7) BH.nd rfl (by walk_at "o") (Q4 g2 hr.m rfl (J0 (jdv 1) J3)))
    (J4 (V0 (i:=8) BH.nd rfl (by walk_at "o") (Q4 g3 hr.m rfl (J0 (jdv 1) (J0 (V2 (J4t K (by rfl) (by rfl)) Q2l rfl Z.max_ VG (J0 (jdv 4) J3)) (J0 (Q4 g7 hr.m rfl (J0 (jdv 1) (J0 (J8 (J9 K (by rfl)) Q5 (AT (J0 J1 (J0 J1 J3))) (jdv 2) (fun _ _=>rfl)) J3))) J3)))))
    (PN (AJ (Z6 DD BR (Q4 g7 hr.m rfl (J0 (jdv 1) (J0 J1 J3))) J1 (Y5 _)) (J4 (V0 (i:=4) BH.nd rfl (by walk_at "o") (V3 (J0 (V2 (CV (by rfl)) NE rfl Z.min_ HC (J0 J1 (J0 (J8 (J9 K (by rfl)) Q5 (jdv 4) J1 (fun _ _=>rfl)) J3))) (J0 (V2 (CV (by rfl)) NE rfl Z.min_ HC (J0 J1 (J0 (J8 (J9 K (by rfl)) Q5 (jdv 4) J1 (fun _ _=>rfl)) J3))) J3))))
    (Q0 (V0 (i:=8) BH.nd rfl (by walk_at "o") (Q4 g3 hr.m rfl (J0 (jdv 1) (J0 J1 (J0 (J6 Y4 V7 J1 (Q4 g7 hr.m rfl (J0 (jdv 1) (J0 J1 J3)))) J3))))))) Y6)
    (J4 (V0 (i:=9) BH.nd rfl (by walk_at "o") (Q4 g4 hr.m rfl (J0 (jdv 8) (J0 (jdv 4) (J0 (jdv 5) J3)))))
    (J4 (V0 (i:=10) BH.nd rfl (by walk_at "o") (ZT (RM K (by rfl)) Q2k rfl Z.list_ VH (J0 (jdv 8) J3)))
    (J4 (BU (Y2 11) U8 rfl (BM rfl Z.range_ (J0 J1 J3)) (pg_name (i:=11) BH.nd rfl (by walk_at "o")) (J4 (J3q UV ZD (i:=12) BH.nd rfl (by walk_at "o") g8 hr.m rfl (J0 (jdv 10) (J0 (jdv 4) (J0 (jdv 5) J3))))
    (J4 (AJ (JV (DZ (AC (by rfl) (XE g9 hr.m rfl (J0 (jdv 12) (J0 (jdv 9) J3))) (fun _=>rfl))) (GY (Z6 (OW K (by rfl) hr.units) PF (jdv 10) (jdv 8) (Y5 _)))) (Q0 (V6 FT)) Y6)
    (J4 (J3r (i:=12) (BE [13,14]) U8 rfl (NR (X:=(J9m P w K mg base f cdv A outer s H E).nox) K (by rfl) rfl Z.enumerate_ (Q8 (FW (J1f K (by rfl)) (pv 12) Z7 (fun _ _=>rfl)) Z0)) (PG.or (AO (n:=2) K (by rfl) (by rfl) (J5 (pg_name (i:=13) BH.nd rfl (by walk_at "o")) (J5 (pg_name (i:=14) BH.nd rfl (by walk_at "o")) Y1))) (AQ (n:=2) K (by rfl) (by rfl) (J5 (pg_name (i:=13) BH.nd rfl (by walk_at "o")) (J5 (pg_name (i:=14) BH.nd rfl (by walk_at "o")) Y1)))) (Q0 (J3t (i:=12) (j:=14) (by rfl) (J0 (J6 Y7 V7 J1 (jdv 13)) J3) (WO B1b B1r B1q IJ (pv 14) (JA.h (J0 (J6 Y7 V7 J1 (jdv 13)) J3))))))
    (ME 12 (Q0 (AJ (Z6 (OW K (by rfl) hr.units) PF (J8 (J9 K (by rfl)) Q5 (jdv 12) J1 (fun _ _=>rfl)) (AS (X:=(J9m P w K mg base f cdv A outer s H E).nox) (BE [0,1]) (HL (X:=(J9m P w K mg base f cdv A outer s H E).nox) (N':=J2i) (map:=[none,none]) (by rfl) (by rfl) (by decide +kernel) (by rfl) True.intro (gkeep_seq (js:=[0,1]) (by decide)) fun cl0 C0 fp0 s0 H0=>⟨(PG.or (AO (n:=2) K (by rfl) (by rfl) (J5 (pg_name (i:=0) (Z4 J2i (by decide +kernel)) rfl (by walk_at "o")) (J5 (pg_name (i:=1) (Z4 J2i (by decide +kernel)) rfl (by walk_at "o")) Y1))) (AQ (n:=2) K (by rfl) (by rfl) (J5 (pg_name (i:=0) (Z4 J2i (by decide +kernel)) rfl (by walk_at "o")) (J5 (pg_name (i:=1) (Z4 J2i (by decide +kernel)) rfl (by walk_at "o")) Y1)))),Z9,(J6 (X:=(Q7 (J9m P w K mg base f cdv A outer s H E).nox J2i _ cl0 C0 fp0 s0 H0)) JP ZK (jdv 1) (AT (J0 (J6 Y7 V7 J1 (jdv 0)) J3)))⟩) (PX (by rfl) (J0 (J8 (J9 K (by rfl)) Q5 (jdv 9) J1 (fun _ _=>rfl)) J3) (NR K (by rfl) rfl Z.enumerate_ (JA.h (J0 (J8 (J9 K (by rfl)) Q5 (jdv 9) J1 (fun _ _=>rfl)) J3))))) (Y5 _)) (Q0 (V6 FT)) Y6)))))))
    (J4 (AJ (JV (DZ (AC (by rfl) (Q4 g5 hr.m rfl (J0 (jdv 8) (J0 (jdv 6) (J0 (jdv 5) J3)))) (fun _=>rfl))) (GY (DZ (AC (by rfl) (Q4 g5 hr.m rfl (J0 (jdv 8) (J0 (jdv 4) (J0 (jdv 7) J3)))) (fun _=>rfl))))) (Q0 (V6 FT)) Y6)
    (Q0 (V6 (Q4 g5 hr.m rfl (J0 (jdv 8) (J0 (jdv 6) (J0 (jdv 7) J3))))))))))))))))))),?_⟩
   walk_at "g"
   refine ⟨ns,0,rfl,fun n=>?_⟩
   walk_at "g"
   refine ⟨⟨n,1,rfl,by decide⟩,?_⟩
   walk_at "g"
   refine ⟨_,64,rfl,by decide,Bd.num _ (by decide),by decide,fun r r0 r1=>?_⟩
   walk_at "g"
   refine And.intro ⟨by decide,64,Bd.num _ (by decide),by decide⟩ ?_
   walk_at "g"
   refine ixm (by omega) (by show _<(2:Int);omega) fun dm mm=>?_
   obtain ⟨mo,rfl,o0,o1⟩:∃ mo:Int,dm=.int mo/\0<mo/\mo<=16:=by
    simp only [B6,R1,W4] at mm
    rcases mm with e|e<;>exact ⟨_,e,by decide,by decide⟩
   have bmo:Bd 64 mo:=(Bd.of (by omega) (by omega):Bd 6 mo).mono (by decide)
   walk_at "g"
   refine ⟨mo,64,rfl,o0,bmo,by decide,fun x x0 x1=>?_⟩
   walk_at "g"
   refine ⟨mo,64,rfl,o0,bmo,by decide,fun y y0 y1=>?_⟩
   obtain ⟨w,ew⟩:∃ w:Nat,1+x=w:=⟨(1+x).toNat,by omega⟩
   obtain ⟨h,eh⟩:∃ h:Nat,1+y=h:=⟨(1+y).toNat,by omega⟩
   walk_at "g"
   refine ⟨_,64,rfl,by decide,Bd.num _ (by decide),by decide,fun s3 s30 s31=>?_⟩
   walk_at "g"
   refine And.intro ⟨by decide,64,Bd.num _ (by decide),by decide⟩ ?_
   walk_at "g"
   refine ixm (by omega) (by show _<(2:Int);omega) fun dm3 mm3=>?_
   obtain ⟨mo3,rfl,o03,o13⟩:∃ m3:Int,dm3=.int m3/\0<m3/\m3<=16:=by
    simp only [B6,R1,W4] at mm3
    rcases mm3 with e|e
    · exact ⟨mo,e,o0,o1⟩
    · exact ⟨_,e,by decide,by decide⟩
   walk_at "g"
   refine ⟨mo3,64,rfl,o03,(Bd.of (by omega) (by omega):Bd 6 mo3).mono (by decide),by decide,fun z3 z30 z31=>?_⟩
   obtain ⟨k,ek⟩:∃ k:Int,1+z3=k:=⟨_,rfl⟩
   have hk1:1<=k:=by omega
   have hk2:k<=16:=by omega
   walk_at "g"
   rw [ew,eh,ek]
   intro od k1 k2 k3 k4
   refine ⟨k3,?_⟩
   walk_at "g"
   intro sd j1 j2 j3 j4
   refine ⟨j3,?_⟩
   walk_at "g"
   intro M hM gM
   simp only [B6,R1,W4] at hM
   walk_at "g"
   refine ixm (by omega) (by show _<(2:Int);omega) fun dm2 mm2=>?_
   obtain ⟨mo2,rfl,o02,o12⟩:∃ mo:Int,dm2=.int mo/\0<mo/\mo<=16:=by
    simp only [B6,R1,W4] at mm2
    rcases mm2 with e|e<;>exact ⟨_,e,by decide,by decide⟩
   walk_at "g"
   refine ⟨mo2,64,rfl,o02,(Bd.of (by omega) (by omega):Bd 6 mo2).mono (by decide),by decide,fun many q0 q1=>?_⟩
   walk_at "g"
   refine ⟨M,many,rfl,⟨by omega,by omega⟩,⟨q0,by omega⟩,fun ts hl hts=>?_⟩
   have hw:w<=16:=by omega
   have hh:h<=16:=by omega
   have hw1:1<=w:=by omega
   have hh1:1<=h:=by omega
   clear gM hM mm mm2 bmo
   walk_at "nz"
   walk_at "g"
   refine ⟨fun ρ=>∃ (w h:Nat) (ts:List T3) (v1 v2 v3 v9 v10 v11 v12 v13 v14:Option D),ρ=[some (.scr ns),v1,v2,v3,some (t2 w h),some (.int k),some od,some sd,some (.lst (ts.map T3.d)),v9,v10,v11,v12,v13,v14]/\(1<=w/\w<=16/\1<=h/\h<=16)/\ts.length<=30/\∀ t∈ts,t.ok 100/\t.pos,?_,?_⟩
   · walk_at "g"
     refine ⟨_,64,rfl,by decide,Bd.num _ (by decide),by decide,fun z z0 z1=>?_⟩
     walk_at "g"
     walk_at "sp"
     · walk_at "g"
       refine ⟨3,64,rfl,by decide,Bd.num _ (by decide),by decide,fun u u0 u1=>?_⟩
       walk_at "g"
       refine ⟨4,24 - u,rfl,⟨by decide,by decide⟩,⟨by omega,by omega⟩,fun ts hl hts=>?_⟩
       obtain ⟨w2,ew2,hw1,hw⟩:∃ w2:Nat,((fun i j=>if j<i then j else i) 4 (w:Int):Int)=w2/\1<=w2/\w2<=16:=by
        dsimp only
        split
        · exact ⟨w,rfl,hw1,hw⟩
        · exact ⟨4,rfl,by decide,by decide⟩
       obtain ⟨h2,eh2,hh1,hh⟩:∃ h2:Nat,((fun i j=>if j<i then j else i) 4 (h:Int):Int)=h2/\1<=h2/\h2<=16:=by
        dsimp only
        split
        · exact ⟨h,rfl,hh1,hh⟩
        · exact ⟨4,rfl,by decide,by decide⟩
       rw [ew2,eh2]
       walk_at "g"
       exact ⟨w2,h2,ts,_,_,_,_,_,_,_,_,_,rfl,⟨hw1,hw,hh1,hh⟩,hl,hts⟩
     · walk_at "g"
       exact ⟨w,h,ts,_,_,_,_,_,_,_,_,_,rfl,⟨hw1,hw,hh1,hh⟩,hl,hts⟩
   · clear ew eh hw hh hw1 hh1 hl hts ts
     rintro ρ ⟨w,h,ts,v1,v2,v3,v9,v10,v11,v12,v13,v14,rfl,⟨hw1,hw,hh1,hh⟩,hl,hts⟩
     have hbd:DI (t2 w h)=true:=by
      simp only [DI,EC,R4,U6]
      omega
     have hsd:FU (.int k)=true:=by
      simp only [FU,EC,R4,U6]
      omega
     have hfl:BG 3 (.lst (ts.map T3.d))=true:=by unfold BG;exact MZ ts
     walk_at "g"
     refine ⟨ts,w,h,k,rfl,hts,by omega,⟨hw1,hw,hh1,hh,hk1,hk2⟩,?_⟩
     have pis:=@J6g ts w h
     generalize hR:HV ts w h=rows at pis
     generalize hT:KR ts (sqL k w h)=tot
     walk_at "g"
     refine ⟨fun i ρ=>∃ v1 v2 v3 v11 v12 v13 v14,ρ=[some (.scr ns),v1,v2,v3,some (t2 w h),some (.int k),some od,some sd,some (.lst (ts.map T3.d)),some (.tup [EA rows,.int tot]),some (.lst (ts.map T3.d)),v11,v12,v13,v14],⟨_,_,_,_,_,_,_,rfl⟩,?_,?_⟩
     · rintro i x ρ e ⟨v1,v2,v3,v11,v12,v13,v14,rfl⟩
       clear e
       walk_at "g"
       refine ⟨ts,t2 w h,.int k,rfl,hts,by omega,rfl,rfl,rfl,rfl,fun z=>absurd (hbd.symm.trans z) (by decide),fun z=>absurd (hsd.symm.trans z) (by decide),fun w' h' k' e e' _=>?_⟩
       obtain ⟨rfl,rfl⟩:w=w'/\h=h':=by
        unfold t2 at e
        simp at e
        omega
       cases e'
       rw [hR,hT]
       refine ⟨fun r hr'=>PJ fun d hd=>((pis.2 r hr').2 d hd).noL,fun p a rs hrs=>?_⟩
       walk_at "g"
       refine ⟨rows,tot,rfl,by omega,fun r hr'=>(pis.2 r hr').2,?_⟩
       walk_at "g"
       refine QF 3 hfl rfl (by decide) ?_
       walk_at "g"
       refine ⟨p,a,rs,rows,tot,rfl,fun n ρ=>∃ u1 u2 u3 u11 u13 u14,ρ=[some (.scr ns),u1,u2,u3,some (t2 w h),some (.int k),some od,some sd,some (.lst (ts.map T3.d)),some (.tup [EA rows,.int tot]),some (.lst (ts.map T3.d)),u11,some (tgd K p a rs (MR rows n) tot),u13,u14],⟨_,_,_,_,_,_,by rw [J4u];rfl⟩,?_,?_,?_⟩
       · rintro n ρ ⟨u1,u2,u3,u11,u13,u14,rfl⟩
         exact ⟨_,rfl⟩
       · rintro n r ρ er ⟨u1,u2,u3,u11,u13,u14,rfl⟩
         have hn:=(B7.mp er).1
         obtain ⟨row,erow⟩:∃ row,rows[n]?=some row:=⟨rows[n]'(by omega),M5 _⟩
         have hlr:=(pis.2 row (L4 erow)).1
         walk_at "g"
         refine ⟨p,a,rs,MR rows n,tot,r,n,row,rfl,rfl,er,Q2n erow,?_⟩
         walk_at "g"
         refine And.intro (by show (true&&decide (row.length<1000))=true;simp;omega) ?_
         exact ⟨_,_,_,_,_,_,by rw [<- J8o erow];rfl⟩
       · rintro ρ ⟨u1,u2,u3,u11,u13,u14,rfl⟩
         rw [hrs]
         walk_at "g"
         refine And.intro (by simp [enumD];omega) ?_
         refine EE UA (fun d Q hd hQ=>?_) (fun d hd=>?_) ?_
         · unfold enumD at hd
           obtain ⟨j,hj,rfl⟩:=B2p.mp hd
           rw [List.getElem_map] at hQ ⊢
           have hj2:j<rows.length:=by rw [B9] at hj;exact hj
           have hlr:=(pis.2 _ (W5 hj2)).1
           generalize rows[j]=row at hQ hlr ⊢
           walk_at "g"
           refine And.intro (by simp;omega) ?_
           exact hQ
         · unfold enumD at hd
           obtain ⟨j,hj,rfl⟩:=B2p.mp hd
           rw [List.getElem_map];rfl
         · rw [WQ]
           refine QF 2 (RY (J8p (fun r hr'=>(pis.2 r hr').2) _) 0) rfl (by decide) ?_
           walk_at "g"
           exact ⟨_,_,_,_,_,_,_,rfl⟩
     · rintro ρ ⟨v1,v2,v3,v11,v12,v13,v14,rfl⟩
       walk_at "g"
       refine ⟨by show ((_:Bool)&&(Z1 od&&(Z1 (.int k)&&(_:Bool))))=true;rw [show Z1 od=true from k2,show Z1 (.int k)=true from rfl];rfl,ts,od,(.int k),rfl,hts,by omega,k1,k2,k3,rfl,rfl,rfl,.inl k4,?_⟩
       walk_at "g"
       refine ⟨by show ((_:Bool)&&(Z1 (t2 w h)&&(Z1 sd&&(_:Bool))))=true;rw [show Z1 (t2 w h)=true from rfl,show Z1 sd=true from j2];rfl,ts,(t2 w h),sd,rfl,hts,by omega,rfl,rfl,rfl,j1,j2,j3,.inr j4,?_⟩
       walk_at "g"
       refine ⟨by show ((_:Bool)&&(Z1 od&&(Z1 sd&&(_:Bool))))=true;rw [show Z1 od=true from k2,show Z1 sd=true from j2];rfl,ts,od,sd,rfl,hts,by omega,k1,k2,k3,j1,j2,j3,.inl k4,?_⟩
       walk_at "g"
end K
namespace K
open PySem L2
structure FnIn (K:Fg)(x:Str)(st:Stmt):Prop where
 ex:∃ (f:Addr) (fd:FuncData),PySem.W.nsIn K mainGlobals x=some (some (.ref f))/\Fun K x x st f fd
theorem fn_in {x:Str}{st:Stmt}{f:Addr}{oc:Value}{od an:Option Addr}{osl:Array (Option Value)}{kV doc pm cdv ct:Value}(a:PySem.W.nsIn K mainGlobals x=some (some (.ref f)))(l:K.lookup f=some ⟨oc,od,.func (PySem.W.fnOf x x (LG st) (BN st) (J7 st) .none kV doc pm an cdv ct),osl⟩)(c:PySem.W.codeIn K cdv x=true)(k:PySem.W.keepIn K (.ref f)=true):FnIn K x st:=⟨⟨_,_,a,Q5y l c k⟩⟩
local macro_rules | `(tactic| walk_at "b1") => `(tactic| exact fun _ _ _ _ _ _ us hl => match us,hl with | [_],_ => rfl)
local macro_rules | `(tactic| walk_at "b2") => `(tactic| exact fun _ _ _ _ _ _ us hl => match us,hl with | [_,_],_ => rfl)
local macro_rules | `(tactic| walk_at "b3") => `(tactic| exact fun _ _ _ _ _ _ us hl => match us,hl with | [_,_,_],_ => rfl)
local macro_rules | `(tactic| walk_at "b4") => `(tactic| exact fun _ _ _ _ _ _ us hl => match us,hl with | [_,_,_,_],_ => rfl)
local macro_rules | `(tactic| walk_at "b5") => `(tactic| exact fun _ _ _ _ _ _ us hl => match us,hl with | [_,_,_,_,_],_ => rfl)
theorem Q7t {l:PySem.W.OpenLaw}{w:World} {h:Heap} {fa:Addr}(X:K.In h)(G:h.Ns mainGlobals mg)(hfa:mg "law" = some (.ref fa))
 (h0:FnIn K "_law_bag" GN)
 (h1:FnIn K "_law_mixed" GH)
 (h2:FnIn K "_law_digit" EL)
 (h3:FnIn K "_law_no_board" EF)
 (h4:FnIn K "_law_no_side" EY)
 (h5:FnIn K "_law_common" DX)
 (h6:FnIn K "_law_spot" HQ)
 (h7:FnIn K "_law_at" LQ)
 (h8:FnIn K "_law_face" HS)
 (h9:FnIn K "_law_faces" GJ)
 (h10:FnIn K "_law_squares" CZ)
 (h11:FnIn K "_law_below" GM)
 (h12:FnIn K "_law_least" GI)
 (h13:FnIn K "_law_lean" HR)
 (h14:FnIn K "_law_turn" HP)
 (h15:FnIn K "_law_near" FG)
 (h16:FnIn K "_law_has" JK)
 (h17:FnIn K "_law_flat" FH)
 (h18:FnIn K "_law_depth" GL)
 (h19:FnIn K "_law_square_kept" BL)
 (h20:FnIn K "_law_due" GK)
 (h21:FnIn K "is_whole" JJ)
 (h22:FnIn K "is_whole_tuple" CD)
 (h23:FnIn K "is_length" HN)
 (h24:FnIn K "check_board" DW)
 (h25:FnIn K "check_squares_side" BY)
 (h26:FnIn K "squares_of" EJ)
 (h27:FnIn K "determinant" FR)
 (h28:FnIn K "on_board" JH)
 (h29:FnIn K "turn" YT)
 (h30:FnIn K "products_added" CC)
 (h31:FnIn K "side_number" FQ)
 (h32:FnIn K "weights" LN)
 (h33:FnIn K "sign" YU)
 (h34:FnIn K "unreduced_depth" BS)
 (h35:FnIn K "corner_dots" DV)
 (h36:FnIn K "is_less" LO)
 (h37:FnIn K "is_passed_over" CF)
 (h38:FnIn K "dots_in" IF)
 (h39:FnIn K "growth" OL)
 (h40:FnIn K "shifted_side" EV)
 (h41:FnIn K "has_dot" LP)
 (h42:FnIn K "paint_face" GF)
 (h43:FnIn K "paint_square" EW)
 (h44:FnIn K "painted_by_squares" AW)
 (h45:FnIn K "_law_word_of" BZ)
 (h46:FnIn K "_law_refused" EX)
 (h47:FnIn K "_law_cell" FI)
 (h48:FnIn K "_law_whole" GG)
 (h49:FnIn K "_law_right" EK)
 (h50:FnIn K "law" J0u)
 (z_abs:PySem.W.nsIn K mainGlobals "abs" = some none)
 (z_len:PySem.W.nsIn K mainGlobals "len" = some none)
 (z_max:PySem.W.nsIn K mainGlobals "max" = some none)
 (z_min:PySem.W.nsIn K mainGlobals "min" = some none)
 (z_range:PySem.W.nsIn K mainGlobals "range" = some none)
 (z_isinstance:PySem.W.nsIn K mainGlobals "isinstance" = some none)
 (z_int:PySem.W.nsIn K mainGlobals "int" = some none)
 (z_bool:PySem.W.nsIn K mainGlobals "bool" = some none)
 (z_tuple:PySem.W.nsIn K mainGlobals "tuple" = some none)
 (z_zip:PySem.W.nsIn K mainGlobals "zip" = some none)
 (z_sum:PySem.W.nsIn K mainGlobals "sum" = some none)
 (z_list:PySem.W.nsIn K mainGlobals "list" = some none)
 (z_enumerate:PySem.W.nsIn K mainGlobals "enumerate" = some none)
 (z_all:PySem.W.nsIn K mainGlobals "all" = some none)
 (z_any:PySem.W.nsIn K mainGlobals "any" = some none)
 (z_ValueError:PySem.W.nsIn K mainGlobals "ValueError" = some none)
 (z_str:PySem.W.nsIn K mainGlobals "str" = some none)
 {t_LONGEST:Tok} (z_LONGEST:PySem.W.nsIn K mainGlobals "LONGEST" = some (some (.int 16 t_LONGEST)))
 {c_ShadeError:Addr} (e_ShadeError:PySem.W.nsIn K mainGlobals "ShadeError" = some (some (.ref c_ShadeError)))
 {c_NoFraction:Addr} (e_NoFraction:PySem.W.nsIn K mainGlobals "NoFraction" = some (some (.ref c_NoFraction)))
 {c_NoSpot:Addr} (e_NoSpot:PySem.W.nsIn K mainGlobals "NoSpot" = some (some (.ref c_NoSpot)))
 {c_NoBody:Addr} (e_NoBody:PySem.W.nsIn K mainGlobals "NoBody" = some (some (.ref c_NoBody)))
 {c_NoMove:Addr} (e_NoMove:PySem.W.nsIn K mainGlobals "NoMove" = some (some (.ref c_NoMove)))
 {c_NoFlat:Addr} (e_NoFlat:PySem.W.nsIn K mainGlobals "NoFlat" = some (some (.ref c_NoFlat)))
 {c_NoFace:Addr} (e_NoFace:PySem.W.nsIn K mainGlobals "NoFace" = some (some (.ref c_NoFace)))
 {c_NoBoard:Addr} (e_NoBoard:PySem.W.nsIn K mainGlobals "NoBoard" = some (some (.ref c_NoBoard)))
 {c_NoLight:Addr} (e_NoLight:PySem.W.nsIn K mainGlobals "NoLight" = some (some (.ref c_NoLight)))
 {c_NoDeed:Addr} (e_NoDeed:PySem.W.nsIn K mainGlobals "NoDeed" = some (some (.ref c_NoDeed)))
 {c_NoText:Addr} (e_NoText:PySem.W.nsIn K mainGlobals "NoText" = some (some (.ref c_NoText)))
 {c_NoName:Addr} (e_NoName:PySem.W.nsIn K mainGlobals "NoName" = some (some (.ref c_NoName)))
 {c_NoRow:Addr} (e_NoRow:PySem.W.nsIn K mainGlobals "NoRow" = some (some (.ref c_NoRow)))
 {c_Behind:Addr} (e_Behind:PySem.W.nsIn K mainGlobals "Behind" = some (some (.ref c_Behind)))
 {c_TooMany:Addr} (e_TooMany:PySem.W.nsIn K mainGlobals "TooMany" = some (some (.ref c_TooMany)))
 (q_NoBoard:PySem.W.excIn K c_NoBoard bmV "ValueError.__new__" = true) (x1_NoBoard:PySem.W.findIn K (.ref c_NoBoard) "__getattribute__" = some (some (.builtin "BaseException.__getattribute__"))) (x5_NoBoard:PySem.W.findIn K (.ref c_NoBoard) "__getattr__" = some none) (x6_NoBoard:PySem.W.subIn K (.ref c_NoBoard) (.type "BaseException")=some true) (x2_NoBoard:PySem.W.findObj K c_NoBoard none "__class__" = some (.bind (.builtin "getset_descriptor.__get__") (.builtin "object.__class__"))) (x3_NoBoard:PySem.W.mroIn K c_NoBoard (.type "object")=some true) (x4_NoBoard:(PySem.W.clsIn K c_NoBoard).isSome=true) (v_NoBoard:PySem.W.subIn K (.ref c_NoBoard) (.type "ValueError")=some true) (s_NoBoard:PySem.W.subIn K (.ref c_NoBoard) (.ref c_ShadeError)=some true)
 (n_NoBoard_NoFraction:PySem.W.kin_not K c_NoBoard c_NoFraction=true)
 (n_NoBoard_NoSpot:PySem.W.kin_not K c_NoBoard c_NoSpot=true)
 (n_NoBoard_NoBody:PySem.W.kin_not K c_NoBoard c_NoBody=true)
 (n_NoBoard_NoMove:PySem.W.kin_not K c_NoBoard c_NoMove=true)
 (n_NoBoard_NoFlat:PySem.W.kin_not K c_NoBoard c_NoFlat=true)
 (n_NoBoard_NoFace:PySem.W.kin_not K c_NoBoard c_NoFace=true)
 (n_NoBoard_NoLight:PySem.W.kin_not K c_NoBoard c_NoLight=true)
 (n_NoBoard_NoDeed:PySem.W.kin_not K c_NoBoard c_NoDeed=true)
 (n_NoBoard_NoText:PySem.W.kin_not K c_NoBoard c_NoText=true)
 (n_NoBoard_NoName:PySem.W.kin_not K c_NoBoard c_NoName=true)
 (n_NoBoard_NoRow:PySem.W.kin_not K c_NoBoard c_NoRow=true)
 (n_NoBoard_Behind:PySem.W.kin_not K c_NoBoard c_Behind=true)
 (n_NoBoard_TooMany:PySem.W.kin_not K c_NoBoard c_TooMany=true)
 (q_NoFace:PySem.W.excIn K c_NoFace bmV "ValueError.__new__" = true) (x1_NoFace:PySem.W.findIn K (.ref c_NoFace) "__getattribute__" = some (some (.builtin "BaseException.__getattribute__"))) (x5_NoFace:PySem.W.findIn K (.ref c_NoFace) "__getattr__" = some none) (x6_NoFace:PySem.W.subIn K (.ref c_NoFace) (.type "BaseException")=some true) (x2_NoFace:PySem.W.findObj K c_NoFace none "__class__" = some (.bind (.builtin "getset_descriptor.__get__") (.builtin "object.__class__"))) (x3_NoFace:PySem.W.mroIn K c_NoFace (.type "object")=some true) (x4_NoFace:(PySem.W.clsIn K c_NoFace).isSome=true) (v_NoFace:PySem.W.subIn K (.ref c_NoFace) (.type "ValueError")=some true) (s_NoFace:PySem.W.subIn K (.ref c_NoFace) (.ref c_ShadeError)=some true)
 (n_NoFace_NoFraction:PySem.W.kin_not K c_NoFace c_NoFraction=true)
 (n_NoFace_NoSpot:PySem.W.kin_not K c_NoFace c_NoSpot=true)
 (n_NoFace_NoBody:PySem.W.kin_not K c_NoFace c_NoBody=true)
 (n_NoFace_NoMove:PySem.W.kin_not K c_NoFace c_NoMove=true)
 (n_NoFace_NoFlat:PySem.W.kin_not K c_NoFace c_NoFlat=true)
 (n_NoFace_NoBoard:PySem.W.kin_not K c_NoFace c_NoBoard=true)
 (n_NoFace_NoLight:PySem.W.kin_not K c_NoFace c_NoLight=true)
 (n_NoFace_NoDeed:PySem.W.kin_not K c_NoFace c_NoDeed=true)
 (n_NoFace_NoText:PySem.W.kin_not K c_NoFace c_NoText=true)
 (n_NoFace_NoName:PySem.W.kin_not K c_NoFace c_NoName=true)
 (n_NoFace_NoRow:PySem.W.kin_not K c_NoFace c_NoRow=true)
 (n_NoFace_Behind:PySem.W.kin_not K c_NoFace c_Behind=true)
 (n_NoFace_TooMany:PySem.W.kin_not K c_NoFace c_TooMany=true)
 (xb1:(PySem.W.clsIn K c_ShadeError).isSome=true) (xb2:PySem.W.typeIn K (.ref c_ShadeError)=some (.type "type")) (xb3:PySem.W.subIn K (.ref c_ShadeError) (.type "BaseException")=some true)
 : ∃ fd:FuncData,(∀ (s:Shared) (v:Value),BindsTo s fd ⟨[v],[]⟩ [("_law_script",v)])/\∀ base:Heap,K.In base->base.Ns mainGlobals mg->FnOk l.prog w K mg base CX0 9 fa fd ["_law_script"] (TL K):=by
 obtain ⟨f0,d0,a0,F0⟩:=h0.ex
 obtain ⟨f1,d1,a1,F1⟩:=h1.ex
 obtain ⟨f2,d2,a2,F2⟩:=h2.ex
 obtain ⟨f3,d3,a3,F3⟩:=h3.ex
 obtain ⟨f4,d4,a4,F4⟩:=h4.ex
 obtain ⟨f5,d5,a5,F5⟩:=h5.ex
 obtain ⟨f6,d6,a6,F6⟩:=h6.ex
 obtain ⟨f7,d7,a7,F7⟩:=h7.ex
 obtain ⟨f8,d8,a8,F8⟩:=h8.ex
 obtain ⟨f9,d9,a9,F9⟩:=h9.ex
 obtain ⟨f10,d10,a10,F10⟩:=h10.ex
 obtain ⟨f11,d11,a11,F11⟩:=h11.ex
 obtain ⟨f12,d12,a12,F12⟩:=h12.ex
 obtain ⟨f13,d13,a13,F13⟩:=h13.ex
 obtain ⟨f14,d14,a14,F14⟩:=h14.ex
 obtain ⟨f15,d15,a15,F15⟩:=h15.ex
 obtain ⟨f16,d16,a16,F16⟩:=h16.ex
 obtain ⟨f17,d17,a17,F17⟩:=h17.ex
 obtain ⟨f18,d18,a18,F18⟩:=h18.ex
 obtain ⟨f19,d19,a19,F19⟩:=h19.ex
 obtain ⟨f20,d20,a20,F20⟩:=h20.ex
 obtain ⟨f21,d21,a21,F21⟩:=h21.ex
 obtain ⟨f22,d22,a22,F22⟩:=h22.ex
 obtain ⟨f23,d23,a23,F23⟩:=h23.ex
 obtain ⟨f24,d24,a24,F24⟩:=h24.ex
 obtain ⟨f25,d25,a25,F25⟩:=h25.ex
 obtain ⟨f26,d26,a26,F26⟩:=h26.ex
 obtain ⟨f27,d27,a27,F27⟩:=h27.ex
 obtain ⟨f28,d28,a28,F28⟩:=h28.ex
 obtain ⟨f29,d29,a29,F29⟩:=h29.ex
 obtain ⟨f30,d30,a30,F30⟩:=h30.ex
 obtain ⟨f31,d31,a31,F31⟩:=h31.ex
 obtain ⟨f32,d32,a32,F32⟩:=h32.ex
 obtain ⟨f33,d33,a33,F33⟩:=h33.ex
 obtain ⟨f34,d34,a34,F34⟩:=h34.ex
 obtain ⟨f35,d35,a35,F35⟩:=h35.ex
 obtain ⟨f36,d36,a36,F36⟩:=h36.ex
 obtain ⟨f37,d37,a37,F37⟩:=h37.ex
 obtain ⟨f38,d38,a38,F38⟩:=h38.ex
 obtain ⟨f39,d39,a39,F39⟩:=h39.ex
 obtain ⟨f40,d40,a40,F40⟩:=h40.ex
 obtain ⟨f41,d41,a41,F41⟩:=h41.ex
 obtain ⟨f42,d42,a42,F42⟩:=h42.ex
 obtain ⟨f43,d43,a43,F43⟩:=h43.ex
 obtain ⟨f44,d44,a44,F44⟩:=h44.ex
 obtain ⟨f45,d45,a45,F45⟩:=h45.ex
 obtain ⟨f46,d46,a46,F46⟩:=h46.ex
 obtain ⟨f47,d47,a47,F47⟩:=h47.ex
 obtain ⟨f48,d48,a48,F48⟩:=h48.ex
 obtain ⟨f49,d49,a49,F49⟩:=h49.ex
 obtain ⟨f50,d50,a50,F50⟩:=h50.ex
 have e:=hfa.symm.trans (B3 X G a50)
 cases e
 have Z:Bi mg:=⟨T1 X G z_abs,T1 X G z_len,T1 X G z_max,T1 X G z_min,T1 X G z_range,T1 X G z_isinstance,T1 X G z_int,T1 X G z_bool,T1 X G z_tuple,T1 X G z_zip,T1 X G z_sum,T1 X G z_list,T1 X G z_enumerate,T1 X G z_all,T1 X G z_any,T1 X G z_ValueError,T1 X G z_str,⟨_,B3 X G z_LONGEST⟩⟩
 have bl:=F50.binds (ps:=["_law_script"]) fun _ _ _ _ _ _ us hl=>match us,hl with | [_],_=>rfl
 obtain ⟨oc,od,kV,doc,pm,an,cdv,ct,osl,el,lk,hcd⟩:=F50.ex
 refine ⟨d50,fun s v=>by rw [el];exact .of_eq rfl,fun base kb gb=>?_⟩
 have Y:Ex K mg base ⟨c_ShadeError,c_NoFraction,c_NoSpot,c_NoBody,c_NoMove,c_NoFlat,c_NoFace,c_NoBoard,c_NoLight,c_NoDeed,c_NoText,c_NoName,c_NoRow,c_Behind,c_TooMany⟩:=⟨B3 X G e_ShadeError,B3 X G e_NoFraction,B3 X G e_NoSpot,B3 X G e_NoBody,B3 X G e_NoMove,B3 X G e_NoFlat,B3 X G e_NoFace,B3 X G e_NoBoard,B3 X G e_NoLight,B3 X G e_NoDeed,B3 X G e_NoText,B3 X G e_NoName,B3 X G e_NoRow,B3 X G e_Behind,B3 X G e_TooMany,Q2x kb gb e_NoBoard q_NoBoard,⟨x1_NoBoard,x5_NoBoard,x2_NoBoard,x3_NoBoard,x4_NoBoard,x6_NoBoard⟩,v_NoBoard,s_NoBoard,n_NoBoard_NoFraction,n_NoBoard_NoSpot,n_NoBoard_NoBody,n_NoBoard_NoMove,n_NoBoard_NoFlat,n_NoBoard_NoFace,n_NoBoard_NoLight,n_NoBoard_NoDeed,n_NoBoard_NoText,n_NoBoard_NoName,n_NoBoard_NoRow,n_NoBoard_Behind,n_NoBoard_TooMany,Q2x kb gb e_NoFace q_NoFace,⟨x1_NoFace,x5_NoFace,x2_NoFace,x3_NoFace,x4_NoFace,x6_NoFace⟩,v_NoFace,s_NoFace,n_NoFace_NoFraction,n_NoFace_NoSpot,n_NoFace_NoBody,n_NoFace_NoMove,n_NoFace_NoFlat,n_NoFace_NoBoard,n_NoFace_NoLight,n_NoFace_NoDeed,n_NoFace_NoText,n_NoFace_NoName,n_NoFace_NoRow,n_NoFace_Behind,n_NoFace_TooMany,⟨xb1,xb2,xb3⟩⟩
 have G0:=Callee.mk' F0 (WW (P:=l.prog) (w:=w) (base:=base) F0 Z Y) (B3 X G a0) (F0.binds (by walk_at "b2"))
 have G1:=Callee.mk' F1 (RD (P:=l.prog) (w:=w) (base:=base) F1 Z Y) (B3 X G a1) (F1.binds (by walk_at "b1"))
 have G2:=Callee.mk' F2 (RG (P:=l.prog) (w:=w) (base:=base) F2 Z Y G1) (B3 X G a2) (F2.binds (by walk_at "b2"))
 have G3:=Callee.mk' F3 (MA (P:=l.prog) (w:=w) (base:=base) F3 Z Y G2) (B3 X G a3) (F3.binds (by walk_at "b1"))
 have G4:=Callee.mk' F4 (NM (P:=l.prog) (w:=w) (base:=base) F4 Z Y G2) (B3 X G a4) (F4.binds (by walk_at "b1"))
 have G5:=Callee.mk' F5 (PC (P:=l.prog) (w:=w) (base:=base) F5 Z Y) (B3 X G a5) (F5.binds (by walk_at "b2"))
 have G6:=Callee.mk' F6 (UD (P:=l.prog) (w:=w) (base:=base) F6 Z Y G5) (B3 X G a6) (F6.binds (by walk_at "b4"))
 have G7:=Callee.mk' F7 (ZI (P:=l.prog) (w:=w) (base:=base) F7 Z Y G2 G6) (B3 X G a7) (F7.binds (by walk_at "b2"))
 have G8:=Callee.mk' F8 (UH (P:=l.prog) (w:=w) (base:=base) F8 Z Y G2 G7 G6) (B3 X G a8) (F8.binds (by walk_at "b2"))
 have G9:=Callee.mk' F9 (RF (P:=l.prog) (w:=w) (base:=base) F9 Z Y G2 G8 G6) (B3 X G a9) (F9.binds (by walk_at "b3"))
 have G10:=Callee.mk' F10 (NK (P:=l.prog) (w:=w) (base:=base) F10 Z Y) (B3 X G a10) (F10.binds (by walk_at "b2"))
 have G11:=Callee.mk' F11 (RI (P:=l.prog) (w:=w) (base:=base) F11 Z Y) (B3 X G a11) (F11.binds (by walk_at "b2"))
 have G12:=Callee.mk' F12 (RE (P:=l.prog) (w:=w) (base:=base) F12 Z Y G11) (B3 X G a12) (F12.binds (by walk_at "b1"))
 have G13:=Callee.mk' F13 (UF (P:=l.prog) (w:=w) (base:=base) F13 Z Y) (B3 X G a13) (F13.binds (by walk_at "b3"))
 have G14:=Callee.mk' F14 (UC (P:=l.prog) (w:=w) (base:=base) F14 Z Y G13) (B3 X G a14) (F14.binds (by walk_at "b1"))
 have G15:=Callee.mk' F15 (UE (P:=l.prog) (w:=w) (base:=base) F15 Z Y) (B3 X G a15) (F15.binds (by walk_at "b2"))
 have G16:=Callee.mk' F16 (WT (P:=l.prog) (w:=w) (base:=base) F16 Z Y G15 G13) (B3 X G a16) (F16.binds (by walk_at "b2"))
 have G17:=Callee.mk' F17 (UG (P:=l.prog) (w:=w) (base:=base) F17 Z Y) (B3 X G a17) (F17.binds (by walk_at "b1"))
 have G18:=Callee.mk' F18 (RH (P:=l.prog) (w:=w) (base:=base) F18 Z Y G17) (B3 X G a18) (F18.binds (by walk_at "b2"))
 have G19:=Callee.mk' F19 (IS (P:=l.prog) (w:=w) (base:=base) F19 Z Y G12 G14 G16 G18 G11) (B3 X G a19) (F19.binds (by walk_at "b2"))
 have G20:=Callee.mk' F20 (WV (P:=l.prog) (w:=w) (base:=base) F20 Z Y G10 G19) (B3 X G a20) (F20.binds (by walk_at "b3"))
 have G21:=Callee.mk' F21 (WS (P:=l.prog) (w:=w) (base:=base) F21 Z Y) (B3 X G a21) (F21.binds (by walk_at "b1"))
 have G22:=Callee.mk' F22 (KU (P:=l.prog) (w:=w) (base:=base) F22 Z Y G21) (B3 X G a22) (F22.binds (by walk_at "b2"))
 have G23:=Callee.mk' F23 (UB (P:=l.prog) (w:=w) (base:=base) F23 Z Y) (B3 X G a23) (F23.binds (by walk_at "b1"))
 have G24:=Callee.mk' F24 (PB (P:=l.prog) (w:=w) (base:=base) F24 Z Y G22 G23) (B3 X G a24) (F24.binds (by walk_at "b1"))
 have G25:=Callee.mk' F25 (HK (P:=l.prog) (w:=w) (base:=base) F25 Z Y G21 G23) (B3 X G a25) (F25.binds (by walk_at "b1"))
 have G26:=Callee.mk' F26 (QZ (P:=l.prog) (w:=w) (base:=base) F26 Z Y G24 G25) (B3 X G a26) (F26.binds (by walk_at "b2"))
 have G27:=Callee.mk' F27 (OY (P:=l.prog) (w:=w) (base:=base) F27 Z Y) (B3 X G a27) (F27.binds (by walk_at "b3"))
 have G28:=Callee.mk' F28 (WR (P:=l.prog) (w:=w) (base:=base) F28 Z Y) (B3 X G a28) (F28.binds (by walk_at "b1"))
 have G29:=Callee.mk' F29 (Q0q (P:=l.prog) (w:=w) (base:=base) F29 Z Y G27 G28) (B3 X G a29) (F29.binds (by walk_at "b1"))
 have G30:=Callee.mk' F30 (KS (P:=l.prog) (w:=w) (base:=base) F30 Z Y) (B3 X G a30) (F30.binds (by walk_at "b2"))
 have G31:=Callee.mk' F31 (OX (P:=l.prog) (w:=w) (base:=base) F31 Z Y G27 G28) (B3 X G a31) (F31.binds (by walk_at "b3"))
 have G32:=Callee.mk' F32 (ZE (P:=l.prog) (w:=w) (base:=base) F32 Z Y G31) (B3 X G a32) (F32.binds (by walk_at "b2"))
 have G33:=Callee.mk' F33 (Q0r (P:=l.prog) (w:=w) (base:=base) F33 Z Y) (B3 X G a33) (F33.binds (by walk_at "b1"))
 have G34:=Callee.mk' F34 (JQ (P:=l.prog) (w:=w) (base:=base) F34 Z Y G29 G30 G32 G33) (B3 X G a34) (F34.binds (by walk_at "b2"))
 have G35:=Callee.mk' F35 (OZ (P:=l.prog) (w:=w) (base:=base) F35 Z Y) (B3 X G a35) (F35.binds (by walk_at "b1"))
 have G36:=Callee.mk' F36 (ZF (P:=l.prog) (w:=w) (base:=base) F36 Z Y) (B3 X G a36) (F36.binds (by walk_at "b2"))
 have G37:=Callee.mk' F37 (KW (P:=l.prog) (w:=w) (base:=base) F37 Z Y G34 G35 G36) (B3 X G a37) (F37.binds (by walk_at "b3"))
 have G38:=Callee.mk' F38 (ZH (P:=l.prog) (w:=w) (base:=base) F38 Z Y) (B3 X G a38) (F38.binds (by walk_at "b1"))
 have G39:=Callee.mk' F39 (J3h (P:=l.prog) (w:=w) (base:=base) F39 Z Y) (B3 X G a39) (F39.binds (by walk_at "b2"))
 have G40:=Callee.mk' F40 (NH (P:=l.prog) (w:=w) (base:=base) F40 Z Y G31 G33 G39) (B3 X G a40) (F40.binds (by walk_at "b3"))
 have G41:=Callee.mk' F41 (ZG (P:=l.prog) (w:=w) (base:=base) F41 Z Y G40) (B3 X G a41) (F41.binds (by walk_at "b2"))
 have G42:=Callee.mk' F42 (RA (P:=l.prog) (w:=w) (base:=base) F42 Z Y G38 G41 G34 G36) (B3 X G a42) (F42.binds (by walk_at "b5"))
 have G43:=Callee.mk' F43 (NI (P:=l.prog) (w:=w) (base:=base) F43 Z Y G37 G29 G42) (B3 X G a43) (F43.binds (by walk_at "b3"))
 have G44:=Callee.mk' F44 (HJ (P:=l.prog) (w:=w) (base:=base) F44 Z Y G26 G43) (B3 X G a44) (F44.binds (by walk_at "b3"))
 have G45:=CalleeM.mk' F45 (NJ (P:=l.prog) (w:=w) (base:=base) F45 Z Y) (B3 X G a45) (F45.binds (by walk_at "b1"))
 have G46:=Callee.mk' F46 (NL (P:=l.prog) (w:=w) (base:=base) F46 Z Y G44 G45) (B3 X G a46) (F46.binds (by walk_at "b3"))
 have G47:=Callee.mk' F47 (UI (P:=l.prog) (w:=w) (base:=base) F47 Z Y) (B3 X G a47) (F47.binds (by walk_at "b2"))
 have G48:=Callee.mk' F48 (RB (P:=l.prog) (w:=w) (base:=base) F48 Z Y) (B3 X G a48) (F48.binds (by walk_at "b1"))
 have G49:=Callee.mk' F49 (RC (P:=l.prog) (w:=w) (base:=base) F49 Z Y G48) (B3 X G a49) (F49.binds (by walk_at "b2"))
 exact Q5i (P:=l.prog) (w:=w) (base:=base) F50 Z Y G0 G3 G4 G9 G20 G46 G47 G2 G44 G49
theorem V1g {l:PySem.W.OpenLaw}{q:Program}{loose:List Str}{XP:(Str->Option Value)->Heap->Prop}{YP:World->Heap->Prop}{d:DefRec}{K:Params->Fg}(hn:l.most=some 63)(hdf:d.params.defaults=[])
 (hY:∀ (w:World) (h:Heap),YP w h->(K w.params).In h)
 (F:∀ (w:World) (mg:Str->Option Value) (fa:Addr) (h:Heap),(K w.params).In h->h.Ns mainGlobals mg->mg d.name=some (.ref fa) ->
  ∃ fd:FuncData,(∀ (s:Shared) (u:Value),BindsTo s fd ⟨[u],[]⟩ [("_law_script",u)])/\∀ base:Heap,(K w.params).In base->base.Ns mainGlobals mg->FnOk l.prog w (K w.params) mg base CX0 9 fa fd ["_law_script"] (TL (K w.params))) :
 PySem.W.WalkO q loose XP YP l.row.toRowW d [] (fun f vs=>PySem.call f vs) :=
 L2.J9p (n:=63) (k:=9) (x:="_law_script") (CX:=fun _=>CX0) (sp:=fun w=>TL (K w.params)) hn (by decide) hdf ⟨rfl,by decide,by decide⟩ hY F (fun _ _ a ns hl _ hS=>⟨a,ns,rfl,hS,hl,fun _=>rfl⟩) fun _ _ _ _ _ z=>z
end K
open PySem PySem.W PyProof.Rows
namespace PySem.W.Fast
theorem tw18444554548515072639:True:=trivial
theorem tw1592881749322809407:True:=trivial
theorem tw13035855253008055294:True:=trivial
theorem tw3748859831366353789:True:=trivial
theorem tw14189215942218450397:True:=trivial
theorem tw18001993688461757533:True:=trivial
theorem tw17105824470940100092:True:=trivial
theorem tw10381825983539650876:True:=trivial
theorem tw12775126757303938843:True:=trivial
theorem tw8345811452698515162:True:=trivial
theorem tw16763486057347475769:True:=trivial
theorem tw9662398002529293047:True:=trivial
theorem tw17348186906503229814:True:=trivial
theorem tw6772168451826474294:True:=trivial
theorem tw17962087866239870804:True:=trivial
theorem tw17817901124020066868:True:=trivial
theorem tw10538727296611293652:True:=trivial
theorem tw11404835318585288020:True:=trivial
theorem tw10544833476150269426:True:=trivial
theorem tw11233719928339228337:True:=trivial
theorem tw89294821611718320:True:=trivial
theorem tw18050646607031747502:True:=trivial
theorem tw13638895529837846286:True:=trivial
theorem tw12579244310775990475:True:=trivial
theorem tw14544550397901404299:True:=trivial
theorem tw14886889305745745290:True:=trivial
theorem tw12101071883602409802:True:=trivial
theorem tw450622809369221065:True:=trivial
theorem tw17435376201177545545:True:=trivial
theorem tw3666897271533989161:True:=trivial
theorem tw10296169568610997417:True:=trivial
theorem tw17735354414663690280:True:=trivial
theorem tw1908213933516830855:True:=trivial
theorem tw10547423367428930533:True:=trivial
theorem tw8914549172126562917:True:=trivial
theorem tw15967413743685908869:True:=trivial
theorem tw15642892515914997829:True:=trivial
theorem tw14180745590736196900:True:=trivial
theorem tw13045966916085103331:True:=trivial
theorem tw14498966435126896963:True:=trivial
theorem tw10842867792878789763:True:=trivial
theorem tw11886581161973729986:True:=trivial
theorem tw4105563032229908576:True:=trivial
theorem tw16228479848507599334:True:=trivial
theorem tw7494658916342499718:True:=trivial
theorem tw81659365421779790:True:=trivial
theorem tw8521964138938342487:True:=trivial
theorem tw14866033803137692719:True:=trivial
theorem tw410660045002755291:True:=trivial
theorem tw17996475045880426740:True:=trivial
theorem tw5664750978367272482:True:=trivial
theorem tw14364886143971655893:True:=trivial
theorem tw18024444881946120525:True:=trivial
theorem tw10507836049716762668:True:=trivial
theorem tw12790199993728321825:True:=trivial
theorem tw13530082421080263871:True:=trivial
theorem tw13884001776989633500:True:=trivial
theorem tw2668649591342678731:True:=trivial
theorem tw11075784184475452796:True:=trivial
theorem tw203753009512069420:True:=trivial
theorem tw18171146528736450749:True:=trivial
theorem tw4114228615397238099:True:=trivial
theorem tw11438899325803592479:True:=trivial
theorem tw10817613727690664426:True:=trivial
theorem tw8391548468156827664:True:=trivial
theorem tw1608756991277348298:True:=trivial
theorem tw7392422842156775404:True:=trivial
theorem tw7897770360927367310:True:=trivial
theorem tw3262108960580530157:True:=trivial
theorem tw2420204003662625956:True:=trivial
theorem tw16026923534710237679:True:=trivial
theorem tw4270521784340377104:True:=trivial
theorem tw7097437445637330820:True:=trivial
theorem tw10626803864336413173:True:=trivial
theorem tw1094617690117633772:True:=trivial
theorem tw7651695677180587403:True:=trivial
theorem tw17588895700603308809:True:=trivial
theorem tw7496114780969848560:True:=trivial
theorem tw9802951046681777942:True:=trivial
theorem tw4628916450901994374:True:=trivial
theorem tw4282718278275035879:True:=trivial
theorem tw13035070680138872278:True:=trivial
theorem tw15754849152066394972:True:=trivial
theorem tw15734499392605284031:True:=trivial
theorem tw5074369623786128877:True:=trivial
theorem tw7938467541621534054:True:=trivial
theorem tw9963521240717536050:True:=trivial
theorem tw3674758097688464353:True:=trivial
theorem tw8908663747184224051:True:=trivial
theorem tw2667014191426662290:True:=trivial
theorem tw8738324178552865546:True:=trivial
theorem tw6880807240840017733:True:=trivial
theorem tw11442669290295600897:True:=trivial
theorem tw10727019391108513212:True:=trivial
theorem tw4126212220791978478:True:=trivial
theorem tw4993620855715672029:True:=trivial
theorem tw1951278744470130012:True:=trivial
theorem tw2455570480798331811:True:=trivial
theorem tw10446227419565126138:True:=trivial
theorem tw896833185191468684:True:=trivial
theorem tw5533779186096334618:True:=trivial
theorem tw15565087914643310808:True:=trivial
theorem tw12800926843105355491:True:=trivial
theorem tw9296417324911776617:True:=trivial
theorem tw8605515645563135627:True:=trivial
theorem tw715210197925155941:True:=trivial
theorem tw17078479951696774377:True:=trivial
theorem tw4652191683562857562:True:=trivial
theorem tw965389356428199305:True:=trivial
theorem tw1903769737505090705:True:=trivial
theorem tw5928676987648568161:True:=trivial
theorem tw10645622687628738092:True:=trivial
theorem tw14831122727205242928:True:=trivial
theorem tw15255785626557198107:True:=trivial
end PySem.W.Fast
local macro_rules | `(tactic| walk_at "fn") => `(tactic| (refine' _root_.K.fn_in ?a ?l ?c ?k; (case a => k_is); (case l => k_is); (case c => k_is); (case k => k_is)))
set_option maxRecDepth 100000 in
set_option maxHeartbeats 0 in
theorem PySem.Challenge.cw_onceshade_k49_square_by_square_holds : PySem.Challenge.rw_onceshade_k49_square_by_square.Holds := by
 w_on;o_law;k_head;(case hw=>w_witness2)
 k_fill
 refine K.V1g (l:=PySem.Challenge.rw_onceshade_k49_square_by_square) rfl rfl (fun w h Y=>PySem.W.kIn_of Y) ?F
 case F =>
  intro w mg fa h KX G hmg
  refine' K.Q7t KX G hmg ?h0 ?h1 ?h2 ?h3 ?h4 ?h5 ?h6 ?h7 ?h8 ?h9 ?h10 ?h11 ?h12 ?h13 ?h14 ?h15 ?h16 ?h17 ?h18 ?h19 ?h20 ?h21 ?h22 ?h23 ?h24 ?h25 ?h26 ?h27 ?h28 ?h29 ?h30 ?h31 ?h32 ?h33 ?h34 ?h35 ?h36 ?h37 ?h38 ?h39 ?h40 ?h41 ?h42 ?h43 ?h44 ?h45 ?h46 ?h47 ?h48 ?h49 ?h50 ?z_abs ?z_len ?z_max ?z_min ?z_range ?z_isinstance ?z_int ?z_bool ?z_tuple ?z_zip ?z_sum ?z_list ?z_enumerate ?z_all ?z_any ?z_ValueError ?z_str ?z_LONGEST ?e_ShadeError ?e_NoFraction ?e_NoSpot ?e_NoBody ?e_NoMove ?e_NoFlat ?e_NoFace ?e_NoBoard ?e_NoLight ?e_NoDeed ?e_NoText ?e_NoName ?e_NoRow ?e_Behind ?e_TooMany ?q_NoBoard ?x1_NoBoard ?x5_NoBoard ?x6_NoBoard ?x2_NoBoard ?x3_NoBoard ?x4_NoBoard ?v_NoBoard ?s_NoBoard ?n_NoBoard_NoFraction ?n_NoBoard_NoSpot ?n_NoBoard_NoBody ?n_NoBoard_NoMove ?n_NoBoard_NoFlat ?n_NoBoard_NoFace ?n_NoBoard_NoLight ?n_NoBoard_NoDeed ?n_NoBoard_NoText ?n_NoBoard_NoName ?n_NoBoard_NoRow ?n_NoBoard_Behind ?n_NoBoard_TooMany ?q_NoFace ?x1_NoFace ?x5_NoFace ?x6_NoFace ?x2_NoFace ?x3_NoFace ?x4_NoFace ?v_NoFace ?s_NoFace ?n_NoFace_NoFraction ?n_NoFace_NoSpot ?n_NoFace_NoBody ?n_NoFace_NoMove ?n_NoFace_NoFlat ?n_NoFace_NoBoard ?n_NoFace_NoLight ?n_NoFace_NoDeed ?n_NoFace_NoText ?n_NoFace_NoName ?n_NoFace_NoRow ?n_NoFace_Behind ?n_NoFace_TooMany ?xb1 ?xb2 ?xb3
  (case h0=>walk_at "fn")
  (case h1=>walk_at "fn")
  (case h2=>walk_at "fn")
  (case h3=>walk_at "fn")
  (case h4=>walk_at "fn")
  (case h5=>walk_at "fn")
  (case h6=>walk_at "fn")
  (case h7=>walk_at "fn")
  (case h8=>walk_at "fn")
  (case h9=>walk_at "fn")
  (case h10=>walk_at "fn")
  (case h11=>walk_at "fn")
  (case h12=>walk_at "fn")
  (case h13=>walk_at "fn")
  (case h14=>walk_at "fn")
  (case h15=>walk_at "fn")
  (case h16=>walk_at "fn")
  (case h17=>walk_at "fn")
  (case h18=>walk_at "fn")
  (case h19=>walk_at "fn")
  (case h20=>walk_at "fn")
  (case h21=>walk_at "fn")
  (case h22=>walk_at "fn")
  (case h23=>walk_at "fn")
  (case h24=>walk_at "fn")
  (case h25=>walk_at "fn")
  (case h26=>walk_at "fn")
  (case h27=>walk_at "fn")
  (case h28=>walk_at "fn")
  (case h29=>walk_at "fn")
  (case h30=>walk_at "fn")
  (case h31=>walk_at "fn")
  (case h32=>walk_at "fn")
  (case h33=>walk_at "fn")
  (case h34=>walk_at "fn")
  (case h35=>walk_at "fn")
  (case h36=>walk_at "fn")
  (case h37=>walk_at "fn")
  (case h38=>walk_at "fn")
  (case h39=>walk_at "fn")
  (case h40=>walk_at "fn")
  (case h41=>walk_at "fn")
  (case h42=>walk_at "fn")
  (case h43=>walk_at "fn")
  (case h44=>walk_at "fn")
  (case h45=>walk_at "fn")
  (case h46=>walk_at "fn")
  (case h47=>walk_at "fn")
  (case h48=>walk_at "fn")
  (case h49=>walk_at "fn")
  (case h50=>walk_at "fn")
  (case z_abs=>k_is)
  (case z_len=>k_is)
  (case z_max=>k_is)
  (case z_min=>k_is)
  (case z_range=>k_is)
  (case z_isinstance=>k_is)
  (case z_int=>k_is)
  (case z_bool=>k_is)
  (case z_tuple=>k_is)
  (case z_zip=>k_is)
  (case z_sum=>k_is)
  (case z_list=>k_is)
  (case z_enumerate=>k_is)
  (case z_all=>k_is)
  (case z_any=>k_is)
  (case z_ValueError=>k_is)
  (case z_str=>k_is)
  (case z_LONGEST=>k_is)
  (case e_ShadeError=>k_is)
  (case e_NoFraction=>k_is)
  (case e_NoSpot=>k_is)
  (case e_NoBody=>k_is)
  (case e_NoMove=>k_is)
  (case e_NoFlat=>k_is)
  (case e_NoFace=>k_is)
  (case e_NoBoard=>k_is)
  (case e_NoLight=>k_is)
  (case e_NoDeed=>k_is)
  (case e_NoText=>k_is)
  (case e_NoName=>k_is)
  (case e_NoRow=>k_is)
  (case e_Behind=>k_is)
  (case e_TooMany=>k_is)
  (case q_NoBoard=>k_exc)
  (case x1_NoBoard=>kernel_rfl)
  (case x5_NoBoard=>kernel_rfl)
  (case x6_NoBoard=>kernel_rfl)
  (case x2_NoBoard=>kernel_rfl)
  (case x3_NoBoard=>kernel_rfl)
  (case x4_NoBoard=>kernel_rfl)
  (case v_NoBoard=>kernel_rfl)
  (case s_NoBoard=>kernel_rfl)
  (case n_NoBoard_NoFraction=>kernel_rfl)
  (case n_NoBoard_NoSpot=>kernel_rfl)
  (case n_NoBoard_NoBody=>kernel_rfl)
  (case n_NoBoard_NoMove=>kernel_rfl)
  (case n_NoBoard_NoFlat=>kernel_rfl)
  (case n_NoBoard_NoFace=>kernel_rfl)
  (case n_NoBoard_NoLight=>kernel_rfl)
  (case n_NoBoard_NoDeed=>kernel_rfl)
  (case n_NoBoard_NoText=>kernel_rfl)
  (case n_NoBoard_NoName=>kernel_rfl)
  (case n_NoBoard_NoRow=>kernel_rfl)
  (case n_NoBoard_Behind=>kernel_rfl)
  (case n_NoBoard_TooMany=>kernel_rfl)
  (case q_NoFace=>k_exc)
  (case x1_NoFace=>kernel_rfl)
  (case x5_NoFace=>kernel_rfl)
  (case x6_NoFace=>kernel_rfl)
  (case x2_NoFace=>kernel_rfl)
  (case x3_NoFace=>kernel_rfl)
  (case x4_NoFace=>kernel_rfl)
  (case v_NoFace=>kernel_rfl)
  (case s_NoFace=>kernel_rfl)
  (case n_NoFace_NoFraction=>kernel_rfl)
  (case n_NoFace_NoSpot=>kernel_rfl)
  (case n_NoFace_NoBody=>kernel_rfl)
  (case n_NoFace_NoMove=>kernel_rfl)
  (case n_NoFace_NoFlat=>kernel_rfl)
  (case n_NoFace_NoBoard=>kernel_rfl)
  (case n_NoFace_NoLight=>kernel_rfl)
  (case n_NoFace_NoDeed=>kernel_rfl)
  (case n_NoFace_NoText=>kernel_rfl)
  (case n_NoFace_NoName=>kernel_rfl)
  (case n_NoFace_NoRow=>kernel_rfl)
  (case n_NoFace_Behind=>kernel_rfl)
  (case n_NoFace_TooMany=>kernel_rfl)
  (case xb1=>kernel_rfl)
  (case xb2=>kernel_rfl)
  (case xb3=>kernel_rfl)
