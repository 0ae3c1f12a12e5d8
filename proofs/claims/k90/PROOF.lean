import PyProof.Rows.All
import Wide.All
import OpenK.AllK
import Wide.FinOn
import Lean
import PyProof.EqAt
import PyProof.EqKinds
import PyProof.TupleCall
import PySem.Challenge.RW_onceshade_k90_whole_cut_and_painted
set_option genSizeOf false
set_option genSizeOfSpec false
set_option bootstrap.genMatcherCode false
set_option Elab.async false
set_option linter.all false
set_option maxRecDepth 100000
noncomputable abbrev Fg:=PySem.W.Frag
variable {P:PySem.Program}{w:PySem.World}{K:Fg}{mg:PySem.Str->Option PySem.Value}{base:PySem.Heap}{fd:PySem.FuncData}{b:Option PySem.Addr}{M:PySem.Addr->Prop}
namespace L2
open PySem PySem.Spec PyProof.Rows
noncomputable abbrev Key:=Sum Int Str
noncomputable def Q1l:Key->Value->Bool
 | .inl k,v=>Value.isInt k v
 | .inr x,v=>Value.isStrOf x v
noncomputable def Q8y (w:World):Key->Int
 | .inl k=>hashInt k
 | .inr x=>hashStr w x
theorem AR:∀ {k:Key} {v:Value},Q1l k v=true->(∃ i t,k=Sum.inl i/\v=Value.int i t)\/(∃ x t,k=Sum.inr x/\v=Value.str x t)
 | .inl i,v,h=>by
   obtain ⟨t,e⟩:=Value.isInt_shape (k:=i) (v:=v) h
   exact .inl ⟨i,t,rfl,e⟩
 | .inr x,v,h=>by
   obtain ⟨t,e⟩:=Value.isStrOf_shape (x:=x) (v:=v) h
   exact .inr ⟨x,t,rfl,e⟩
theorem Q3r (a b:Int):decide ((Sum.inl a:Key)=Sum.inl b)=(a==b):=by
 by_cases e:a=b
 · subst e;simp
 · have h:¬ (Sum.inl a:Key)=Sum.inl b:=fun q=>e (Sum.inl.inj q)
   rw [decide_eq_false h]
   exact (beq_eq_false_iff_ne.mpr e).symm
theorem Q3o (a b:Str):decide ((Sum.inr a:Key)=Sum.inr b)=decide (a=b):=by
 by_cases e:a=b
 · subst e;simp
 · have h:¬ (Sum.inr a:Key)=Sum.inr b:=fun q=>e (Sum.inr.inj q)
   rw [decide_eq_false h,decide_eq_false e]
theorem Q3q (a:Int)(b:Str):decide ((Sum.inl a:Key)=Sum.inr b)=false:=decide_eq_false (fun q=>nomatch q)
theorem Q3p (a:Str)(b:Int):decide ((Sum.inr a:Key)=Sum.inl b)=false:=decide_eq_false (fun q=>nomatch q)
noncomputable def SQ (prog:Program)(w:World):PySem.KeyKind prog w Key where
 is:=Q1l
 hash:=Q8y w
 inj:=fun v a b ha hb=>by
  rcases AR ha with ⟨i,t,rfl,rfl⟩|⟨x,t,rfl,rfl⟩
  · rcases AR hb with ⟨j,u,rfl,e⟩|⟨y,u,rfl,e⟩
    · injection e with e1 _;rw [e1]
    · exact nomatch e
  · rcases AR hb with ⟨j,u,rfl,e⟩|⟨y,u,rfl,e⟩
    · exact nomatch e
    · injection e with e1 _;rw [e1]
 byValue:=fun k v h=>by
  rcases AR h with ⟨i,t,rfl,rfl⟩|⟨x,t,rfl,rfl⟩<;>rfl
 pyHash:=fun hv h=>by
  rcases AR hv with ⟨i,t,rfl,rfl⟩|⟨x,t,rfl,rfl⟩
  · exact wpAny_pyHash_int h
  · exact wpAny_pyHash_str h
 eqBool:=fun hu hv h=>by
  rcases AR hu with ⟨i,t,rfl,rfl⟩|⟨x,t,rfl,rfl⟩
  · rcases AR hv with ⟨j,u,rfl,rfl⟩|⟨y,u,rfl,rfl⟩
    · rw [Q3r] at h;exact wpAny_eqBool_int h
    · rw [Q3q] at h;exact SeqAt.EqAt.int_str i t y u _ _ _ _ h
  · rcases AR hv with ⟨j,u,rfl,rfl⟩|⟨y,u,rfl,rfl⟩
    · rw [Q3p] at h;exact SeqAt.EqAt.str_int x t j u _ _ _ _ h
    · rw [Q3o] at h;exact wpAny_eqBool_str h
 «strs»:=fun k x t v h=>by
  rcases AR h with ⟨i,u,rfl,e⟩|⟨y,u,rfl,e⟩
  · exact nomatch e
  · injection e with e1 _
    subst e1
    cases v<;>rfl
inductive V where
 | non|bl (b:Bool)|int (i:Int)|str (x:Str)|byt (b:Array UInt8)|flt (b:UInt64)|ref (a:Addr)|ty (n:String)
 deriving DecidableEq
noncomputable def RelV:V->Value->Prop
 | .non,u=>u=Value.none
 | .bl b,u=>u=Value.bool b
 | .int i,u=>∃ t,u=Value.int i t
 | .str x,u=>∃ t,u=Value.str x t
 | .byt b,u=>∃ t,u=Value.bytes b t
 | .flt b,u=>∃ t,u=Value.float b t
 | .ref a,u=>u=Value.ref a
 | .ty n,u=>u=Value.type n
noncomputable abbrev Vals:List V->List Value->Prop:=Paired RelV
theorem Vals.length {xs:List V}{us:List Value}(r:Vals xs us):xs.length=us.length:=Paired.length r
theorem Vals.get:∀ {xs:List V} {us:List Value} {i:Nat} {x:V},Vals xs us->xs[i]?=some x->∃ u,us[i]?=some u/\RelV x u
 | _,_,_,_,.nil,e=>by simp at e
 | _,_,0,_,.cons r _,e=>by simp at e;subst e;exact ⟨_,rfl,r⟩
 | _,_,i+1,x,.cons _ t,e=>by
   obtain ⟨u,h1,h2⟩:=Vals.get (i:=i) (x:=x) t (by simpa using e)
   exact ⟨u,by simpa using h1,h2⟩
theorem Vals.set {x:V}{u:Value}(r:RelV x u):∀ {xs:List V} {us:List Value} (i:Nat),Vals xs us->Vals (xs.set i x) (us.set i u)
 | _,_,_,.nil=>.nil
 | _,_,0,.cons _ t=>.cons r t
 | _,_,i+1,.cons q t=>.cons q (Vals.set r i t)
theorem Vals.append:∀ {xs ys:List V} {us ws:List Value},Vals xs us->Vals ys ws->Vals (xs++ys) (us++ws)
 | _,_,_,_,.nil,s=>s
 | _,_,_,_,.cons r t,s=>.cons r (Vals.append t s)
theorem Vals.take:∀ {xs:List V} {us:List Value} (n:Nat),Vals xs us->Vals (xs.take n) (us.take n)
 | _,_,0,_=>.nil
 | _,_,_+1,.nil=>.nil
 | _,_,n+1,.cons r t=>.cons r (Vals.take n t)
theorem Vals.drop:∀ {xs:List V} {us:List Value} (n:Nat),Vals xs us->Vals (xs.drop n) (us.drop n)
 | _,_,0,r=>r
 | _,_,_+1,.nil=>.nil
 | _,_,n+1,.cons _ t=>Vals.drop n t
noncomputable def Q5r:Option V->Option Value->Prop
 | some v,some u=>RelV v u
 | none,none=>True
 | _,_=>False
noncomputable def KV {κ:Type}:List (κ×V)->List (κ×Value)->Prop:=Paired fun (p:κ×V) (q:κ×Value)=>p.1=q.1/\RelV p.2 q.2
noncomputable def kV:Key->V
 | .inl i=>.int i
 | .inr x=>.str x
inductive HO where
 | lst (xs:List V)
 | tup (xs:List V)
 | dK (kvs:List (Key×V))|dT (kvs:List (List Key×V))
 | set (S:Int->Bool) (n:Nat)
 | ins (C dx:Addr) (fs:List (Str×V))
 | own (x:Addr)
 | xd (fs:List (Str×V))
 | met (f x:Addr)
 | rng (lo hi:Int)
 | frz (o:Obj) (u:HO)
 | tbl (ps:Array Value)
 | ext (φ:Heap->Prop)
noncomputable abbrev Hp:=Addr->Option HO
noncomputable def upd (H:Hp)(a:Addr)(o:HO):Hp:=fun b=>if b=a then some o else H b
theorem AC {H:Hp}{a:Addr}{o:HO}:upd H a o a=some o:=by unfold upd;rw [if_pos rfl]
theorem V9 {H:Hp}{a b:Addr}{o:HO}(h:b≠a):upd H a o b=H b:=by unfold upd;rw [if_neg h]
theorem J8i {H:Hp}{a:Addr}{o u:HO}:upd (upd H a o) a u=upd H a u:=by
 funext b;unfold upd;split<;>rfl
theorem Q7b {H:Hp}{a b:Addr}{o u:HO}(h:H a=some o)(h':H b=some u)(d:o≠u):a≠b:=by
 intro e;subst e;rw [h] at h';exact d (Option.some.inj h')
theorem V8 {H:Hp}{a b:Addr}{o:HO}(h:H a=some o)(h':H b=none):a≠b:=by
 intro e;subst e;rw [h] at h';cases h'
section
variable (P:Program) (w:World)
noncomputable def ObjOk (H:Hp)(h:Heap)(a:Addr):HO->Prop
 | .lst xs=>xs.length<=sizeLine/\∃ (its:List Value) (n:Nat),Vals xs its/\h.get? a=some { cls:=.type "list",data:=.seq its.toArray n }
 | .tup xs=>xs.length<=sizeLine/\∃ its:List Value,Vals xs its/\IsTup h a its.toArray
 | .dK kvs=>kvs.length<=sizeLine/\(a==sysModules)=false/\∃ vs,KV kvs vs/\h.DictOf (SQ P w) a vs
 | .dT kvs=>kvs.length<=sizeLine/\(a==sysModules)=false/\∃ xs:List (List Key×Addr×Value),
  Paired (fun (p:List Key×V) (q:List Key×Addr×Value)=>p.1=q.1/\H q.2.1=some (.tup (p.1.map kV))/\RelV p.2 q.2.2) kvs xs /\
  ∃ o es ep,h.get? a=some o/\o.ExactDict/\o.data=.dict es ep/\es.toList=xs.map (entryOfKey (tupleKind (SQ P w)))/\(xs.map (·.1)).Nodup
 | .set S n=>h.SetOf (intKind P w) a S n
 | .ins C dx fs=>H dx=some (.own a)/\fs.length<=1000/\dx≠a/\h.get? a=some (PySem.W.instObj C dx) /\
  ∃ mA,h.Ns1 dx mA/\(∀ f,Q5r (fs.lookup f) (mA f))/\PySem.Within mA (fs.map (·.1))
 | .own _=>∃ o,h.get? a=some o
 | .xd fs=>∃ mA,h.Ns1 a mA/\∀ f,Q5r (fs.lookup f) (mA f)
 | .rng lo hi=>∃ t u v,h.get? a=some { cls:=.type "range",data:=.fields #[.int lo t,.int hi u,.int 1 v] }
 | .frz o u=>h.get? a=some o/\ObjOk H h a u
 | .tbl ps=>h.get? a=some { cls:=.none,data:=.fields ps }
 | .met f x=>h.get? a=some (PySem.W.methodObj (.ref f) (.ref x))
 | .ext φ=>φ h/\(∃ o,h.get? a=some o)/\∀ h1 h2:Heap,φ h1->(∀ o,h1.get? a=some o->h2.get? a=some o)->φ h2
noncomputable def HOk (H:Hp)(h:Heap):Prop:=∀ a o,H a=some o->ObjOk P w H h a o
end
section
variable {P:Program}{w:World}{H H':Hp}{h h':Heap}{a:Addr}{o:HO}
theorem ObjOk.lt (x:ObjOk P w H h a o):a<h.objs.size:=by
 cases o with
 | lst xs=>obtain ⟨_,_,_,_,e⟩:=x;exact Heap.lt_size e
 | tup xs=>obtain ⟨_,_,_,p⟩:=x;exact p.lt
 | dK kvs=>obtain ⟨_,_,_,_,o,_,_,e,_⟩:=x;exact Heap.lt_size e
 | dT kvs=>obtain ⟨_,_,_,_,o,_,_,e,_⟩:=x;exact Heap.lt_size e
 | set S n=>obtain ⟨o,_,_,_,e,_⟩:=x;exact Heap.lt_size e
 | ins C dx fs=>obtain ⟨_,_,_,e,_⟩:=x;exact Heap.lt_size e
 | own y=>obtain ⟨_,e⟩:=x;exact Heap.lt_size e
 | xd fs=>obtain ⟨_,⟨_,_,_,e,_⟩,_⟩:=x;exact Heap.lt_size e
 | rng lo hi=>obtain ⟨_,_,_,e⟩:=x;exact Heap.lt_size e
 | frz ob u=>obtain ⟨e,_⟩:=x;exact Heap.lt_size e
 | tbl ps=>exact Heap.lt_size (show h.get? a=some _ from x)
 | met f y=>exact Heap.lt_size (show h.get? a=some _ from x)
 | ext φ=>obtain ⟨_,⟨_,e⟩,_⟩:=x;exact Heap.lt_size e
theorem Paired.mapP {α β:Type}{F G:α->β->Prop}:∀ {l₁:List α} {l₂:List β},Paired F l₁ l₂->(∀ a b,F a b->G a b)->Paired G l₁ l₂
 | _,_,.nil,_=>.nil
 | _,_,.cons r t,f=>.cons (f _ _ r) (Paired.mapP t f)
theorem ObjOk.stay (x:ObjOk P w H h a o)(k:∀ b u,(b=a\/H b=some (.own a))->h.get? b=some u->h'.get? b=some u)
 (ho:∀ b,H b=some (.own a)->H' b=some (.own a)) (ht:∀ b xs,H b=some (.tup xs)->H' b=some (.tup xs)):ObjOk P w H' h' a o:=by
 induction o with
 | lst xs=>obtain ⟨z,its,n,r,e⟩:=x;exact ⟨z,its,n,r,k _ _ (.inl rfl) e⟩
 | tup xs=>obtain ⟨z,its,r,ob,e,c⟩:=x;exact ⟨z,its,r,ob,k _ _ (.inl rfl) e,c⟩
 | dK kvs=>obtain ⟨z,y,vs,r,ob,es,ep,e,c⟩:=x;exact ⟨z,y,vs,r,ob,es,ep,k _ _ (.inl rfl) e,c⟩
 | dT kvs =>
   obtain ⟨z,y,xs,r,ob,es,ep,e,c⟩:=x
   exact ⟨z,y,xs,Paired.mapP r fun p q z=>⟨z.1,ht _ _ z.2.1,z.2.2⟩,ob,es,ep,k _ _ (.inl rfl) e,c⟩
 | set S n=>obtain ⟨ob,es,ep,t,e,c⟩:=x;exact ⟨ob,es,ep,t,k _ _ (.inl rfl) e,c⟩
 | ins C dx fs =>
   obtain ⟨d,z,ne,e,mA,⟨od,es,ep,e2,c⟩,r⟩:=x
   exact ⟨ho _ d,z,ne,k _ _ (.inl rfl) e,mA,⟨od,es,ep,k _ _ (.inr d) e2,c⟩,r⟩
 | own y=>obtain ⟨ob,e⟩:=x;exact ⟨ob,k _ _ (.inl rfl) e⟩
 | xd fs=>obtain ⟨mA,⟨od,es,ep,e,c⟩,r⟩:=x;exact ⟨mA,⟨od,es,ep,k _ _ (.inl rfl) e,c⟩,r⟩
 | rng lo hi=>obtain ⟨t,u,v,e⟩:=x;exact ⟨t,u,v,k _ _ (.inl rfl) e⟩
 | frz ob u ih=>obtain ⟨e,q⟩:=x;exact ⟨k _ _ (.inl rfl) e,ih q⟩
 | tbl ps =>
   have e:h.get? a=some { cls:=.none,data:=.fields ps }:=x
   show h'.get? a=some { cls:=.none,data:=.fields ps }
   exact k a _ (.inl rfl) e
 | met f y =>
   have e:h.get? a=some (PySem.W.methodObj (.ref f) (.ref y)):=x
   show h'.get? a=some (PySem.W.methodObj (.ref f) (.ref y))
   exact k a _ (.inl rfl) e
 | ext φ=>obtain ⟨p,⟨o,e⟩,st⟩:=x;exact ⟨st _ _ p fun o q=>k _ _ (.inl rfl) q,⟨o,k _ _ (.inl rfl) e⟩,st⟩
theorem HOk.lt (x:HOk P w H h)(e:H a=some o):a<h.objs.size:=(x a o e).lt
theorem HOk.fresh (x:HOk P w H h)(e:h.objs.size<=a):H a=none:=by
 cases q:H a with
 | none=>rfl
 | some u=>exact absurd (Nat.lt_of_lt_of_le (x.lt q) e) (Nat.lt_irrefl _)
theorem HOk.kept (x:HOk P w H h)(k:∀ b u,h.get? b=some u->h'.get? b=some u):HOk P w H h':=fun a o e =>
 (x a o e).stay (fun b u _ q=>k b u q) (fun _ q=>q) fun _ _ q=>q
theorem HOk.laid (x:HOk P w H h)(k:∀ b u,h.get? b=some u->h'.get? b=some u)(hp:h.objs.size<=a)(new:ObjOk P w (upd H a o) h' a o):HOk P w (upd H a o) h':=fun b u e=>by
 have hn:=x.fresh hp
 by_cases hb:b=a
 · subst hb;rw [AC] at e;cases e;exact new
 · rw [V9 hb] at e
   exact (x b u e).stay (fun c v _ q=>k c v q) (fun c q=>by rw [V9 (V8 q hn)];exact q) fun c xs q=>by rw [V9 (V8 q hn)];exact q
end
noncomputable def Rd (H:Hp)(a:Addr)(u:HO):Prop:=H a=some u\/∃ o,H a=some (.frz o u)
theorem Rd.ok {H:Hp}{h:Heap}{a:Addr}{u:HO}(r:Rd H a u)(x:HOk P w H h):ObjOk P w H h a u:=by
 rcases r with r|⟨o,r⟩
 · exact x a u r
 · obtain ⟨_,q⟩:=x a _ r
   exact q
noncomputable def Mut:Option HO->Prop
 | some (.lst _)=>True
 | some (.dK _)=>True
 | some (.dT _)=>True
 | some (.set _ _)=>True
 | some (.ins _ _ _)=>True
 | some (.ext _)=>True
 | _=>False
section
variable {P:Program}{w:World}{H:Hp}{h h':Heap}{x e:Addr}{o':HO}
theorem HOk.write (ok:HOk P w H h)(mu:Mut (H x))(he:e=x\/H e=some (.own x))(k:∀ b u,b≠e->h.get? b=some u->h'.get? b=some u)(heo:∃ u,h'.get? e=some u)
 (new:ObjOk P w (upd H x o') h' x o'):HOk P w (upd H x o') h':=fun b u q=>by
 have nown:∀ c y,H c=some (.own y)->c≠x:=fun c y r z=>by subst z;rw [r] at mu;exact mu
 have ntup:∀ c xs,H c=some (.tup xs)->c≠x:=fun c xs r z=>by subst z;rw [r] at mu;exact mu
 by_cases hb:b=x
 · subst hb;rw [AC] at q;cases q;exact new
 · rw [V9 hb] at q
   by_cases hbe:b=e
   · have q':H b=some (.own x):=by
      rcases he with z|z
      · exact absurd (hbe.trans z) hb
      · rw [hbe];exact z
     rw [q] at q';cases q'
     obtain ⟨v,hv⟩:=heo
     exact ⟨v,by rw [hbe];exact hv⟩
   · refine (ok b u q).stay (fun c v hc r=>k c v ?_ r) (fun c r=>by rw [V9 (nown c b r)];exact r) fun c xs r=>by rw [V9 (ntup c xs r)];exact r
     rcases hc with rfl|hc
     · exact hbe
     · rintro rfl
       rcases he with z|z
       · exact nown c b hc z
       · rw [hc] at z;cases z;exact hb rfl
end
structure Un (fs ex:List Addr)(H H':Hp)(h h':Heap):Prop where
 keep:∀ b o,h.get? b=some o->H b=none->b∉fs->b∉ex->h'.get? b=some o
 slot:∀ b o,h.get? b=some o->H b=none->b∈fs->b∉ex->∃ sl,h'.get? b=some { o with slots:=sl }
 free:∀ b o,h.get? b=some o->H b=none->b∉ex->H' b=none
 there:∀ b o,h.get? b=some o->b∉ex->∃ o',h'.get? b=some o'
 tups:∀ b xs,H b=some (.tup xs)->H' b=some (.tup xs)
 frzs:∀ b o u,H b=some (.frz o u)->H' b=some (.frz o u)
 tbls:∀ b ps,H b=some (.tbl ps)->∃ more,H' b=some (.tbl (ps++more))
section
variable {fs ex:List Addr}{H H1:Hp}{h h1 h':Heap}{a x e:Addr}{o:HO}
theorem Un.any (u:Un fs ex H H1 h h1){b:Addr}{ob:Obj}(q:h.get? b=some ob)(n:H b=none)(hx:b∉ex):∃ sl,h1.get? b=some { ob with slots:=sl }:=by
 by_cases hb:b∈fs
 · exact u.slot b ob q n hb hx
 · exact ⟨ob.slots,u.keep b ob q n hb hx⟩
theorem Un.kept (k:∀ b u,h.get? b=some u->h'.get? b=some u):Un fs ex H H h h' :=
 ⟨fun b ob q _ _ _=>k b ob q,fun b ob q _ _ _=>⟨ob.slots,k b ob q⟩,fun _ _ _ n _=>n,fun b ob q _=>⟨ob,k b ob q⟩,fun _ _ q=>q,fun _ _ _ q=>q,fun _ ps q=>⟨#[],by rw [q];simp⟩⟩
theorem Un.refl:Un fs ex H H h h:=Un.kept fun _ _ q=>q
theorem Un.laid (k:∀ b u,h.get? b=some u->h'.get? b=some u)(hp:h.objs.size<=a)(hn:H a=none):Un fs ex H (upd H a o) h h' where
 keep:=fun b u q _ _ _=>k b u q
 slot:=fun b u q _ _ _=>⟨u.slots,k b u q⟩
 free:=fun b u q n _=>by rw [V9 (Nat.ne_of_lt (Nat.lt_of_lt_of_le (Heap.lt_size q) hp))];exact n
 there:=fun b u q _=>⟨u,k b u q⟩
 tups:=fun b xs q=>by rw [V9 (V8 q hn)];exact q
 frzs:=fun b u xs q=>by rw [V9 (V8 q hn)];exact q
 tbls:=fun b ps q=>⟨#[],by rw [V9 (V8 q hn),q];simp⟩
theorem Un.write (mu:Mut (H x))(he:e=x\/H e=some (.own x))(k:∀ b u,b≠e->h.get? b=some u->h'.get? b=some u)(heo:∃ u,h'.get? e=some u):Un fs ex H (upd H x o) h h':=by
 have hx:∀ b,H b=none->b≠x:=fun b n z=>by subst z;rw [n] at mu;exact mu
 have hb:∀ b,H b=none->b≠e:=fun b n z=>by
  subst z
  rcases he with r|r
  · exact hx b n r
  · rw [n] at r;cases r
 have hm:∀ b u,H b=some u->¬ Mut (some u)->b≠x:=fun b u q nm z=>by subst z;rw [q] at mu;exact nm mu
 refine ⟨fun b u q n _ _=>k b u (hb b n) q,fun b u q n _ _=>⟨u.slots,k b u (hb b n) q⟩,fun b u q n _=>by rw [V9 (hx b n)];exact n,fun b u q _=>?_,
  fun b xs q=>by rw [V9 (hm b _ q fun z=>z)];exact q,fun b u xs q=>by rw [V9 (hm b _ q fun z=>z)];exact q,fun b ps q=>⟨#[],by rw [V9 (hm b _ q fun z=>z),q];simp⟩⟩
 by_cases hbe:b=e
 · subst hbe;exact heo
 · exact ⟨u,k b u hbe q⟩
end
noncomputable def trk (h:Heap)(H:Hp):List Addr:=(List.range h.objs.size).filter fun a=>(H a).isSome
noncomputable def SX (h:Heap)(H:Hp):Heap:=PySem.W.hideAll h (trk h H)
theorem J2y (h:Heap)(H:Hp):(SX h H).objs.size=h.objs.size:=PySem.W.hideAll_size _ _
theorem J5v {h:Heap}{H:Hp}{b:Addr}{o:Obj}(e:h.get? b=some o)(n:H b=none):(SX h H).get? b=some o :=
 PySem.W.hideAll_get _ e fun hm=>by
  have q:(H b).isSome=true:=(List.mem_filter.mp hm).2
  rw [n] at q;simp at q
theorem J9l {h:Heap}{H:Hp}{b:Addr}{o:Obj}(e:(SX h H).get? b=some o):h.get? b=some o/\H b=none:=by
 have e':h.get? b=some o:=PySem.W.of_hideAll (trk h H) e
 refine ⟨e',?_⟩
 cases q:H b with
 | none=>rfl
 | some x =>
   have hm:b∈trk h H:=List.mem_filter.mpr ⟨List.mem_range.mpr (Heap.lt_size e'),by simp [q]⟩
   have z:(SX h H).get? b=none:=PySem.W.hideAll_none (trk h H) hm
   rw [z] at e;cases e
noncomputable def Q1g (g h:Heap)(L:Addr):List (Addr×Obj):=(List.range h.objs.size).filterMap fun a=>if a=L\/(g.get? a).isSome=true then none else (h.get? a).map fun o=>(a,o)
noncomputable def rest (g h:Heap)(L d:Addr):List (Addr×Obj):=(Q1g g h L).filter fun p=>decide (p.1≠d)
structure Mod (K:Fg)(mg:Str->Option Value)(base:Heap):Prop where
 kin:K.In base
 glob:base.Ns mainGlobals mg
 blt:∃ mb,base.Ns builtinsNs mb/\∀ x:Str,x≠"__name__"->mb x=bootBuiltins x
 nolimit:base.NoLimit
structure Cx where
 prog:Program
 w:World
 K:Fg
 mg:Str->Option Value
 base:Heap
 A:Around
 N:List Str
 s₀:Shared
 H₀:Hp
 env:Env
 outer:List Env
 stack:List Env
 ex:List Addr
 fn:Str->Bool
 calm:Bool
 pn:List (Addr×Obj)
 xe:Value->Shared->Prop
noncomputable def frs (l:List Env):List Addr:=l.filterMap (·.frame)
noncomputable abbrev Cx.fs (X:Cx):List Addr:=frs X.outer
noncomputable def Vis (sc:Scope)(x:Str):Prop:=sc.names.lookup x=some .local\/sc.names.lookup x=some .cell\/sc.names.lookup x=some .free
noncomputable def Loc (sc:Scope)(x:Str):Prop:=sc.names.lookup x=some .local\/sc.names.lookup x=some .cell
noncomputable def Q9k (env:Env)(h:Heap)(m:Str->Option Value)(x:Str)(u:Value):Prop :=
 (env.kindOf x=some .local/\m x=some u)\/((env.kindOf x=some .cell\/env.kindOf x=some .free)/\∃ c,env.cells.lookup x=some c/\h.IsCell c (some u))
structure Cx.Ok (X:Cx):Prop where
 mod:Mod X.K X.mg X.base
 kind:X.env.scope.kind=.function
 glob:X.env.globals=mainGlobals
 blt:X.env.builtins=builtinsNs
 above:X.s₀.heap.objs.size<=X.env.locals
 inj:∀ x y c,X.env.cells.lookup x=some c->X.env.cells.lookup y=some c->x=y
 has:∀ x,(X.env.kindOf x=some .cell\/X.env.kindOf x=some .free)->∃ c,X.env.cells.lookup x=some c
 cab:∀ x c,X.fn x=true->X.env.cells.lookup x=some c->X.s₀.heap.objs.size<=c
 hd:X.calm=true->X.A.handled=none
 frames:X.A.frames=some X.stack
 stk:X.stack=X.outer\/(X.stack=X.env::X.outer/\X.env.frame=some X.env.locals)
 exf:∀ b∈X.ex,b≠X.env.locals/\∀ x c,X.env.cells.lookup x=some c->c≠b
 bs:∀ b o,X.base.get? b=some o->X.s₀.heap.get? b=some o/\X.H₀ b=none
 bsz:X.base.objs.size<=X.s₀.heap.objs.size
 noex:∀ b o,X.base.get? b=some o->b∉X.ex
 exfs:∀ b∈X.ex,b∉X.fs
 funs:X.s₀.heap.FunFrames X.base X.outer
 frf:∀ b∈X.fs,X.H₀ b=none
structure Inv (X:Cx)(pins:List (Addr×Obj))(σ:List (Option V))(H:Hp)(s:Shared):Prop where
 ok:X.Ok
 os:s.os=X.s₀.os
 bare:AllBare s.gens
 base:Un X.fs X.ex X.H₀ H X.s₀.heap s.heap
 loc:∃ m,s.heap.Ns X.env.locals m/\∀ (i:Nat) (x:Str) (v:V),X.N[i]?=some x->σ[i]?=some (some v)->Vis X.env.scope x->∃ u,RelV v u/\Q9k X.env s.heap m x u
 cell:∀ x c,X.env.cells.lookup x=some c->∃ v,s.heap.IsCell c v
 free:H X.env.locals=none
 freeC:∀ x c,X.env.cells.lookup x=some c->H c=none
 pin:∀ p∈X.pn++pins,s.heap.get? p.1=some p.2/\H p.1=none/\p.1≠X.env.locals/\p.1∉X.fs/\∀ v,p.2.data≠.cell v
 hok:HOk X.prog X.w H s.heap
 len:σ.length=X.N.length
section
variable {X:Cx}{pins:List (Addr×Obj)}{σ:List (Option V)}{H H':Hp}{s:Shared}{h':Heap}
theorem Cx.Ok.nofr (ok:X.Ok){b:Addr}{o:Obj}(e:X.base.get? b=some o):b∉X.fs:=fun hb=>by
 have:=(ok.funs.mem hb).1
 rw [e] at this;cases this
theorem Inv.bs (I:Inv X pins σ H s):∀ b o,X.base.get? b=some o->s.heap.get? b=some o/\H b=none:=fun b o e =>
 ⟨I.base.keep b o (I.ok.bs b o e).1 (I.ok.bs b o e).2 (I.ok.nofr e) (I.ok.noex b o e),I.base.free b o (I.ok.bs b o e).1 (I.ok.bs b o e).2 (I.ok.noex b o e)⟩
theorem Inv.bk (I:Inv X pins σ H s):∀ b o,X.base.get? b=some o->s.heap.get? b=some o:=fun b o e=>(I.bs b o e).1
theorem Inv.mod (I:Inv X pins σ H s):Mod X.K X.mg X.base:=I.ok.mod
theorem Inv.kIn (I:Inv X pins σ H s):X.K.In s.heap:=I.ok.mod.kin.keeps I.bk
theorem Inv.lt (I:Inv X pins σ H s):X.env.locals<s.heap.objs.size:=let ⟨_,hn,_⟩:=I.loc;hn.lt
theorem Inv.sz (I:Inv X pins σ H s):X.s₀.heap.objs.size<=s.heap.objs.size:=Nat.le_trans I.ok.above (Nat.le_of_lt I.lt)
theorem Inv.nofs (I:Inv X pins σ H s){a:Addr}(h:s.heap.objs.size<=a):a∉X.fs:=fun hb=>by
 obtain ⟨_,o,ho,_⟩:=I.ok.funs.mem hb
 exact absurd (Nat.lt_of_lt_of_le (Heap.lt_size ho) (Nat.le_trans I.sz h)) (Nat.lt_irrefl _)
theorem Inv.cne (I:Inv X pins σ H s):∀ x c,X.env.cells.lookup x=some c->c≠X.env.locals:=fun x c e z=>by
 obtain ⟨v,o,ho,hd⟩:=I.cell x c e
 obtain ⟨m,⟨o',es,ep,ho',hd',_⟩,_⟩:=I.loc
 rw [z,ho'] at ho;cases ho;rw [hd'] at hd;cases hd
theorem Inv.funs (I:Inv X pins σ H s):s.heap.FunFrames X.base X.outer:=by
 have all:∀ (l:List Env),(∀ b∈frs l,b∈X.fs)->X.s₀.heap.FunFrames X.base l->s.heap.FunFrames X.base l:=by
  intro l
  induction l with
  | nil=>intro _ _;trivial
  | cons env r ih =>
    intro hs hl
    obtain ⟨hk,⟨L,o,hf,hn,ho,hd⟩,hr⟩:=hl
    have hL:L∈X.fs:=hs L (by unfold frs;rw [List.filterMap_cons,hf];exact List.mem_cons_self)
    obtain ⟨sl,e⟩:=I.base.slot L o ho (I.ok.frf L hL) hL fun z=>I.ok.exfs L z hL
    exact ⟨hk,⟨L,_,hf,hn,e,hd⟩,ih (fun b hb=>hs b (by unfold frs;rw [List.filterMap_cons,hf];exact List.mem_cons_of_mem _ hb)) hr⟩
 exact all X.outer (fun _ hb=>hb) I.ok.funs
theorem Inv.stack (I:Inv X pins σ H s):s.heap.FunFrames X.base X.stack:=by
 rcases I.ok.stk with e|⟨e,hf⟩
 · rw [e];exact I.funs
 · rw [e]
   obtain ⟨m,hn,_⟩:=I.loc
   refine .cons (by rw [I.ok.kind];decide) hf hn ?_ I.funs
   exact Heap.get?_none_of_le (Nat.le_trans I.ok.bsz I.ok.above)
theorem Inv.stkSub (I:Inv X pins σ H s):∀ b∈frs X.stack,b∈X.env.locals::X.fs:=fun b hb=>by
 rcases I.ok.stk with e|⟨e,hf⟩
 · rw [e] at hb;exact List.mem_cons_of_mem _ hb
 · rw [e] at hb
   unfold frs at hb
   rw [List.filterMap_cons,hf] at hb
   exact hb
theorem Inv.stkFree (I:Inv X pins σ H s):∀ b∈frs X.stack,H b=none:=fun b hb=>by
 rcases List.mem_cons.mp (I.stkSub b hb) with e|hb
 · rw [e];exact I.free
 · obtain ⟨_,o,ho,_⟩:=I.ok.funs.mem hb
   exact I.base.free b o ho (I.ok.frf b hb) fun z=>I.ok.exfs b z hb
theorem Inv.step {g':Array GenState}{t':Nat}{d':Drawn}{ch:List Addr}(I:Inv X pins σ H s)
 (hch:∀ b∈ch,(b∈X.ex\/X.s₀.heap.objs.size<=b)/\b≠X.env.locals/\(∀ x c,X.env.cells.lookup x=some c->c≠b)/\∀ p∈X.pn++pins,p.1≠b)
 (keep:∀ b o,b≠X.env.locals->b∉X.fs->b∉ch->s.heap.get? b=some o->H b=none->h'.get? b=some o)
 (slot:∀ b o,b≠X.env.locals->b∈X.fs->b∉ch->s.heap.get? b=some o->H b=none->∃ sl,h'.get? b=some { o with slots:=sl }) (free:∀ b o,b∉ch->s.heap.get? b=some o->H b=none->H' b=none)
 (there:∀ b o,b∉ch->s.heap.get? b=some o->∃ o',h'.get? b=some o')
 (tups:∀ b xs,H b=some (.tup xs)->H' b=some (.tup xs)) (frzs:∀ b o u,H b=some (.frz o u)->H' b=some (.frz o u)) (tbls:∀ b ps,H b=some (.tbl ps)->∃ more,H' b=some (.tbl (ps++more)))
 (ns:∀ m,s.heap.Ns X.env.locals m->h'.Ns X.env.locals m) (hok:HOk X.prog X.w H' h') (hg:AllBare g') :
 Inv X pins σ H' { s with heap:=h',gens:=g',drawn:=d',toks:=t' }:=by
 have neL:∀ b o,X.s₀.heap.get? b=some o->b≠X.env.locals:=fun b o e=>Nat.ne_of_lt (Nat.lt_of_lt_of_le (Heap.lt_size e) I.ok.above)
 have neC:∀ b o,X.s₀.heap.get? b=some o->b∉X.ex->b∉ch:=fun b o e hx hb=>by
  rcases (hch b hb).1 with z|z
  · exact hx z
  · exact absurd (Nat.lt_of_lt_of_le (Heap.lt_size e) z) (Nat.lt_irrefl _)
 have cellK:∀ x c,X.env.cells.lookup x=some c->∀ v,s.heap.IsCell c v->h'.IsCell c v:=fun x c e v ⟨o,ho,hd⟩=>by
  have nch:c∉ch:=fun z=>(hch c z).2.2.1 x c e rfl
  by_cases hc:c∈X.fs
  · obtain ⟨sl,q⟩:=slot c o (I.cne x c e) hc nch ho (I.freeC x c e)
    exact ⟨_,q,hd⟩
  · exact ⟨o,keep c o (I.cne x c e) hc nch ho (I.freeC x c e),hd⟩
 refine ⟨I.ok,I.os,hg,⟨fun b o e n hb hx=>?_,fun b o e n hb hx=>?_,fun b o e n hx=>?_,fun b o e hx=>?_,fun b xs e=>tups b xs (I.base.tups b xs e),fun b o xs e=>frzs b o xs (I.base.frzs b o xs e),fun b ps e=>?_⟩,?_,fun x c e=>?_,?_,fun x c e=>?_,fun p hp=>?_,hok,I.len⟩
 · exact keep b o (neL b o e) hb (neC b o e hx) (I.base.keep b o e n hb hx) (I.base.free b o e n hx)
 · obtain ⟨sl,e1⟩:=I.base.slot b o e n hb hx
   obtain ⟨sl',e2⟩:=slot b _ (neL b o e) hb (neC b o e hx) e1 (I.base.free b o e n hx)
   exact ⟨sl',e2⟩
 · obtain ⟨o',e1⟩:=I.base.there b o e hx
   exact free b o' (neC b o e hx) e1 (I.base.free b o e n hx)
 · obtain ⟨o',e1⟩:=I.base.there b o e hx
   exact there b o' (neC b o e hx) e1
 · obtain ⟨m1,e1⟩:=I.base.tbls b ps e
   obtain ⟨m2,e2⟩:=tbls b _ e1
   exact ⟨m1++m2,by rw [e2,Array.append_assoc]⟩
 · obtain ⟨m,hn,hl⟩:=I.loc
   refine ⟨m,ns m hn,fun i x v e1 e2 e3=>?_⟩
   obtain ⟨u,r,l⟩:=hl i x v e1 e2 e3
   refine ⟨u,r,?_⟩
   rcases l with l|⟨k,c,e,z⟩
   · exact .inl l
   · exact .inr ⟨k,c,e,cellK x c e _ z⟩
 · obtain ⟨v,z⟩:=I.cell x c e
   exact ⟨v,cellK x c e v z⟩
 · obtain ⟨m,⟨o,_,_,ho,_⟩,_⟩:=I.loc
   exact free _ o (fun z=>(hch _ z).2.1 rfl) ho I.free
 · obtain ⟨v,o,ho,hd⟩:=I.cell x c e
   exact free c o (fun z=>(hch c z).2.2.1 x c e rfl) ho (I.freeC x c e)
 · obtain ⟨e,n,ne,nf,d⟩:=I.pin p hp
   have nch:p.1∉ch:=fun z=>(hch p.1 z).2.2.2 p hp rfl
   exact ⟨keep p.1 p.2 ne nf nch e n,free p.1 p.2 nch e n,ne,nf,d⟩
theorem Inv.un {t':Nat}(I:Inv X pins σ H s)(u:Un X.fs [] H H' s.heap h')(hok:HOk X.prog X.w H' h'):Inv X pins σ H' { s with heap:=h',toks:=t' }:=by
 obtain ⟨m,⟨o,es,ep,ho,r⟩,_⟩:=id I.loc
 obtain ⟨sl,hL⟩:=u.any ho I.free (by simp)
 exact I.step (g':=s.gens) (d':=s.drawn) (ch:=[]) (fun _ z=>nomatch z) (fun b o _ hb _ e n=>u.keep b o e n hb (by simp)) (fun b o _ hb _ e n=>u.slot b o e n hb (by simp)) (fun b o _ e n=>u.free b o e n (by simp)) (fun b o _ e=>u.there b o e (by simp)) u.tups u.frzs u.tbls (fun m' hm=>by
  obtain ⟨o',es',ep',ho',r'⟩:=hm
  rw [ho] at ho';cases ho'
  exact ⟨_,es',ep',hL,r'⟩) hok I.bare
theorem Inv.call {g':Array GenState}{t':Nat}{d':Drawn}{ch:List Addr}(I:Inv X pins σ H s)(u:Un (frs X.stack) ch H H' s.heap h')(hok:HOk X.prog X.w H' h')(hg:AllBare g')
 (hch:∀ b∈ch,(b∈X.ex\/X.s₀.heap.objs.size<=b)/\b≠X.env.locals/\(∀ x c,X.env.cells.lookup x=some c->c≠b)/\∀ p∈X.pn++pins,p.1≠b) :
 Inv X pins σ H' { s with heap:=h',gens:=g',drawn:=d',toks:=t' }:=by
 obtain ⟨m,⟨o,es,ep,ho,r⟩,_⟩:=id I.loc
 obtain ⟨sl,hL⟩:=u.any ho I.free fun z=>(hch _ z).2.1 rfl
 exact I.step (ch:=ch) hch (fun b o hL hb hc e n=>u.keep b o e n (fun z=>(List.mem_cons.mp (I.stkSub b z)).elim hL hb) hc) (fun b o _ _ hc e n=>u.any e n hc) (fun b o hc e n=>u.free b o e n hc) (fun b o hc e=>u.there b o e hc) u.tups u.frzs u.tbls (fun m' hm=>by
  obtain ⟨o',es',ep',ho',r'⟩:=hm
  rw [ho] at ho';cases ho'
  exact ⟨_,es',ep',hL,r'⟩) hok hg
theorem Inv.turned {t':Nat}{it:Addr}(I:Inv X pins σ H s)(k:∀ b o,b≠it->s.heap.get? b=some o->h'.get? b=some o)(hn:H it=none)(hL:it≠X.env.locals)
 (h1:it∈X.ex\/X.s₀.heap.objs.size<=it) (h2:∀ x c,X.env.cells.lookup x=some c->c≠it) (h3:∀ p∈X.pn++pins,p.1≠it):Inv X pins σ H { s with heap:=h',toks:=t' }:=by
 have nit:∀ b u,H b=some u->b≠it:=fun b u e z=>by rw [z,hn] at e;cases e
 refine I.step (g':=s.gens) (d':=s.drawn) (ch:=[it]) (fun b hb=>?_) (fun b o _ _ hc e _=>k b o (fun z=>hc (by simp [z])) e) (fun b o _ _ hc e _=>⟨o.slots,k b o (fun z=>hc (by simp [z])) e⟩) (fun _ _ _ _ n=>n)
  (fun b o hc e=>⟨o,k b o (fun z=>hc (by simp [z])) e⟩) (fun _ _ e=>e) (fun _ _ _ e=>e) (fun b ps e=>⟨#[],by rw [e];simp⟩) (fun m hm=>?_) (fun b u e=>?_) I.bare
 · have e:b=it:=by simpa using hb
   subst e
   exact ⟨h1,hL,h2,h3⟩
 · obtain ⟨o,es,ep,ho,r⟩:=hm
   exact ⟨o,es,ep,k _ o (Ne.symm hL) ho,r⟩
 · refine (I.hok b u e).stay (fun c v hc q=>k c v ?_ q) (fun _ q=>q) fun _ _ q=>q
   rcases hc with z|z
   · rw [z];exact nit b u e
   · exact nit c _ z
theorem Inv.tok (I:Inv X pins σ H s)(t:Nat):Inv X pins σ H { s with toks:=t }:=I.un (h':=s.heap) (t':=t) Un.refl I.hok
theorem Inv.kept {t':Nat}(I:Inv X pins σ H s)(k:∀ b u,s.heap.get? b=some u->h'.get? b=some u):Inv X pins σ H { s with heap:=h',toks:=t' }:=I.un (Un.kept k) (I.hok.kept k)
theorem Inv.laid {a:Addr}{o:HO}{t':Nat}(I:Inv X pins σ H s)(k:∀ b u,s.heap.get? b=some u->h'.get? b=some u)(hp:s.heap.objs.size<=a)(new:ObjOk X.prog X.w (upd H a o) h' a o) :
 Inv X pins σ (upd H a o) { s with heap:=h',toks:=t' }:=I.un (Un.laid k hp (I.hok.fresh hp)) (I.hok.laid k hp new)
theorem Inv.write {x e:Addr}{o:HO}{t':Nat}(I:Inv X pins σ H s)(mu:Mut (H x))(he:e=x\/H e=some (.own x))(k:∀ b u,b≠e->s.heap.get? b=some u->h'.get? b=some u)(heo:∃ u,h'.get? e=some u)
 (new:ObjOk X.prog X.w (upd H x o) h' x o):Inv X pins σ (upd H x o) { s with heap:=h',toks:=t' }:=I.un (Un.write mu he k heo) (I.hok.write mu he k heo new)
theorem Inv.weak {σ':List (Option V)}(I:Inv X pins σ H s)(hl:σ'.length=σ.length)(w:∀ (i:Nat) v,σ'[i]?=some (some v)->σ[i]?=some (some v)):Inv X pins σ' H s :=
 ⟨I.ok,I.os,I.bare,I.base,let ⟨m,hn,hl'⟩:=I.loc;⟨m,hn,fun i x v e1 e2 e3=>hl' i x v e1 (w i v e2) e3⟩,I.cell,I.free,I.freeC,I.pin,I.hok,hl.trans I.len⟩
theorem Inv.pins_of {pins':List (Addr×Obj)}(I:Inv X pins σ H s)(h:∀ p∈pins',s.heap.get? p.1=some p.2/\H p.1=none/\p.1≠X.env.locals/\p.1∉X.fs/\∀ v,p.2.data≠.cell v):Inv X pins' σ H s :=
 ⟨I.ok,I.os,I.bare,I.base,I.loc,I.cell,I.free,I.freeC,fun p hp=>(List.mem_append.mp hp).elim (fun z=>I.pin p (List.mem_append_left _ z)) (h p),I.hok,I.len⟩
theorem WE {N:List Str}(hN:N.Nodup){i j:Nat}{x:Str}(a:N[i]?=some x)(b:N[j]?=some x):i=j:=by
 obtain ⟨h1,e1⟩:=List.getElem?_eq_some_iff.mp a
 obtain ⟨h2,e2⟩:=List.getElem?_eq_some_iff.mp b
 exact (List.getElem_inj hN).mp (e1.trans e2.symm)
theorem QA {M:Model}{A:Around}{E:Value->Shared->Prop}{i:Nat}{x:Str}{v:V}{u:Value}{Q:Unit->Shared->Prop}(I:Inv X pins σ H s)(hN:X.N.Nodup)(hi:X.N[i]?=some x)(hx:Loc X.env.scope x)(r:RelV v u)
 (h:∀ s',Inv X pins (σ.set i (some v)) H s'->(∃ a,Heap.SameBut a s.heap s'.heap/\(a=X.env.locals\/X.env.cells.lookup x=some a))->Q () s') (hf:X.fn x=true\/X.env.scope.names.lookup x=some .local:=by first|exact .inl rfl|exact .inr rfl|assumption):wpAny M A (storeName X.env x u) Q E s:=by
 obtain ⟨m,hn,hl⟩:=id I.loc
 have hcls:(X.env.scope.kind==.class||(X.env.scope.kind==.module&&X.env.locals != X.env.globals))=false:=by rw [I.ok.kind];rfl
 have hiσ:i<σ.length:=by rw [I.len];exact (List.getElem?_eq_some_iff.mp hi).1
 have cne:=I.cne
 have tracked:∀ {a:Addr} {h':Heap},(∃ o,s.heap.get? a=some o/\H a=none)->Heap.SameBut a s.heap h'->HOk X.prog X.w H h':=fun {a h'} ha hs b ob e=>by
  obtain ⟨_,_,hfree⟩:=ha
  refine (I.hok b ob e).stay (fun c w' hc q=>(hs.2 c ?_).trans q) (fun _ q=>q) fun _ _ q=>q
  rintro rfl
  rcases hc with rfl|hc
  · rw [hfree] at e;cases e
  · rw [hfree] at hc;cases hc
 rcases hx with hk|hk
 · refine wpAny_storeName_local hk hn (fun h' hn' hs=>?_) hcls
   obtain ⟨oL,_,_,hoL,_⟩:=id hn
   refine h _ ⟨I.ok,I.os,I.bare,⟨fun b o e n hb hx=>?_,fun b o e n hb hx=>?_,I.base.free,fun b o e hx=>?_,I.base.tups,I.base.frzs,I.base.tbls⟩,⟨_,hn',fun j y v' e1 e2 e3=>?_⟩,fun y c e=>?_,I.free,I.freeC,fun p hp=>?_,tracked ⟨oL,hoL,I.free⟩ hs,by simpa using I.len⟩ ⟨_,hs,.inl rfl⟩
   · exact (hs.2 b (Nat.ne_of_lt (Nat.lt_of_lt_of_le (Heap.lt_size e) I.ok.above))).trans (I.base.keep b o e n hb hx)
   · obtain ⟨sl,e1⟩:=I.base.slot b o e n hb hx
     exact ⟨sl,(hs.2 b (Nat.ne_of_lt (Nat.lt_of_lt_of_le (Heap.lt_size e) I.ok.above))).trans e1⟩
   · obtain ⟨o',e1⟩:=I.base.there b o e hx
     exact ⟨o',(hs.2 b (Nat.ne_of_lt (Nat.lt_of_lt_of_le (Heap.lt_size e) I.ok.above))).trans e1⟩
   · by_cases hj:j=i
     · subst hj
       rw [hi] at e1;cases e1
       rw [List.getElem?_set_self hiσ] at e2
       cases e2
       exact ⟨u,r,.inl ⟨hk,by simp⟩⟩
     · rw [List.getElem?_set_ne (Ne.symm hj)] at e2
       obtain ⟨u',r',q⟩:=hl j y v' e1 e2 e3
       refine ⟨u',r',?_⟩
       rcases q with ⟨k,e⟩|⟨k,c,e,z⟩
       · refine .inl ⟨k,?_⟩
         have:y≠x:=fun e=>hj (WE hN e1 (e▸hi))
         simp [this,e]
       · exact .inr ⟨k,c,e,z.sameBut hs (cne y c e)⟩
   · obtain ⟨w',z⟩:=I.cell y c e
     exact ⟨w',z.sameBut hs (cne y c e)⟩
   · obtain ⟨e,n,ne,nf,d⟩:=I.pin p hp
     exact ⟨(hs.2 p.1 ne).trans e,n,ne,nf,d⟩
 · have hfn:X.fn x=true:=by
    rcases hf with z|z
    · exact z
    · rw [z] at hk;cases hk
   obtain ⟨c,hc⟩:=I.ok.has x (.inl hk)
   obtain ⟨w',z⟩:=I.cell x c hc
   refine wpAny_storeName_cell I.ok.kind hk hc z (fun h' hc' hs=>?_)
   obtain ⟨oc,hoc,hocd⟩:=id z
   refine h { s with heap:=h' } ⟨I.ok,I.os,I.bare,⟨fun b o e n hb hx=>?_,fun b o e n hb hx=>?_,I.base.free,fun b o e hx=>?_,I.base.tups,I.base.frzs,I.base.tbls⟩,⟨m,hn.sameBut hs (Ne.symm (cne x c hc)),fun j y v' e1 e2 e3=>?_⟩,fun y c' e=>?_,I.free,I.freeC,fun p hp=>?_,tracked ⟨oc,hoc,I.freeC x c hc⟩ hs,by simpa using I.len⟩ ⟨c,hs,.inr hc⟩
   · exact (hs.2 b (Nat.ne_of_lt (Nat.lt_of_lt_of_le (Heap.lt_size e) (I.ok.cab x c hfn hc)))).trans (I.base.keep b o e n hb hx)
   · obtain ⟨sl,e1⟩:=I.base.slot b o e n hb hx
     exact ⟨sl,(hs.2 b (Nat.ne_of_lt (Nat.lt_of_lt_of_le (Heap.lt_size e) (I.ok.cab x c hfn hc)))).trans e1⟩
   · obtain ⟨o',e1⟩:=I.base.there b o e hx
     exact ⟨o',(hs.2 b (Nat.ne_of_lt (Nat.lt_of_lt_of_le (Heap.lt_size e) (I.ok.cab x c hfn hc)))).trans e1⟩
   · by_cases hj:j=i
     · subst hj
       rw [hi] at e1;cases e1
       rw [List.getElem?_set_self hiσ] at e2
       cases e2
       exact ⟨u,r,.inr ⟨.inl hk,c,hc,hc'⟩⟩
     · rw [List.getElem?_set_ne (Ne.symm hj)] at e2
       obtain ⟨u',r',q⟩:=hl j y v' e1 e2 e3
       refine ⟨u',r',?_⟩
       rcases q with q|⟨k,c',e,z'⟩
       · exact .inl q
       · refine .inr ⟨k,c',e,z'.sameBut hs ?_⟩
         rintro rfl
         exact hj (WE hN e1 (I.ok.inj _ _ _ e hc▸hi))
   · by_cases hcc:c'=c
     · subst hcc;exact ⟨_,hc'⟩
     · obtain ⟨w2,z2⟩:=I.cell y c' e
       exact ⟨w2,z2.sameBut hs hcc⟩
   · obtain ⟨e,n,ne,nf,d⟩:=I.pin p hp
     refine ⟨(hs.2 p.1 ?_).trans e,n,ne,nf,d⟩
     intro q
     rw [q,hoc] at e
     have q':oc=p.2:=Option.some.inj e
     exact d w' (by rw [<- q'];exact hocd)
theorem IK {M:Model}{A:Around}{E:Value->Shared->Prop}{i:Nat}{x:Str}{v:V}{u:Value}{Q:Unit->Shared->Prop}(I:Inv X pins σ H s)(hN:X.N.Nodup)(hi:X.N[i]?=some x)(hx:Loc X.env.scope x)(r:RelV v u)
 (h:∀ s',Inv X pins (σ.set i (some v)) H s'->Q () s') (hf:X.fn x=true\/X.env.scope.names.lookup x=some .local:=by first|exact .inl rfl|exact .inr rfl|assumption):wpAny M A (storeName X.env x u) Q E s :=
 QA I hN hi hx r (fun s' I' _=>h s' I') hf
theorem Inv.call' {s':Shared}{ch:List Addr}(I:Inv X pins σ H s)(ho:s'.os=s.os)(u:Un (frs X.stack) ch H H' s.heap s'.heap)(hok:HOk X.prog X.w H' s'.heap)(hg:AllBare s'.gens)
 (hch:∀ b∈ch,(b∈X.ex\/X.s₀.heap.objs.size<=b)/\b≠X.env.locals/\(∀ x c,X.env.cells.lookup x=some c->c≠b)/\∀ p∈X.pn++pins,p.1≠b):Inv X pins σ H' s':=by
 obtain ⟨h',g',d',t',o'⟩:=s'
 have e:o'=s.os:=ho
 subst e
 exact I.call (g':=g') (t':=t') (d':=d') u hok hg hch
end
noncomputable abbrev XK:=Value->Option Addr->Hp->Prop
noncomputable abbrev St:=List (Option V)
noncomputable abbrev VK:=V->Hp->Prop
noncomputable abbrev TE:=St->Hp->VK->Prop
noncomputable abbrev TT:=St->Hp->(Bool->Hp->Prop)->Prop
noncomputable abbrev TA:=St->Hp->(List V->Hp->Prop)->Prop
structure Ends where
 nx:St->Hp->Prop
 rt:VK
 bk:St->Hp->Prop:=fun _ _=>False
 ct:St->Hp->Prop:=fun _ _=>False
noncomputable abbrev TS:=Ends->St->Hp->Prop
noncomputable def EP (X:Cx)(pins:List (Addr×Obj))(σ:St)(Q:VK)(u:Value)(s':Shared):Prop:=∃ v H',Inv X pins σ H' s'/\RelV v u/\Q v H'
noncomputable def TP (X:Cx)(pins:List (Addr×Obj))(σ:St)(Q:Bool->Hp->Prop)(b:Bool)(s':Shared):Prop:=∃ H',Inv X pins σ H' s'/\Q b H'
noncomputable def AP (X:Cx)(pins:List (Addr×Obj))(σ:St)(Q:List V->Hp->Prop)(us:List Value)(s':Shared):Prop:=∃ vs H',Inv X pins σ H' s'/\Vals vs us/\Q vs H'
noncomputable def SP (X:Cx)(pins:List (Addr×Obj))(D:Ends)(f:Flow)(s':Shared):Prop :=
 match f with
 | .next=>∃ σ' H',Inv X pins σ' H' s'/\D.nx σ' H'
 | .brk=>∃ σ' H',Inv X pins σ' H' s'/\D.bk σ' H'
 | .cont=>∃ σ' H',Inv X pins σ' H' s'/\D.ct σ' H'
 | .ret u=>∃ v σ' H',Inv X pins σ' H' s'/\RelV v u/\D.rt v H'
noncomputable def PE (X:Cx)(e:Expr)(t:TE):Prop :=
 ∀ (pins:List (Addr×Obj)) (s:Shared) (σ:St) (H:Hp) (Q:VK),Inv X pins σ H s->t σ H Q->wpAny (model X.prog X.w) X.A (eval e X.env) (EP X pins σ Q) X.xe s
noncomputable def PT (X:Cx)(e:Expr)(t:TT):Prop :=
 ∀ (pins:List (Addr×Obj)) (s:Shared) (σ:St) (H:Hp) (Q:Bool->Hp->Prop),Inv X pins σ H s->t σ H Q->wpAny (model X.prog X.w) X.A (isTrue e X.env (eval e X.env)) (TP X pins σ Q) X.xe s
noncomputable def PW (X:Cx)(e:Expr)(t:TT):Prop :=
 ∀ (whole:Sem Value) (pins:List (Addr×Obj)) (s:Shared) (σ:St) (H:Hp) (Q:Bool->Hp->Prop),Inv X pins σ H s->t σ H Q->wpAny (model X.prog X.w) X.A (isTrue e X.env whole) (TP X pins σ Q) X.xe s
theorem PW.pt {X:Cx}{e:Expr}{t:TT}(h:PW X e t):PT X e t:=h _
noncomputable def PA (X:Cx)(es:List Expr)(t:TA):Prop :=
 ∀ (pos:Pos) (pins:List (Addr×Obj)) (s:Shared) (σ:St) (H:Hp) (Q:List V->Hp->Prop),Inv X pins σ H s->t σ H Q->wpAny (model X.prog X.w) X.A (spliced (backTo pos (starEach es X.env))) (AP X pins σ Q) X.xe s
noncomputable def PS (X:Cx)(st:Stmt)(t:TS):Prop :=
 ∀ (pins:List (Addr×Obj)) (s:Shared) (σ:St) (H:Hp) (D:Ends),Inv X pins σ H s->t D σ H->wpAny (model X.prog X.w) X.A (exec st X.env) (SP X pins D) X.xe s
noncomputable def PSs (X:Cx)(st:List Stmt)(t:TS):Prop :=
 ∀ (pins:List (Addr×Obj)) (s:Shared) (σ:St) (H:Hp) (D:Ends),Inv X pins σ H s->t D σ H->wpAny (model X.prog X.w) X.A (execs st X.env) (SP X pins D) X.xe s
theorem thn {α:Type}{t:Sem α}{Q Q':α->Shared->Prop}{M:Model}{A:Around}{E:Value->Shared->Prop}{s:Shared}(h:wpAny M A t Q E s)(hQ:∀ a s,Q a s->Q' a s):wpAny M A t Q' E s:=wpAny_mono h hQ fun _ _ x=>x
section
variable {X:Cx}
noncomputable def XV (i:Nat):TE:=fun σ H Q=>∃ v,σ[i]?=some (some v)/\Q v H
noncomputable def tC (v:V):TE:=fun _ H Q=>Q v H
theorem J4r {i:Nat}{x:Str}{pos:Pos}(hN:X.N[i]?=some x)(hv:Vis X.env.scope x)(hd:(x==("__debug__" : Str))=false:=by decide) (hcd:(x==("__classdict__" : Str))=false:=by decide):PE X (.Name x pos) (XV i):=by
 intro pins s σ H Q I h
 obtain ⟨v,e,h⟩:=h
 obtain ⟨m,hn,hl⟩:=I.loc
 obtain ⟨u,r,l⟩:=hl i x v hN e hv
 have fin:EP X pins σ Q u s:=⟨v,H,I,r,h⟩
 rcases l with ⟨hk,hm⟩|⟨hk,c,hc,hcell⟩
 · exact wpAny_Name (wpAny_loadName_local I.ok.kind hk hn hm fin) hd
 · rcases hk with hk|hk
   · exact wpAny_Name (wpAny_loadName_cell I.ok.kind hk hc hcell fin) hd
   · exact wpAny_Name (wpAny_loadName_free I.ok.kind hk hc hcell fin hcd) hd
theorem Z5 {i j pos}:PE X (.Constant (.int i) j pos) (tC (.int i)):=fun _ _ _ H _ I h=>wpAny_Constant_int ⟨.int i,H,I.tok _,⟨_,rfl⟩,h⟩
theorem Q6s {b j pos}:PE X (.Constant (.bool b) j pos) (tC (.bl b)):=fun _ _ _ H _ I h=>Constant_bool ⟨.bl b,H,I,rfl,h⟩
theorem Q3c {x j pos}:PE X (.Constant (.str x) j pos) (tC (.str x)):=fun _ _ _ H _ I h=>Calls.Constant_str ⟨.str x,H,I.tok _,⟨_,rfl⟩,h⟩
noncomputable def Gl (X:Cx)(x:Str):Prop:=X.env.kindOf x=some .globalImplicit
theorem SS {E:Value->Shared->Prop}{pins:List (Addr×Obj)}{s:Shared}{σ:St}{H:Hp}{x:Str}{u:Value}{pos:Pos}{Q:Value->Shared->Prop}(I:Inv X pins σ H s)(hg:Gl X x)(hm:X.mg x=some u)(h:Q u s)
 (hd:(x==("__debug__" : Str))=false:=by decide):wpAny (model X.prog X.w) X.A (eval (.Name x pos) X.env) Q E s :=
 Calls.Name_function_global I.ok.kind hg (Calls.loadGlobal_global (by rw [I.ok.glob];exact I.mod.glob.keeps I.bk) hm h) hd
theorem LD {E:Value->Shared->Prop}{pins:List (Addr×Obj)}{s:Shared}{σ:St}{H:Hp}{x:Str}{u:Value}{pos:Pos}{Q:Value->Shared->Prop}(I:Inv X pins σ H s)(hg:Gl X x)(hm:X.mg x=none)(hv:bootBuiltins x=some u)(h:Q u s)
 (hn:x≠"__name__":=by decide) (hd:(x==("__debug__" : Str))=false:=by decide):wpAny (model X.prog X.w) X.A (eval (.Name x pos) X.env) Q E s:=by
 obtain ⟨mb,h1,h2⟩:=I.mod.blt
 exact Calls.Name_function_global I.ok.kind hg (Calls.loadGlobal_builtin (by rw [I.ok.glob];exact I.mod.glob.keeps I.bk) hm (by rw [I.ok.blt];exact h1.keeps I.bk) ((h2 x hn).trans hv) h) hd
theorem J9c {x:Str}{v:V}{u:Value}{pos:Pos}(hg:Gl X x)(hm:X.mg x=some u)(r:RelV v u)(hd:(x==("__debug__" : Str))=false:=by decide):PE X (.Name x pos) (tC v) :=
 fun _ _ _ H _ I h=>SS I hg hm ⟨v,H,I,r,h⟩ hd
theorem J9e {x:Str}{v:V}{u:Value}{pos:Pos}(hg:Gl X x)(hm:X.mg x=none)(hv:bootBuiltins x=some u)(r:RelV v u)(hn:x≠"__name__":=by decide) (hd:(x==("__debug__" : Str))=false:=by decide):PE X (.Name x pos) (tC v) :=
 fun _ _ _ H _ I h=>LD I hg hm hv ⟨v,H,I,r,h⟩ hn hd
variable {a b:Expr}{ta tb:TE}{pos:Pos}
variable {tA tB':TT}{rest:List Expr}
noncomputable def tOr (t u:TT):TT:=fun σ H Q=>t σ H fun c H1=>if c=true then Q true H1 else u σ H1 Q
noncomputable def Q8q (t:TT):TT:=fun σ H Q=>t σ H fun c H1=>Q (!c) H1
theorem Q2x (ha:PT X a tA):PW X (.BoolOp .Or [a] pos) tA:=by
 intro wh pins s σ H Q I h
 refine isTrue_or (thn (ha pins s σ H Q I h) fun c s1 e=>?_)
 cases c with
 | false=>exact isTrue_or_nil e
 | true=>exact e
theorem Q6q (ha:PT X a tA)(hb:PW X (.BoolOp .Or (b::rest) pos) tB'):PW X (.BoolOp .Or (a::b::rest) pos) (tOr tA tB'):=by
 intro wh pins s σ H Q I h
 refine isTrue_or (thn (ha pins s σ H _ I h) fun c s1 ⟨H1,I1,q1⟩=>?_)
 cases c with
 | true=>exact ⟨H1,I1,q1⟩
 | false=>exact hb wh pins s1 σ H1 Q I1 q1
theorem Q2y (ha:PT X a tA):PT X (.UnaryOp .Not a pos) (Q8q tA):=by
 intro pins s σ H Q I h
 exact isTrue_not (ha pins s σ H (fun c H1=>Q (!c) H1) I h)
noncomputable def Q6j (ta tb:TE):TE:=fun σ H Q=>ta σ H fun x H1=>∃ c,x=.bl c/\if c=true then tb σ H1 Q else Q (.bl false) H1
noncomputable def Q6e (ta:TE):TE:=fun σ H Q=>ta σ H fun x H1=>∃ c,x=.bl c/\Q (.bl (!c)) H1
theorem Q3d {op}{t:TE}(h:PE X a t):PE X (.BoolOp op [a] pos) t:=fun pins s σ H Q I hw=>BoolOp_one (h pins s σ H Q I hw)
theorem Q3f (ha:PE X a ta)(hb:PE X (.BoolOp .And (b::rest) pos) tb):PE X (.BoolOp .And (a::b::rest) pos) (Q6j ta tb):=by
 intro pins s σ H Q I h
 refine BoolOp_and (thn (ha pins s σ H _ I h) fun v s1 ⟨x,H1,I1,r1,q1⟩=>?_)
 obtain ⟨c,rfl,q1⟩:=q1
 cases r1
 refine wpAny_truthy_bool ?_
 cases c with
 | true=>exact hb pins s1 σ H1 Q I1 q1
 | false=>exact ⟨.bl false,H1,I1,rfl,q1⟩
theorem Q3e (ha:PE X a ta):PE X (.UnaryOp .Not a pos) (Q6e ta):=by
 intro pins s σ H Q I h
 refine UnaryOp_ (thn (ha pins s σ H _ I h) fun v s1 ⟨x,H1,I1,r1,q1⟩=>?_)
 obtain ⟨c,rfl,q1⟩:=q1
 cases r1
 exact not_of (wpAny_truthy_bool ⟨.bl (!c),H1,I1,rfl,q1⟩)
end
noncomputable def SqL (K:Fg)(H:Hp)(a:Addr)(xs:List V):Prop :=
 Rd H a (.lst xs) \/
  ∃ (o:Obj) (its:Array Value) (n:Nat),K.lookup a=some o/\o.cls=.type "list"/\o.dict=none/\o.data=.seq its n/\its.size<=sizeLine/\Vals xs its.toList
noncomputable def SqT (K:Fg)(H:Hp)(a:Addr)(xs:List V):Prop :=
 Rd H a (.tup xs) \/
  ∃ (o:Obj) (its:Array Value) (n:Nat),K.lookup a=some o/\o.cls=.type "tuple"/\o.data=.seq its n/\its.size<=sizeLine/\Vals xs its.toList
noncomputable def Q9h:Value->Option V
 | .none=>some .non
 | .bool b=>some (.bl b)
 | .int i _=>some (.int i)
 | .str x _=>some (.str x)
 | .bytes b _=>some (.byt b)
 | .float b _=>some (.flt b)
 | .ref a=>some (.ref a)
 | .type n=>some (.ty n)
 | _=>none
theorem RelV.abs {x:V}{u:Value}(r:RelV x u):Q9h u=some x:=by
 cases x with
 | non=>cases r;rfl
 | bl _=>cases r;rfl
 | int _=>obtain ⟨t,rfl⟩:=r;rfl
 | str _=>obtain ⟨t,rfl⟩:=r;rfl
 | byt _=>obtain ⟨t,rfl⟩:=r;rfl
 | flt _=>obtain ⟨t,rfl⟩:=r;rfl
 | ref _=>cases r;rfl
 | ty _=>cases r;rfl
theorem RelV.inj {x y:V}{u:Value}(r:RelV x u)(q:RelV y u):x=y:=Option.some.inj (r.abs.symm.trans q.abs)
theorem Vals.inj:∀ {xs ys:List V} {us:List Value},Vals xs us->Vals ys us->xs=ys
 | _,_,_,.nil,.nil=>rfl
 | _,_,_,.cons r t,.cons r' t'=>by rw [r.inj r',Vals.inj t t']
section
variable {X:Cx}{pins:List (Addr×Obj)}{σ:St}{H:Hp}{s:Shared}{a:Addr}{xs ys:List V}
theorem SqL.of (h:H a=some (.lst xs)):SqL K H a xs:=.inl (.inl h)
theorem SqT.of (h:H a=some (.tup xs)):SqT K H a xs:=.inl (.inl h)
theorem Inv.list (I:Inv X pins σ H s)(h:SqL X.K H a xs):∃ its:List Value,Vals xs its/\PlainL s.heap a its.toArray/\xs.length<=sizeLine:=by
 rcases h with h|⟨o,its,n,hk,hc,hd,hs,hz,r⟩
 · obtain ⟨z,its,n,r,e⟩:=h.ok I.hok
   exact ⟨its,r,⟨_,n,e,rfl,rfl,rfl⟩,z⟩
 · refine ⟨its.toList,r,⟨o,n,I.kIn a o hk,hc,hd,by simpa using hs⟩,?_⟩
   have e:=r.length
   simp only [Array.length_toList] at e
   omega
theorem Inv.tuple (I:Inv X pins σ H s)(h:SqT X.K H a xs):∃ its:List Value,Vals xs its/\IsTup s.heap a its.toArray/\xs.length<=sizeLine:=by
 rcases h with h|⟨o,its,n,hk,hc,hs,hz,r⟩
 · obtain ⟨z,its,r,p⟩:=h.ok I.hok
   exact ⟨its,r,p,z⟩
 · refine ⟨its.toList,r,⟨o,I.kIn a o hk,hc,n,by simpa using hs⟩,?_⟩
   have e:=r.length
   simp only [Array.length_toList] at e
   omega
theorem Inv.list_inj (I:Inv X pins σ H s)(h:SqL X.K H a xs)(h':SqL X.K H a ys):xs=ys:=by
 obtain ⟨its,r,⟨o,n,e,_,_,d⟩,_⟩:=I.list h
 obtain ⟨its',r',⟨o',n',e',_,_,d'⟩,_⟩:=I.list h'
 rw [e] at e';cases e'
 rw [d] at d'
 injection d' with d1 _
 have:its=its':=by simpa using congrArg Array.toList d1
 subst this
 exact r.inj r'
theorem Inv.tuple_inj (I:Inv X pins σ H s)(h:SqT X.K H a xs)(h':SqT X.K H a ys):xs=ys:=by
 obtain ⟨its,r,⟨o,e,_,n,d⟩,_⟩:=I.tuple h
 obtain ⟨its',r',⟨o',e',_,n',d'⟩,_⟩:=I.tuple h'
 rw [e] at e';cases e'
 rw [d] at d'
 injection d' with d1 _
 have:its=its':=by simpa using congrArg Array.toList d1
 subst this
 exact r.inj r'
end
noncomputable abbrev Cx.wish (X:Cx)(E:Value->Shared->Prop):Cx:={ X with xe:=E }
noncomputable abbrev Cx.nox (X:Cx):Cx:=X.wish fun _ _=>False
theorem Cx.Ok.wish {X:Cx}(ok:X.Ok)(E:Value->Shared->Prop):(X.wish E).Ok :=
 ⟨ok.mod,ok.kind,ok.glob,ok.blt,ok.above,ok.inj,ok.has,ok.cab,ok.hd,ok.frames,ok.stk,ok.exf,ok.bs,ok.bsz,ok.noex,ok.exfs,ok.funs,ok.frf⟩
theorem Cx.Ok.unwish {X:Cx}{E:Value->Shared->Prop}(ok:(X.wish E).Ok):X.Ok :=
 ⟨ok.mod,ok.kind,ok.glob,ok.blt,ok.above,ok.inj,ok.has,ok.cab,ok.hd,ok.frames,ok.stk,ok.exf,ok.bs,ok.bsz,ok.noex,ok.exfs,ok.funs,ok.frf⟩
section
variable {X:Cx}{pins:List (Addr×Obj)}{σ:St}{H:Hp}{s:Shared}{E:Value->Shared->Prop}
theorem Inv.wish (I:Inv X pins σ H s)(E:Value->Shared->Prop):Inv (X.wish E) pins σ H s:=⟨I.ok.wish E,I.os,I.bare,I.base,I.loc,I.cell,I.free,I.freeC,I.pin,I.hok,I.len⟩
theorem Inv.unwish (I:Inv (X.wish E) pins σ H s):Inv X pins σ H s:=⟨I.ok.unwish,I.os,I.bare,I.base,I.loc,I.cell,I.free,I.freeC,I.pin,I.hok,I.len⟩
theorem SP.unwish {D:Ends}{f:Flow}{s':Shared}(h:SP (X.wish E) pins D f s'):SP X pins D f s':=by
 cases f with
 | next=>obtain ⟨σ',H',I,q⟩:=h;exact ⟨σ',H',I.unwish,q⟩
 | brk=>obtain ⟨σ',H',I,q⟩:=h;exact ⟨σ',H',I.unwish,q⟩
 | cont=>obtain ⟨σ',H',I,q⟩:=h;exact ⟨σ',H',I.unwish,q⟩
 | ret u=>obtain ⟨v,σ',H',I,r,q⟩:=h;exact ⟨v,σ',H',I.unwish,r,q⟩
theorem PSs.nox {st:List Stmt}{t:TS}(h:PSs X.nox st t):PSs X st t:=fun pins s σ H D I hw =>
 wpAny_mono (h pins s σ H D (I.wish _) hw) (fun _ _ q=>q.unwish) fun _ _ z=>False.elim z
end
section
variable {X:Cx}{st:Stmt}{rest:List Stmt}{t u:TS}{e:Expr}{te:TE}{pos:Pos}
noncomputable def Q6f:TS:=fun D σ H=>D.nx σ H
noncomputable def Q8n (t u:TS):TS:=fun D σ H=>t { D with nx:=u D } σ H
theorem IS:PSs X [] Q6f:=fun _ _ σ H _ I h=>wpAny_execs_nil ⟨σ,H,I,h⟩
theorem AI (h1:PS X st t)(h2:PSs X rest u):PSs X (st::rest) (Q8n t u):=by
 intro pins s σ H D I h
 refine wpAny_execs_cons (thn (h1 pins s σ H { D with nx:=u D } I h) fun f s1 q=>?_)
 cases f with
 | next =>
   obtain ⟨σ',H',I',q⟩:=q
   exact h2 pins s1 σ' H' D I' q
 | ret v=>exact q
 | brk=>exact q
 | cont=>exact q
theorem BD (h1:PS X st t):PSs X [st] t:=by
 intro pins s σ H D I h
 refine wpAny_execs_cons (thn (h1 pins s σ H D I h) fun f s1 q=>?_)
 cases f with
 | next=>exact wpAny_execs_nil q
 | ret v=>exact q
 | brk=>exact q
 | cont=>exact q
theorem Inv.quiet {pins:List (Addr×Obj)}{σ:St}{H:Hp}{s:Shared}(I:Inv X pins σ H s):interactive X.env=false:=by simp [interactive,I.ok.kind]
noncomputable def J3u (te:TE):TS:=fun D σ H=>te σ H fun _ H1=>D.nx σ H1
theorem RZ (he:PE X e te)(hs:swapsWith e none pos.line X.env=pure false:=by rfl):PS X (.Expr e pos) (J3u te):=by
 intro pins s σ H D I h
 exact wpAny_Expr_any (thn (he pins s σ H _ I h) fun v s1 ⟨x,H1,I1,r1,q1⟩=>⟨σ,H1,I1,q1⟩) I.quiet hs
noncomputable def Q8o (te:TE):TS:=fun D σ H=>te σ H D.rt
theorem CK (he:PE X e te):PS X (.Return (some e) pos) (Q8o te):=by
 intro pins s σ H D I h
 exact wpAny_Return_some (thn (he pins s σ H _ I h) fun v s1 ⟨x,H1,I1,r1,q1⟩=>⟨x,σ,H1,I1,r1,q1⟩)
noncomputable def Q8t (c:TT)(t u:TS):TS:=fun D σ H=>c σ H fun b H1=>if b=true then t D σ H1 else u D σ H1
theorem VT {c:Expr}{a b:List Stmt}{tc:TT}(hc:PT X c tc)(ha:PSs X a t)(hb:PSs X b u):PS X (.If c a b pos) (Q8t tc t u):=by
 intro pins s σ H D I h
 refine wpAny_If (thn (hc pins s σ H _ I h) fun d s1 ⟨H1,I1,q1⟩=>?_)
 cases d with
 | true=>exact ha pins s1 σ H1 D I1 q1
 | false=>exact hb pins s1 σ H1 D I1 q1
noncomputable def Q2n:TS:=fun _ _ _=>False
theorem J4n:PS X st Q2n:=fun _ _ _ _ _ _ h=>h.elim
end
noncomputable abbrev TG:=V->St->Hp->(St->Hp->Prop)->Prop
noncomputable abbrev TGs:=List V->St->Hp->(St->Hp->Prop)->Prop
noncomputable def PG (X:Cx)(target:Expr)(t:TG):Prop :=
 ∀ (pins:List (Addr×Obj)) (s:Shared) (σ:St) (H:Hp) (v:V) (u:Value) (Q:St->Hp->Prop),Inv X pins σ H s->RelV v u->t v σ H Q ->
  wpAny (model X.prog X.w) X.A (assign target X.env u) (fun _ s'=>∃ σ' H',Inv X pins σ' H' s'/\Q σ' H') X.xe s
noncomputable def PGs (X:Cx)(ts:List Expr)(t:TGs):Prop :=
 ∀ (pins:List (Addr×Obj)) (s:Shared) (σ:St) (H:Hp) (vs:List V) (us:List Value) (Q:St->Hp->Prop),Inv X pins σ H s->Vals vs us->t vs σ H Q ->
  wpAny (model X.prog X.w) X.A (assignInOrder ((assignEach ts X.env).map (·.2)) us) (fun _ s'=>∃ σ' H',Inv X pins σ' H' s'/\Q σ' H') X.xe s
noncomputable abbrev Q5p:=V->V->V->Hp->(Hp->Prop)->Prop
noncomputable def Q8j (X:Cx)(t:Q5p):Prop :=
 ∀ (pins:List (Addr×Obj)) (s:Shared) (σ:St) (H:Hp) (o i v:V) (ov iv u:Value) (Q:Hp->Prop),Inv X pins σ H s->RelV o ov->RelV i iv->RelV v u->t o i v H Q ->
  wpAny (model X.prog X.w) X.A (setItem ov iv u) (fun _ s'=>∃ H',Inv X pins σ H' s'/\Q H') X.xe s
section
variable {X:Cx}{pos:Pos}
noncomputable def WL (i:Nat):TG:=fun v σ H Q=>Q (σ.set i (some v)) H
theorem pg_name {i:Nat} {x:Str} (hN:X.N.Nodup) (hi:X.N[i]?=some x) (hx:Loc X.env.scope x) (hf:X.fn x=true\/X.env.scope.names.lookup x=some .local:=by first|exact .inl rfl|exact .inr rfl|assumption):PG X (.Name x pos) (WL i):=by
 intro pins s σ H v u Q I r h
 exact wpAny_assign_Name (IK I hN hi hx r (fun s' I'=>⟨_,H,I',h⟩) hf)
noncomputable def Q7j:TGs:=fun vs σ H Q=>vs=[]/\Q σ H
noncomputable def Q1p (t:TG)(u:TGs):TGs:=fun vs σ H Q=>∃ v r,vs=v::r/\t v σ H fun σ' H'=>u r σ' H' Q
theorem Y6:PGs X [] Q7j:=by
 intro pins s σ H vs us Q I r h
 obtain ⟨e,h⟩:=h
 subst e
 cases r
 exact assignInOrder_nil ⟨σ,H,I,h⟩
theorem J9 {e:Expr}{es:List Expr}{t:TG}{u:TGs}(h1:PG X e t)(h2:PGs X es u)
 (hs:(assignEach (e::es) X.env).map (·.2)=assign e X.env::(assignEach es X.env).map (·.2):=by rfl):PGs X (e::es) (Q1p t u):=by
 intro pins s σ H vs us Q I r h
 obtain ⟨v,vr,e1,h⟩:=h
 subst e1
 cases r with
 | cons r rr =>
   rw [hs]
   refine assignInOrder_cons (thn (h1 pins s σ H _ _ _ I r h) fun _ s1 ⟨σ1,H1,I1,q1⟩=>?_)
   exact h2 pins s1 σ1 H1 _ _ Q I1 rr q1
noncomputable def Q3x (K:Fg)(n:Nat)(t:TGs):TG:=fun v σ H Q=>∃ a xs,v=.ref a/\SqT K H a xs/\xs.length=n/\t xs σ H Q
theorem Q3a {es:List Expr}{k:Nat}{t:TGs}{n:Nat}(hc:X.calm=true)(h:PGs X es t)
 (hn:(assignEach es X.env).length=n:=by rfl) (hst:(assignEach es X.env).findIdx? (·.1)=none:=by rfl):PG X (.Tuple es k pos) (Q3x X.K n t):=by
 intro pins s σ H v u Q I r hw
 obtain ⟨a,xs,e1,hq,hl,hw⟩:=hw
 subst e1
 cases r
 obtain ⟨its,rv,ht,hz⟩:=I.tuple hq
 refine assign_Tuple_tuple (I.ok.hd hc) ht (by simp [hn,<- hl,rv.length]) hst fun h' hx=>?_
 have I1:Inv X pins σ H { s with heap:=h' }:=I.kept (t':=s.toks) fun b o e=>hx b o (Nat.ne_of_lt (Heap.lt_size e)) e
 exact h pins _ σ H xs _ Q I1 (by simpa using rv) hw
noncomputable def Q9c (to ti:TE)(t:Q5p):TG:=fun v σ H Q=>to σ H fun o H1=>ti σ H1 fun i H2=>t o i v H2 fun H3=>Q σ H3
theorem J4q {o i:Expr}{to ti:TE}{t:Q5p}(ho:PE X o to)(hi:PE X i ti)(hs:Q8j X t)
 (ha:∀ v,assign (.Subscript o i pos) X.env v=(do
  let ov <- holding [v] (eval o X.env)
  let iv <- holding [v,ov] (eval i X.env)
  standAt pos
  holding [v,ov,iv] (setItem ov iv v)
  release [v,ov,iv] []):=by intro _;rfl):PG X (.Subscript o i pos) (Q9c to ti t):=by
 intro pins s σ H v u Q I r h
 rw [ha]
 refine wpAny_bind (wpAny_holding (thn (ho pins s σ H _ I h) fun ov s1 ⟨x,H1,I1,r1,q1⟩=>?_))
 refine wpAny_bind (wpAny_holding (thn (hi pins s1 σ H1 _ I1 q1) fun iv s2 ⟨y,H2,I2,r2,q2⟩=>?_))
 refine wpAny_bind (wpAny_standAt (wpAny_bind (wpAny_holding (thn (hs pins s2 σ H2 x y v ov iv u _ I2 r1 r2 r q2) fun _ s3 ⟨H3,I3,q3⟩=>?_))))
 exact wpAny_release ⟨σ,H3,I3,q3⟩
noncomputable def Q2q (te:TE)(g:TG):TS:=fun D σ H=>te σ H fun x H1=>g x σ H1 D.nx
theorem YF {tg e:Expr}{te:TE}{g:TG}(he:PE X e te)(hg:PG X tg g)(hs:swapsWithSole [tg] e pos.line X.env=pure false:=by rfl)(hw:swappedStores [tg] e X.env=pure none:=by rfl)
 (h1:(assignEach [tg] X.env).map (·.2)=[assign tg X.env]:=by rfl):PS X (.Assign [tg] e pos) (Q2q te g):=by
 intro pins s σ H D I h
 refine wpAny_Assign_stores (thn (he pins s σ H _ I h) fun v s1 ⟨x,H1,I1,r1,q1⟩=>?_) hs hw
 rw [h1]
 exact thn (hg pins s1 σ H1 x v _ I1 r1 q1) fun _ s2 q=>q
theorem EW {i:Nat} {x:Str} {e:Expr} {te:TE} {pos':Pos} (hN:X.N.Nodup) (hi:X.N[i]?=some x) (hx:Loc X.env.scope x) (he:PE X e te) (hs:swapsWith e (some (.Name x pos')) pos.line X.env=pure false:=by rfl) (hf:X.fn x=true\/X.env.scope.names.lookup x=some .local:=by first|exact .inl rfl|exact .inr rfl|assumption) :
 PS X (.Assign [.Name x pos'] e pos) (Q2q te (WL i)):=by
 intro pins s σ H D I h
 refine wpAny_Assign_Name (thn (he pins s σ H _ I h) fun v s1 ⟨y,H1,I1,r1,q1⟩=>?_) hs
 exact IK I1 hN hi hx r1 (fun s2 I2=>⟨_,H1,I2,q1⟩) hf
noncomputable def Q8p (i j:Nat)(ta:TA):TS:=fun D σ H=>ta σ H fun vs H1=>∃ v w,vs=[v,w]/\D.nx ((σ.set i (some v)).set j (some w)) H1
theorem J4m {i j:Nat}{x y:Str}{a b:Expr}{ta:TA}{px py pt:Pos}{kt k2 pt2}(hc:X.calm=true)(hN:X.N.Nodup)(hi:X.N[i]?=some x)(hj:X.N[j]?=some y)(hij:i≠j)
 (hx:X.env.scope.names.lookup x=some .local) (hy:X.env.scope.names.lookup y=some .local) (ha:PA X [a,b] ta)
 (hw:swappedStores [.Tuple [.Name x px,.Name y py] kt pt] (.Tuple [a,b] k2 pt2) X.env=pure (some [x,y]))
 (hs:swapsWithSole [.Tuple [.Name x px,.Name y py] kt pt] (.Tuple [a,b] k2 pt2) pos.line X.env=pure false:=by rfl) :
 PS X (.Assign [.Tuple [.Name x px,.Name y py] kt pt] (.Tuple [a,b] k2 pt2) pos) (Q8p i j ta):=by
 intro pins s σ H D I h
 rw [exec_Assign_arm]
 refine wpAny_bind (wpAny_standAt ?_)
 rw [hs]
 refine wpAny_bind (wpAny_pure ?_)
 rw [if_neg (by decide)]
 refine wpAny_bind (Tuple_ (thn (ha _ pins s σ H _ I h) fun us s1 ⟨vs,H1,I1,r1,q1⟩=>?_))
 obtain ⟨v,w,e1,q1⟩:=q1
 subst e1
 obtain ⟨u1,u2,rfl,rv,rw'⟩:∃ u1 u2,us=[u1,u2]/\RelV v u1/\RelV w u2:=by
  cases r1 with
  | cons p q =>
    cases q with
    | cons p' q' =>
      cases q'
      exact ⟨_,_,rfl,p,p'⟩
 refine wpAny_newObj_type ?_ (by show 2<=sizeLine;decide)
 have I2:Inv X pins σ H1 { s1 with heap:=s1.heap.push { cls:=.type "tuple",data:=.seq [u1,u2].toArray } }:=I1.kept (t':=s1.toks) fun b o e=>Heap.get?_push_of_some _ e
 rw [hw]
 refine wpAny_bind (wpAny_pure ?_)
 show wpAny (model X.prog X.w) X.A (do rule "assign.swapped-stores";let items <- unpackItems (.ref s1.heap.objs.size) 2 none;assignInOrder [fun v=>bindName X.env y v,fun v=>bindName X.env x v] items.reverse;pure Flow.next) _ _ _
 refine wpAny_bind (wpAny_rule (wpAny_bind (unpackItems_tuple (items:=#[u1,u2]) (I.ok.hd hc) (IsTup.new s1.heap _) fun h' hx'=>?_)))
 have I3:=I2.kept (h':=h') (t':=s1.toks) fun b o e=>hx' b o (Nat.ne_of_lt (Heap.lt_size e)) e
 show wpAny _ _ (assignInOrder [fun v=>bindName X.env y v,fun v=>bindName X.env x v] [u2,u1] >>= fun _=>pure Flow.next) _ _ _
 refine wpAny_bind (assignInOrder_cons (wpAny_bindName (IK I3 hN hj (.inl hy) rw' (fun s2 I4=>?_) (.inr hy))))
 refine assignInOrder_cons (wpAny_bindName (IK I4 hN hi (.inl hx) rv (fun s3 I5=>assignInOrder_nil (wpAny_pure ?_)) (.inr hx)))
 rw [List.set_comm _ _ (Ne.symm hij)] at I5
 exact ⟨_,H1,I5,q1⟩
end
section
variable {X:Cx}{pos:Pos}
noncomputable def J3s (c:TT)(tb:TS):TS:=fun D σ H=>∃ W:Nat->St->Hp->Prop,(∃ m,W m σ H)/\∀ m σ H,W m σ H ->
 c σ H fun b H1=>if b=true then ∃ N:St->Hp->Prop,(∀ σ' H',N σ' H'->∃ m',m'<m/\W m' σ' H')/\tb { D with nx:=N,ct:=N,bk:=D.nx } σ H1 else D.nx σ H1
theorem VS {c:Expr}{body:List Stmt}{tc:TT}{tb:TS}(hp:PassesOwn (model X.prog X.w) X.A X.env X.xe)(hc:PT X c tc)(hb:PSs X body tb):PS X (.While c body [] pos) (J3s tc tb):=by
 intro pins s σ H D I h
 obtain ⟨W,⟨m0,w0⟩,turn⟩:=h
 refine wpAny_While (codeAny_whileLoop (fun n s'=>∃ σ' H',Inv X pins σ' H' s'/\W n σ' H') ?_ m0 ⟨σ,H,I,w0⟩)
 rintro n s1 ⟨σ1,H1,I1,w1⟩
 refine wpAny_passesOwn hp (thn (hc pins s1 σ1 H1 _ I1 (turn n σ1 H1 w1)) fun b s2 ⟨H2,I2,q2⟩=>?_)
 cases b with
 | true =>
   obtain ⟨N,hN,q2⟩:=q2
   rw [if_pos rfl]
   refine wpAny_passesOwn hp (thn (hb pins s2 σ1 H2 _ I2 q2) fun f s3 q3=>?_)
   cases f with
   | next =>
     obtain ⟨σ3,H3,I3,n3⟩:=q3
     obtain ⟨m',hm,w3⟩:=hN σ3 H3 n3
     exact ⟨m',hm,σ3,H3,I3,w3⟩
   | cont =>
     obtain ⟨σ3,H3,I3,n3⟩:=q3
     obtain ⟨m',hm,w3⟩:=hN σ3 H3 n3
     exact ⟨m',hm,σ3,H3,I3,w3⟩
   | brk=>exact q3
   | ret v=>exact q3
 | false =>
   rw [if_neg Bool.false_ne_true]
   exact wpAny_execs_nil ⟨σ1,H2,I2,q2⟩
end
structure It where
 go:Nat->Hp->Prop
 yld:Nat->Hp->V->Hp->Prop
 stop:Nat->Hp->Prop
noncomputable def GA (X:Cx)(pins:List (Addr×Obj))(H:Hp)(b:Addr):Prop :=
 H b=none/\b≠X.env.locals/\b∉X.fs/\(b∈X.ex\/X.s₀.heap.objs.size<=b)/\(∀ x c,X.env.cells.lookup x=some c->c≠b)/\∀ p∈X.pn++pins,p.1≠b
theorem Inv.fpOk {X:Cx}{pins:List (Addr×Obj)}{σ:St}{H H':Hp}{s:Shared}{b:Addr}(I:Inv X pins σ H s)(hb:s.heap.objs.size<=b)(hn:H' b=none):GA X pins H' b:=by
 refine ⟨hn,Nat.ne_of_gt (Nat.lt_of_lt_of_le I.lt hb),I.nofs hb,.inr (Nat.le_trans I.sz hb),fun x c e z=>?_,fun p hp z=>?_⟩
 · obtain ⟨v,q⟩:=I.cell x c e
   exact absurd (Nat.lt_of_lt_of_le q.lt (by rw [z];exact hb)) (Nat.lt_irrefl _)
 · exact absurd (Nat.lt_of_lt_of_le (Heap.lt_size (I.pin p hp).1) (by rw [z];exact hb)) (Nat.lt_irrefl _)
structure Turn (P:Program)(w:World)(K:Fg)(tg:Expr)(J:It)(fp:List Addr)(it:Addr)(tn:Nat->Heap->Prop):Prop where
 mem:it∈fp
 obj:∀ i h,tn i h->∀ b∈fp,∃ o,h.get? b=some o/\∀ v,o.data≠.cell v
 keep:∀ i h h',tn i h->(∀ b∈fp,∀ o,h.get? b=some o->h'.get? b=some o)->tn i h'
 item:∀ (X:Cx),X.prog=P->X.w=w->X.K=K->X.calm=true->∀ (i:Nat) (pins:List (Addr×Obj)) (s:Shared) (σ:St) (H:Hp) (E:Value->Shared->Prop),Inv X pins σ H s->(∀ b∈fp,GA X pins H b)->tn i s.heap->J.go i H ->
  wpAny (model P w) X.A (pyNext (.ref it)) (fun r s1=>∃ u,r=some u /\
   wpAny (model P w) X.A (letOwnedTupleGo tg (.ref it) u) (fun _ s2=>∃ x H',Inv X pins σ H' s2/\RelV x u/\J.yld i H x H'/\tn (i+1) s2.heap/\∀ b∈fp,H' b=none) E s1) E s
 done:∀ (X:Cx),X.prog=P->X.w=w->X.K=K->X.calm=true->∀ (i:Nat) (pins:List (Addr×Obj)) (s:Shared) (σ:St) (H:Hp) (E:Value->Shared->Prop),Inv X pins σ H s->(∀ b∈fp,GA X pins H b)->tn i s.heap->J.stop i H ->
  wpAny (model P w) X.A (pyNext (.ref it)) (fun r s1=>r=none/\Inv X pins σ H s1) E s
 self:∀ (A:Around) (i:Nat) (s:Shared) (Q:Value->Shared->Prop) (E:Value->Shared->Prop),tn i s.heap->Q (.ref it) s->wpAny (model P w) A (pyIter (.ref it)) Q E s
noncomputable abbrev TI:=St->Hp->(It->Hp->Prop)->Prop
noncomputable def PIE (X:Cx)(pins:List (Addr×Obj))(σ:St)(tg:Expr)(R:It->Hp->Prop)(itv:Value)(s2:Shared):Prop :=
 ∃ (it:Addr) (fp:List Addr) (tn:Nat->Heap->Prop) (J:It) (H':Hp),itv=.ref it/\Inv X pins σ H' s2/\Turn X.prog X.w X.K tg J fp it tn/\tn 0 s2.heap/\(∀ b∈fp,GA X pins H' b)/\R J H'
noncomputable def PI (X:Cx)(tg iter:Expr)(wi:TI):Prop :=
 ∀ (pins:List (Addr×Obj)) (s:Shared) (σ:St) (H:Hp) (R:It->Hp->Prop),Inv X pins σ H s->wi σ H R ->
  wpAny (model X.prog X.w) X.A (eval iter X.env) (fun v s1=>wpAny (model X.prog X.w) X.A (pyIter v) (PIE X pins σ tg R) X.xe s1) X.xe s
theorem J5y {M:Model}{A:Around}{E:Value->Shared->Prop}{s:Shared}{tg:Expr}{it:Addr}{u:Value}{o:Obj}{n:String}{vs:Array Value}{Q:Unit->Shared->Prop}(ho:s.heap.get? it=some o)(hc:o.cls=.type n)(hd:o.data=.fields vs)
 (hn:["enumerate","zip","dict_itemiterator","dict_reverseitemiterator","odict_iterator","itertools.zip_longest","itertools.pairwise"].contains n=false) (hQ:Q () s):wpAny M A (letOwnedTupleGo tg (.ref it) u) Q E s:=by
 unfold letOwnedTupleGo
 cases tg<;>first
  | exact wpAny_pure hQ
  | (cases u<;>first
   | exact wpAny_pure hQ
   | (refine wpAny_bind (wpAny_load ho ?_)
      rw [hc,hd]
      show wpAny M A (if (["enumerate","zip","dict_itemiterator","dict_reverseitemiterator","odict_iterator","itertools.zip_longest","itertools.pairwise"].contains n&&vs[0]?==some (rawInt _))=true then _ else _) Q E s
      rw [if_neg (by intro h;rw [hn,Bool.false_and] at h;cases h)]
      exact wpAny_pure hQ))
noncomputable def Itl (K:Fg)(a:Addr):It :=
 ⟨fun i H=>∃ xs x,SqL K H a xs/\xs[i]?=some x,fun i H x H'=>H'=H/\∀ xs,SqL K H a xs->xs[i]?=some x,fun i H=>∃ xs,SqL K H a xs/\xs.length<=i⟩
noncomputable def Itt (K:Fg)(a:Addr):It :=
 ⟨fun i H=>∃ xs x,SqT K H a xs/\xs[i]?=some x,fun i H x H'=>H'=H/\∀ xs,SqT K H a xs->xs[i]?=some x,fun i H=>∃ xs,SqT K H a xs/\xs.length<=i⟩
noncomputable def Itr (lo:Int)(n:Nat):It:=⟨fun i _=>i<n,fun i H x H'=>H'=H/\x=.int (lo+i),fun i _=>n<=i⟩
theorem J2a {tg:Expr}(a it:Addr):Turn P w K tg (Itl K a) [it] it (fun i h=>h.IsListIter it a i) where
 mem:=by simp
 obj:=fun i h st b hb=>by
  have e:b=it:=by simpa using hb
  subst e
  obtain ⟨o,e,c,d⟩:=st
  exact ⟨o,e,fun v z=>by rw [d] at z;cases z⟩
 keep:=fun i h h' st k=>st.at fun o e=>k it (by simp) o e
 item:=by
  intro X hP hw hK hc i pins s σ H E I hf st hg
  subst hP hw hK
  obtain ⟨xs,x,hq,hx⟩:=hg
  obtain ⟨its,rv,p,hz⟩:=I.list hq
  obtain ⟨u,hu,ru⟩:=rv.get hx
  obtain ⟨f0,f1,f2,f3,f4,f5⟩:=hf it (by simp)
  refine wpAny_pyNext_list_item st p.isList (x:=u) (by simpa using hu) fun h' st' sb=>?_
  have I1:Inv X pins σ H { s with heap:=h' }:=I.turned (t':=s.toks) (fun b o hb e=>(sb.2 b hb).trans e) f0 f1 f3 f4 f5
  obtain ⟨o,e,c,d⟩:=id st'
  exact ⟨u,rfl,J5y (s:={ s with heap:=h' }) e c d (by decide) ⟨x,H,I1,ru,⟨rfl,fun ys hy=>by rw [I.list_inj hy hq];exact hx⟩,st',fun b hb=>(hf b hb).1⟩⟩
 done:=by
  intro X hP hw hK hc i pins s σ H E I hf st hg
  subst hP hw hK
  obtain ⟨xs,hq,hx⟩:=hg
  obtain ⟨its,rv,p,hz⟩:=I.list hq
  obtain ⟨f0,f1,f2,f3,f4,f5⟩:=hf it (by simp)
  have hl:=rv.length
  exact wpAny_pyNext_list_end (I.ok.hd hc) st p.isList (by simp;omega) fun h' eb=>⟨rfl,I.turned (t':=s.toks) (fun b o hb e=>eb b o hb e) f0 f1 f3 f4 f5⟩
 self:=fun _ _ _ _ _ st h=>wpAny_pyIter_listiter st h
theorem XT {tg:Expr}(a it:Addr):Turn P w K tg (Itt K a) [it] it (fun i h=>h.IsTupleIter it a i) where
 mem:=by simp
 obj:=fun i h st b hb=>by
  have e:b=it:=by simpa using hb
  subst e
  obtain ⟨o,e,c,d⟩:=st
  exact ⟨o,e,fun v z=>by rw [d] at z;cases z⟩
 keep:=fun i h h' st k=>st.at fun o e=>k it (by simp) o e
 item:=by
  intro X hP hw hK hc i pins s σ H E I hf st hg
  subst hP hw hK
  obtain ⟨xs,x,hq,hx⟩:=hg
  obtain ⟨its,rv,p,hz⟩:=I.tuple hq
  obtain ⟨u,hu,ru⟩:=rv.get hx
  obtain ⟨f0,f1,f2,f3,f4,f5⟩:=hf it (by simp)
  refine wpAny_pyNext_tuple_item st (show s.heap.IsTuple a its.toArray from p) (x:=u) (by simpa using hu) fun h' st' sb=>?_
  have I1:Inv X pins σ H { s with heap:=h' }:=I.turned (t':=s.toks) (fun b o hb e=>(sb.2 b hb).trans e) f0 f1 f3 f4 f5
  obtain ⟨o,e,c,d⟩:=id st'
  exact ⟨u,rfl,J5y (s:={ s with heap:=h' }) e c d (by decide) ⟨x,H,I1,ru,⟨rfl,fun ys hy=>by rw [I.tuple_inj hy hq];exact hx⟩,st',fun b hb=>(hf b hb).1⟩⟩
 done:=by
  intro X hP hw hK hc i pins s σ H E I hf st hg
  subst hP hw hK
  obtain ⟨xs,hq,hx⟩:=hg
  obtain ⟨its,rv,p,hz⟩:=I.tuple hq
  obtain ⟨f0,f1,f2,f3,f4,f5⟩:=hf it (by simp)
  have hl:=rv.length
  exact wpAny_pyNext_tuple_end (I.ok.hd hc) st (show s.heap.IsTuple a its.toArray from p) (by simp;omega) fun h' eb=>⟨rfl,I.turned (t':=s.toks) (fun b o hb e=>eb b o hb e) f0 f1 f3 f4 f5⟩
 self:=fun _ _ _ _ _ st h=>wpAny_pyIter_tupleiter st h
theorem XU {tg:Expr}(it:Addr)(lo:Int)(n:Nat):Turn P w K tg (Itr lo n) [it] it (fun i h=>IsRangeIter h it (lo+(i:Nat)*1) ((n:Int) - (i:Nat)) 1) where
 mem:=by simp
 obj:=fun i h st b hb=>by
  have e:b=it:=by simpa using hb
  subst e
  exact ⟨_,st,fun v z=>by
   have z':Data.fields _=Data.cell v:=z
   cases z'⟩
 keep:=fun i h h' st k=>k it (by simp) _ st
 item:=by
  intro X hP hw hK hc i pins s σ H E I hf st hg
  subst hP hw hK
  obtain ⟨f0,f1,f2,f3,f4,f5⟩:=hf it (by simp)
  have W:=Walks.range (prog:=X.prog) (w:=X.w) (I.ok.hd hc) it lo 1 n
  refine W.item i s _ _ hg st fun v h' tk hv st' kk=>?_
  obtain ⟨t,rfl⟩:=hv
  have I1:Inv X pins σ H { s with heap:=h',toks:=tk }:=I.turned (fun b o hb e=>kk b o (by simpa using hb) e) f0 f1 f3 f4 f5
  refine ⟨_,rfl,J5y (s:={ s with heap:=h',toks:=tk }) (n:="range_iterator") st' rfl rfl (by decide) ⟨.int (lo+i),H,I1,⟨t,?_⟩,⟨rfl,rfl⟩,st',fun b hb=>(hf b hb).1⟩⟩
  rw [Int.mul_one]
 done:=by
  intro X hP hw hK hc i pins s σ H E I hf st hg
  subst hP hw hK
  obtain ⟨f0,f1,f2,f3,f4,f5⟩:=hf it (by simp)
  exact wpAny_pyNext_range_end (I.ok.hd hc) st (by have:n<=i:=hg;omega) fun h' eb=>⟨rfl,I.turned (t':=s.toks) (fun b o hb e=>eb b o hb e) f0 f1 f3 f4 f5⟩
 self:=fun _ _ _ _ _ st h=>wpAny_pyIter_rangeiter st h
section
variable {X:Cx}{tg:Expr}
theorem VP {pins:List (Addr×Obj)}{σ:St}{H:Hp}{s:Shared}{R:It->Hp->Prop}{E:Value->Shared->Prop}{lo hi:Int}{t u v:Tok}{tk:Nat}(I:Inv X pins σ H s)(h1 : -(2 ^ 62)<=lo)(h2:lo<2 ^ 62)(h3 : -(2 ^ 62)<=hi)(h4:hi<2 ^ 62)
 (q:R (Itr lo (hi - lo).toNat) H):wpAny (model X.prog X.w) X.A (pyIter (.ref s.heap.objs.size)) (PIE X pins σ tg R) E { s with heap:=s.heap.push { cls:=.type "range",data:=.fields #[.int lo t,.int hi u,.int 1 v] },toks:=tk }:=by
 refine wpAny_pyIter_range (IsRange.new ..) (small_one h1 h2 h3 h4) ?_
 have I1:Inv X pins σ H { s with heap:=s.heap.push { cls:=.type "range",data:=.fields #[.int lo t,.int hi u,.int 1 v] },toks:=tk }:=I.kept fun b o e=>Heap.get?_push_of_some _ e
 refine ⟨(s.heap.push { cls:=.type "range",data:=.fields #[.int lo t,.int hi u,.int 1 v] }).objs.size,[(s.heap.push { cls:=.type "range",data:=.fields #[.int lo t,.int hi u,.int 1 v] }).objs.size],_,_,H,rfl,
  I1.kept (t':=tk) fun b o e=>Heap.get?_push_of_some _ e,XU _ lo (hi - lo).toNat,?_,fun b hb=>?_,q⟩
 · have e1:lo+((0:Nat):Int)*1=lo:=by simp
   have e2:(((hi - lo).toNat:Nat):Int) - ((0:Nat):Int)=Builtin.Range.rangeSize lo hi 1:=by rw [rangeSize_one];split<;>omega
   show IsRangeIter _ _ (lo+((0:Nat):Int)*1) ((((hi - lo).toNat:Nat):Int) - ((0:Nat):Int)) 1
   rw [e1,e2]
   exact Heap.get?_push_size _ rfl
 · have e:b=(s.heap.push { cls:=.type "range",data:=.fields #[.int lo t,.int hi u,.int 1 v] }).objs.size:=by simpa using hb
   subst e
   exact I1.fpOk (Nat.le_refl _) (I1.hok.fresh (Nat.le_refl _))
noncomputable def Q7e (ta:TA):TI:=fun σ H R=>ta σ H fun vs H1=>∃ j:Int,vs=[.int j]/\-(2 ^ 62)<=j/\j<2 ^ 62/\R (Itr 0 j.toNat) H1
noncomputable def Q7d (ta:TA):TI:=fun σ H R=>ta σ H fun vs H1=>∃ i j:Int,vs=[.int i,.int j]/\(-(2 ^ 62)<=i/\i<2 ^ 62/\-(2 ^ 62)<=j/\j<2 ^ 62)/\R (Itr i (j - i).toNat) H1
theorem QG {a:Expr}{ta:TA}{p pos:Pos}(hg:Gl X "range") (hm:X.mg "range" = none) (ha:PA X [a] ta) (hs:starEach [a] X.env=[(false,eval a X.env)]:=by rfl):PI X tg (.Call (.Name "range" p) [a] [] pos) (Q7e ta):=by
 intro pins s σ H R I h
 refine Call_ (LD I hg hm boot_range (PyProof.Rows.callWith_type1 (thn (ha pos pins s σ H _ I h) fun us s1 ⟨vs,H1,I1,r1,q1⟩=>?_) hs rfl))
 obtain ⟨j,e,q1,q2,q⟩:=q1
 subst e
 cases r1 with
 | cons r rr =>
   cases rr
   obtain ⟨t,rfl⟩:=r
   exact call_range_1 (VP I1 (by omega) (by omega) q1 q2 (by simpa using q))
theorem J2h {a b:Expr}{ta:TA}{p pos:Pos}(hg:Gl X "range") (hm:X.mg "range" = none) (ha:PA X [a,b] ta) (hs:starEach [a,b] X.env=[(false,eval a X.env),(false,eval b X.env)]:=by rfl) (hs2:starEach [b] X.env=[(false,eval b X.env)]:=by rfl) :
 PI X tg (.Call (.Name "range" p) [a,b] [] pos) (Q7d ta):=by
 intro pins s σ H R I h
 refine Call_ (LD I hg hm boot_range (PyProof.Rows.callWith_type1 (thn (ha pos pins s σ H _ I h) fun us s1 ⟨vs,H1,I1,r1,q1⟩=>?_) (by rw [hs,hs2]) (by rw [hs2];rfl)))
 obtain ⟨i,j,e,⟨q1,q2,q3,q4⟩,q⟩:=q1
 subst e
 cases r1 with
 | cons r rr =>
   cases rr with
   | cons r' rr =>
     cases rr
     obtain ⟨t,rfl⟩:=r
     obtain ⟨t',rfl⟩:=r'
     exact call_range_2 (VP I1 q1 q2 q3 q4 q)
noncomputable def Q6g (wi:TI)(g:TG)(tb:TS):TS:=fun D σ H=>wi σ H fun J H1=>∃ W:Nat->Nat->St->Hp->Prop,(∃ m,W 0 m σ H1)/\∀ i m σ H,W i m σ H ->
 (J.stop i H/\D.nx σ H)\/(J.go i H/\∃ N:St->Hp->Prop,(∀ σ' H',N σ' H'->∃ m',m'<m/\W (i+1) m' σ' H')/\∀ x H',J.yld i H x H'->g x σ H' fun σ2 H2=>tb { D with nx:=N,ct:=N,bk:=D.nx } σ2 H2)
noncomputable def FT (fp:List Addr)(h:Heap):List (Addr×Obj):=fp.filterMap fun b=>(h.get? b).map fun o=>(b,o)
theorem BJ {fp:List Addr}{h:Heap}{b:Addr}{o:Obj}(hb:b∈fp)(e:h.get? b=some o):(b,o)∈FT fp h:=List.mem_filterMap.mpr ⟨b,hb,by rw [e];rfl⟩
theorem QJ {fp:List Addr}{h:Heap}{p:Addr×Obj}(hp:p∈FT fp h):p.1∈fp/\h.get? p.1=some p.2:=by
 obtain ⟨b,hb,e⟩:=List.mem_filterMap.mp hp
 cases q:h.get? b with
 | none=>rw [q] at e;cases e
 | some o =>
   rw [q] at e
   have e':(b,o)=p:=Option.some.inj e
   subst e'
   exact ⟨hb,q⟩
theorem Inv.pinned {pins:List (Addr×Obj)}{σ:St}{H:Hp}{s:Shared}{fp:List Addr}(I:Inv X pins σ H s)(hf:∀ b∈fp,GA X pins H b)(ho:∀ b∈fp,∃ o,s.heap.get? b=some o/\∀ v,o.data≠.cell v):Inv X (pins++FT fp s.heap) σ H s :=
 I.pins_of fun p hp=>(List.mem_append.mp hp).elim (fun z=>I.pin p (List.mem_append_right _ z)) fun z=>by
  obtain ⟨hb,e⟩:=QJ z
  obtain ⟨f0,f1,f2,_⟩:=hf p.1 hb
  obtain ⟨o,e',d⟩:=ho p.1 hb
  rw [e] at e';cases e'
  exact ⟨e,f0,f1,f2,d⟩
theorem Inv.unpinned {pins pl:List (Addr×Obj)}{σ:St}{H:Hp}{s:Shared}(I:Inv X (pins++pl) σ H s):Inv X pins σ H s:=I.pins_of fun p hp=>I.pin p (List.mem_append_right _ (List.mem_append_left _ hp))
theorem J4o {iter:Expr}{body:List Stmt}{wi:TI}{g:TG}{tb:TS}{pos:Pos}(hp:PassesOwn (model X.prog X.w) X.A X.env X.xe)(hc:X.calm=true)(hi:PI X tg iter wi)(hg:PG X tg g)(hb:PSs X body tb)
 (hs:∀ x,foldedSetIterable iter X.env x=pure x:=by intro _;rfl):PS X (.For tg iter body [] pos) (Q6g wi g tb):=by
 intro pins s σ H D I h
 refine wpAny_For (thn (hi pins s σ H _ I h) fun v s1 h1=>thn h1 fun itv s2 h2=>?_) hs
 obtain ⟨it,fp,tn,J,H2,e,I2,T,st2,f2,W,⟨m0,w0⟩,turn⟩:=h2
 subst e
 have stat:∀ {H':Hp},(∀ b∈fp,H' b=none)->∀ b∈fp,GA X pins H' b:=fun hn b hb=>⟨hn b hb,(f2 b hb).2⟩
 refine codeAny_forLoop_any (fun n s'=>∃ i σ' H',Inv X pins σ' H' s'/\tn i s'.heap/\(∀ b∈fp,H' b=none)/\W i n σ' H') ?_ m0 ⟨0,σ,H2,I2,st2,fun b hb=>(f2 b hb).1,w0⟩
 rintro n s3 ⟨i,σ3,H3,I3,st3,fr3,w3⟩
 rcases turn i n σ3 H3 w3 with ⟨stop,qn⟩|⟨go,N,hN,step⟩
 · refine wpAny_passesOwn hp (thn (T.done X rfl rfl rfl hc i pins s3 σ3 H3 X.xe I3 (stat fr3) st3 stop) fun r s4 ⟨hr,I4⟩=>?_)
   subst hr
   exact wpAny_execs_nil ⟨σ3,H3,I4,qn⟩
 · refine wpAny_passesOwn hp (thn (T.item X rfl rfl rfl hc i pins s3 σ3 H3 X.xe I3 (stat fr3) st3 go) fun r s4 ⟨u,hr,h4⟩=>?_)
   subst hr
   refine wpAny_passesOwn hp (thn h4 fun _ s5 ⟨x,H5,I5,r5,y5,st5,fr5⟩=>?_)
   have I5':=I5.pinned (stat fr5) (T.obj _ _ st5)
   refine wpAny_passesOwn hp (thn (hg _ s5 σ3 H5 x u _ I5' r5 (step x H5 y5)) fun _ s6 ⟨σ6,H6,I6,q6⟩=>?_)
   refine wpAny_passesOwn hp (thn (hb _ s6 σ6 H6 _ I6 q6) fun f s7 q7=>?_)
   have again:∀ {σ7:St} {H7:Hp},Inv X (pins++FT fp s5.heap) σ7 H7 s7->N σ7 H7->∃ m,m<n/\∃ i σ' H',Inv X pins σ' H' s7/\tn i s7.heap/\(∀ b∈fp,H' b=none)/\W i m σ' H':=fun {σ7 H7} I7 n7=>by
    obtain ⟨m',hm,w7⟩:=hN σ7 H7 n7
    refine ⟨m',hm,i+1,σ7,H7,I7.unpinned,T.keep _ _ _ st5 fun b hb o e=>(I7.pin (b,o) (List.mem_append_right _ (List.mem_append_right _ (BJ hb e)))).1,fun b hb=>?_,w7⟩
    obtain ⟨o,e,d⟩:=T.obj _ _ st5 b hb
    exact (I7.pin (b,o) (List.mem_append_right _ (List.mem_append_right _ (BJ hb e)))).2.1
   cases f with
   | next=>obtain ⟨σ7,H7,I7,n7⟩:=q7;exact again I7 n7
   | cont=>obtain ⟨σ7,H7,I7,n7⟩:=q7;exact again I7 n7
   | brk=>obtain ⟨σ7,H7,I7,q7⟩:=q7;exact ⟨σ7,H7,I7.unpinned,q7⟩
   | ret v=>obtain ⟨x7,σ7,H7,I7,r7,q7⟩:=q7;exact ⟨x7,σ7,H7,I7.unpinned,r7,q7⟩
end
theorem J2z {lo:Int}{n:Nat}{g:TG}{tb:TS}{D:Ends}{σ:St}{H:Hp}(Pv:Nat->St->Hp->Prop)(h0:Pv 0 σ H)
 (hs:∀ i σ H,i<n->Pv i σ H->g (.int (lo+i)) σ H fun σ2 H2=>tb { D with nx:=Pv (i+1),ct:=Pv (i+1),bk:=D.nx } σ2 H2) (hd:∀ σ H,Pv n σ H->D.nx σ H) :
 ∃ W:Nat->Nat->St->Hp->Prop,(∃ m,W 0 m σ H)/\∀ i m σ H,W i m σ H ->
  ((Itr lo n).stop i H/\D.nx σ H)\/((Itr lo n).go i H/\∃ N:St->Hp->Prop,(∀ σ' H',N σ' H'->∃ m',m'<m/\W (i+1) m' σ' H')/\∀ x H',(Itr lo n).yld i H x H'->g x σ H' fun σ2 H2=>tb { D with nx:=N,ct:=N,bk:=D.nx } σ2 H2):=by
 refine ⟨fun i m σ H=>m=n - i/\i<=n/\Pv i σ H,⟨n,by simp,Nat.zero_le _,h0⟩,?_⟩
 rintro i m σ H ⟨rfl,hi,p⟩
 by_cases hlt:i<n
 · refine .inr ⟨hlt,Pv (i+1),fun σ' H' p'=>⟨n - (i+1),by omega,rfl,hlt,p'⟩,fun x H' y=>?_⟩
   obtain ⟨e,y⟩:=y
   subst e y
   exact hs i σ _ hlt p
 · have e:i=n:=by omega
   subst e
   exact .inl ⟨Nat.le_refl _,hd σ H p⟩
theorem UR {c:TT}{tb:TS}{D:Ends}{σ:St}{H:Hp}(Pv:St->Hp->Prop)(μ:St->Hp->Nat)(h0:Pv σ H)
 (hs:∀ σ H,Pv σ H->c σ H fun b H1=>if b=true then tb { D with nx:=fun σ' H'=>Pv σ' H'/\μ σ' H'<μ σ H,ct:=fun σ' H'=>Pv σ' H'/\μ σ' H'<μ σ H,bk:=D.nx } σ H1 else D.nx σ H1)
 (mono:∀ σ H Q Q',(∀ b H1,Q b H1->Q' b H1)->c σ H Q->c σ H Q'):J3s c tb D σ H:=by
 refine ⟨fun m σ H=>m=μ σ H/\Pv σ H,⟨_,rfl,h0⟩,?_⟩
 rintro m σ H ⟨rfl,p⟩
 refine mono σ H _ _ (fun b H1 q=>?_) (hs σ H p)
 cases b with
 | true=>exact ⟨_,fun σ' H' ⟨p',l⟩=>⟨_,l,rfl,p'⟩,q⟩
 | false=>exact q
noncomputable abbrev R2:=V->V->Hp->VK->Prop
noncomputable def OpR (X:Cx)(f:Value->Value->Sem Value)(r:R2):Prop :=
 ∀ (pins:List (Addr×Obj)) (s:Shared) (σ:St) (H:Hp) (x y:V) (v u:Value) (Q:VK),Inv X pins σ H s->RelV x v->RelV y u->r x y H Q ->
  wpAny (model X.prog X.w) X.A (f v u) (EP X pins σ Q) X.xe s
noncomputable def UnR (X:Cx)(f:Value->Sem Value)(r:V->Hp->VK->Prop):Prop :=
 ∀ (pins:List (Addr×Obj)) (s:Shared) (σ:St) (H:Hp) (x:V) (v:Value) (Q:VK),Inv X pins σ H s->RelV x v->r x H Q ->
  wpAny (model X.prog X.w) X.A (f v) (EP X pins σ Q) X.xe s
noncomputable def CS (X:Cx)(f:Value)(r:List V->Hp->VK->Prop):Prop :=
 ∀ (pins:List (Addr×Obj)) (s:Shared) (σ:St) (H:Hp) (xs:List V) (us:List Value) (Q:VK),Inv X pins σ H s->Vals xs us->r xs H Q ->
  wpAny (model X.prog X.w) X.A (call f us) (EP X pins σ Q) X.xe s
noncomputable def Q9j (X:Cx)(r:V->Hp->(Bool->Hp->Prop)->Prop):Prop :=
 ∀ (pins:List (Addr×Obj)) (s:Shared) (σ:St) (H:Hp) (x:V) (v:Value) (Q:Bool->Hp->Prop),Inv X pins σ H s->RelV x v->r x H Q ->
  wpAny (model X.prog X.w) X.A (truthy v) (TP X pins σ Q) X.xe s
noncomputable def tOp (r:R2)(ta tb:TE):TE:=fun σ H Q=>ta σ H fun x H1=>tb σ H1 fun y H2=>r x y H2 Q
noncomputable def tUn (r:V->Hp->VK->Prop)(ta:TE):TE:=fun σ H Q=>ta σ H fun x H1=>r x H1 Q
noncomputable def rI (C:Int->Int->Prop)(g:Int->Int->V):R2:=fun x y H Q=>∃ i j,x=.int i/\y=.int j/\C i j/\Q (g i j) H
noncomputable def rI0 (g:Int->Int->V):R2:=fun x y H Q=>∃ i j,x=.int i/\y=.int j/\Q (g i j) H
noncomputable def rU (g:Int->V):V->Hp->VK->Prop:=fun x H Q=>∃ i,x=.int i/\Q (g i) H
section
variable {X:Cx}{a b:Expr}{ta tb:TE}{pos:Pos}
theorem Q5k (ha:PE X a ta)(hb:PE X b tb){pins:List (Addr×Obj)}{s:Shared}{σ:St}{H:Hp}{R:V->V->Hp->Prop}(I:Inv X pins σ H s)
 (h:ta σ H fun x H1=>tb σ H1 fun y H2=>R x y H2) {Q:Value->Shared->Prop} {f:Value->Value->Sem Value}
 (hf:∀ v u s2 x y H2,Inv X pins σ H2 s2->RelV x v->RelV y u->R x y H2->wpAny (model X.prog X.w) X.A (f v u) Q X.xe s2) :
 wpAny (model X.prog X.w) X.A (eval a X.env) (fun v s₁=>wpAny (model X.prog X.w) X.A (eval b X.env) (fun u s₂=>wpAny (model X.prog X.w) X.A (f v u) Q X.xe s₂) X.xe s₁) X.xe s:=by
 refine thn (ha pins s σ H _ I h) fun v s1 ⟨x,H1,I1,r1,q1⟩=>?_
 refine thn (hb pins s1 σ H1 _ I1 q1) fun u s2 ⟨y,H2,I2,r2,q2⟩=>?_
 exact hf v u s2 x y H2 I2 r1 r2 q2
theorem BR {op:Operator}{r:R2}(ho:OpR X (binaryOp op) r)(ha:PE X a ta)(hb:PE X b tb):PE X (.BinOp a op b pos) (tOp r ta tb):=by
 intro pins s σ H Q I h
 exact wpAny_BinOp (Q5k ha hb I h fun v u s2 x y H2 I2 rx ry q=>ho pins s2 σ H2 x y v u Q I2 rx ry q)
theorem Q6r {op:UnaryOp}{r:V->Hp->VK->Prop}(ho:UnR X (unaryOp op) r)(ha:PE X a ta):PE X (.UnaryOp op a pos) (tUn r ta):=by
 intro pins s σ H Q I h
 exact UnaryOp_ (thn (ha pins s σ H _ I h) fun v s1 ⟨x,H1,I1,r1,q1⟩=>ho pins s1 σ H1 x v Q I1 r1 q1)
theorem opI {f:Value->Value->Sem Value}{C:Int->Int->Prop}{g:Int->Int->Int}
 (rule:∀ (i j:Int) (t u:Tok) (s:Shared) (Q:Value->Shared->Prop) (E:Value->Shared->Prop),C i j->Q (.int (g i j) s.toks) { s with toks:=s.toks+1 }->wpAny (model X.prog X.w) X.A (f (.int i t) (.int j u)) Q E s) :
 OpR X f (rI C fun i j=>.int (g i j)):=by
 intro pins s σ H x y v u Q I rx ry h
 obtain ⟨i,j,rfl,rfl,hc,q⟩:=h
 obtain ⟨t,rfl⟩:=rx
 obtain ⟨t',rfl⟩:=ry
 exact rule i j t t' s _ _ hc ⟨.int (g i j),H,I.tok _,⟨_,rfl⟩,q⟩
theorem Q6v {f:Value->Value->Sem Value}{g:Int->Int->Int}
 (rule:∀ (i j:Int) (t u:Tok) (s:Shared) (Q:Value->Shared->Prop) (E:Value->Shared->Prop),Q (.int (g i j) s.toks) { s with toks:=s.toks+1 }->wpAny (model X.prog X.w) X.A (f (.int i t) (.int j u)) Q E s) :
 OpR X f (rI0 fun i j=>.int (g i j)):=by
 intro pins s σ H x y v u Q I rx ry h
 obtain ⟨i,j,rfl,rfl,q⟩:=h
 obtain ⟨t,rfl⟩:=rx
 obtain ⟨t',rfl⟩:=ry
 exact rule i j t t' s _ _ ⟨.int (g i j),H,I.tok _,⟨_,rfl⟩,q⟩
theorem J9g {f:Value->Value->Sem Value}{g:Int->Int->Bool}
 (rule:∀ (i j:Int) (t u:Tok) (s:Shared) (Q:Value->Shared->Prop) (E:Value->Shared->Prop),Q (.bool (g i j)) s->wpAny (model X.prog X.w) X.A (f (.int i t) (.int j u)) Q E s) :
 OpR X f (rI0 fun i j=>.bl (g i j)):=by
 intro pins s σ H x y v u Q I rx ry h
 obtain ⟨i,j,rfl,rfl,q⟩:=h
 obtain ⟨t,rfl⟩:=rx
 obtain ⟨t',rfl⟩:=ry
 exact rule i j t t' s _ _ ⟨.bl (g i j),H,I,rfl,q⟩
noncomputable def Q9l (i j:Int):Prop:=0<=j/\j<=1000000/\i.natAbs<2 ^ 64
theorem AX:OpR X (binaryOp .Add) (rI0 fun i j=>.int (i+j)):=Q6v fun _ _ _ _ _ _ _ q=>add_int q
theorem AJ:OpR X (binaryOp .Sub) (rI0 fun i j=>.int (i - j)):=Q6v fun _ _ _ _ _ _ _ q=>sub_int q
theorem HX:OpR X (binaryOp .Mod) (rI (fun _ j=>0<j) fun i j=>.int (i % j)):=opI fun i j _ _ _ _ _ hc q=>by
 have h1:(0:Int)<j:=hc
 exact mod_int' (by omega) (by rw [Int.fmod_eq_emod_of_nonneg i (by omega)];exact q)
theorem J9f:OpR X (binaryOp .Mod) (rI (fun _ j=>j≠0) fun i j=>.int (i.fmod j)):=opI fun _ _ _ _ _ _ _ hc q=>mod_int' hc q
theorem YH:OpR X (binaryOp .Pow) (rI Q9l fun i j=>.int (i ^ j.toNat)):=opI fun _ _ _ _ _ _ _ hc q=>pow_int_small hc.1 hc.2.1 hc.2.2 q
theorem unI {f:Value->Sem Value}{g:Int->Int}
 (rule:∀ (i:Int) (t:Tok) (s:Shared) (Q:Value->Shared->Prop) (E:Value->Shared->Prop),Q (.int (g i) s.toks) { s with toks:=s.toks+1 }->wpAny (model X.prog X.w) X.A (f (.int i t)) Q E s) :
 UnR X f (rU fun i=>.int (g i)):=by
 intro pins s σ H x v Q I rx h
 obtain ⟨i,rfl,q⟩:=h
 obtain ⟨t,rfl⟩:=rx
 exact rule i t s _ _ ⟨.int (g i),H,I.tok _,⟨_,rfl⟩,q⟩
theorem Q2e:UnR X (unaryOp .USub) (rU fun i=>.int (-i)):=unI fun _ _ _ _ _ q=>neg_int q
end
noncomputable def Q6l:V->V->Bool
 | .non,.non=>true|.non,.int _=>true|.int _,.non=>true|.non,.bl _=>true|.bl _,.non=>true|.non,.str _=>true|.str _,.non=>true
 | .int _,.int _=>true|.bl _,.bl _=>true|.str _,.str _=>true|.byt _,.byt _=>true
 | .int _,.str _=>true|.str _,.int _=>true|.bl _,.str _=>true|.str _,.bl _=>true
 | _,_=>false
noncomputable def rEq:R2:=fun x y H Q=>Q6l x y=true/\Q (.bl (decide (x=y))) H
noncomputable def rNe:R2:=fun x y H Q=>Q6l x y=true/\Q (.bl (!decide (x=y))) H
theorem J1f {i j:Int}:decide (V.int i=V.int j)=(i==j):=by
 rw [Bool.eq_iff_iff]
 simp
theorem J6m {i j:Bool}:decide (V.bl i=V.bl j)=(i==j):=by
 rw [Bool.eq_iff_iff]
 simp
theorem J1e {i j:Str}:decide (V.str i=V.str j)=(i==j):=by
 rw [Bool.eq_iff_iff]
 simp
theorem J1g {i j:Array UInt8}:decide (V.byt i=V.byt j)=(i.toList==j.toList):=by
 rw [Bool.eq_iff_iff]
 cases i
 cases j
 simp
section
variable {X:Cx}{a b c:Expr}{ta tb tc:TE}{pos:Pos}
theorem Z3 {pins:List (Addr×Obj)}{σ:St}{H:Hp}{s:Shared}{Q:VK}{k k':Bool}(I:Inv X pins σ H s)(q:Q (.bl k) H)(e:k=k'):EP X pins σ Q (.bool k') s:=by
 subst e
 exact ⟨.bl k,H,I,rfl,q⟩
theorem GB:OpR X (compareOp .Eq) rEq:=by
 intro pins s σ H x y v u Q I rx ry h
 obtain ⟨hs,q⟩:=h
 cases x with
 | non =>
   cases rx
   cases y with
   | non=>cases ry;exact PySem.EqNone.eq_none_none (Z3 I q (by simp))
   | bl j=>cases ry;exact PySem.EqNone.eq_none_bool (Z3 I q (by simp))
   | int j=>obtain ⟨t',rfl⟩:=ry;exact PySem.EqNone.eq_none_int (Z3 I q (by simp))
   | str j=>obtain ⟨t',rfl⟩:=ry;exact PySem.EqNone.eq_none_str (Z3 I q (by simp))
   | _=>exact absurd (show false=true from hs) Bool.false_ne_true
 | bl i =>
   cases rx
   cases y with
   | non=>cases ry;exact PySem.EqNone.eq_bool_none (Z3 I q (by simp))
   | bl j=>cases ry;exact eq_bool (Z3 I q J6m)
   | str j=>obtain ⟨t',rfl⟩:=ry;exact PySem.EqMixed.eq_bool_str (Z3 I q (by simp))
   | _=>exact absurd (show false=true from hs) Bool.false_ne_true
 | int i =>
   obtain ⟨t,rfl⟩:=rx
   cases y with
   | non=>cases ry;exact PySem.EqNone.eq_int_none (Z3 I q (by simp))
   | int j=>obtain ⟨t',rfl⟩:=ry;exact eq_int (Z3 I q J1f)
   | str j=>obtain ⟨t',rfl⟩:=ry;exact PySem.EqMixed.eq_int_str (Z3 I q (by simp))
   | _=>exact absurd (show false=true from hs) Bool.false_ne_true
 | str i =>
   obtain ⟨t,rfl⟩:=rx
   cases y with
   | non=>cases ry;exact PySem.EqNone.eq_str_none (Z3 I q (by simp))
   | bl j=>cases ry;exact PySem.EqMixed.eq_str_bool (Z3 I q (by simp))
   | int j=>obtain ⟨t',rfl⟩:=ry;exact PySem.EqMixed.eq_str_int (Z3 I q (by simp))
   | str j=>obtain ⟨t',rfl⟩:=ry;exact eq_str (Z3 I q J1e)
   | _=>exact absurd (show false=true from hs) Bool.false_ne_true
 | byt i =>
   obtain ⟨t,rfl⟩:=rx
   cases y with
   | byt j=>obtain ⟨t',rfl⟩:=ry;exact PySem.W.eq_bytes (Z3 I q J1g)
   | _=>exact absurd (show false=true from hs) Bool.false_ne_true
 | _=>cases y<;>exact absurd (show false=true from hs) Bool.false_ne_true
theorem Q1j:OpR X (compareOp .NotEq) rNe:=by
 intro pins s σ H x y v u Q I rx ry h
 obtain ⟨hs,q⟩:=h
 cases x with
 | non =>
   cases rx
   cases y with
   | non=>cases ry;exact PySem.EqNone.ne_none_none (Z3 I q (by simp))
   | bl j=>cases ry;exact PySem.EqNone.ne_none_bool (Z3 I q (by simp))
   | int j=>obtain ⟨t',rfl⟩:=ry;exact PySem.EqNone.ne_none_int (Z3 I q (by simp))
   | str j=>obtain ⟨t',rfl⟩:=ry;exact PySem.EqNone.ne_none_str (Z3 I q (by simp))
   | _=>exact absurd (show false=true from hs) Bool.false_ne_true
 | bl i =>
   cases rx
   cases y with
   | non=>cases ry;exact PySem.EqNone.ne_bool_none (Z3 I q (by simp))
   | bl j=>cases ry;exact ne_bool (Z3 I q (congrArg not J6m))
   | str j=>obtain ⟨t',rfl⟩:=ry;exact PySem.EqMixed.ne_bool_str (Z3 I q (by simp))
   | _=>exact absurd (show false=true from hs) Bool.false_ne_true
 | int i =>
   obtain ⟨t,rfl⟩:=rx
   cases y with
   | non=>cases ry;exact PySem.EqNone.ne_int_none (Z3 I q (by simp))
   | int j=>obtain ⟨t',rfl⟩:=ry;exact ne_int (Z3 I q (congrArg not J1f))
   | str j=>obtain ⟨t',rfl⟩:=ry;exact PySem.EqMixed.ne_int_str (Z3 I q (by simp))
   | _=>exact absurd (show false=true from hs) Bool.false_ne_true
 | str i =>
   obtain ⟨t,rfl⟩:=rx
   cases y with
   | non=>cases ry;exact PySem.EqNone.ne_str_none (Z3 I q (by simp))
   | bl j=>cases ry;exact PySem.EqMixed.ne_str_bool (Z3 I q (by simp))
   | int j=>obtain ⟨t',rfl⟩:=ry;exact PySem.EqMixed.ne_str_int (Z3 I q (by simp))
   | str j=>obtain ⟨t',rfl⟩:=ry;exact ne_str (Z3 I q (congrArg not J1e))
   | _=>exact absurd (show false=true from hs) Bool.false_ne_true
 | byt i =>
   obtain ⟨t,rfl⟩:=rx
   cases y with
   | byt j=>obtain ⟨t',rfl⟩:=ry;exact PySem.W.ne_bytes (Z3 I q (congrArg not J1g))
   | _=>exact absurd (show false=true from hs) Bool.false_ne_true
 | _=>cases y<;>exact absurd (show false=true from hs) Bool.false_ne_true
theorem QI:OpR X (compareOp .Lt) (rI0 fun i j=>.bl (decide (i<j))):=J9g fun _ _ _ _ _ _ _ q=>lt_int q
theorem J4x:OpR X (compareOp .LtE) (rI0 fun i j=>.bl (decide (i<=j))):=J9g fun _ _ _ _ _ _ _ q=>le_int q
theorem VU:OpR X (compareOp .Gt) (rI0 fun i j=>.bl (decide (j<i))):=J9g fun _ _ _ _ _ _ _ q=>gt_int q
theorem Q6u:OpR X (compareOp .GtE) (rI0 fun i j=>.bl (decide (j<=i))):=J9g fun _ _ _ _ _ _ _ q=>ge_int q
theorem Z0 (b:Expr){op:CmpOp}(h:op≠.In:=by decide)(h2:op≠.NotIn:=by decide):behindInMarks op b=false:=by
 have e1:(op==CmpOp.In)=false:=by cases op<;>first|rfl|exact absurd rfl h
 have e2:(op==CmpOp.NotIn)=false:=by cases op<;>first|rfl|exact absurd rfl h2
 cases b<;>simp [behindInMarks,e1,e2]
theorem J9d {op:CmpOp}{r:R2}(ho:OpR X (compareOp op) r)(ha:PE X a ta)(hb:PE X b tb)(hm:behindInMarks op b=false):PE X (.Compare a [op] [b] pos) (tOp r ta tb):=by
 intro pins s σ H Q I h
 exact wpAny_Compare1 (Q5k ha hb I h fun v u s2 x y H2 I2 rx ry q=>ho pins s2 σ H2 x y v u Q I2 rx ry q) hm
noncomputable def Q6c (t:TE):TT:=fun σ H Q=>t σ H fun x H'=>∃ k,x=.bl k/\Q k H'
theorem FS {op:CmpOp}{r:R2}(ho:OpR X (compareOp op) r)(ha:PE X a ta)(hb:PE X b tb)(hm:behindInMarks op b=false):PT X (.Compare a [op] [b] pos) (Q6c (tOp r ta tb)):=by
 intro pins s σ H Q I h
 refine wpAny_isTrue_Compare1 (thn (ha pins s σ H _ I h) fun v s1 ⟨x,H1,I1,r1,q1⟩=>thn (hb pins s1 σ H1 _ I1 q1) fun u s2 ⟨y,H2,I2,r2,q2⟩ =>
  thn (ho pins s2 σ H2 x y v u _ I2 r1 r2 q2) fun c s3 ⟨z,H3,I3,r3,k,e,q3⟩=>?_) hm
 subst e
 cases r3
 exact wpAny_truthy_bool ⟨H3,I3,q3⟩
noncomputable def Q2p (r r':R2)(ta tb tc:TE):TE:=fun σ H Q=>ta σ H fun x H1=>tb σ H1 fun y H2=>r x y H2 fun z H3=>∃ k,z=.bl k /\
 (if k=true then tc σ H3 fun w' H4=>r' y w' H4 Q else Q (.bl false) H3)
theorem J4v {op op':CmpOp}{r r':R2}(ho:OpR X (compareOp op) r)(ho':OpR X (compareOp op') r')(ha:PE X a ta)(hb:PE X b tb)(hc:PE X c tc)
 (hm:lastMarks [op,op'] [b,c]=false:=by with_unfolding_all rfl):PE X (.Compare a [op,op'] [b,c] pos) (Q2p r r' ta tb tc):=by
 intro pins s σ H Q I h
 refine Compare_chain (thn (ha pins s σ H _ I h) fun v s1 ⟨x,H1,I1,r1,q1⟩=>chain_link (thn (hb pins s1 σ H1 _ I1 q1) fun u s2 ⟨y,H2,I2,r2,q2⟩ =>
  thn (ho pins s2 σ H2 x y v u _ I2 r1 r2 q2) fun d s3 ⟨z,H3,I3,r3,k,e,q3⟩=>?_)) hm
 subst e
 cases r3
 refine wpAny_truthy_bool ?_
 cases k with
 | false=>exact ite_ff ⟨.bl false,H3,I3,rfl,q3⟩
 | true=>exact ite_tt (chain_last (thn (hc pins s3 σ H3 _ I3 q3) fun w' s4 ⟨z',H4,I4,r4,q4⟩=>ho' pins s4 σ H4 y z' u w' Q I4 r2 r4 q4))
noncomputable def Q5o (K:Fg)(x:V)(H:Hp)(k:Bool):Prop :=
 match x with
 | .non=>k=false
 | .bl b=>k=b
 | .int i=>k=(i != 0)
 | .str y=>y.length<=sizeLine/\k=((y.length:Int)!=0)
 | .byt y=>y.size<=sizeLine/\k=((y.size:Int)!=0)
 | .ref p=>(∃ xs,SqL K H p xs/\k = !xs.isEmpty)\/(∃ xs,SqT K H p xs/\k = !xs.isEmpty)\/∃ kvs,H p=some (.dK kvs)/\k = !kvs.isEmpty
 | _=>False
theorem YW {κ:Type}{kvs:List (κ×V)}{vs:List (κ×Value)}(r:KV kvs vs):(!vs.isEmpty) = !kvs.isEmpty:=by
 cases r<;>rfl
theorem NZ {xs:List V}{its:List Value}(r:Vals xs its):(!its.toArray.isEmpty) = !xs.isEmpty:=by
 cases r<;>simp
theorem NU:(sizeLine:Nat)<2 ^ 63:=by rw [sizeLine_eq];decide
theorem Q2g:Q9j X (fun x H Q=>∃ k,Q5o X.K x H k/\Q k H):=by
 intro pins s σ H x v Q I rx h
 obtain ⟨k,e,q⟩:=h
 have hl:=NU
 have hs:sizeLine=16777216:=sizeLine_eq
 cases x with
 | non =>
   cases rx
   have e':k=false:=e
   subst e'
   exact truthy_none ⟨H,I,q⟩
 | bl b =>
   cases rx
   have e':k=b:=e
   subst e'
   exact wpAny_truthy_bool ⟨H,I,q⟩
 | int i =>
   obtain ⟨t,rfl⟩:=rx
   have e':k=(i != 0):=e
   subst e'
   exact PySem.P.truthy_int ⟨H,I,q⟩
 | str y =>
   obtain ⟨t,rfl⟩:=rx
   obtain ⟨hy,e'⟩:y.length<=sizeLine/\k=((y.length:Int)!=0):=e
   subst e'
   exact PySem.P.truthy_str (by omega) ⟨H,I.tok _,q⟩
 | byt y =>
   obtain ⟨t,rfl⟩:=rx
   obtain ⟨hy,e'⟩:y.size<=sizeLine/\k=((y.size:Int)!=0):=e
   subst e'
   exact PySem.W.truthy_bytes (by omega) ⟨H,I.tok _,q⟩
 | ref p =>
   cases rx
   have e':(∃ xs,SqL X.K H p xs/\k = !xs.isEmpty)\/(∃ xs,SqT X.K H p xs/\k = !xs.isEmpty)\/∃ kvs,H p=some (.dK kvs)/\k = !kvs.isEmpty:=e
   rcases e' with ⟨xs,hx,e'⟩|⟨xs,hx,e'⟩|⟨kvs,hx,e'⟩
   · subst e'
     obtain ⟨its,r,pl,hz⟩:=I.list hx
     have hlen:=r.length
     exact wpAny_truthy_list pl.isList (by simp only [List.size_toArray];omega) ⟨H,I.tok _,by rw [NZ r];exact q⟩
   · subst e'
     obtain ⟨its,r,pl,hz⟩:=I.tuple hx
     have hlen:=r.length
     exact truthy_tuple pl (by simp only [List.size_toArray];omega) ⟨H,I.tok _,by rw [NZ r];exact q⟩
   · subst e'
     obtain ⟨hz,hS,vs,r,m⟩:kvs.length<=sizeLine/\(p==sysModules)=false/\∃ vs,KV kvs vs/\s.heap.DictOf (SQ X.prog X.w) p vs:=I.hok p _ hx
     have hlen:kvs.length=vs.length:=Paired.length r
     exact wpAny_truthy_dict hS m (by omega) ⟨H,I.tok _,by rw [YW r];exact q⟩
 | _=>exact (show False from e).elim
theorem J4k (ha:PE X a ta)(he:∀ whole,isTrue a X.env whole=(do let v <- whole;standAt a.pos;holding [v] (truthy v))) :
 PT X a (fun σ H Q=>ta σ H fun x H'=>∃ k,Q5o X.K x H' k/\Q k H'):=by
 intro pins s σ H Q I h
 exact isTrue_plain (thn (ha pins s σ H _ I h) fun v s1 ⟨x,H1,I1,r1,q1⟩=>Q2g pins s1 σ H1 x v Q I1 r1 q1) (he _)
theorem PX {x:V}{us:List Value}(r:Vals [x] us):∃ u,us=[u]/\RelV x u:=by
 cases r with
 | cons r1 r2=>cases r2;exact ⟨_,rfl,r1⟩
theorem US {x y:V}{us:List Value}(r:Vals [x,y] us):∃ u w',us=[u,w']/\RelV x u/\RelV y w':=by
 cases r with
 | cons r1 r2 =>
   cases r2 with
   | cons r3 r4=>cases r4;exact ⟨_,_,rfl,r1,r3⟩
theorem GV:CS X (.builtin "abs") (fun xs H Q=>∃ i,xs=[.int i]/\Q (.int (if i<0 then -i else i)) H):=by
 intro pins s σ H xs us Q I r h
 obtain ⟨i,rfl,q⟩:=h
 obtain ⟨u,rfl,t,rfl⟩:=PX r
 exact call_abs_int fun u tk=>⟨.int (if i<0 then -i else i),H,I.tok _,⟨_,rfl⟩,q⟩
theorem RA (hc:X.calm=true):CS X (.builtin "max") (fun xs H Q=>∃ i j,xs=[.int i,.int j]/\Q (.int (if j>i then j else i)) H):=by
 intro pins s σ H xs us Q I r h
 obtain ⟨i,j,rfl,q⟩:=h
 obtain ⟨u,w',rfl,⟨t,rfl⟩,⟨t',rfl⟩⟩:=US r
 refine max_two_ints (I.ok.hd hc) fun h' tk k=>⟨_,H,I.kept k,?_,q⟩
 by_cases hj:j>i
 · rw [if_pos hj,if_pos hj];exact ⟨_,rfl⟩
 · rw [if_neg hj,if_neg hj];exact ⟨_,rfl⟩
theorem QZ (hc:X.calm=true):CS X (.builtin "min") (fun xs H Q=>∃ i j,xs=[.int i,.int j]/\Q (.int (if j<i then j else i)) H):=by
 intro pins s σ H xs us Q I r h
 obtain ⟨i,j,rfl,q⟩:=h
 obtain ⟨u,w',rfl,⟨t,rfl⟩,⟨t',rfl⟩⟩:=US r
 refine min_two_ints (I.ok.hd hc) fun h' tk k=>⟨_,H,I.kept k,?_,q⟩
 by_cases hj:j<i
 · rw [if_pos hj,if_pos hj];exact ⟨_,rfl⟩
 · rw [if_neg hj,if_neg hj];exact ⟨_,rfl⟩
end
structure ObjM (h:Heap)(x dx C:Addr)(mA:Str->Option Value):Prop where
 obj:h.get? x=some (PySem.W.instObj C dx)
 ns:h.Ns1 dx mA
 ne:dx≠x
theorem J2o {h:Heap}{dx:Addr}{mA:Str->Option Value}(n:h.Ns1 dx mA):∃ od,h.get? dx=some od/\∀ name,PySem.W.lookIn name od=some (mA name):=by
 obtain ⟨o,es,ep,ho,hd,hk,_,hm⟩:=n
 refine ⟨o,ho,fun name=>?_⟩
 have e:=hm name
 unfold nsFind findBy at e
 rw [<- Array.find?_toList] at e
 unfold PySem.W.lookIn
 rw [hd]
 dsimp only
 split
 · rename_i y q
   rw [q] at e
   exact congrArg some e
 · rename_i q
   rw [q] at e
   have a:es.toList.any (·.refKey)=false:=by
    rw [List.any_eq_false]
    intro y hy
    obtain ⟨z,t,hkey⟩:=hk y (Array.mem_toList_iff.mp hy)
    simp [DictEntry.refKey,hkey]
   have a':¬ es.toList.any (·.refKey)=true:=by rw [a];exact Bool.false_ne_true
   rw [if_neg a']
   exact congrArg some e
theorem ObjM.look {h:Heap}{x dx C:Addr}{mA:Str->Option Value}(I:ObjM h x dx C mA):∃ od,PySem.W.InstAt h x (PySem.W.instObj C dx) C (some od)/\∀ name,PySem.W.lookIn name od=some (mA name) :=
 let ⟨od,ho,hl⟩:=J2o I.ns
 ⟨od,⟨I.obj,rfl,rfl,ho⟩,hl⟩
section
variable {P:Program}{w:World}{H:Hp}{h:Heap}{a C dx:Addr}{fs:List (Str×V)}
theorem J9z (hok:HOk P w H h)(e:H a=some (.ins C dx fs)):∃ mA,ObjM h a dx C mA/\(∀ f,Q5r (fs.lookup f) (mA f))/\PySem.Within mA (fs.map (·.1))/\fs.length<=1000/\H dx=some (.own a):=by
 obtain ⟨d,z,ne,ob,mA,n,r,q⟩:=(show ObjOk P w H h a (.ins C dx fs) from hok a _ e)
 exact ⟨mA,⟨ob,n,ne⟩,r,q,z,d⟩
end
structure Cls (K:Fg)(C:Addr):Prop where
 pg:PySem.W.plainGet K C Str.empty=true
 hd:PySem.W.hasDictIn K C=true
 po:PySem.W.plainOver K C=true
 sa:PySem.W.findIn K (.ref C) "__setattr__" = some (some (.builtin "object.__setattr__"))
theorem Cls.get {C:Addr}(c:Cls K C)(f:Str):PySem.W.plainGet K C f=true:=c.pg
section
variable {X:Cx}{pins:List (Addr×Obj)}{σ:St}{H:Hp}{s:Shared}{A:Around}{E:Value->Shared->Prop}{Q:Value->Shared->Prop}{c:Value}{b:Bool}
inductive TyOf (K:Fg)(H:Hp):V->Value->Prop where
 | non:TyOf K H .non (.type "NoneType")
 | bl (x:Bool):TyOf K H (.bl x) (.type "bool")
 | int (i:Int):TyOf K H (.int i) (.type "int")
 | str (x:Str):TyOf K H (.str x) (.type "str")
 | flt (x:UInt64):TyOf K H (.flt x) (.type "float")
 | lst {a:Addr} {xs:List V} (e:H a=some (.lst xs)):TyOf K H (.ref a) (.type "list")
 | frz {a:Addr} {o:Obj} {xs:List V} (e:H a=some (.frz o (.lst xs))):TyOf K H (.ref a) (.type "list")
 | tup {a:Addr} {xs:List V} (e:H a=some (.tup xs)):TyOf K H (.ref a) (.type "tuple")
 | dK {a:Addr} {kvs:List (Key×V)} (e:H a=some (.dK kvs)):TyOf K H (.ref a) (.type "dict")
 | dT {a:Addr} {kvs:List (List Key×V)} (e:H a=some (.dT kvs)):TyOf K H (.ref a) (.type "dict")
 | ins {a C dx:Addr} {fs:List (Str×V)} (e:H a=some (.ins C dx fs)) (cl:Cls K C) (ha:PySem.W.findIn K (.ref C) "__class__" = some (some (.builtin "object.__class__")))
  (hn:PySem.W.specialIn K (.builtin "object.__class__") "__get__" = some (some (.builtin "getset_descriptor.__get__"))) (htk:PySem.W.takesIn K (.builtin "object.__class__")=some true)
  (hm:PySem.W.mroIn K C (.type "object")=some true):TyOf K H (.ref a) (.ref C)
theorem J2v {x:V}{u t:Value}(I:Inv X pins σ H s)(rx:RelV x u)(ty:TyOf X.K H x t)(e:PySem.W.kitOne X.K t c=some b)(h:∀ tk,Q (.bool b) { s with toks:=tk }) :
 wpAny (model X.prog X.w) A (call (.builtin "isinstance") [u,c]) Q E s:=by
 cases ty with
 | non=>cases (show u=Value.none from rx);exact PySem.W.kia_one PySem.W.kitx_none I.kIn True.intro e (fun z=>nomatch z) h
 | bl y=>cases (show u=Value.bool y from rx);exact PySem.W.kia_one PySem.W.kitx_bool I.kIn True.intro e (fun z=>nomatch z) h
 | int i=>obtain ⟨t,q⟩:=(show ∃ t,u=Value.int i t from rx);cases q;exact PySem.W.kia_one PySem.W.kitx_int I.kIn True.intro e (fun z=>nomatch z) h
 | str y=>obtain ⟨t,q⟩:=(show ∃ t,u=Value.str y t from rx);cases q;exact PySem.W.kia_one PySem.W.kitx_str I.kIn True.intro e (fun z=>nomatch z) h
 | flt y=>obtain ⟨t,q⟩:=(show ∃ t,u=Value.float y t from rx);cases q;exact PySem.W.kia_one PySem.W.kitx_float I.kIn True.intro e (fun z=>nomatch z) h
 | @lst a xs ea =>
   cases (show u=Value.ref a from rx)
   obtain ⟨_,_,n,_,h1⟩:=(show ObjOk X.prog X.w H s.heap a (.lst xs) from I.hok a _ ea)
   exact PySem.W.kia_one PySem.W.kitx_list I.kIn ⟨_,h1,rfl⟩ e (fun z=>nomatch z) h
 | @frz a ob xs ea =>
   cases (show u=Value.ref a from rx)
   obtain ⟨_,_,_,n,_,h1⟩:=(show ObjOk X.prog X.w H s.heap a (.frz ob (.lst xs)) from I.hok a _ ea)
   exact PySem.W.kia_one PySem.W.kitx_list I.kIn ⟨_,h1,rfl⟩ e (fun z=>nomatch z) h
 | @tup a xs ea =>
   cases (show u=Value.ref a from rx)
   obtain ⟨_,_,_,p⟩:=(show ObjOk X.prog X.w H s.heap a (.tup xs) from I.hok a _ ea)
   obtain ⟨o,h1,h2,_⟩:=p
   exact PySem.W.kia_one PySem.W.kitx_tuple I.kIn ⟨o,h1,h2⟩ e (fun z=>nomatch z) h
 | @dK a kvs ea =>
   cases (show u=Value.ref a from rx)
   obtain ⟨_,_,vs,_,p⟩:=(show ObjOk X.prog X.w H s.heap a (.dK kvs) from I.hok a _ ea)
   obtain ⟨o,es,ep,h1,h2,_⟩:=p
   exact PySem.W.kia_one PySem.W.kitx_dict I.kIn ⟨o,h1,h2.1⟩ e (fun z=>nomatch z) h
 | @dT a kvs ea =>
   cases (show u=Value.ref a from rx)
   obtain ⟨_,_,xs,_,o,es,ep,h1,h2,_⟩:=(show ObjOk X.prog X.w H s.heap a (.dT kvs) from I.hok a _ ea)
   exact PySem.W.kia_one PySem.W.kitx_dict I.kIn ⟨o,h1,h2.1⟩ e (fun z=>nomatch z) h
 | @ins a C dx fs ea cl ha hn htk hm =>
   cases (show u=Value.ref a from rx)
   obtain ⟨mA,O,_⟩:=J9z I.hok ea
   obtain ⟨od,J,_⟩:=O.look
   exact PySem.W.kia_one (PySem.W.kitx_own (cl.get _) cl.hd ha hn htk hm) I.kIn J e (fun z=>nomatch z) h
end
structure Room (k:Nat)(A:Around):Prop where
 hd:A.handled=none
 dp:A.depth+3*k+5<recursionLimit
 un:A.units+16*k+200<cLine
theorem Room.mono {j k:Nat}{A:Around}(r:Room k A)(h:j<=k):Room j A:=⟨r.hd,by have:=r.dp;omega,by have:=r.un;omega⟩
theorem Room.deeper {k:Nat}{A:Around}(r:Room (k+1) A)(env:Env):Room k (A.deeper env) :=
 ⟨r.hd,by have:=r.dp;show A.depth+1+3*k+5<_;omega,by have:=r.un;show A.units+3+16*k+200<_;omega⟩
theorem Room.depth {k:Nat}{A:Around}(r:Room k A):A.depth<recursionLimit:=by have:=r.dp;omega
theorem Room.units {k:Nat}{A:Around}(r:Room k A):A.units+64<cLine:=by have:=r.un;omega
noncomputable def Q8r:TA:=fun _ H Q=>Q [] H
noncomputable def Q6h (ta:TE)(tr:TA):TA:=fun σ H Q=>ta σ H fun x H1=>tr σ H1 fun xs H2=>Q (x::xs) H2
section
variable {X:Cx}{e:Expr}{es:List Expr}{te:TE}{t:TA}{pos:Pos}
theorem CW:PA X [] Q8r:=fun _ _ _ _ H Q I h=>Calls.spliced_nil ⟨[],H,I,.nil,h⟩
theorem AW (ha:PE X e te)(hr:PA X es t)(hs:starEach (e::es) X.env=(false,eval e X.env)::starEach es X.env:=by rfl):PA X (e::es) (Q6h te t):=by
 intro pos pins s σ H Q I h
 rw [hs]
 show wpAny _ _ (spliced ((false,eval e X.env)::backTo pos (starEach es X.env))) _ _ s
 refine Calls.spliced_cons (thn (ha pins s σ H _ I h) fun u s1 ⟨x,H1,I1,r1,q1⟩=>?_)
 exact thn (hr pos pins s1 σ H1 _ I1 q1) fun us s2 ⟨xs,H2,I2,r2,q2⟩=>⟨x::xs,H2,I2,.cons r1 r2,q2⟩
noncomputable def Q8m (t:TA):TE:=fun σ H Q=>t σ H fun xs H1=>xs.length<=sizeLine/\∀ p,H1 p=none->Q (.ref p) (upd H1 p (.tup xs))
noncomputable def Q8s (t:TA):TE:=fun σ H Q=>t σ H fun xs H1=>xs.length<=sizeLine/\∀ p,H1 p=none->Q (.ref p) (upd H1 p (.lst xs))
theorem Q3b {x1}(h:PA X es t):PE X (.Tuple es x1 pos) (Q8m t):=by
 intro pins s σ H Q I hq
 refine wpAny_Tuple_spliced (thn (h pos pins s σ H _ I hq) fun us s1 ⟨xs,H1,I1,r,z,q⟩=>⟨by rw [<- r.length];exact z,?_⟩)
 have hf:H1 s1.heap.objs.size=none:=I1.hok.fresh (Nat.le_refl _)
 refine ⟨.ref s1.heap.objs.size,upd H1 s1.heap.objs.size (.tup xs),I1.laid (t':=s1.toks) (fun b u e=>Heap.get?_push_of_some _ e) (Nat.le_refl _) ?_,rfl,q _ hf⟩
 exact ⟨z,us,r,⟨_,Heap.get?_push_size _ rfl,rfl,_,rfl⟩⟩
theorem SB (h:PA X es t):PE X (.List es pos) (Q8s t):=by
 intro pins s σ H Q I hq
 refine wpAny_List_spliced (thn (h pos pins s σ H _ I hq) fun us s1 ⟨xs,H1,I1,r,z,q⟩=>⟨by rw [<- r.length];exact z,?_⟩)
 have hf:H1 s1.heap.objs.size=none:=I1.hok.fresh (Nat.le_refl _)
 refine ⟨.ref s1.heap.objs.size,upd H1 s1.heap.objs.size (.lst xs),I1.laid (t':=s1.toks) (fun b u e=>Heap.get?_push_of_some _ e) (Nat.le_refl _) ?_,rfl,q _ hf⟩
 exact ⟨z,us,0,r,Heap.get?_push_size _ rfl⟩
end
noncomputable abbrev Sp:=List V->Hp->VK->XK->Prop
noncomputable abbrev CXT:=List Env->Hp->Shared->XK->Value->Shared->Prop
structure Env0 (P:Program)(w:World)(K:Fg)(mg:Str->Option Value)(base:Heap)(A:Around)(outer:List Env)(s:Shared)(H:Hp):Prop where
 frames:A.frames=some outer
 mod:Mod K mg base
 bs:∀ b o,base.get? b=some o->s.heap.get? b=some o/\H b=none
 bsz:base.objs.size<=s.heap.objs.size
 funs:s.heap.FunFrames base outer
 frf:∀ b∈frs outer,H b=none
 hok:HOk P w H s.heap
 bare:AllBare s.gens
noncomputable def CE (outer:List Env)(P:Program)(w:World)(H:Hp)(s:Shared)(Q:VK)(u:Value)(s':Shared):Prop :=
 ∃ v H',s'.os=s.os/\AllBare s'.gens/\Un (frs outer) [] H H' s.heap s'.heap/\HOk P w H' s'.heap/\RelV v u/\Q v H'
noncomputable def CR (CX:CXT)(outer:List Env)(P:Program)(w:World)(H:Hp)(s:Shared)(Q:VK)(E:XK)(r:Result)(s':Shared):Prop :=
 match r with
 | .ok (.ret u)=>CE outer P w H s Q u s'
 | .ok _=>False
 | .error e=>CX outer H s E e s'
structure FnOk (P:Program)(w:World)(K:Fg)(mg:Str->Option Value)(base:Heap)(CX:CXT)(k:Nat)(f:Addr)(fd:FuncData)(ps:List Str)(sp:Sp):Prop where
 len:∀ vs H Q E,sp vs H Q E->vs.length=ps.length
 run:∀ (A:Around) (outer:List Env) (s:Shared) (H:Hp) (args:Args) (us:List Value) (vs:List V) (Q:VK) (E:XK),Room k A->Env0 P w K mg base A outer s H->BindsTo s fd args (ps.zip us)->Vals vs us->sp vs H Q E ->
  codeAny (model P w) A (.call (.ref f) args) (CR CX outer P w H s Q E) s
theorem FnOk.imp {CX:CXT}{k:Nat}{f:Addr} {ps:List Str}{sp sp':Sp}(F:FnOk P w K mg base CX k f fd ps sp)
 (h:∀ vs H Q E,sp' vs H Q E->sp vs H Q E):FnOk P w K mg base CX k f fd ps sp' :=
 ⟨fun vs H Q E q=>F.len vs H Q E (h _ _ _ _ q),fun A outer s H args us vs Q E hr he hb hv hs=>F.run A outer s H args us vs Q E hr he hb hv (h _ _ _ _ hs)⟩
section
variable {X:Cx}{pins:List (Addr×Obj)}{σ:St}{H:Hp}{s s':Shared}
theorem Inv.env0 (I:Inv X pins σ H s):Env0 X.prog X.w X.K X.mg X.base X.A X.stack s H :=
 ⟨I.ok.frames,I.ok.mod,I.bs,Nat.le_trans I.ok.bsz I.sz,I.stack,I.stkFree,I.hok,I.bare⟩
theorem Inv.after {Q:VK}{u:Value}(I:Inv X pins σ H s)(h:CE X.stack X.prog X.w H s Q u s'):EP X pins σ Q u s':=by
 obtain ⟨v,H',os,bare,un,hok,r,q⟩:=h
 obtain ⟨hh,g,d,t,os'⟩:=s'
 obtain rfl:os'=s.os:=os
 exact ⟨v,H',I.call (h':=hh) (g':=g) (d':=d) (t':=t) (ch:=[]) un hok bare (fun b z=>absurd z (by simp)),r,q⟩
end
noncomputable def ZV (sp:Sp)(dvs:List V)(E:XK)(t:TA):TE:=fun σ H Q=>t σ H fun vs H1=>sp (vs++dvs) H1 Q E
noncomputable def Binds (K:Fg)(fd:FuncData)(ps:List Str)(ds:List Value):Prop :=
 ∀ (s:Shared) (us:List Value),K.In s.heap->(us++ds).length=ps.length->BindsTo s fd ⟨us,[]⟩ (ps.zip (us++ds))
theorem Binds.all {ps:List Str}(h:∀ us:List Value,us.length=ps.length->bindArgs fd ⟨us,[]⟩=pure (ps.zip us)):Binds K fd ps []:=fun s us _ hl=>by
 rw [List.append_nil] at hl ⊢
 exact .of_eq (h us hl)
noncomputable def FZ (CX:CXT)(X:Cx)(E:XK):Prop:=∀ (pins:List (Addr×Obj)) (σ:St) (H:Hp) (s:Shared) (e:Value) (s':Shared),Inv X pins σ H s->CX X.stack H s E e s'->X.xe e s'
section
variable {X:Cx}{CX:CXT}{k:Nat}{f:Addr}{fd:FuncData}{ps:List Str}{sp:Sp}{dvs:List V}{ds:List Value}{E:XK}{x:Str}{p pos:Pos}{e:Expr}{es:List Expr}{t:TA}
theorem Q2v {pins:List (Addr×Obj)}{σ:St}{H:Hp}{s:Shared}{Q:VK}{us:List Value}{vs:List V}(F:FnOk X.prog X.w X.K X.mg X.base CX k f fd ps sp)(hr:Room k X.A)(hb:Binds X.K fd ps ds)(hd:Vals dvs ds)(hx:FZ CX X E)
 (I:Inv X pins σ H s) (r:Vals vs us) (h:sp (vs++dvs) H Q E):wpAny (model X.prog X.w) X.A (call (.ref f) us) (EP X pins σ Q) X.xe s:=by
 have r2:Vals (vs++dvs) (us++ds):=r.append hd
 have hl:(us++ds).length=ps.length:=by rw [<- r2.length];exact F.len _ _ _ _ h
 refine wpAny_call (codeAny_mono (F.run X.A X.stack s H ⟨us,[]⟩ (us++ds) (vs++dvs) Q E hr I.env0 (hb s us I.kIn hl) r2 h) fun r s' hq=>?_)
 cases r with
 | error e=>exact hx pins σ H s e s' I hq
 | ok fl =>
   cases fl with
   | ret u=>exact I.after hq
   | next=>exact False.elim hq
   | brk=>exact False.elim hq
   | cont=>exact False.elim hq
theorem J0f (F:FnOk X.prog X.w X.K X.mg X.base CX k f fd ps sp)(hr:Room k X.A)(hg:Gl X x)(hm:X.mg x=some (.ref f))(hk:PySem.W.keepIn X.K (.ref f)=true)(hb:Binds X.K fd ps ds)(hd:Vals dvs ds)(hx:FZ CX X E)
 (ha:PA X (e::es) t) (hdb:(x==("__debug__" : Str))=false:=by decide) (he:starEach (e::es) X.env=(false,eval e X.env)::starEach es X.env:=by rfl) (hpl:(backTo pos (starEach es X.env)).any (·.1)=false:=by rfl) :
 PE X (.Call (.Name x p) (e::es) [] pos) (ZV sp dvs E t):=by
 intro pins s σ H Q I h
 refine wpAny_Call_Name_kw (SS I hg hm ?_ hdb)
 refine PySem.W.callWith_K (h₀:=X.base) I.ok.mod.kin hk (thn (ha pos pins s σ H _ I h) fun us s1 ⟨vs,H1,I1,r,q⟩=>⟨I1.kIn,?_⟩) he hpl
 exact Q2v F hr hb hd hx I1 r q
end
structure FnScope (N P:List Str)(sc:Scope):Prop where
 kind:sc.kind=.function
 co:sc.isCoroutine=false
 gen:sc.isGenerator=false
 nd:N.Nodup
 pre:N.take P.length=P
 par:∀ x∈P,sc.names.lookup x=some .local\/sc.names.lookup x=some .cell
 nofree:∀ y∈sc.names,y.2≠.free
theorem RD {kindOf:Str->Option NameKind}{x:Str}:∀ {binds:List (Str×Value)} {m:Str->Option Value},(∀ v,(x,v)∉binds)->bindL kindOf binds m x=m x
 | [],_,_=>rfl
 | (n,v)::r,m,h=>by
   unfold bindL
   rw [RD fun w hw=>h w (List.mem_cons_of_mem _ hw)]
   split
   · have:x≠n:=by rintro rfl;exact h v List.mem_cons_self
     simp [this]
   · rfl
theorem RF {kindOf:Str->Option NameKind}{x:Str}:∀ {binds:List (Str×Value)} {m:Str->Option Value},(∀ v,(x,v)∉binds)->bindC kindOf binds m x=m x
 | [],_,_=>rfl
 | (n,v)::r,m,h=>by
   unfold bindC
   rw [RF fun w hw=>h w (List.mem_cons_of_mem _ hw)]
   split
   · rfl
   · have:x≠n:=by rintro rfl;exact h v List.mem_cons_self
     simp [this]
theorem RE {kindOf:Str->Option NameKind}{x:Str}{v:Value}:∀ {P:List Str} {vs:List Value} {i:Nat} {m:Str->Option Value},P.Nodup->P[i]?=some x->vs[i]?=some v->kindOf x=some .local ->
 bindL kindOf (P.zip vs) m x=some v
 | [],_,_,_,_,h,_,_=>by simp at h
 | _::_,[],_,_,_,_,h,_=>by simp at h
 | p::P,w::vs,0,m,nd,h1,h2,hk=>by
   simp at h1 h2;subst h1;subst h2
   show bindL kindOf ((p,w)::P.zip vs) m p=_
   unfold bindL
   rw [RD fun v hv=>(List.nodup_cons.mp nd).1 (List.of_mem_zip hv).1,if_pos hk]
   simp
 | p::P,w::vs,i+1,m,nd,h1,h2,hk=>by
   show bindL kindOf ((p,w)::P.zip vs) m x=_
   unfold bindL
   exact RE (i:=i) (List.nodup_cons.mp nd).2 (by simpa using h1) (by simpa using h2) hk
theorem RG {kindOf:Str->Option NameKind}{x:Str}{v:Value}:∀ {P:List Str} {vs:List Value} {i:Nat} {m:Str->Option Value},P.Nodup->P[i]?=some x->vs[i]?=some v->kindOf x≠some .local ->
 bindC kindOf (P.zip vs) m x=some v
 | [],_,_,_,_,h,_,_=>by simp at h
 | _::_,[],_,_,_,_,h,_=>by simp at h
 | p::P,w::vs,0,m,nd,h1,h2,hk=>by
   simp at h1 h2;subst h1;subst h2
   show bindC kindOf ((p,w)::P.zip vs) m p=_
   unfold bindC
   rw [RF fun v hv=>(List.nodup_cons.mp nd).1 (List.of_mem_zip hv).1,if_neg hk]
   simp
 | p::P,w::vs,i+1,m,nd,h1,h2,hk=>by
   show bindC kindOf ((p,w)::P.zip vs) m x=_
   unfold bindC
   exact RG (i:=i) (List.nodup_cons.mp nd).2 (by simpa using h1) (by simpa using h2) hk
noncomputable def EB (N:List Str)(vs:List V):St:=vs.map some++List.replicate (N.length - vs.length) none
noncomputable def BO (CX:CXT)(P:Program)(w:World)(K:Fg)(mg:Str->Option Value)(base:Heap)(N:List Str)(qual:Str)(scope:Scope)(f:Addr)(cd:Value)(A:Around)(outer:List Env)(s:Shared)(H:Hp)(E:XK):Cx where
 prog:=P
 w:=w
 K:=K
 mg:=mg
 base:=base
 A:=A.deeper (envOfC qual scope s.heap.objs.size f cd)
 N:=N
 s₀:=s
 H₀:=H
 env:=envOfC qual scope s.heap.objs.size f cd
 outer:=outer
 stack:=envOfC qual scope s.heap.objs.size f cd::outer
 ex:=[]
 calm:=true
 fn:=fun _=>true
 pn:=[]
 xe:=fun e s'=>wpAny (model P w) (A.deeper (envOfC qual scope s.heap.objs.size f cd)) (leaving (envOfC qual scope s.heap.objs.size f cd) e) (fun _ s''=>CX outer H s E e s'') (fun e' s''=>CX outer H s E e' s'') s'
theorem XD {sc:Scope}{n:Nat}{x:Str}(h:sc.names.lookup x=some .cell):∃ c,(cellsFrom n sc.names []).lookup x=some c:=by
 have q:=PySem.W.cellsFrom_some sc.names n [] (.inl h)
 exact Option.isSome_iff_exists.mp q
theorem J2w {CX:CXT}{P:Program}{w:World}{K:Fg}{mg:Str->Option Value}{base:Heap}{N ps:List Str}{qual:Str}{scope:Scope}{f:Addr}{cd:Value}{A:Around}{outer:List Env}{s s1:Shared}{H:Hp}{E:XK}{us:List Value}{vs:List V}
 (S:FnScope N ps scope) (hd:A.handled=none) (e0:Env0 P w K mg base A outer s H) (hl:vs.length=ps.length) (r:Vals vs us)
 (x:InCallC s s.heap.objs.size (bindL (envOfC qual scope s.heap.objs.size f cd).kindOf (ps.zip us) fun _=>none) (cellsFrom (s.heap.objs.size+1) scope.names []) (bindC (envOfC qual scope s.heap.objs.size f cd).kindOf (ps.zip us) fun _=>none) s1) :
 Inv (BO CX P w K mg base N qual scope f cd A outer s H E) [] (EB N vs) H s1:=by
 have hpl:ps.length<=N.length:=by have:=congrArg List.length S.pre;rw [List.length_take] at this;omega
 obtain ⟨h1,tk,rfl,hk⟩:=x.done
 have noA:∀ b:Addr,b∉(BO CX P w K mg base N qual scope f cd A outer s H E).ex:=fun b z=>absurd (show b∈([]:List Addr) from z) (by simp)
 refine ⟨⟨e0.mod,S.kind,rfl,rfl,Nat.le_refl _,fun y z c h1 h2=>?_,fun y hy=>?_,fun y c _ h=>?_,fun _=>hd,Around.frames_deeper e0.frames,.inr ⟨rfl,rfl⟩,fun b z=>absurd z (noA b),e0.bs,e0.bsz,fun b _ _=>noA b,fun b z=>absurd z (noA b),e0.funs,e0.frf⟩,
  rfl,e0.bare,Un.kept hk,⟨_,x.toInCall.ns,fun i y v h1 h2 h3=>?_⟩,fun y c h=>⟨_,x.cell y c h⟩,e0.hok.fresh (Nat.le_refl _),fun y c h=>?_,fun p hp=>absurd (show p∈([]:List (Addr×Obj)) from hp) (by simp),e0.hok.kept hk,?_⟩
 · exact name_of_addr x.apart (PySem.mem_of_lookup h1) (PySem.mem_of_lookup h2)
 · have hy:scope.names.lookup y=some .cell\/scope.names.lookup y=some .free:=hy
   rcases hy with hy|hy
   · exact XD hy
   · exact absurd rfl (S.nofree _ (PySem.mem_of_lookup hy))
 · exact Nat.le_of_lt (x.above y c (PySem.mem_of_lookup h))
 · have hi:i<vs.length:=by
    unfold EB at h2
    by_cases hi:i<vs.length
    · exact hi
    · rw [List.getElem?_append_right (by simpa using hi)] at h2
      rw [List.getElem?_replicate] at h2
      split at h2<;>cases h2
   have ha:vs[i]?=some v:=by
    unfold EB at h2
    rw [List.getElem?_append_left (by simpa using hi),List.getElem?_map] at h2
    cases e:vs[i]? with
    | none=>rw [e] at h2;cases h2
    | some a=>rw [e] at h2;cases h2;rfl
   obtain ⟨u,hu,rv⟩:=r.get ha
   have hp:ps[i]?=some y:=by
    rw [<- S.pre,List.getElem?_take_of_lt (by omega)];exact h1
   have ndP:ps.Nodup:=by rw [<- S.pre];exact S.nd.sublist (List.take_sublist _ _)
   refine ⟨u,rv,?_⟩
   rcases S.par y (List.mem_of_getElem? hp) with k|k
   · exact .inl ⟨k,RE ndP hp hu k⟩
   · obtain ⟨c,e⟩:=XD (n:=s.heap.objs.size+1) k
     refine .inr ⟨.inl k,c,e,?_⟩
     have q:=x.cell y c e
     rw [RG ndP hp hu (by show scope.names.lookup y≠_;rw [k];decide)] at q
     exact q
 · exact e0.hok.fresh (Nat.le_of_lt (x.above y c (PySem.mem_of_lookup h)))
 · unfold EB
   show _=N.length
   rw [List.length_append,List.length_map,List.length_replicate]
   omega
theorem Q1q {CX:CXT}{P:Program}{w:World}{K:Fg}{mg:Str->Option Value}{base:Heap}{k:Nat}{f:Addr}{name qual:Str}{params:Arguments}{body:List Stmt}{scope:Scope}{dV kV doc pm cdv ct oc:Value}{an od:Option Addr}
 {osl:Array (Option Value)} {N ps:List Str} {sp:Sp} (lk:K.lookup f=some ⟨oc,od,.func (PySem.W.fnOf name qual params body scope dV kV doc pm an cdv ct),osl⟩) (hcd:PySem.W.codeIn K cdv qual=true) (S:FnScope N ps scope)
 (len:∀ vs H Q E,sp vs H Q E->vs.length=ps.length)
 (hbody:∀ (A:Around) (outer:List Env) (s:Shared) (H:Hp) (vs:List V) (Q:VK) (E:XK),Room k (A.deeper (envOfC qual scope s.heap.objs.size f cdv))->sp vs H Q E ->
  ∃ t,PSs (BO CX P w K mg base N qual scope f cdv A outer s H E) body t/\t { nx:=fun _ H'=>Q .non H',rt:=Q } (EB N vs) H) :
 FnOk P w K mg base CX (k+1) f (PySem.W.fnOf name qual params body scope dV kV doc pm an cdv ct) ps sp:=by
 refine ⟨len,fun A outer s H args us vs Q E hr e0 hb r hsp=>?_⟩
 have hl:=len _ _ _ _ hsp
 have KX:K.In s.heap:=e0.mod.kin.keeps fun b o e=>(e0.bs b o e).1
 have lim:s.heap.NoLimit:=e0.mod.nolimit.keeps fun b o e=>(e0.bs b o e).1
 have hkind:∀ y∈ps.zip us,scope.names.lookup y.1=some .local\/(scope.names.lookup y.1=some .cell/\((cellsFrom (s.heap.objs.size+1) scope.names []).lookup y.1).isSome=true):=fun ⟨n,v⟩ hy=>by
  rcases S.par n (List.of_mem_zip hy).1 with q|q
  · exact .inl q
  · exact .inr ⟨q,PySem.W.cellsFrom_some _ _ _ (.inl q)⟩
 refine codeAny_call_function hr.depth (KX _ _ lk) rfl S.co S.gen rfl (PySem.W.codeRec_of KX hcd) (hb _ _ _ _ ?_)
 refine wpAny_newFunctionEnv_cells S.kind hkind fun env he s1 x=>?_
 subst he
 refine ⟨lim.keeps x.toInCall.keep,codeAny_func ?_⟩
 obtain ⟨t,ht,hq⟩:=hbody A outer s H vs Q E (hr.deeper _) hsp
 have I:Inv (BO CX P w K mg base N qual scope f cdv A outer s H E) [] (EB N vs) H s1:=J2w S hr.hd e0 hl r x
 refine wpAny_mono (ht [] s1 (EB N vs) H _ I hq) (fun fl s' hs=>?_) fun e s' hs=>hs
 have fin:∀ {σ':St} {H':Hp} {v:V} {u:Value},Inv (BO CX P w K mg base N qual scope f cdv A outer s H E) [] σ' H' s'->RelV v u->Q v H'->CE outer P w H s Q u s' :=
  fun {σ' H' v u} J rv q=>⟨v,H',J.os,J.bare,J.base,J.hok,rv,q⟩
 cases fl with
 | ret u =>
   obtain ⟨v,σ',H',J,rv,q⟩:=hs
   exact fin J rv q
 | next =>
   obtain ⟨σ',H',J,q⟩:=hs
   exact fin (v:=V.non) (u:=Value.none) J rfl q
 | brk =>
   obtain ⟨_,_,_,q⟩:=hs
   exact False.elim q
 | cont =>
   obtain ⟨_,_,_,q⟩:=hs
   exact False.elim q
section
variable {X:Cx}{x:Str}{p pos:Pos}{e:Expr}{es:List Expr}{t:TA}{id T:String}{r:List V->Hp->VK->Prop}
noncomputable def tCB (r:List V->Hp->VK->Prop)(t:TA):TE:=fun σ H Q=>t σ H fun vs H1=>r vs H1 Q
theorem DH (hc:CS X (.builtin id) r)(hg:Gl X x)(hm:X.mg x=none)(hv:bootBuiltins x=some (.builtin id))(ha:PA X (e::es) t)(hn:x≠"__name__":=by decide) (hdb:(x==("__debug__" : Str))=false:=by decide)
 (he:starEach (e::es) X.env=(false,eval e X.env)::starEach es X.env:=by rfl) (hpl:(backTo pos (starEach es X.env)).any (·.1)=false:=by rfl):PE X (.Call (.Name x p) (e::es) [] pos) (tCB r t):=by
 intro pins s σ H Q I h
 refine wpAny_Call_Name_kw (LD I hg hm hv ?_ hn hdb)
 exact PyProof.Rows.callWith_builtin1 (thn (ha pos pins s σ H _ I h) fun us s1 ⟨vs,H1,I1,r1,q1⟩=>hc pins s1 σ H1 vs us Q I1 r1 q1) he hpl
theorem J2i (hc:CS X (.type T) r)(hg:Gl X x)(hm:X.mg x=none)(hv:bootBuiltins x=some (.type T))(ha:PA X (e::es) t)(hn:x≠"__name__":=by decide) (hdb:(x==("__debug__" : Str))=false:=by decide)
 (he:starEach (e::es) X.env=(false,eval e X.env)::starEach es X.env:=by rfl) (hpl:(backTo pos (starEach es X.env)).any (·.1)=false:=by rfl):PE X (.Call (.Name x p) (e::es) [] pos) (tCB r t):=by
 intro pins s σ H Q I h
 refine wpAny_Call_Name_kw (LD I hg hm hv ?_ hn hdb)
 exact PyProof.Rows.callWith_type1 (thn (ha pos pins s σ H _ I h) fun us s1 ⟨vs,H1,I1,r1,q1⟩=>hc pins s1 σ H1 vs us Q I1 r1 q1) he hpl
end
end L2
namespace HT
open PySem PyProof.Rows
section
variable {prog:Program}{w:World}{A:Around}{E:Value->Shared->Prop}{s:Shared}
noncomputable def sIx (n d:Nat):Option Int->Nat
 | none=>d
 | some v=>if v<0 then (v+(n:Int)).toNat else min v.toNat n
theorem Q2u (n d:Nat)(hd:d<=n)(o:Option Int):sIx n d o<=n:=by
 cases o with
 | none=>exact hd
 | some v =>
   show (if v<0 then (v+(n:Int)).toNat else min v.toNat n)<=n
   by_cases hv:v<0
   · rw [if_pos hv];omega
   · rw [if_neg hv];exact Nat.min_le_right _ _
theorem J1j (v:Int)(n d:Nat):(if v<0 then max (v+(n:Int)) 0 else min v (n:Int))=((sIx n d (some v):Nat):Int):=by
 show (if v<0 then max (v+(n:Int)) 0 else min v (n:Int))=(((if v<0 then (v+(n:Int)).toNat else min v.toNat n):Nat):Int)
 by_cases hv:v<0
 · simp only [if_pos hv];omega
 · simp only [if_neg hv];omega
theorem ZC (lo hi:Option Int)(n:Nat):Builtin.Slice.sliceAdjust lo hi 1 (n:Int)=(((sIx n 0 lo:Nat):Int),((sIx n n hi:Nat):Int)):=by
 have h1:¬ ((1:Int)<0):=by omega
 unfold Builtin.Slice.sliceAdjust
 simp only [h1,if_false]
 refine Prod.ext ?_ ?_
 · cases lo with
   | none=>rfl
   | some v=>exact J1j v n 0
 · cases hi with
   | none=>rfl
   | some v=>exact J1j v n n
theorem YG (i j:Nat):Builtin.Slice.slicePlaces (i:Int) (j:Int) 1=j - i:=by
 unfold Builtin.Slice.slicePlaces
 have h1:(1:Int)>0:=by omega
 simp only [h1,if_true,Int.ediv_one]
 split<;>omega
theorem MY {v:Value}{o:Option Int}{Q:Option Int->Shared->Prop}(p:IsPart v o)(h:Q o s):wpAny (model prog w) A (Builtin.Slice.slicePartIndex v) Q E s:=by
 cases p with
 | none=>exact slicePart_none h
 | int i t=>exact slicePart_int h
theorem KO {sl:Addr}{vl vu:Value}{lo hi:Option Int}{n:Nat}{Q:Int×Int×Nat->Shared->Prop}(hs:s.heap.IsSliceOf sl vl vu .none)(pl:IsPart vl lo)(pu:IsPart vu hi)
 (h:Q (((sIx n 0 lo:Nat):Int),1,sIx n n hi - sIx n 0 lo) s):wpAny (model prog w) A (Builtin.Slice.sliceApplied (.ref sl) (pure (n:Int))) Q E s:=by
 obtain ⟨os,hos,hcs,hds⟩:=id hs
 unfold Builtin.Slice.sliceApplied Builtin.Slice.sliceFields
 refine wpAny_bind (wpAny_bind (wpAny_field hos hds (x:=vl) rfl (wpAny_bind (wpAny_field hos hds (x:=vu) rfl (wpAny_bind (wpAny_field hos hds (x:=.none) rfl (wpAny_pure ?_)))))))
 refine wpAny_bind (slicePart_none ?_)
 show wpAny _ _ (if ((1:Int)==0)=true then _ else _) _ _ s
 rw [if_neg (by decide)]
 refine wpAny_bind (MY pl (wpAny_bind (MY pu (wpAny_bind (wpAny_pure ?_)))))
 show wpAny _ _ (match Builtin.Slice.sliceAdjust lo hi 1 (n:Int) with|(lo,hi)=>pure (lo,(1:Int),Builtin.Slice.slicePlaces lo hi 1)) _ _ s
 rw [ZC lo hi n]
 show wpAny _ _ (pure (((sIx n 0 lo:Nat):Int),(1:Int),Builtin.Slice.slicePlaces ((sIx n 0 lo:Nat):Int) ((sIx n n hi:Nat):Int) 1)) _ _ s
 rw [YG]
 exact wpAny_pure h
theorem J4p (xs:Array Value)(i k:Nat):((List.range k).filterMap fun (m:Nat)=>xs[((i:Int)+(m:Int)*1).toNat]?).toArray=((xs.toList.drop i).take k).toArray:=by
 have e:(fun (m:Nat)=>xs[((i:Int)+(m:Int)*1).toNat]?)=fun m=>xs[i+m]?:=by
  funext m
  have:((i:Int)+(m:Int)*1).toNat=i+m:=by omega
  rw [this]
 rw [e]
 have:=pick_run xs i k
 rw [List.filterMap_map] at this
 have e2:((fun x=>xs[x]?)∘fun x=>i+x)=fun m=>xs[i+m]?:=rfl
 rw [e2] at this
 rw [this]
theorem getItem_tuple_cut {t sl:Addr}{items:Array Value}{vl vu:Value}{lo hi:Option Int}{Q:Value->Shared->Prop}(ht:IsTup s.heap t items)(hs:s.heap.IsSliceOf sl vl vu .none)(pl:IsPart vl lo)(pu:IsPart vu hi)
 (hw:¬ (sIx items.size 0 lo=0/\sIx items.size items.size hi=items.size))
 (h:Q (.ref s.heap.objs.size) { s with heap:=s.heap.push { cls:=.type "tuple",data:=.seq ((items.toList.drop (sIx items.size 0 lo)).take (sIx items.size items.size hi - sIx items.size 0 lo)).toArray } })
 (hsz:items.size<=sizeLine):wpAny (model prog w) A (getItem (.ref t) (.ref sl)) Q E s:=by
 have htake:sizeOk (.seq ((items.toList.drop (sIx items.size 0 lo)).take (sIx items.size items.size hi - sIx items.size 0 lo)).toArray):=by
  show ((items.toList.drop (sIx items.size 0 lo)).take (sIx items.size items.size hi - sIx items.size 0 lo)).toArray.size<=sizeLine
  rw [List.size_toArray,List.length_take,List.length_drop,Array.length_toList]
  omega
 have hj:sIx items.size items.size hi<=items.size:=Q2u _ _ (Nat.le_refl _) hi
 obtain ⟨os,hos,hcs,hds⟩:=id hs
 have hTs:s.TypeIs (.ref sl) "slice":=⟨os,hos,hcs⟩
 unfold getItem
 try with_reducible refine wpAny_holding ?_
 first|refine wpAny_bind (wpAny_pure ?_)|skip
 refine wpAny_bind (wpAny_sequenceKey ht.typeIs (by decide) ?_)
 refine wpAny_bind (wpAny_callSpecial?_slot (name:=Str.ofString "__getitem__") ht.typeIs PyProof.Rows.slot_tuple_getitem
  (wpAny_call_entry PyProof.Rows.slot_tuple_getitem ht.typeIs entry_tuple_getitem ?_ (args_tuple_getitem _ _)))
 show wpAny _ _ (Builtin.Tuple.tupleItemsOf (.ref t) >>= _) _ _ s
 refine wpAny_bind (tupleItemsOf_ ht ?_)
 refine wpAny_bind (wpAny_typeOf hTs ?_)
 rw [if_pos (by decide)]
 refine wpAny_bind (KO hs pl pu ?_)
 have hno:¬ ((((sIx items.size 0 lo:Nat):Int)==0&&(1:Int)==1&&(sIx items.size items.size hi - sIx items.size 0 lo)==items.size)=true):=by
  intro q
  rw [Bool.and_eq_true,Bool.and_eq_true] at q
  have q1:((sIx items.size 0 lo:Nat):Int)=0:=eq_of_beq q.1.1
  have q2:sIx items.size items.size hi - sIx items.size 0 lo=items.size:=eq_of_beq q.2
  exact hw ⟨by omega,by omega⟩
 show wpAny _ _ (if (((sIx items.size 0 lo:Nat):Int)==0&&(1:Int)==1&&(sIx items.size items.size hi - sIx items.size 0 lo)==items.size)=true then _ else _) _ _ s
 rw [if_neg hno,J4p]
 first
  | exact wpAny_bind (m:=Builtin.Tuple.tupleExact _) (wpAny_newObj_type (wpAny_pure ⟨_,rfl,wpAny_pure h⟩) htake)
  | exact wpAny_bind (m:=Builtin.Tuple.tupleExact _) (wpAny_newObj_type (wpAny_bind (wpAny_pure (wpAny_pure ⟨_,rfl,wpAny_pure h⟩))) htake)
  | exact wpAny_bind (wpAny_bind (m:=Builtin.Tuple.tupleExact _) (wpAny_newObj_type (wpAny_pure (wpAny_pure ⟨_,rfl,wpAny_pure h⟩)) htake))
  | exact wpAny_bind (wpAny_bind (m:=Builtin.Tuple.tupleExact _) (wpAny_newObj_type (wpAny_pure ⟨_,rfl,wpAny_pure h⟩) htake))
end
end HT
namespace L2
open PySem PySem.Spec PyProof.Rows
noncomputable abbrev TO:=St->Hp->(Option Int->Hp->Prop)->Prop
noncomputable def PO (X:Cx)(e:Option Expr)(t:TO):Prop :=
 ∀ (pins:List (Addr×Obj)) (s:Shared) (σ:St) (H:Hp) (Q:Option Int->Hp->Prop),Inv X pins σ H s->t σ H Q ->
  wpAny (model X.prog X.w) X.A (evalPart e X.env) (fun u s'=>∃ o H',Inv X pins σ H' s'/\IsPart u o/\Q o H') X.xe s
noncomputable def J8j:TO:=fun _ H Q=>Q none H
noncomputable def Q6d (t:TE):TO:=fun σ H Q=>t σ H fun x H1=>∃ i,x=.int i/\Q (some i) H1
section
variable {X:Cx}{e:Expr}{te:TE}{lo hi:Option Expr}{tl th:TO}{pos p2:Pos}
theorem J8z:PO X none J8j:=by
 intro pins s σ H Q I h
 rw [evalPart_none]
 exact wpAny_pure ⟨none,H,I,.none,h⟩
theorem J8y (h:PE X e te):PO X (some e) (Q6d te):=by
 intro pins s σ H Q I hw
 rw [evalPart_some]
 refine thn (h pins s σ H _ I hw) fun u s1 ⟨x,H1,I1,r1,q1⟩=>?_
 obtain ⟨i,rfl,q⟩:=q1
 obtain ⟨t,rfl⟩:=r1
 exact ⟨some i,H1,I1,.int i t,q⟩
noncomputable def SlR (X:Cx)(r:V->Option Int->Option Int->Hp->VK->Prop):Prop :=
 ∀ (pins:List (Addr×Obj)) (s:Shared) (σ:St) (H:Hp) (x:V) (v vl vu:Value) (lo hi:Option Int) (sl:Addr) (Q:VK),Inv X pins σ H s->RelV x v->s.heap.IsSliceOf sl vl vu .none->IsPart vl lo->IsPart vu hi->r x lo hi H Q ->
  ∃ T id,typeLookup (.type T) "__getitem__" = pure (some (.builtin id))/\s.TypeIs v T/\wpAny (model X.prog X.w) X.A (getItem v (.ref sl)) (EP X pins σ Q) X.xe s
theorem SlR.or {r r':V->Option Int->Option Int->Hp->VK->Prop}(h:SlR X r)(h':SlR X r'):SlR X (fun x lo hi H Q=>r x lo hi H Q\/r' x lo hi H Q):=by
 intro pins s σ H x v vl vu lo hi sl Q I rx hs pl pu q
 rcases q with q|q
 · exact h pins s σ H x v vl vu lo hi sl Q I rx hs pl pu q
 · exact h' pins s σ H x v vl vu lo hi sl Q I rx hs pl pu q
noncomputable def tSl (r:V->Option Int->Option Int->Hp->VK->Prop)(te:TE)(tl th:TO):TE:=fun σ H Q=>te σ H fun x H1=>tl σ H1 fun l H2=>th σ H2 fun u H3=>r x l u H3 Q
theorem J4s {r:V->Option Int->Option Int->Hp->VK->Prop}(hr:SlR X r)(he:PE X e te)(hl:PO X lo tl)(hu:PO X hi th):PE X (.Subscript e (.Slice lo hi none p2) pos) (tSl r te tl th):=by
 intro pins s σ H Q I h
 refine Subscript_ (thn (he pins s σ H _ I h) fun v s1 ⟨x,H1,I1,r1,q1⟩=>?_)
 refine wpAny_Slice (thn (hl pins s1 σ H1 _ I1 q1) fun vl s2 ⟨l,H2,I2,pl,q2⟩=>thn (hu pins s2 σ H2 _ I2 q2) fun vu s3 ⟨u,H3,I3,pu,q3⟩=>?_)
 rw [evalPart_none]
 refine wpAny_pure ?_
 have I4:Inv X pins σ H3 { s3 with heap:=s3.heap.push { cls:=.type "slice",data:=.fields #[vl,vu,.none] } }:=I3.kept (t':=s3.toks) fun b ob q=>Heap.get?_push_of_some _ q
 obtain ⟨T,id,hT,ht,hg⟩:=hr pins { s3 with heap:=s3.heap.push { cls:=.type "slice",data:=.fields #[vl,vu,.none] } } σ H3 x v vl vu l u s3.heap.objs.size Q I4 r1 (Heap.IsSliceOf.new ..) pl pu q3
 show wpAny (model X.prog X.w) X.A (subscriptTail e (.Slice lo hi none p2) v (.ref s3.heap.objs.size)) (EP X pins σ Q) X.xe { s3 with heap:=s3.heap.push { cls:=.type "slice",data:=.fields #[vl,vu,.none] } }
 exact tail_any (ops:=[.ref s3.heap.objs.size,v]) ht hT hg (by with_unfolding_all rfl)
noncomputable def WS (xs:List V)(lo hi:Option Int):List V:=(xs.drop (HT.sIx xs.length 0 lo)).take (HT.sIx xs.length xs.length hi - HT.sIx xs.length 0 lo)
theorem LU (xs:List V)(lo hi:Option Int):(WS xs lo hi).length<=xs.length:=by
 unfold WS
 rw [List.length_take,List.length_drop]
 omega
noncomputable def J4i (K:Fg):V->Option Int->Option Int->Hp->VK->Prop:=fun x lo hi H Q=>∃ a xs,x=.ref a/\SqT K H a xs /\
 ¬ (HT.sIx xs.length 0 lo=0/\HT.sIx xs.length xs.length hi=xs.length)/\∀ p,H p=none->Q (.ref p) (upd H p (.tup (WS xs lo hi)))
theorem Q2r:SlR X (J4i X.K):=by
 intro pins s σ H x v vl vu lo hi sl Q I rx hs pl pu h
 obtain ⟨a,xs,rfl,hx,hw,q⟩:=h
 cases rx
 obtain ⟨its,r,ht,hz⟩:=I.tuple hx
 have hlen:its.toArray.size=xs.length:=by rw [List.size_toArray];exact r.length.symm
 refine ⟨"tuple",_,PyProof.Rows.slot_tuple_getitem.lookup,ht.typeIs,?_⟩
 refine HT.getItem_tuple_cut ht hs pl pu (by rw [hlen];exact hw) ?_ (by rw [hlen];exact hz)
 rw [hlen]
 refine ⟨.ref s.heap.objs.size,_,I.laid (t':=s.toks) (o:=.tup (WS xs lo hi)) (fun b ob q=>Heap.get?_push_of_some _ q) (Nat.le_refl _) ?_,rfl,q _ (I.hok.fresh (Nat.le_refl _))⟩
 exact ⟨Nat.le_trans (LU xs lo hi) hz,_,(r.drop (HT.sIx xs.length 0 lo)).take (HT.sIx xs.length xs.length hi - HT.sIx xs.length 0 lo),IsTup.new _ _⟩
end
noncomputable def ixN (n:Nat)(i:Int):Option Nat:=if 0<=i then (if i<n then some i.toNat else none) else if -(n:Int)<=i then some (i+n).toNat else none
noncomputable def atI {α:Type}(xs:List α)(i:Int):Option α:=(ixN xs.length i).bind fun j=>xs[j]?
theorem J0l {n:Nat}{i:Int}{j:Nat}(h:ixN n i=some j):seqIndex? i n=some j/\j<n/\-(n:Int)<=i/\i<n:=by
 unfold ixN at h
 by_cases h0:0<=i
 · rw [if_pos h0] at h
   by_cases h1:i<n
   · rw [if_pos h1] at h
     have e:i.toNat=j:=Option.some.inj h
     exact ⟨by rw [seqIndex_of h0 h1,e],by omega,by omega,h1⟩
   · rw [if_neg h1] at h;cases h
 · rw [if_neg h0] at h
   by_cases h1 : -(n:Int)<=i
   · rw [if_pos h1] at h
     have e:(i+n).toNat=j:=Option.some.inj h
     exact ⟨by rw [seqIndex_neg (by omega) h1,e],by omega,h1,by omega⟩
   · rw [if_neg h1] at h;cases h
theorem J1n {α:Type}{xs:List α}{i:Int}{v:α}(h:atI xs i=some v):∃ j,seqIndex? i xs.length=some j/\xs[j]?=some v/\j<xs.length/\-(xs.length:Int)<=i/\i<xs.length:=by
 unfold atI at h
 cases e:ixN xs.length i with
 | none=>rw [e] at h;cases h
 | some j =>
   rw [e] at h
   obtain ⟨h1,h2,h3,h4⟩:=J0l e
   exact ⟨j,h1,h,h2,h3,h4⟩
theorem KC {α:Type}{xs:List α}{j:Nat}{v:α}(h:xs[j]?=some v):atI xs (j:Int)=some v:=by
 have hj:j<xs.length:=(List.getElem?_eq_some_iff.mp h).1
 have e:ixN xs.length (j:Int)=some j:=by
  unfold ixN
  rw [if_pos (by omega),if_pos (by omega)];simp
 unfold atI;rw [e];exact h
noncomputable def UI (b:Expr):Prop:=∀ o i,subscripted b false o i=operate [o,i] (getItem o i)
noncomputable def IxR (X:Cx)(r:R2):Prop :=
 ∀ (value slice:Expr) (pins:List (Addr×Obj)) (s:Shared) (σ:St) (H:Hp) (x y:V) (v u:Value) (Q:VK),Inv X pins σ H s->RelV x v->RelV y u->r x y H Q ->
  subscripted slice false v u=operate [v,u] (getItem v u)->wpAny (model X.prog X.w) X.A (subscriptTail value slice v u) (EP X pins σ Q) X.xe s
noncomputable def MtR (X:Cx)(id:String)(r:V->List V->Hp->VK->Prop):Prop :=
 ∀ (pins:List (Addr×Obj)) (s:Shared) (σ:St) (H:Hp) (x:V) (xs:List V) (v:Value) (us:List Value) (Q:VK),Inv X pins σ H s->RelV x v->Vals xs us->r x xs H Q ->
  wpAny (model X.prog X.w) X.A (call (.builtin id) (v::us)) (EP X pins σ Q) X.xe s
section
variable {X:Cx}{a b:Expr}{ta tb:TE}{pos:Pos}
theorem IxR.or {r r':R2}(h:IxR X r)(h':IxR X r'):IxR X (fun x y H Q=>r x y H Q\/r' x y H Q):=by
 intro value slice pins s σ H x y v u Q I rx ry q hs
 rcases q with q|q
 · exact h value slice pins s σ H x y v u Q I rx ry q hs
 · exact h' value slice pins s σ H x y v u Q I rx ry q hs
theorem NL {r:R2}(hr:IxR X r)(ha:PE X a ta)(hb:PE X b tb)(hs:UI b):PE X (.Subscript a b pos) (tOp r ta tb):=by
 intro pins s σ H Q I h
 exact Subscript_ (Q5k ha hb I h fun v u s2 x y H2 I2 rx ry q=>hr a b pins s2 σ H2 x y v u Q I2 rx ry q (hs _ _))
noncomputable def J8w (K:Fg):R2:=fun x y H Q=>∃ p xs i v,x=.ref p/\y=.int i/\SqL K H p xs/\atI xs i=some v/\Q v H
noncomputable def J8v (K:Fg):R2:=fun x y H Q=>∃ p xs i v,x=.ref p/\y=.int i/\SqT K H p xs/\atI xs i=some v/\Q v H
theorem J9y:IxR X (J8w X.K):=by
 intro value slice pins s σ H x y v u Q I rx ry h hs
 obtain ⟨p,xs,i,z,rfl,rfl,hq,he,q⟩:=h
 cases rx
 obtain ⟨t,rfl⟩:=ry
 obtain ⟨its,r,pl,hz⟩:=I.list hq
 obtain ⟨j,h1,h2,h3,h4,h5⟩:=J1n he
 obtain ⟨w,ew,rw'⟩:=r.get h2
 have hl:=r.length
 have hn:=NU
 have fin:EP X pins σ Q w s:=⟨z,H,I,rw',q⟩
 by_cases h0:0<=i
 · have hj:i.toNat=j:=by
    rw [seqIndex_of h0 h5] at h1
    exact Option.some.inj h1
   exact item_listR pl.isList h0 (by omega) (by rw [hj];simpa using ew) fin hs
 · have hj:(i+(its.toArray.size:Int)).toNat=j:=by
    rw [seqIndex_neg (by omega) h4] at h1
    rw [List.size_toArray,<- hl]
    exact Option.some.inj h1
   exact subscriptTail_builtinR (x:=w) pl.isList.typeIs slot_list_getitem.lookup
    (wpAny_getItem_list_neg (Q:=fun r s'=>r=w/\EP X pins σ Q r s') pl.isList (by omega) (by rw [List.size_toArray]<;>omega) (by omega) (by rw [hj];simpa using ew) ⟨rfl,fin⟩) hs
theorem Q3t:IxR X (J8v X.K):=by
 intro value slice pins s σ H x y v u Q I rx ry h hs
 obtain ⟨p,xs,i,z,rfl,rfl,hq,he,q⟩:=h
 cases rx
 obtain ⟨t,rfl⟩:=ry
 obtain ⟨its,r,pl,hz⟩:=I.tuple hq
 obtain ⟨j,h1,h2,h3,h4,h5⟩:=J1n he
 obtain ⟨w,ew,rw'⟩:=r.get h2
 have hl:=r.length
 have hn:=NU
 have fin:EP X pins σ Q w s:=⟨z,H,I,rw',q⟩
 exact subscriptTail_builtinR (x:=w) pl.typeIs slot_tuple_getitem.lookup
  (getItem_tuple (j:=j) (Q:=fun r s'=>r=w/\EP X pins σ Q r s') pl (by omega) (by omega) (by rw [List.size_toArray,<- hl];exact h1) (by simpa using ew) ⟨rfl,fin⟩) hs
theorem YS (its:List Value)(n j:Nat)(u:Value):Obj.mapSeq (·.setIfInBounds j u) { cls:=.type "list",data:=.seq its.toArray n }={ cls:=.type "list",data:=.seq (its.set j u).toArray n }:=by
 simp [Obj.mapSeq]
theorem Inv.lst {pins:List (Addr×Obj)}{σ:St}{H:Hp}{s:Shared}{p:Addr}{xs:List V}(I:Inv X pins σ H s)(h:H p=some (.lst xs)) :
 ∃ (its:List Value) (n:Nat),Vals xs its/\s.heap.get? p=some { cls:=.type "list",data:=.seq its.toArray n }/\xs.length<=sizeLine:=by
 obtain ⟨z,its,n,r,e⟩:=I.hok p _ h
 exact ⟨its,n,r,e,z⟩
theorem Inv.lstUpd {pins:List (Addr×Obj)}{σ:St}{H:Hp}{s:Shared}{p:Addr}{xs ys:List V}{its its':List Value}{n n':Nat}{f:Obj->Obj}(I:Inv X pins σ H s)(h:H p=some (.lst xs))
 (ho:s.heap.get? p=some { cls:=.type "list",data:=.seq its.toArray n }) (hf:f { cls:=.type "list",data:=.seq its.toArray n }={ cls:=.type "list",data:=.seq its'.toArray n' }) (r:Vals ys its') (hz:ys.length<=sizeLine) (t:Nat) :
 Inv X pins σ (upd H p (.lst ys)) { s with heap:=s.heap.update p f,toks:=t }:=by
 have e:(s.heap.update p f).get? p=some { cls:=.type "list",data:=.seq its'.toArray n' }:=by
  rw [Heap.get?_update_self f ho (by rw [hf]<;>rfl),hf]
 refine I.write (x:=p) (e:=p) (by rw [h];trivial) (.inl rfl) (fun b u hb q=>(Heap.get?_update_other _ _ (Ne.symm hb)).trans q) ⟨_,e⟩ ?_
 exact ⟨hz,its',n',r,e⟩
noncomputable def Q6o:V->V->V->Hp->(Hp->Prop)->Prop:=fun o i v H Q=>∃ p xs k j,o=.ref p/\i=.int k/\H p=some (.lst xs)/\ixN xs.length k=some j/\Q (upd H p (.lst (xs.set j v)))
theorem VG:Q8j X Q6o:=by
 intro pins s σ H o i v ov iv u Q I ro ri rv h
 obtain ⟨p,xs,k,j,rfl,rfl,hp,hj,q⟩:=h
 cases ro
 obtain ⟨t,rfl⟩:=ri
 obtain ⟨its,n,r,ho,hz⟩:=I.lst hp
 obtain ⟨h1,h2,h3,h4⟩:=J0l hj
 have hl:=r.length
 have hn:=NU
 have I':Inv X pins σ (upd H p (.lst (xs.set j v))) { s with heap:=s.heap.update p (Obj.mapSeq (·.setIfInBounds j u)) } :=
  I.lstUpd hp ho (YS its n j u) (r.set rv j) (by rw [List.length_set];exact hz) s.toks
 by_cases h0:0<=k
 · have hk:k.toNat=j:=by
    rw [seqIndex_of h0 h4] at h1
    exact Option.some.inj h1
   exact PySem.W.ki_setAt ho h0 (by omega) (by rw [List.size_toArray,<- hl];exact h4) (by rw [hk];exact ⟨_,I',q⟩)
 · have hk:(k+(its.toArray.size:Int)).toNat=j:=by
    rw [seqIndex_neg (by omega) h3] at h1
    rw [List.size_toArray,<- hl]
    exact Option.some.inj h1
   exact PySem.W.ki_setBack ho (by omega) (by rw [List.size_toArray,<- hl];exact h3) (by omega) (by rw [hk];exact ⟨_,I',q⟩)
theorem RQ (lo hi:Option Int)(n:Nat):(sliceBounds lo hi none n).1=((HT.sIx n 0 lo:Nat):Int)/\(sliceBounds lo hi none n).2.1=((HT.sIx n n hi:Nat):Int)/\(sliceBounds lo hi none n).2.2=1:=by
 refine ⟨?_,?_,rfl⟩
 · cases lo with
   | none=>simp [sliceBounds,HT.sIx]
   | some i =>
     simp only [sliceBounds,HT.sIx,Option.getD_none,show (1:Int)>0 by decide,if_true]
     by_cases h:i<0
     · simp only [h,if_true]<;>omega
     · simp only [h,if_false]<;>omega
 · cases hi with
   | none=>simp [sliceBounds,HT.sIx]
   | some i =>
     simp only [sliceBounds,HT.sIx,Option.getD_none,show (1:Int)>0 by decide,if_true]
     by_cases h:i<0
     · simp only [h,if_true]<;>omega
     · simp only [h,if_false]<;>omega
theorem OO (its:List Value)(lo hi:Option Int):slicePick its.toArray lo hi none=((its.drop (HT.sIx its.length 0 lo)).take (HT.sIx its.length its.length hi - HT.sIx its.length 0 lo)).toArray:=by
 obtain ⟨h1,h2,h3⟩:=RQ lo hi its.toArray.size
 unfold slicePick
 rw [h1,h2,h3]
 simp only [sliceRange_one,pick_run,List.size_toArray]<;>rfl
noncomputable def J4j (K:Fg):V->Option Int->Option Int->Hp->VK->Prop:=fun x lo hi H Q=>∃ a xs,x=.ref a/\SqL K H a xs/\∀ p,H p=none->Q (.ref p) (upd H p (.lst (WS xs lo hi)))
theorem J8p:SlR X (J4j X.K):=by
 intro pins s σ H x v vl vu lo hi sl Q I rx hs pl pu h
 obtain ⟨a,xs,rfl,hx,q⟩:=h
 cases rx
 obtain ⟨its,r,ht,hz⟩:=I.list hx
 have hlen:=r.length
 refine ⟨"list",_,slot_list_getitem.lookup,ht.isList.typeIs,?_⟩
 refine wpAny_getItem_list_slice ht.isList hs pl pu .none (by simp) ?_ (by rw [List.size_toArray]<;>omega)
 rw [OO,<- hlen]
 refine ⟨.ref s.heap.objs.size,_,I.laid (t':=s.toks) (o:=.lst (WS xs lo hi)) (fun b ob q=>Heap.get?_push_of_some _ q) (Nat.le_refl _) ?_,rfl,q _ (I.hok.fresh (Nat.le_refl _))⟩
 exact ⟨Nat.le_trans (LU xs lo hi) hz,_,0,(r.drop (HT.sIx xs.length 0 lo)).take (HT.sIx xs.length xs.length hi - HT.sIx xs.length 0 lo),Heap.get?_push_size _ rfl⟩
theorem TV:CS X (.builtin "len") (fun xs H Q=>∃ p ys,xs=[.ref p]/\(SqL X.K H p ys\/SqT X.K H p ys)/\Q (.int ys.length) H):=by
 intro pins s σ H xs us Q I r h
 obtain ⟨p,ys,rfl,hq,q⟩:=h
 obtain ⟨u,rfl,rx⟩:=PX r
 cases rx
 have hn:=NU
 rcases hq with hq|hq
 · obtain ⟨its,r',pl,hz⟩:=I.list hq
   have hlen:=r'.length
   exact Calls.call_len_list pl.isList (by simp only [List.size_toArray]<;>omega) ⟨.int ys.length,H,I.tok _,⟨s.toks+1,by rw [List.size_toArray,hlen]⟩,q⟩
 · obtain ⟨its,r',pl,hz⟩:=I.tuple hq
   have hlen:=r'.length
   exact len_tuple pl (by simp only [List.size_toArray]<;>omega) ⟨.int ys.length,H,I.tok _,⟨s.toks+1,by rw [List.size_toArray,hlen]⟩,q⟩
theorem PJ:CS X (.type "tuple") (fun xs H Q=>∃ p ys,xs=[.ref p]/\((SqL X.K H p ys/\∀ l,H l=none->Q (.ref l) (upd H l (.tup ys)))\/(SqT X.K H p ys/\Q (.ref p) H))):=by
 intro pins s σ H xs us Q I r h
 obtain ⟨p,ys,rfl,h⟩:=h
 obtain ⟨u,rfl,rx⟩:=PX r
 cases rx
 rcases h with ⟨hq,q⟩|⟨hq,q⟩
 · obtain ⟨its,r',pl,hz⟩:=I.list hq
   have hlen:=r'.length
   refine call_tuple_list pl.isList (fun h' kp=>?_) (by simp only [List.size_toArray]<;>omega)
   have I1:Inv X pins σ H { s with heap:=h' }:=I.kept (t':=s.toks) kp
   have I2:Inv X pins σ (upd H h'.objs.size (.tup ys)) { s with heap:=h'.push { cls:=.type "tuple",data:=.seq its.toArray } } :=
    I1.laid (t':=s.toks) (fun b o e=>Heap.get?_push_of_some _ e) (Nat.le_refl _) (show ObjOk X.prog X.w _ _ _ (.tup ys) from ⟨hz,its,r',IsTup.new _ _⟩)
   exact ⟨.ref h'.objs.size,_,I2,rfl,q _ (I1.hok.fresh (Nat.le_refl _))⟩
 · obtain ⟨its,r',pl,hz⟩:=I.tuple hq
   exact call_tuple_same pl ⟨.ref p,H,I,rfl,q⟩
noncomputable def tyV (K:Fg)(T:String)(x:V)(H:Hp):Prop:=match x with
 | .str _=>T = "str"
 | .int _=>T = "int"
 | .ref p=>(T = "list"/\∃ xs,SqL K H p xs)\/(T = "tuple"/\∃ o,K.lookup p=some o/\o.cls=.type "tuple"/\o.dict=none) \/
  (T = "dict"/\((∃ kvs,H p=some (.dK kvs))\/∃ kvs,H p=some (.dT kvs)))\/(T = "set"/\∃ S n,H p=some (.set S n))
 | _=>False
theorem Q2f {pins:List (Addr×Obj)}{σ:St}{H:Hp}{s:Shared}{T:String}{x:V}{v:Value}(I:Inv X pins σ H s)(r:RelV x v)(ty:tyV X.K T x H) :
 s.TypeIs v T/\∀ a,v=.ref a->∃ ob,s.heap.get? a=some ob/\ob.dict=none:=by
 cases x with
 | str z =>
   obtain ⟨t,rfl⟩:=r
   cases (show T = "str" from ty)
   exact ⟨typeIs_str s z t,fun _ e=>nomatch e⟩
 | int i =>
   obtain ⟨t,rfl⟩:=r
   cases (show T = "int" from ty)
   exact ⟨typeIs_int s i t,fun _ e=>nomatch e⟩
 | ref p =>
   cases r
   rcases ty with ⟨rfl,xs,hq⟩|⟨rfl,o,hk,hc,hd⟩|⟨rfl,hk⟩|⟨rfl,S,n,hk⟩
   · obtain ⟨its,_,pl,_⟩:=I.list hq
     refine ⟨pl.isList.typeIs,fun a e=>?_⟩
     cases e
     obtain ⟨o,n,e,c,hd,_⟩:=pl
     exact ⟨o,e,hd⟩
   · refine ⟨⟨o,I.kIn p o hk,hc⟩,fun a e=>?_⟩
     cases e
     exact ⟨o,I.kIn _ o hk,hd⟩
   · have z:∃ o,s.heap.get? p=some o/\o.ExactDict:=by
      rcases hk with ⟨kvs,hk⟩|⟨kvs,hk⟩
      · obtain ⟨_,_,_,_,o,_,_,e,ex,_⟩:=I.hok p _ hk
        exact ⟨o,e,ex⟩
      · obtain ⟨_,_,_,_,o,_,_,e,ex,_⟩:=I.hok p _ hk
        exact ⟨o,e,ex⟩
     obtain ⟨o,e,ex⟩:=z
     refine ⟨⟨o,e,ex.1⟩,fun a e2=>?_⟩
     cases e2
     exact ⟨o,e,ex.2.1⟩
   · obtain ⟨o,_,_,_,e,ex,_⟩:=I.hok p _ hk
     refine ⟨⟨o,e,ex.1⟩,fun a e2=>?_⟩
     cases e2
     exact ⟨o,e,ex.2.1⟩
 | _=>exact False.elim ty
noncomputable def tBM (K:Fg)(T:String)(r:V->List V->Hp->VK->Prop)(to:TE)(t:TA):TE:=fun σ H Q=>to σ H fun x H1=>tyV K T x H1/\t σ H1 fun xs H2=>r x xs H2 Q
variable {o e:Expr}{es:List Expr}{to:TE}{t:TA}{name:Str}{apos cpos:Pos}{T id:String}{r:V->List V->Hp->VK->Prop}
theorem QH (pa:PlainAttrs T)(slot:Slot T name id)(hty:typeOf (.builtin id)=pure (.type "method_descriptor")) (hm:MtR X id r) (ho:PE X o to) (ha:PA X (e::es) t)
 (hbase:attributeBase o name X.env (eval o X.env)=eval o X.env:=by rfl)
 (hfew:((backTo cpos (starEach (e::es) X.env)).all (fun x=>!x.1)&&(backToKw cpos (keywordEach [] X.env)).all (fun x=>x.1.isSome)
  && decide ((e::es).length+([]:List Keyword).length+(if ([]:List Keyword).isEmpty then 0 else 1)<30))=true:=by rfl)
 (hline:(apos.endLine==cpos.line)=true:=by rfl) (hs:starEach (e::es) X.env=(false,eval e X.env)::starEach es X.env:=by rfl) (hplain:(backTo cpos (starEach es X.env)).any (·.1)=false:=by rfl) :
 PE X (.Call (.Attribute o name apos) (e::es) [] cpos) (tBM X.K T r to t):=by
 intro pins s σ H Q I h
 refine wpAny_Call_method_late hbase hfew hline rfl (thn (ho pins s σ H _ I h) fun v s1 ⟨x,H1,I1,r1,ty,q1⟩=>?_)
 obtain ⟨h1,h2⟩:=Q2f I1 r1 ty
 refine ⟨T,id,pa,slot,hty,h1,h2,?_⟩
 have hA:=ha cpos pins s1 σ H1 _ I1 q1
 rw [hs] at hA ⊢
 refine Calls.callWith_builtin (by show (false||(backTo cpos (starEach es X.env)).any (·.1))=false;rw [hplain]<;>rfl) (Calls.evalArgs_plain ?_)
 exact thn hA fun us s2 ⟨vs,H2,I2,r2,q2⟩=>hm pins s2 σ H2 x vs v us Q I2 r1 r2 q2
end
noncomputable def MtM (X:Cx)(id:String)(r:V->List V->Hp->VK->Prop):Prop :=
 ∀ (pins:List (Addr×Obj)) (s:Shared) (σ:St) (H:Hp) (x:V) (xs:List V) (v:Value) (us:List Value) (Q:VK),Inv X pins σ H s->RelV x v->Vals xs us->r x xs H Q ->
  wpAny (model X.prog X.w) X.A (call (.builtin id) (v::us)) (EP X pins σ Q) X.xe s
theorem Vals.one:∀ {x:V} {us:List Value},Vals [x] us->∃ u,us=[u]/\RelV x u
 | _,_,.cons r .nil=>⟨_,rfl,r⟩
section
variable {X:Cx}{pins:List (Addr×Obj)}{σ:St}{H:Hp}{s:Shared}{l:Addr}{xs ys:List V}
theorem Inv.lset {its its':List Value}{n:Nat}{f:Array Value->Array Value}{t':Nat}(I:Inv X pins σ H s)(hH:H l=some (.lst xs))
 (e:s.heap.get? l=some { cls:=.type "list",data:=.seq its.toArray n }) (hf:f its.toArray=its'.toArray) (hv:Vals ys its') (hz:ys.length<=sizeLine) :
 Inv X pins σ (upd H l (.lst ys)) { s with heap:=s.heap.update l (Obj.mapSeq f),toks:=t' }:=by
 have q:=PySem.IsL.update e f
 rw [hf] at q
 refine I.write (x:=l) (e:=l) (by rw [hH];exact trivial) (.inl rfl) (fun b' u hb hu=>(Heap.get?_update_other s.heap (Obj.mapSeq f) (Ne.symm hb)).trans hu) ⟨_,q⟩ ?_
 exact ⟨hz,its',_,hv,q⟩
theorem Inv.lnew {its:List Value}{t':Nat}(I:Inv X pins σ H s)(hv:Vals ys its)(hz:ys.length<=sizeLine) :
 Inv X pins σ (upd H s.heap.objs.size (.lst ys)) { s with heap:=s.heap.push { cls:=.type "list",data:=.seq its.toArray },toks:=t' } :=
 I.laid (fun _ _ q=>Heap.get?_push_of_some _ q) (Nat.le_refl _) ⟨hz,its,0,hv,Heap.get?_push_size _ rfl⟩
theorem Inv.fresh (I:Inv X pins σ H s):H s.heap.objs.size=none:=I.hok.fresh (Nat.le_refl _)
theorem Inv.lstM (I:Inv X pins σ H s)(hH:H l=some (.lst xs)):xs.length<=sizeLine/\∃ (its:List Value) (n:Nat),Vals xs its/\xs.length=its.length/\s.heap.get? l=some { cls:=.type "list",data:=.seq its.toArray n }:=by
 obtain ⟨z,its,n,r,e⟩:=I.hok l _ hH
 exact ⟨z,its,n,r,r.length,e⟩
theorem J5b {n:Nat}(h:n<=sizeLine):Builtin.List.listTooLong n=false:=by
 unfold Builtin.List.listTooLong
 exact decide_eq_false (by omega)
end
section
variable {X:Cx}
noncomputable def MI:V->List V->Hp->VK->Prop:=fun x vs H Q=>∃ l xs y,x=.ref l/\vs=[y]/\H l=some (.lst xs)/\xs.length<sizeLine/\Q .non (upd H l (.lst (xs++[y])))
theorem LC:MtM X "list.append" MI:=by
 intro pins s σ H x vs v us Q I rx rv h
 obtain ⟨l,xs,y,rfl,rfl,hH,hz,q⟩:=h
 cases rx
 obtain ⟨u,rfl,ru⟩:=rv.one
 obtain ⟨z,its,n,r,hl,e⟩:=I.lstM hH
 refine call_meets F.slot_list_append ⟨_,e,rfl⟩ F.entry_list_append (F.args_list_append_2 _ _) (PySem.list_append l its.toArray n u (by rw [List.size_toArray];omega)) ⟨e,?_⟩
 refine ⟨.non,_,I.lset (its':=its++[u]) hH e (by simp) (r.append (.cons ru .nil)) ?_,rfl,q⟩
 rw [List.length_append,List.length_singleton]
 omega
noncomputable def RY:V->List V->Hp->VK->Prop:=fun x vs H Q=>∃ l b xs zs,x=.ref l/\vs=[.ref b]/\H l=some (.lst xs)/\H b=some (.lst zs)/\xs.length+zs.length<=sizeLine/\Q .non (upd H l (.lst (xs++zs)))
theorem LB:MtM X "list.extend" RY:=by
 intro pins s σ H x vs v us Q I rx rv h
 obtain ⟨l,b,xs,zs,rfl,rfl,hH,hB,hz,q⟩:=h
 cases rx
 obtain ⟨u,rfl,ru⟩:=rv.one
 cases ru
 obtain ⟨z,its,n,r,hl,e⟩:=I.lstM hH
 obtain ⟨z2,its2,n2,r2,hl2,e2⟩:=I.lstM hB
 have hsz:its.toArray.size+its2.toArray.size<=sizeLine:=by rw [List.size_toArray,List.size_toArray];omega
 have hlong:¬ (!its.toArray.isEmpty&&Builtin.List.listTooLong (its.toArray.size+its2.toArray.size))=true:=by
  rw [J5b hsz,Bool.and_false]
  exact Bool.false_ne_true
 refine call_meets F.slot_list_extend ⟨_,e,rfl⟩ F.entry_list_extend (F.args_list_extend_2 _ _)
  (AutoSeq1.list_extend_list_list_0 l its.toArray n b its2.toArray n2 hlong (by rw [List.size_toArray];omega) (by omega)) ⟨e,e2,?_⟩
 refine ⟨.non,_,I.lset (its':=its++its2) hH e (by simp) (r.append r2) ?_,rfl,q⟩
 rw [List.length_append]
 omega
noncomputable def Q6p:R2:=fun x y H Q=>∃ l b xs zs,x=.ref l/\y=.ref b/\H l=some (.lst xs)/\H b=some (.lst zs)/\xs.length+zs.length<=sizeLine/\∀ p,H p=none->Q (.ref p) (upd H p (.lst (xs++zs)))
theorem Q3g:OpR X (binaryOp .Add) Q6p:=by
 intro pins s σ H x y v u Q I rx ry h
 obtain ⟨l,b,xs,zs,rfl,rfl,hH,hB,hz,q⟩:=h
 cases rx
 cases ry
 obtain ⟨z,its,n,r,hl,e⟩:=I.lstM hH
 obtain ⟨z2,its2,n2,r2,hl2,e2⟩:=I.lstM hB
 refine PySem.P.add_list e e2 ?_ (by rw [List.size_toArray,List.size_toArray];omega)
 have ea:its.toArray++its2.toArray=(its++its2).toArray:=by simp
 rw [ea]
 exact ⟨.ref _,_,I.lnew (t':=s.toks) (r.append r2) (by rw [List.length_append];omega),rfl,q _ I.fresh⟩
end
end L2
namespace Att
open PySem PySem.W PySem.Calls PyProof.Rows
theorem MA {P:Params}{h:Heap}:∀ (ns:List Int) (vs:List Value),WellAll P h vs (ns.map WData.int)->IntsAre vs ns:=by
 intro ns
 induction ns with
 | nil =>
   intro vs w
   rw [List.map_nil] at w
   cases w
   exact .nil
 | cons n ns ih =>
   intro vs w
   rw [List.map_cons] at w
   cases w with
   | cons a b =>
     cases a
     exact .cons _ _ (ih _ b)
theorem J2d {l:OpenLaw}{n:Nat}(hn:l.most=some n){P:Params}{h:Heap}{args:List WData}{vals:List Value}
 (hpre:l.row.toRowW.claim.pre args=true) (hwl:WellAll P h vals args) :
 ∃ a vs ns,vals=[Value.ref a]/\args=[WData.list (ns.map WData.int)]/\h.get? a=some { cls:=.type "list",data:=.seq vs.toArray }/\IntsAre vs ns/\ns.length<=n:=by
 have hsh:WShape.hasAll [] args [.list .int]=true:=(pre_splitW hpre).1
 have hc:l.pre.holds [] { args:=args }=true:=(pre_splitW hpre).2
 obtain ⟨d,r,rfl,h1,h2⟩:=hasAllW_cons hsh
 obtain rfl:=hasAllW_nil h2
 obtain ⟨xs,rfl,h3⟩:=hasW_list h1
 obtain ⟨ns,rfl⟩:=items_int h3
 have hlen:ns.length<=n:=by
  unfold OpenLaw.pre at hc
  have h4:(WTm.not (.lt (.lit (.int (n:Int))) (.len (.arg 0)))).holds [] { args:=[.list (ns.map .int)] }=true:=by
   have h4:=(holds_andW hc).1
   rw [hn] at h4
   exact h4
  have h5:=condW_of h4 (w_not (w_lt w_lit (w_len_list (w_arg rfl))))
  rw [List.length_map] at h5
  refine Nat.le_of_not_lt fun q=>?_
  have q':(n:Int)<((ns.length:Nat):Int):=by omega
  first
   | (rw [decide_eq_true q'] at h5;exact absurd h5 (by decide))
   | (simp at h5;omega)
 cases hwl with
 | cons w1 w2 =>
   cases w2
   cases w1 with
   | list ho hall=>exact ⟨_,_,ns,rfl,rfl,ho,MA ns _ hall,hlen⟩
theorem J2g (l:OpenLaw)(args:List WData):l.row.toRowW.claim.post args (.bool true) args=true :=
 postW_of (r:=l.row.toRowW) (X:=(true==true))
  (show WShape.has [] (.bool true) .bool=true by first|rfl|decide|simp [WShape.has,WShape.arms,WShape.armsAll])
  (show (WTm.eq .res (.lit (.bool true))).value [] { args:=args,res:=some (.bool true),after:=args }=some (.bool (true==true)) from w_eq_bool (w_res rfl) w_lit) rfl
theorem attach_call {l:OpenLaw}{n:Nat}{q:Program}{loose:List Str}{XP:(Str->Option Value)->Heap->Prop}{YP:World->Heap->Prop}{d:DefRec}
 (hn:l.most=some n) (hdf:d.params.defaults=[])
 (call:∀ (w:World) (s₀ s₁:Shared) (mg mb:Str->Option Value) (fa:Addr) (o:Obj) (pm cd doc:Value) (a:Addr) (vs:List Value) (ns:List Int),
  Ground q loose [] XP w s₀ mg mb s₁.heap->YP w s₁.heap ->
  s₁.heap.get? fa=some o->o.data=.func (docDef d.name d.params d.body d.scope pm cd doc)->s₁.heap.CodeRec cd d.name->mg d.name=some (.ref fa) ->
  s₁.heap.get? a=some { cls:=.type "list",data:=.seq vs.toArray }->IntsAre vs ns->ns.length<=n->s₁.gens=#[] ->
  codeAny (model l.prog w) callerA (.call (.ref fa) ⟨[.ref a],[]⟩) (fun r s'=>r=.ok (.ret (.bool true))/\OldK s₁.heap s'.heap/\s'.os=s₁.os/\AllBare s'.gens) s₁) :
 WalkO q loose XP YP l.row.toRowW d [] (fun f vs=>PySem.call f vs):=by
 intro w s₀ s₁ mg mb G Y fa o pm cd doc dV kV ho hd hcd hD hmg hg args vals as hpre hlay hrd hwl hlo
 obtain rfl:dV=.none:=Dflts.none hD hdf
 obtain rfl:kV=.none:=Dflts.noKw hD
 obtain ⟨a,vs,ns,rfl,rfl,hobj,hints,hlen⟩:=J2d hn hpre hwl
 refine enter_call (codeAny_mono (call w s₀ s₁ mg mb fa o pm cd doc a vs ns G Y ho (fd_plain hd) hcd hmg hobj hints hlen hg) fun r s' hq=>?_)
 obtain ⟨rfl,h2,h3,h4⟩:=hq
 exact ⟨.inl ⟨.bool true,.bool true,[],rfl,fun _=>rfl,.bool true,J2g l _,fun _=>⟨List.Pairwise.nil,fun _ hm=>(nomatch hm)⟩⟩,h2,h3,h4⟩
section
end
end Att
namespace L2
open PySem PySem.Spec PyProof.Rows
theorem PV:∀ {vs:List Value} {ns:List Int},IntsAre vs ns->Vals (ns.map V.int) vs
 | _,_,.nil=>.nil
 | _,_,.cons n t h=>.cons ⟨t,rfl⟩ (PV h)
noncomputable def Q5s (H:Hp):Prop:=∀ b,H b=none\/∃ o xs,H b=some (.frz o (.lst xs))
theorem J5k {P:Program}{w:World}{K:Fg}{mg mb:Str->Option Value}{CX:CXT}{k:Nat}{fa a:Addr}{fd:FuncData}{x:Str}{sp:Sp}{s₁:Shared}{vs:List Value}{ns:List Int}
 (KX:K.In s₁.heap) (hns:s₁.heap.Ns mainGlobals mg) (hb:s₁.heap.Ns builtinsNs mb) (hbb:∀ x:Str,x≠"__name__"->mb x=bootBuiltins x) (hlim:s₁.heap.NoLimit) (hg:s₁.gens=#[])
 (ha:s₁.heap.get? a=some { cls:=.type "list",data:=.seq vs.toArray }) (hi:IntsAre vs ns) (hl:ns.length<=sizeLine) (hr:Room k callerA)
 (F:∀ base:Heap,K.In base->base.Ns mainGlobals mg->FnOk P w K mg base CX k fa fd [x] sp) (hbind:∀ (s:Shared) (u:Value),BindsTo s fd ⟨[u],[]⟩ [(x,u)])
 (hsp:∀ H:Hp,Q5s H->SqL K H a (ns.map V.int)->sp [.ref a] H (fun v _=>v=.bl true) fun _ _ _=>False)
 (hCX:∀ H e s',CX [] H s₁ (fun _ _ _=>False) e s'->False) :
 codeAny (model P w) callerA (.call (.ref fa) ⟨[.ref a],[]⟩) (fun r s'=>r=.ok (.ret (.bool true))/\OldK s₁.heap s'.heap/\s'.os=s₁.os/\AllBare s'.gens) s₁:=by
 have rv:=PV hi
 have lenV:=hi.length
 have core:∀ H:Hp,Q5s H->SqL K H a (ns.map V.int)->HOk P w H s₁.heap->(∀ b,H b≠none->b=a)->(H a≠none->K.lookup a=none) ->
  codeAny (model P w) callerA (.call (.ref fa) ⟨[.ref a],[]⟩) (fun r s'=>r=.ok (.ret (.bool true))/\OldK s₁.heap s'.heap/\s'.os=s₁.os/\AllBare s'.gens) s₁:=by
  intro H hO hS hok hA hK
  have base_of:∀ {b:Addr} {o:Obj},s₁.heap.get? b=some o->H b=none->(SX s₁.heap H).get? b=some o:=fun e n=>J5v e n
  have noA:∀ {b:Addr} {o:Obj} {es:Array DictEntry} {ep:Nat},s₁.heap.get? b=some o->o.data=.dict es ep->H b=none:=fun {b o es ep} e d=>by
   cases q:H b with
   | none=>rfl
   | some u =>
     have e':b=a:=hA b (by rw [q];simp)
     subst e'
     rw [ha] at e;cases e
     have d':Data.seq vs.toArray _=Data.dict es ep:=d
     cases d'
  have nsK:∀ {b:Addr} {m:Str->Option Value},s₁.heap.Ns b m->(SX s₁.heap H).Ns b m:=fun {b m} ⟨o,es,ep,e,d,r⟩=>⟨o,es,ep,base_of e (noA e d),d,r⟩
  have hKb:K.In (SX s₁.heap H):=fun b o e=>base_of (KX b o e) (by
   cases q:H b with
   | none=>rfl
   | some u =>
     have e':b=a:=hA b (by rw [q];simp)
     subst e'
     rw [hK (by rw [q];simp)] at e;cases e)
  have hM:Mod K mg (SX s₁.heap H):=⟨hKb,nsK hns,⟨mb,nsK hb,hbb⟩,let ⟨mc,h1,h2⟩:=hlim;⟨mc,nsK h1,h2⟩⟩
  have e0:Env0 P w K mg (SX s₁.heap H) callerA [] s₁ H:=⟨rfl,hM,fun b o e=>J9l e,Nat.le_of_eq (J2y _ _),trivial,fun b hb=>absurd (show b∈([]:List Addr) from hb) (by simp),hok,.of_eq hg⟩
  refine codeAny_mono ((F _ hKb (nsK hns)).run callerA [] s₁ H ⟨[.ref a],[]⟩ [.ref a] [.ref a] _ _ hr e0 (hbind s₁ (.ref a)) (.cons rfl .nil) (hsp H hO hS)) fun r s' h=>?_
  cases r with
  | error e=>exact (hCX H e s' h).elim
  | ok fl =>
    cases fl with
    | next=>exact False.elim h
    | brk=>exact False.elim h
    | cont=>exact False.elim h
    | ret u =>
      obtain ⟨v,H',os,bare,un,hok',r',q⟩:=h
      have q':v=.bl true:=q
      subst q'
      obtain rfl:u=Value.bool true:=r'
      refine ⟨rfl,OldK.of_keep fun b o e=>?_,os,bare⟩
      cases q:H b with
      | none=>exact un.keep b o e q (by intro z;exact absurd (show b∈([]:List Addr) from z) (by simp)) (by simp)
      | some u =>
        rcases hO b with z|⟨ob,xs,z⟩
        · rw [q] at z;cases z
        · have z2:=un.frzs b ob _ z
          obtain ⟨e1,_⟩:=hok b _ z
          obtain ⟨e2,_⟩:=hok' b _ z2
          rw [e] at e1;cases e1
          exact e2
 cases hk:K.lookup a with
 | some o =>
   have e:=KX a o hk
   rw [ha] at e
   cases e
   refine core (fun _=>none) (fun _=>.inl rfl) (.inr ⟨_,vs.toArray,_,hk,rfl,rfl,rfl,by rw [List.size_toArray,lenV];exact hl,by simpa using rv⟩) (fun b u z=>by have z':(none:Option HO)=some u:=z;cases z') (fun b z=>absurd rfl z) fun z=>absurd rfl z
 | none =>
   refine core (fun b=>if b=a then some (.frz { cls:=.type "list",data:=.seq vs.toArray } (.lst (ns.map V.int))) else none) (fun b=>?_) (.inl (.inr ⟨{ cls:=.type "list",data:=.seq vs.toArray },if_pos rfl⟩)) (fun b u z=>?_) (fun b z=>?_) fun _=>hk
   · by_cases hb:b=a
     · exact .inr ⟨_,_,if_pos hb⟩
     · exact .inl (if_neg hb)
   · by_cases hb:b=a
     · have z':=(if_pos hb).symm.trans z
       cases z'
       subst hb
       exact ⟨ha,by rw [List.length_map];exact hl,vs,_,rv,ha⟩
     · have z':=(if_neg hb).symm.trans z
       cases z'
   · by_cases hb:b=a
     · exact hb
     · exact absurd (if_neg hb) z
theorem J8g {l:PySem.W.OpenLaw}{n k:Nat}{q:Program}{loose:List Str}{XP:(Str->Option Value)->Heap->Prop}{YP:World->Heap->Prop}{d:DefRec}{K:Params->Fg}{CX:World->CXT}{sp:World->Sp}{x:Str}
 (hn:l.most=some n) (hn2:n<=sizeLine) (hdf:d.params.defaults=[]) (hr:Room k callerA)
 (hY:∀ (w:World) (h:Heap),YP w h->(K w.params).In h)
 (F:∀ (w:World) (mg:Str->Option Value) (fa:Addr) (h:Heap),(K w.params).In h->h.Ns mainGlobals mg->mg d.name=some (.ref fa) ->
  ∃ fd:FuncData,(∀ (s:Shared) (u:Value),BindsTo s fd ⟨[u],[]⟩ [(x,u)]) /\
   ∀ base:Heap,(K w.params).In base->base.Ns mainGlobals mg->FnOk l.prog w (K w.params) mg base (CX w) k fa fd [x] (sp w))
 (hsp:∀ (w:World) (H:Hp) (a:Addr) (ns:List Int),ns.length<=n->Q5s H->SqL (K w.params) H a (ns.map V.int)->sp w [.ref a] H (fun v _=>v=.bl true) fun _ _ _=>False)
 (hCX:∀ (w:World) (H:Hp) (s:Shared) (e:Value) (s':Shared),CX w [] H s (fun _ _ _=>False) e s'->False) :
 PySem.W.WalkO q loose XP YP l.row.toRowW d [] (fun f vs=>PySem.call f vs):=by
 refine Att.attach_call hn hdf fun w s₀ s₁ mg mb fa o pm cd doc a vs ns G Y ho hd hcd hmg hobj hints hlen hg=>?_
 have KX:=hY w _ Y
 obtain ⟨fd,hb,hF⟩:=F w mg fa _ KX G.T.g hmg
 exact J5k KX G.T.g G.T.b G.T.builtins G.T.nolimit hg hobj hints (Nat.le_trans hlen hn2) hr hF hb (fun H hO hS=>hsp w H a ns hlen hO hS) fun H e s'=>hCX w H s₁ e s'
noncomputable def JX (s:Stmt):Arguments:=match s with
 | .FunctionDef _ a _ _ _ _ _ _ _ _=>a
 | _=>{ posonlyargs:=[],args:=[],vararg:=none,kwonlyargs:=[],kw_defaults:=[],kwarg:=none,defaults:=[] }
noncomputable def BX (s:Stmt):List Stmt:=match s with
 | .FunctionDef _ _ b _ _ _ _ _ _ _=>b
 | _=>[]
noncomputable def J7 (s:Stmt):Scope:=match s with
 | .FunctionDef _ _ _ _ _ _ sc _ _ _=>sc
 | _=>{ kind:=.function,names:=[],isGenerator:=false,isCoroutine:=false }
noncomputable abbrev CX0:CXT:=fun _ _ _ _ _ _=>False
noncomputable abbrev E0:XK:=fun _ _ _=>False
theorem Q6t {X:Cx}:FZ CX0 X E0:=fun _ _ _ _ _ _ _ h=>h.elim
structure Fun (K:Fg)(x qual:Str)(st:Stmt)(f:Addr)(fd:FuncData):Prop where
 ex:∃ (oc:Value) (od:Option Addr) (kV doc pm:Value) (an:Option Addr) (cdv ct:Value) (osl:Array (Option Value)),
  fd=PySem.W.fnOf x qual (JX st) (BX st) (J7 st) .none kV doc pm an cdv ct/\K.lookup f=some ⟨oc,od,.func fd,osl⟩/\PySem.W.codeIn K cdv qual=true
 kp:PySem.W.keepIn K (.ref f)=true
section
variable {P:Program}{w:World}{K:Fg}{mg:Str->Option Value}{base:Heap}
theorem Fun.ok {x qual:Str}{st:Stmt}{f:Addr} {N ps:List Str}{k:Nat}{sp:Sp}(F:Fun K x qual st f fd)(S:FnScope N ps (J7 st))(len:∀ vs H Q E,sp vs H Q E->vs.length=ps.length)
 (hbody:∀ (cdv:Value) (A:Around) (outer:List Env) (s:Shared) (H:Hp) (vs:List V) (Q:VK) (E:XK),Room k (A.deeper (envOfC qual (J7 st) s.heap.objs.size f cdv))->sp vs H Q E ->
  ∃ t,PSs (BO CX0 P w K mg base N qual (J7 st) f cdv A outer s H E).nox (BX st) t/\t { nx:=fun _ H'=>Q .non H',rt:=Q } (EB N vs) H):FnOk P w K mg base CX0 (k+1) f fd ps sp:=by
 obtain ⟨oc,od,kV,doc,pm,an,cdv,ct,osl,rfl,lk,hcd⟩:=F.ex
 refine Q1q lk hcd S len fun A outer s H vs Q E hr hsp=>?_
 obtain ⟨t,h,q⟩:=hbody cdv A outer s H vs Q E hr hsp
 exact ⟨t,h.nox,q⟩
theorem Fun.binds {x qual:Str}{st:Stmt}{f:Addr} {ps:List Str}(F:Fun K x qual st f fd)
 (h:∀ (kV doc pm:Value) (an:Option Addr) (cdv ct:Value) (us:List Value),us.length=ps.length->bindArgs (PySem.W.fnOf x qual (JX st) (BX st) (J7 st) .none kV doc pm an cdv ct) ⟨us,[]⟩=pure (ps.zip us)):Binds K fd ps []:=by
 obtain ⟨oc,od,kV,doc,pm,an,cdv,ct,osl,rfl,lk,hcd⟩:=F.ex
 exact .all (h kV doc pm an cdv ct)
theorem Q3y {x qual:Str}{st:Stmt}{f:Addr}{oc:Value}{od an:Option Addr}{osl:Array (Option Value)}{kV doc pm cdv ct:Value}(l:K.lookup f=some ⟨oc,od,.func (PySem.W.fnOf x qual (JX st) (BX st) (J7 st) .none kV doc pm an cdv ct),osl⟩)
 (c:PySem.W.codeIn K cdv qual=true) (k:PySem.W.keepIn K (.ref f)=true):Fun K x qual st f (PySem.W.fnOf x qual (JX st) (BX st) (J7 st) .none kV doc pm an cdv ct):=⟨⟨oc,od,kV,doc,pm,an,cdv,ct,osl,rfl,l,c⟩,k⟩
end
section
variable {X:Cx}
theorem pv (i:Nat) {x:Str} {pos:Pos} (hN:X.N[i]?=some x:=by rfl) (hv:Vis X.env.scope x:=by first|exact Or.inl rfl|exact Or.inr (Or.inl rfl)|exact Or.inr (Or.inr rfl)) (hd:(x==("__debug__" : Str))=false:=by decide)
 (hcd:(x==("__classdict__" : Str))=false:=by decide):PE X (.Name x pos) (XV i):=J4r hN hv hd hcd
end
theorem Q9a {A B:Prop}(h:B):if false=true then A else B:=by
 rw [if_neg Bool.false_ne_true]
 exact h
theorem Q8z {A B:Prop}(h:A):if true=true then A else B:=by
 rw [if_pos rfl]
 exact h
noncomputable def Same (H H':Hp):Prop:=∀ b o,H b=some o->H' b=some o
theorem Same.refl (H:Hp):Same H H:=fun _ _ h=>h
end L2
set_option maxHeartbeats 4000000
namespace L2
open PySem PySem.Spec PyProof.Rows
theorem TN {x:Str}{lo:Nat}:∀ (names:List (Str×NameKind)) (n:Nat) (acc:List (Str×Addr)),lo<=n->(∀ c,acc.lookup x=some c->lo<=c)->∀ c,(cellsFrom n names acc).lookup x=some c->lo<=c
 | [],_,_,_,h,c,e=>h c e
 | (y,k)::r,n,acc,hn,h,c,e=>by
   unfold cellsFrom at e
   split at e
   · refine TN r (n+1) ((y,n)::acc) (by omega) (fun c' e'=>?_) c e
     rw [List.lookup_cons] at e'
     cases hb:x==y with
     | true=>rw [hb] at e';cases e';exact hn
     | false=>rw [hb] at e';exact h c' e'
   · exact TN r n acc hn h c e
theorem YY {x:Str}{lo:Nat}:∀ (names:List (Str×NameKind)) (n:Nat) (acc:List (Str×Addr)),lo<=n->(x,NameKind.cell)∈names->∀ c,(cellsFrom n names acc).lookup x=some c->lo<=c
 | [],_,_,_,hm,_,_=>by cases hm
 | (y,k)::r,n,acc,hn,hm,c,e=>by
   unfold cellsFrom at e
   split at e
   · rcases List.mem_cons.mp hm with z|z
     · cases z
       refine TN r (n+1) ((x,n)::acc) (by omega) (fun c' e'=>?_) c e
       rw [List.lookup_cons,beq_self_eq_true] at e'
       cases e'
       exact hn
     · exact YY r (n+1) ((y,n)::acc) (by omega) z c e
   · rename_i hk
     rcases List.mem_cons.mp hm with z|z
     · cases z
       exact absurd rfl hk
     · exact YY r n acc hn z c e
theorem YZ {x:Str}:∀ (names:List (Str×NameKind)) (n:Nat) (acc:List (Str×Addr)),¬ (x,NameKind.cell)∈names->(cellsFrom n names acc).lookup x=acc.lookup x
 | [],_,_,_=>rfl
 | (y,k)::r,n,acc,hm=>by
   unfold cellsFrom
   have hr:¬ (x,NameKind.cell)∈r:=fun z=>hm (List.mem_cons_of_mem _ z)
   split
   · rename_i hk
     rw [YZ r (n+1) _ hr,List.lookup_cons]
     have hxy:(x==y)=false:=by
      cases hb:x==y with
      | false=>rfl
      | true =>
        have e1:x=y:=beq_iff_eq.mp hb
        have e2:k=NameKind.cell:=beq_iff_eq.mp hk
        subst e1 e2
        exact absurd List.mem_cons_self hm
     rw [hxy]
   · exact YZ r n acc hr
theorem ZA:∀ (names:List (Str×NameKind)) (n:Nat) (acc:List (Str×Addr)),(∀ x c,acc.lookup x=some c->c<n)->(∀ x y c,acc.lookup x=some c->acc.lookup y=some c->x=y) ->
 ∀ x y c,(cellsFrom n names acc).lookup x=some c->(cellsFrom n names acc).lookup y=some c->x=y
 | [],_,_,_,h,x,y,c,e1,e2=>h x y c e1 e2
 | (z,k)::r,n,acc,hb,h,x,y,c,e1,e2=>by
   unfold cellsFrom at e1 e2
   split at e1
   · rename_i hk
     rw [if_pos hk] at e2
     refine ZA r (n+1) ((z,n)::acc) (fun x' c' e'=>?_) (fun x' y' c' e1' e2'=>?_) x y c e1 e2
     · rw [List.lookup_cons] at e'
       cases q:x'==z with
       | true=>rw [q] at e';cases e';exact Nat.lt_succ_self _
       | false=>rw [q] at e';exact Nat.lt_succ_of_lt (hb x' c' e')
     · rw [List.lookup_cons] at e1' e2'
       cases q1:x'==z with
       | true =>
         rw [q1] at e1'
         cases e1'
         cases q2:y'==z with
         | true=>rw [beq_iff_eq.mp q1,beq_iff_eq.mp q2]
         | false =>
           rw [q2] at e2'
           exact absurd (hb y' _ e2') (Nat.lt_irrefl _)
       | false =>
         rw [q1] at e1'
         cases q2:y'==z with
         | true =>
           rw [q2] at e2'
           cases e2'
           exact absurd (hb x' _ e1') (Nat.lt_irrefl _)
         | false =>
           rw [q2] at e2'
           exact h x' y' c' e1' e2'
   · rename_i hk
     rw [if_neg hk] at e2
     exact ZA r n acc hb h x y c e1 e2
theorem XC:∀ (names:List (Str×NameKind)) (n:Nat) (acc:List (Str×Addr)) (x:Str) (c:Addr),(cellsFrom n names acc).lookup x=some c->acc.lookup x=some c\/n<=c
 | [],_,_,_,_,e=>.inl e
 | (z,k)::r,n,acc,x,c,e=>by
   unfold cellsFrom at e
   split at e
   · rcases XC r (n+1) ((z,n)::acc) x c e with q|q
     · rw [List.lookup_cons] at q
       cases hb:x==z with
       | true=>rw [hb] at q;cases q;exact .inr (Nat.le_refl _)
       | false=>rw [hb] at q;exact .inl q
     · exact .inr (by omega)
   · exact XC r n acc x c e
theorem TQ:∀ (names:List (Str×NameKind)) (h:Heap) (acc:List (Str×Addr)),(∀ x c,acc.lookup x=some c->∃ v,h.IsCell c v) ->
 ∀ x c,(cellsFrom h.objs.size names acc).lookup x=some c->∃ v,(pushCells h names).IsCell c v
 | [],_,_,hh,x,c,e=>hh x c e
 | (z,k)::r,h,acc,hh,x,c,e=>by
   unfold cellsFrom at e
   unfold pushCells
   split at e
   · rename_i hk
     rw [if_pos hk]
     have e':(cellsFrom (h.push { cls:=.type "cell",data:=.cell none }).objs.size r ((z,h.objs.size)::acc)).lookup x=some c:=by rw [Heap.size_push];exact e
     refine TQ r _ _ (fun x' c' q=>?_) x c e'
     rw [List.lookup_cons] at q
     cases hb:x'==z with
     | true =>
       rw [hb] at q
       cases q
       exact ⟨none,_,Heap.get?_push_size _ rfl,rfl⟩
     | false =>
       rw [hb] at q
       obtain ⟨v,w⟩:=hh x' c' q
       exact ⟨v,w.keeps fun b o e=>Heap.get?_push_of_some _ e⟩
   · rename_i hk
     rw [if_neg hk]
     exact TQ r h acc hh x c e
theorem TM {env:Env}(f:Str×NameKind->List (Str×Addr)->Sem (ForInStep (List (Str×Addr))))
 (hf:∀ name kind cs,f (name,kind) cs=if kind==.free then (do let a <- cellOf env name;pure (.yield ((name,a)::cs))) else pure (.yield cs)) :
 ∀ (names:List (Str×NameKind)) (acc:List (Str×Addr)),(∀ x,(x,NameKind.free)∈names->∃ c,env.cells.lookup x=some c)->(∀ x c,acc.lookup x=some c->env.cells.lookup x=some c) ->
  ∃ cl,forIn names acc f=pure cl/\(∀ x c,cl.lookup x=some c->env.cells.lookup x=some c)/\∀ x,((acc.lookup x).isSome=true\/(x,NameKind.free)∈names)->(cl.lookup x).isSome=true
 | [],acc,_,ha=>⟨acc,by rw [List.forIn_nil],ha,fun x h=>h.elim id fun z=>by cases z⟩
 | (name,kind)::r,acc,hn,ha=>by
   have hr:∀ x,(x,NameKind.free)∈r->∃ c,env.cells.lookup x=some c:=fun x hx=>hn x (List.mem_cons_of_mem _ hx)
   by_cases hk:(kind==NameKind.free)=true
   · have ek:kind=NameKind.free:=beq_iff_eq.mp hk
     subst ek
     obtain ⟨c,hc⟩:=hn name List.mem_cons_self
     obtain ⟨cl,e1,e2,e3⟩:=TM f hf r ((name,c)::acc) hr (fun x c' e=>by
      rw [List.lookup_cons] at e
      cases hb:x==name with
      | true=>rw [hb] at e;cases e;rw [beq_iff_eq.mp hb];exact hc
      | false=>rw [hb] at e;exact ha x c' e)
     refine ⟨cl,?_,e2,fun x hx=>e3 x ?_⟩
     · rw [List.forIn_cons,hf,if_pos hk]
       unfold cellOf
       rw [hc]
       simpa using e1
     · rcases hx with hx|hx
       · left
         rw [List.lookup_cons]
         cases hb:x==name with
         | true=>rfl
         | false=>exact hx
       · rcases List.mem_cons.mp hx with z|z
         · cases z
           left
           rw [List.lookup_cons,beq_self_eq_true]
           rfl
         · exact .inr z
   · obtain ⟨cl,e1,e2,e3⟩:=TM f hf r acc hr ha
     refine ⟨cl,?_,e2,fun x hx=>e3 x ?_⟩
     · rw [List.forIn_cons,hf,if_neg hk]
       simpa using e1
     · rcases hx with hx|hx
       · exact .inl hx
       · rcases List.mem_cons.mp hx with z|z
         · cases z
           exact absurd rfl hk
         · exact .inr z
theorem PH {scope:Scope}{env:Env}(hn:∀ x,(x,NameKind.free)∈scope.names->∃ c,env.cells.lookup x=some c) :
 ∃ cl,closureFor scope env=pure cl/\(∀ x c,cl.lookup x=some c->env.cells.lookup x=some c)/\∀ x,(x,NameKind.free)∈scope.names->(cl.lookup x).isSome=true:=by
 obtain ⟨cl,e1,e2,e3⟩:=TM (env:=env) (fun x cs=>match x with
  | (name,kind)=>if (kind==NameKind.free)=true then (do let a <- cellOf env name;pure (ForInStep.yield ((name,a)::cs))) else pure (ForInStep.yield cs)) (fun name kind cs=>rfl) scope.names [] hn (fun x c e=>by cases e)
 refine ⟨cl,?_,e2,fun x hx=>e3 x (.inr hx)⟩
 show (forIn scope.names [] _ >>= fun r=>pure r)=_
 refine Eq.trans (congrArg (fun m=>m >>= fun r=>pure r) e1) ?_
 simp
noncomputable def ZK (ifs:List Expr)(env:Env):Sem Bool:=forIn ifs true fun c r=>if r=true then do let ok <- isTrue c env (eval c env);pure (ForInStep.yield ok) else pure (ForInStep.yield r)
theorem TL {prog:Program}{w:World}{A:Around}{R:Result->Shared->Prop}{s:Shared}{elt target iter:Expr}{ifs:List Expr}{scope:Scope}{pos:Pos}{it acc:Value}{env:Env}(J:Nat->Shared->Prop)
 (turn:∀ n s,J n s->wpAny (model prog w) A (pyNext it) (fun r s₁=>match r with
  | none=>R (.ok .next) s₁
  | some v=>wpAny (model prog w) A (letOwnedTupleGo target it v) (fun _ s₁'=>wpAny (model prog w) A (assign target env v) (fun _ s₂=>wpAny (model prog w) A (ZK ifs env) (fun ok s₃ =>
   if ok=true then wpAny (model prog w) A (eval elt env) (fun x s₄=>wpAny (model prog w) A (call (.builtin "list.append") [acc,x]) (fun _ s₅=>∃ m,m<n/\J m s₅) (notedBy (model prog w) A env fun e s'=>R (.error e) s') s₄)
    (notedBy (model prog w) A env fun e s'=>R (.error e) s') s₃
   else ∃ m,m<n/\J m s₃) (notedBy (model prog w) A env fun e s'=>R (.error e) s') s₂) (notedBy (model prog w) A env fun e s'=>R (.error e) s') s₁') (notedBy (model prog w) A env fun e s'=>R (.error e) s') s₁)
   (notedBy (model prog w) A env fun e s'=>R (.error e) s') s) (n:Nat) (h:J n s) :
 codeAny (model prog w) A (.compLoop (.ListComp elt [⟨target,iter,ifs,0⟩] scope pos) 0 it acc env) R s:=by
 refine codeAny_loop rfl J (fun n s hJ=>?_) n h
 show wpAny _ _ (Sem.onRaise (compTurn (.ListComp elt [⟨target,iter,ifs,0⟩] scope pos) 0 it acc env) fun x=>do noteFrame x env;theTreesLotGoes x) _ _ _
 refine wpAny_noted ?_
 rw [compTurn_list]
 refine wpAny_bind (wpAny_standAt (wpAny_bind (thn (turn n s hJ) fun r s₁ h₁=>?_)))
 cases r with
 | none=>exact wpAny_pure h₁
 | some v =>
   refine wpAny_bind (thn h₁ fun _ s₁' h₁'=>wpAny_bind (thn h₁' fun _ s₂ h₂=>wpAny_bind (thn h₂ fun ok s₃ h₃=>?_)))
   cases ok with
   | true=>exact wpAny_bind (wpAny_bind (thn h₃ fun x s₄ h₄=>wpAny_bind (thn h₄ fun _ s₅ h₅=>wpAny_pure (wpAny_pure ⟨rfl,h₅⟩))))
   | false=>exact wpAny_pure ⟨rfl,h₃⟩
noncomputable def Q5v (X:Cx)(C:Addr)(e:Value)(s':Shared):Prop :=
 ∃ m,s'.heap.Ns C m/\∀ h',Heap.SameBut C s'.heap h'->∀ cenv:Env,cenv.locals=C->wpAny (model X.prog X.w) X.A (passOn "comprehension.variables-let-go" e cenv:Sem Value) (fun _ _=>False) X.xe { s' with heap:=h' }
noncomputable def Q9 (X:Cx)(N:List Str)(scope:Scope)(cells:List (Str×Addr))(C:Addr)(fp:List Addr)(s:Shared)(H:Hp):Cx where
 prog:=X.prog
 w:=X.w
 K:=X.K
 mg:=X.mg
 base:=X.base
 A:=X.A
 N:=N
 s₀:=s
 H₀:=H
 env:=compEnvC scope cells C X.env
 outer:=X.stack
 stack:=X.stack
 ex:=fp
 fn:=fun x=>decide (scope.names.lookup x=some NameKind.cell)
 calm:=X.calm
 pn:=[]
 xe:=notedBy (model X.prog X.w) X.A (compEnvC scope cells C X.env) (Q5v X C)
noncomputable def capt (σ:St)(map:List (Option Nat)):St:=map.map fun o=>o.bind fun i=>(σ[i]?).join
noncomputable def CapOk (X:Cx)(scope:Scope):List (Option Nat)->List Str->Prop
 | [],[]=>True
 | none::m,_::n=>CapOk X scope m n
 | some i::m,x::n=>(X.N[i]?=some x/\scope.names.lookup x=some .free/\(scope.names.all fun p=>!(p.1==x&&p.2==NameKind.cell))=true/\(X.env.kindOf x=some .cell\/X.env.kindOf x=some .free))/\CapOk X scope m n
 | _,_=>False
theorem CapOk.length {X:Cx}{scope:Scope}:∀ {m:List (Option Nat)} {n:List Str},CapOk X scope m n->m.length=n.length
 | [],[],_=>rfl
 | none::m,_::n,h=>by simp [CapOk.length (m:=m) (n:=n) h]
 | some i::m,x::n,h=>by simp [CapOk.length (m:=m) (n:=n) h.2]
 | [],_::_,h=>h.elim
 | some _::_,[],h=>h.elim
 | none::_,[],h=>h.elim
theorem CapOk.get {X:Cx}{scope:Scope}:∀ {m:List (Option Nat)} {n:List Str} {j i:Nat} {x:Str},CapOk X scope m n->m[j]?=some (some i)->n[j]?=some x ->
 X.N[i]?=some x/\scope.names.lookup x=some .free/\¬ (x,NameKind.cell)∈scope.names/\(X.env.kindOf x=some .cell\/X.env.kindOf x=some .free)
 | [],[],_,_,_,_,e,_=>by simp at e
 | none::m,_::n,0,_,_,_,e,_=>by simp at e
 | none::m,_::n,j+1,i,x,h,e,e'=>CapOk.get (m:=m) (n:=n) (j:=j) h (by simpa using e) (by simpa using e')
 | some k::m,y::n,0,i,x,h,e,e'=>by
   have e1:k=i:=by simpa using e
   have e2:y=x:=by simpa using e'
   subst e1 e2
   obtain ⟨⟨h1,h2,h3,h4⟩,_⟩:=h
   refine ⟨h1,h2,fun hm=>?_,h4⟩
   have q:=List.all_eq_true.mp h3 _ hm
   simp at q
 | some k::m,y::n,j+1,i,x,h,e,e'=>CapOk.get (m:=m) (n:=n) (j:=j) h.2 (by simpa using e) (by simpa using e')
 | [],_::_,_,_,_,h,_,_=>h.elim
 | some _::_,[],_,_,_,h,_,_=>h.elim
 | none::_,[],_,_,_,h,_,_=>h.elim
noncomputable def HK (g:TG)(map:List (Option Nat)):Prop:=∀ v σ H Q,g v σ H Q->g v σ H fun σ' H'=>(σ'.length=σ.length/\∀ j i:Nat,map[j]?=some (some i)->σ'[j]?=σ[j]?)/\Q σ' H'
noncomputable def PIf (X:Cx)(ifs:List Expr)(t:TT):Prop :=
 ∀ (pins:List (Addr×Obj)) (s:Shared) (σ:St) (H:Hp) (Q:Bool->Hp->Prop),Inv X pins σ H s->t σ H Q->wpAny (model X.prog X.w) X.A (ZK ifs X.env) (TP X pins σ Q) X.xe s
noncomputable def Q6b:TT:=fun _ H Q=>Q true H
theorem J9b {X:Cx}:PIf X [] Q6b:=fun _ _ _ H _ I h=>wpAny_pure ⟨H,I,h⟩
theorem J9a {X:Cx}{c:Expr}{t:TT}(hc:PT X c t):PIf X [c] t:=fun pins s σ H Q I h=>by
 unfold ZK
 simp only [List.forIn_cons,List.forIn_nil,if_true]
 exact wpAny_bind (wpAny_bind (thn (hc pins s σ H Q I h) fun b s' hb=>wpAny_pure (wpAny_pure hb)))
theorem CM {env:Env}{x:Str}{k:NameKind}:∀ {names:List (Str×NameKind)},
 (names.map fun (p:Str×NameKind)=>match p with|(n,k)=>if (k==NameKind.free&&env.scope.kind==.function&&env.kindOf n==some .cell) then (n,NameKind.cell) else (n,k)).lookup x=some k ->
 ∃ k',names.lookup x=some k'/\(k'=k\/(k'=.free/\k=.cell))
 | [],h=>by simp at h
 | (n,k')::r,h=>by
   rw [List.map_cons] at h
   by_cases hc:(k'==NameKind.free&&env.scope.kind==.function&&env.kindOf n==some .cell)=true
   · simp only [if_pos hc,List.lookup_cons] at h
     rw [List.lookup_cons]
     cases hx:x==n with
     | true =>
       rw [hx] at h
       cases h
       refine ⟨k',rfl,.inr ⟨?_,rfl⟩⟩
       simp only [Bool.and_eq_true,beq_iff_eq] at hc
       exact hc.1.1
     | false =>
       rw [hx] at h
       exact CM h
   · simp only [if_neg hc,List.lookup_cons] at h
     rw [List.lookup_cons]
     cases hx:x==n with
     | true =>
       rw [hx] at h
       cases h
       exact ⟨_,rfl,.inl rfl⟩
     | false =>
       rw [hx] at h
       exact CM h
theorem FR {env:Env}{x:Str}:∀ {names:List (Str×NameKind)},names.lookup x=some .free ->
 (names.map fun (p:Str×NameKind)=>match p with|(n,k)=>if (k==NameKind.free&&env.scope.kind==.function&&env.kindOf n==some .cell) then (n,NameKind.cell) else (n,k)).lookup x=some .cell \/
 (names.map fun (p:Str×NameKind)=>match p with|(n,k)=>if (k==NameKind.free&&env.scope.kind==.function&&env.kindOf n==some .cell) then (n,NameKind.cell) else (n,k)).lookup x=some .free
 | [],h=>by simp at h
 | (n,k')::r,h=>by
   rw [List.map_cons]
   rw [List.lookup_cons] at h
   by_cases hc:(k'==NameKind.free&&env.scope.kind==.function&&env.kindOf n==some .cell)=true
   · simp only [if_pos hc,List.lookup_cons]
     cases hx:x==n with
     | true=>exact .inl rfl
     | false =>
       rw [hx] at h
       exact FR h
   · simp only [if_neg hc,List.lookup_cons]
     cases hx:x==n with
     | true =>
       rw [hx] at h
       cases h
       exact .inr rfl
     | false =>
       rw [hx] at h
       exact FR h
section
variable {X:Cx}{elt iter tg:Expr}{ifs:List Expr}{scope:Scope}{pos:Pos}{N':List Str}{map:List (Option Nat)}{wi:TI}{g:TG}{tt:TT}{te:TE}
noncomputable def OL (J:It)(g:TG)(tt:TT)(te:TE)(σc:St)(Fin:List V->Hp->Prop)(W:Nat->Nat->List V->Hp->Prop):Prop :=
 ∀ i m acc H2,W i m acc H2->(J.stop i H2/\acc.length<=sizeLine/\Fin acc H2) \/
  (J.go i H2/\acc.length<sizeLine/\∃ N:List V->Hp->Prop,(∀ acc' H',N acc' H'->∃ m',m'<m/\W (i+1) m' acc' H')/\∀ x H3,J.yld i H2 x H3->g x σc H3 fun σ4 H4=>tt σ4 H4 fun b H5=>if b=true then te σ4 H5 fun v H6=>N (acc++[v]) H6 else N acc H5)
structure TurnG (R:Cx->Prop)(P:Program)(w:World)(K:Fg)(tg:Expr)(J:It)(fp:List Addr)(it:Addr)(tn:Nat->Heap->Prop):Prop where
 mem:it∈fp
 obj:∀ i h,tn i h->∀ b∈fp,∃ o,h.get? b=some o/\∀ v,o.data≠.cell v
 keep:∀ i h h',tn i h->(∀ b∈fp,∀ o,h.get? b=some o->h'.get? b=some o)->tn i h'
 item:∀ (X:Cx),X.prog=P->X.w=w->X.K=K->R X->∀ (i:Nat) (pins:List (Addr×Obj)) (s:Shared) (σ:St) (H:Hp) (E:Value->Shared->Prop),Inv X pins σ H s->(∀ b∈fp,GA X pins H b)->tn i s.heap->J.go i H->wpAny (model P w) X.A (pyNext (.ref it)) (fun r s1=>∃ u,r=some u /\
  wpAny (model P w) X.A (letOwnedTupleGo tg (.ref it) u) (fun _ s2=>∃ x H',Inv X pins σ H' s2/\RelV x u/\J.yld i H x H'/\tn (i+1) s2.heap/\∀ b∈fp,H' b=none) E s1) E s
 done:∀ (X:Cx),X.prog=P->X.w=w->X.K=K->R X->∀ (i:Nat) (pins:List (Addr×Obj)) (s:Shared) (σ:St) (H:Hp) (E:Value->Shared->Prop),Inv X pins σ H s->(∀ b∈fp,GA X pins H b)->tn i s.heap->J.stop i H->wpAny (model P w) X.A (pyNext (.ref it)) (fun r s1=>r=none/\Inv X pins σ H s1) E s
 self:∀ (A:Around) (i:Nat) (s:Shared) (Q:Value->Shared->Prop) (E:Value->Shared->Prop),tn i s.heap->Q (.ref it) s->wpAny (model P w) A (pyIter (.ref it)) Q E s
theorem Turn.gen {tg:Expr}{J:It}{fp:List Addr}{it:Addr}{tn:Nat->Heap->Prop}(T:Turn P w K tg J fp it tn):TurnG (fun X=>X.calm=true) P w K tg J fp it tn:=⟨T.mem,T.obj,T.keep,T.item,T.done,T.self⟩
noncomputable def J7w (X:Cx)(C:Addr)(fp:List Addr)(s:Shared)(H:Hp):Prop:=∃ pins σ,Inv X pins σ H s/\(∀ b∈fp,GA X pins H b)/\s.heap.objs.size<=C
structure BlkM (X:Cx)(N':List Str)(scope:Scope)(map:List (Option Nat))(tg elt:Expr)(ifs:List Expr)(g:TG)(tt:TT)(te:TE):Prop where
 kind:scope.kind=.function
 loc:∀ x∈scope.names,x.2=.local->scope.names.lookup x.1=some .local
 free:(scope.names.all fun p=>!(p.2==NameKind.free)||(X.env.kindOf p.1==some .cell||X.env.kindOf p.1==some .free))=true
 cap:CapOk X scope map N'
 keep:HK g map
 run:∀ cells C fp s H,J7w X C fp s H->PG (Q9 X N' scope cells C fp s H) tg g/\PIf (Q9 X N' scope cells C fp s H) ifs tt/\PE (Q9 X N' scope cells C fp s H) elt te
structure Blk (X:Cx)(N':List Str)(scope:Scope)(map:List (Option Nat))(tg elt:Expr)(ifs:List Expr)(g:TG)(tt:TT)(te:TE):Prop where
 calm:X.calm=true
 kind:scope.kind=.function
 loc:∀ x∈scope.names,x.2=.local->scope.names.lookup x.1=some .local
 free:(scope.names.all fun p=>!(p.2==NameKind.free)||(X.env.kindOf p.1==some .cell||X.env.kindOf p.1==some .free))=true
 cap:CapOk X scope map N'
 keep:HK g map
 run:∀ cells C fp s H,J7w X C fp s H->PG (Q9 X N' scope cells C fp s H) tg g/\PIf (Q9 X N' scope cells C fp s H) ifs tt/\PE (Q9 X N' scope cells C fp s H) elt te
theorem Blk.m (B:Blk X N' scope map tg elt ifs g tt te):BlkM X N' scope map tg elt ifs g tt te:=⟨B.kind,B.loc,B.free,B.cap,B.keep,B.run⟩
theorem J1m {pins:List (Addr×Obj)}{σ:St}{H1:Hp}{s2:Shared}{cl:List (Str×Addr)}{fp:List Addr}(I:Inv X pins σ H1 s2)(B:BlkM X N' scope map tg elt ifs g tt te)
 (hsub:∀ x c,cl.lookup x=some c->X.env.cells.lookup x=some c) (hhas:∀ x,(x,NameKind.free)∈scope.names->(cl.lookup x).isSome=true)
 (hf:∀ b∈fp,GA X pins H1 b) (hfo:∀ b∈fp,∃ o,s2.heap.get? b=some o) (C:Addr) (h3:Heap) (hC:s2.heap.objs.size<=C) (k3:∀ b o,s2.heap.get? b=some o->h3.get? b=some o) (hCsz:C<h3.objs.size) (hns:h3.Ns C fun _=>none) (tk:Nat) :
 Inv (Q9 X N' scope (cellsFrom h3.objs.size scope.names cl) C fp s2 H1) [] (capt σ map) H1 { s2 with heap:=pushCells h3 scope.names,toks:=tk }:=by
 have kk:∀ b o,s2.heap.get? b=some o->(pushCells h3 scope.names).get? b=some o:=fun b o e=>pushCells_keeps _ _ b o (k3 b o e)
 have fsz:∀ b∈fp,b<s2.heap.objs.size:=fun b hb=>by obtain ⟨o,e⟩:=hfo b hb;exact Heap.lt_size e
 have clz:∀ x c,cl.lookup x=some c->c<s2.heap.objs.size:=fun x c e=>by
  obtain ⟨v,o,ho,_⟩:=I.cell x c (hsub x c e)
  exact Heap.lt_size ho
 have h3sz:s2.heap.objs.size<h3.objs.size:=Nat.lt_of_le_of_lt hC hCsz
 have cof:∀ x c,(cellsFrom h3.objs.size scope.names cl).lookup x=some c->X.env.cells.lookup x=some c\/h3.objs.size<=c:=fun x c e=>(XC _ _ _ x c e).imp (hsub x c) id
 have cnb:∀ x c,(cellsFrom h3.objs.size scope.names cl).lookup x=some c->∀ b∈fp,c≠b:=fun x c e b hb z=>by
  rcases cof x c e with q|q
  · exact (hf b hb).2.2.2.2.1 x c q z
  · have h1:=fsz b hb
    rw [<- z] at h1
    exact absurd (Nat.lt_of_lt_of_le (Nat.lt_trans h1 h3sz) q) (Nat.lt_irrefl _)
 have fnf:∀ b∈fp,b∉frs X.stack:=fun b hb hm=>by
  obtain ⟨_,f1,f2,_⟩:=hf b hb
  rcases List.mem_cons.mp (I.stkSub b hm) with z|z
  · exact f1 z
  · exact f2 z
 have cellI:∀ x c,(cellsFrom h3.objs.size scope.names cl).lookup x=some c->∃ v,(pushCells h3 scope.names).IsCell c v:=fun x c e =>
  TQ scope.names h3 cl (fun x' c' q=>by
   obtain ⟨v,w⟩:=I.cell x' c' (hsub x' c' q)
   exact ⟨v,w.keeps k3⟩) x c e
 have hC0:H1 C=none:=I.hok.fresh hC
 have ok:(Q9 X N' scope (cellsFrom h3.objs.size scope.names cl) C fp s2 H1).Ok :=
  { mod:=I.ok.mod
    kind:=B.kind
    glob:=I.ok.glob
    blt:=I.ok.blt
    above:=hC
    inj:=ZA scope.names h3.objs.size cl (fun x c e=>Nat.lt_trans (clz x c e) h3sz) fun x y c e1 e2=>I.ok.inj x y c (hsub x c e1) (hsub y c e2)
    has:=fun x hx=>by
     have hx:(relabel scope X.env).names.lookup x=some .cell\/(relabel scope X.env).names.lookup x=some .free:=hx
     have goal:(scope.names.lookup x=some .cell\/(cl.lookup x).isSome=true):=by
      rcases hx with q|q
      · obtain ⟨k',e1,e2⟩:=CM q
        rcases e2 with z|⟨z,_⟩
        · exact .inl (by rw [e1,z])
        · exact .inr (hhas x (PySem.mem_of_lookup (by rw [e1,z])))
      · obtain ⟨k',e1,e2⟩:=CM q
        rcases e2 with z|⟨z,z'⟩
        · exact .inr (hhas x (PySem.mem_of_lookup (by rw [e1,z])))
        · cases z'
     exact Option.isSome_iff_exists.mp (PySem.W.cellsFrom_some scope.names h3.objs.size cl goal)
    cab:=fun x c hx e=>Nat.le_of_lt (Nat.lt_of_lt_of_le h3sz (YY scope.names h3.objs.size cl (Nat.le_refl _) (PySem.mem_of_lookup (of_decide_eq_true hx)) c e))
    hd:=I.ok.hd
    frames:=I.ok.frames
    stk:=.inl rfl
    exf:=fun b hb=>⟨fun z=>absurd (fsz b hb) (by rw [z];exact Nat.not_lt.mpr hC),fun x c e=>cnb x c e b hb⟩
    bs:=I.bs
    bsz:=Nat.le_trans I.ok.bsz I.sz
    noex:=fun b o e hb=>by
     rcases (hf b hb).2.2.2.1 with z|z
     · exact I.ok.noex b o e z
     · exact absurd (Heap.lt_size (I.ok.bs b o e).1) (Nat.not_lt.mpr z)
    exfs:=fnf
    funs:=I.stack
    frf:=I.stkFree }
 refine ⟨ok,rfl,I.bare,Un.kept kk,⟨fun _=>none,hns.keeps fun b o e=>pushCells_keeps _ _ b o e,fun j x v e1 e2 e3=>?_⟩,cellI,hC0,fun x c e=>?_,fun p hp=>absurd (show p∈([]:List (Addr×Obj)) from hp) (by simp),I.hok.kept kk,?_⟩
 · have e2':(capt σ map)[j]?=some (some v):=e2
   unfold capt at e2'
   rw [List.getElem?_map] at e2'
   cases hm:map[j]? with
   | none=>rw [hm] at e2';cases e2'
   | some o =>
     rw [hm] at e2'
     cases o with
     | none=>simp at e2'
     | some i =>
       have e2'':(σ[i]?).join=some v:=by simpa using e2'
       have hσ:σ[i]?=some (some v):=by
        cases q:σ[i]? with
        | none=>rw [q] at e2'';cases e2''
        | some o' =>
          rw [q] at e2''
          have:o'=some v:=by simpa using e2''
          rw [this]
       obtain ⟨c1,c2,c3,c4⟩:=B.cap.get hm e1
       obtain ⟨m,hn,hl⟩:=I.loc
       have vis:Vis X.env.scope x:=by
        rcases c4 with z|z
        · exact .inr (.inl z)
        · exact .inr (.inr z)
       obtain ⟨u,r,l⟩:=hl i x v c1 hσ vis
       refine ⟨u,r,?_⟩
       rcases l with ⟨z,_⟩|⟨_,c,ec,hcell⟩
       · rcases c4 with q|q
         · rw [q] at z;cases z
         · rw [q] at z;cases z
       · right
         refine ⟨FR c2,c,?_,hcell.keeps kk⟩
         show (cellsFrom h3.objs.size scope.names cl).lookup x=some c
         rw [YZ _ _ _ c3]
         obtain ⟨c',hc'⟩:=Option.isSome_iff_exists.mp (hhas x (PySem.mem_of_lookup c2))
         have:=hsub x c' hc'
         rw [ec] at this
         cases this
         exact hc'
 · rcases cof x c e with q|q
   · exact I.freeC x c q
   · exact I.hok.fresh (Nat.le_trans (Nat.le_of_lt h3sz) q)
 · show (capt σ map).length=N'.length
   unfold capt
   rw [List.length_map]
   exact B.cap.length
theorem J1l {pins:List (Addr×Obj)}{σ:St}{H1:Hp}{s2:Shared}{cl:List (Str×Addr)}{fp:List Addr}{it:Addr}{tn:Nat->Heap->Prop}{J:It}{E:Value->Shared->Prop}(I:Inv X pins σ H1 s2)(B:BlkM X N' scope map tg elt ifs g tt te)
 (hsub:∀ x c,cl.lookup x=some c->X.env.cells.lookup x=some c) (hhas:∀ x,(x,NameKind.free)∈scope.names->(cl.lookup x).isSome=true)
 {R:Cx->Prop} (hR:∀ cells C fp s H,R (Q9 X N' scope cells C fp s H)) (T:TurnG R X.prog X.w X.K tg J fp it tn) (st:tn 0 s2.heap) (hf:∀ b∈fp,GA X pins H1 b) {Fin:List V->Hp->Prop} {W:Nat->Nat->List V->Hp->Prop} {m0:Nat} (w0:W 0 m0 [] H1) (ht:OL J g tt te (capt σ map) Fin W)
 {RR:Value->Addr->Result->Shared->Prop}
 (hOk:∀ D C acc H' s' m,Inv X pins σ (upd H' D (.lst acc)) s'->H' D=none->s'.heap.Ns C m->upd H' D (.lst acc) C=none->C≠X.env.locals->X.s₀.heap.objs.size<=C->(∀ x c,X.env.cells.lookup x=some c->c≠C)->(∀ p∈X.pn++pins,p.1≠C)->Fin acc H'->RR (.ref D) C (.ok .next) s')
 (hErr:∀ D C e s',Q5v X C e s'->RR (.ref D) C (.error e) s') :
 wpAny (model X.prog X.w) X.A (newList []) (fun acc s3=>wpAny (model X.prog X.w) X.A (newFunctionEnv scope X.env.globals cl [] X.env.qual none .none (some X.env)) (fun cenv s4 =>
  codeAny (model X.prog X.w) X.A (.compStart (.ListComp elt [⟨tg,iter,ifs,0⟩] scope pos) 0 (.ref it) acc { cenv with scope:=relabel scope X.env }) (RR acc cenv.locals) s4) E s3) E s2:=by
 have fo:∀ b∈fp,∃ o,s2.heap.get? b=some o:=fun b hb=>by obtain ⟨o,e,_⟩:=T.obj 0 _ st b hb;exact ⟨o,e⟩
 refine wpAny_newObj_type ?_
 generalize hH2:s2.heap.push { cls:=.type "list",dict:=none,data:=.seq ([]:List Value).toArray }=H2
 have szD:H2.objs.size=s2.heap.objs.size+1:=by rw [<- hH2,Heap.size_push]
 have kD:∀ b o,s2.heap.get? b=some o->H2.get? b=some o:=fun b o e=>hH2▸Heap.get?_push_of_some _ e
 simp only [newFunctionEnv,Option.isSome_some,if_true]
 refine wpAny_bind (wpAny_alloc ?_)
 refine wpAny_bind (wpAny_layCells _ (fun name kind cells=>by cases hkc:kind==NameKind.cell<;>simp [hkc]) _ _ _ _ ?_)
 dsimp only
 generalize hH3:H2.push { cls:=.type "dict",dict:=none,data:=.dict #[] }=h3
 have sz3:h3.objs.size=H2.objs.size+1:=by rw [<- hH3,Heap.size_push]
 have kC:∀ b o,H2.get? b=some o->h3.get? b=some o:=fun b o e=>hH3▸Heap.get?_push_of_some _ e
 have nsC:h3.Ns H2.objs.size fun _=>none:=hH3▸Heap.Ns.new H2 (.type "dict")
 refine wpAny_bind (wpAny_pure (wpAny_pure ?_))
 show codeAny _ _ (.compStart (.ListComp elt [⟨tg,iter,ifs,0⟩] scope pos) 0 (.ref it) (.ref s2.heap.objs.size) (compEnvC scope (cellsFrom h3.objs.size scope.names cl) H2.objs.size X.env)) _ _
 generalize hX':Q9 X N' scope (cellsFrom h3.objs.size scope.names cl) H2.objs.size fp s2 H1=X'
 have I4:Inv X' [] (capt σ map) H1 { s2 with heap:=pushCells h3 scope.names }:=hX'▸J1m I B hsub hhas hf fo H2.objs.size h3 (by rw [szD];exact Nat.le_succ _) (fun b o e=>kC b o (kD b o e)) (by rw [sz3];exact Nat.lt_succ_self _) nsC s2.toks
 obtain ⟨pg,pif,pel⟩:=B.run (cellsFrom h3.objs.size scope.names cl) H2.objs.size fp s2 H1 ⟨pins,σ,I,hf,by rw [szD];exact Nat.le_succ _⟩
 rw [hX'] at pg pif pel
 have eprog:X'.prog=X.prog:=by rw [<- hX'];rfl
 have ew:X'.w=X.w:=by rw [<- hX'];rfl
 have eK:X'.K=X.K:=by rw [<- hX'];rfl
 have eA:X'.A=X.A:=by rw [<- hX'];rfl
 have ecalm:R X':=by rw [<- hX'];exact hR _ _ _ _ _
 have eenv:X'.env=compEnvC scope (cellsFrom h3.objs.size scope.names cl) H2.objs.size X.env:=by rw [<- hX'];rfl
 have exe:X'.xe=notedBy (model X.prog X.w) X.A (compEnvC scope (cellsFrom h3.objs.size scope.names cl) H2.objs.size X.env) (Q5v X H2.objs.size):=by rw [<- hX'];rfl
 have es0:X'.s₀=s2:=by rw [<- hX'];rfl
 have eH0:X'.H₀=H1:=by rw [<- hX'];rfl
 have eex:X'.ex=fp:=by rw [<- hX'];rfl
 have efs:X'.fs=frs X.stack:=by rw [<- hX'];rfl
 have epn:X'.pn=[]:=by rw [<- hX'];rfl
 have eL:X'.env.locals=H2.objs.size:=by rw [eenv];rfl
 generalize hDd:s2.heap.objs.size=D at *
 have fD:∀ b∈fp,b≠D:=fun b hb=>by obtain ⟨o,e⟩:=fo b hb;exact Nat.ne_of_lt (hDd▸Heap.lt_size e)
 have nfsD:D∉X'.fs:=fun hb=>by
  rw [efs] at hb
  have h1:=I.stkSub D hb
  rcases List.mem_cons.mp h1 with z|z
  · have:=I.lt;rw [hDd,<- z] at this;exact Nat.lt_irrefl _ this
  · exact I.nofs (by rw [hDd];exact Nat.le_refl _) z
 have ncD:∀ x c,X'.env.cells.lookup x=some c->c≠D:=fun x c e z=>by
  rw [eenv] at e
  rcases XC _ _ _ x c e with q|q
  · obtain ⟨v,o,ho,_⟩:=I.cell x c (hsub x c q)
    have:=Heap.lt_size ho
    rw [hDd,z] at this
    exact Nat.lt_irrefl _ this
  · rw [z,sz3,szD] at q
    exact absurd (Nat.lt_of_lt_of_le (Nat.lt_succ_of_lt (Nat.lt_succ_self D)) q) (Nat.lt_irrefl _)
 have f4:∀ {H':Hp} {pl:List (Addr×Obj)},(∀ b∈fp,H' b=none)->(∀ p∈pl,p.1=D)->∀ b∈fp,GA X' pl H' b:=fun {H' pl} hn hpl b hb=>by
  have q:=hf b hb
  refine ⟨hn b hb,?_,?_,.inl (by rw [eex];exact hb),fun x c e=>?_,fun p hp=>?_⟩
  · rw [eL]
    obtain ⟨o,e⟩:=fo b hb
    have:=Heap.lt_size e
    rw [hDd] at this
    intro z
    rw [z,szD] at this
    exact absurd (Nat.lt_of_succ_lt this) (Nat.lt_irrefl _)
  · have:=I4.ok.exfs b (by rw [eex];exact hb)
    exact this
  · exact (I4.ok.exf b (by rw [eex];exact hb)).2 x c e
  · rw [epn] at hp
    have hp:p∈pl:=by simpa using hp
    rw [hpl p hp]
    exact (fD b hb).symm
 have noCell:∀ {its:Array Value} {n:Nat} (v:Option Value),({ cls:=.type "list",data:=.seq its n }:Obj).data≠.cell v:=fun v z=>by cases z
 have hD4:(pushCells h3 scope.names).get? D=some { cls:=.type "list",data:=.seq ([]:List Value).toArray 0 }:=pushCells_keeps _ _ _ _ (kC _ _ (by rw [<- hH2,<- hDd];exact Heap.get?_push_size _ rfl))
 have loop:codeAny (model X.prog X.w) X.A (.compLoop (.ListComp elt [⟨tg,iter,ifs,0⟩] scope pos) 0 (.ref it) (.ref D) (compEnvC scope (cellsFrom h3.objs.size scope.names cl) H2.objs.size X.env)) (RR (.ref D) H2.objs.size) { s2 with heap:=pushCells h3 scope.names }:=by
  refine TL (fun n s'=>∃ i acc H' its k,Inv X' [] (capt σ map) H' s'/\tn i s'.heap/\(∀ b∈fp,H' b=none)/\H' D=none/\s'.heap.get? D=some { cls:=.type "list",data:=.seq (List.toArray its) k }/\Vals acc its/\W i n acc H') ?_ m0
   ⟨0,[],H1,[],0,I4,T.keep _ _ _ st fun b hb o e=>pushCells_keeps _ _ _ _ (kC _ _ (kD _ _ e)),fun b hb=>(hf b hb).1,I.hok.fresh (by rw [hDd];exact Nat.le_refl _),hD4,.nil,w0⟩
  rintro n s5 ⟨i,acc,H5,its,k,I5,st5,fr5,hD5,oD5,rv5,w5⟩
  have pinD:Inv X' [(D,{ cls:=.type "list",data:=.seq (List.toArray its) k })] (capt σ map) H5 s5:=I5.pins_of fun p hp=>by
   have e:p=(D,{ cls:=.type "list",data:=.seq (List.toArray its) k }):=by simpa using hp
   subst e
   refine ⟨oD5,hD5,?_,nfsD,fun v=>noCell v⟩
   rw [eL,szD]
   exact Nat.ne_of_lt (Nat.lt_succ_self _)
  have plD:∀ p∈[(D,({ cls:=.type "list",data:=.seq (List.toArray its) k }:Obj))],p.1=D:=fun p hp=>by
   have e:p=(D,{ cls:=.type "list",data:=.seq (List.toArray its) k }):=by simpa using hp
   rw [e]
  have err:∀ e s',X'.xe e s'->notedBy (model X.prog X.w) X.A (compEnvC scope (cellsFrom h3.objs.size scope.names cl) H2.objs.size X.env) (fun e s'=>RR (.ref D) H2.objs.size (.error e) s') e s':=fun e s' he=>by
   rw [exe] at he
   exact wpAny_mono he (fun _ s'' q=>hErr D _ e s'' q) fun e'' s'' q=>hErr D _ e'' s'' q
  rcases ht i n acc H5 w5 with ⟨stop,hsz,fin⟩|⟨go,hsz,NN,hNN,step⟩
  · have dn:=T.done X' eprog ew eK ecalm i _ s5 (capt σ map) H5 (notedBy (model X.prog X.w) X.A (compEnvC scope (cellsFrom h3.objs.size scope.names cl) H2.objs.size X.env) fun e s'=>RR (.ref D) H2.objs.size (.error e) s') pinD (f4 fr5 plD) st5 stop
    rw [eA] at dn
    refine thn dn fun r s6 ⟨hr,I6⟩=>?_
    subst hr
    obtain ⟨oD6,hD6,_⟩:=I6.pin (D,_) (by rw [epn];exact List.mem_cons_self)
    obtain ⟨m,nsm,_⟩:=I6.loc
    rw [eL] at nsm
    have un:=I6.base
    rw [efs,eex,eH0,es0] at un
    have hok:=I6.hok
    rw [eprog,ew] at hok
    have os6:=I6.os
    rw [es0] at os6
    have fC:H5 H2.objs.size=none:=by rw [<- eL];exact I6.free
    have nDC:H2.objs.size≠D:=by rw [szD];exact Nat.ne_of_gt (Nat.lt_succ_self _)
    refine hOk D H2.objs.size acc H5 s6 m (I.call' (ch:=fp) os6 ?_ ?_ I6.bare fun b hb=>?_) hD5 nsm (by rw [V9 nDC];exact fC) ?_ ?_ ?_ ?_ fin
    · refine ⟨un.keep,un.slot,fun b o e n hx=>?_,un.there,fun b xs e=>?_,fun b o u e=>?_,fun b ps e=>?_⟩
      · rw [V9 (Nat.ne_of_lt (hDd▸Heap.lt_size e))]
        exact un.free b o e n hx
      · have:=un.tups b xs e
        rw [V9 (V8 this hD5)]
        exact this
      · have:=un.frzs b o u e
        rw [V9 (V8 this hD5)]
        exact this
      · obtain ⟨more,this⟩:=un.tbls b ps e
        exact ⟨more,by rw [V9 (V8 this hD5)];exact this⟩
    · intro b o e
      by_cases hb:b=D
      · subst hb
        rw [AC] at e
        cases e
        exact ⟨hsz,its,k,rv5,oD6⟩
      · rw [V9 hb] at e
        exact (hok b o e).stay (fun _ _ _ q=>q) (fun c q=>by rw [V9 (V8 q hD5)];exact q) fun c xs q=>by rw [V9 (V8 q hD5)];exact q
    · obtain ⟨f0,f1,f2,f3,f4',f5⟩:=hf b hb
      exact ⟨f3,f1,f4',f5⟩
    · have:=I.lt
      rw [hDd] at this
      intro z
      rw [<- z,szD] at this
      exact absurd (Nat.lt_of_succ_lt this) (Nat.lt_irrefl _)
    · have:=I.sz
      rw [hDd] at this
      omega
    · intro x c e z
      obtain ⟨v,o,ho,_⟩:=I.cell x c e
      have:=Heap.lt_size ho
      rw [hDd,z,szD] at this
      exact absurd (Nat.lt_of_succ_lt this) (Nat.lt_irrefl _)
    · intro p hp z
      have:=Heap.lt_size (I.pin p hp).1
      rw [hDd,z,szD] at this
      exact absurd (Nat.lt_of_succ_lt this) (Nat.lt_irrefl _)
  · have im:=T.item X' eprog ew eK ecalm i _ s5 (capt σ map) H5 (notedBy (model X.prog X.w) X.A (compEnvC scope (cellsFrom h3.objs.size scope.names cl) H2.objs.size X.env) fun e s'=>RR (.ref D) H2.objs.size (.error e) s') pinD (f4 fr5 plD) st5 go
    rw [eA] at im
    refine thn im fun r s6 ⟨u,hr,h6⟩=>?_
    subst hr
    refine thn h6 fun _ s7 ⟨x,H7,I7,r7,y7,st7,fr7⟩=>?_
    have I7':=I7.pinned (f4 fr7 plD) (T.obj _ _ st7)
    have stp:=B.keep _ _ _ _ (step x H7 y7)
    have pgx:=pg _ s7 (capt σ map) H7 x u _ I7' r7 stp
    rw [eprog,ew,eA,eenv] at pgx
    refine wpAny_mono pgx (fun _ s8 ⟨σ8,H8,I8,⟨kl,k8⟩,q8⟩=>?_) err
    have pix:=pif _ s8 σ8 H8 _ I8 q8
    rw [eprog,ew,eA,eenv] at pix
    refine wpAny_mono pix (fun b s9 ⟨H9,I9,q9⟩=>?_) err
    have wk:∀ {σa:St} {Ha:Hp} {sa:Shared},σa=σ8->Inv X' ([(D,({ cls:=.type "list",data:=.seq (List.toArray its) k }:Obj))]++FT fp s7.heap) σa Ha sa ->
     Inv X' [] (capt σ map) Ha sa/\tn (i+1) sa.heap/\(∀ b∈fp,Ha b=none)/\Ha D=none/\sa.heap.get? D=some { cls:=.type "list",data:=.seq (List.toArray its) k }:=fun {σa Ha sa} ea Ia=>by
     subst ea
     refine ⟨(Ia.pins_of (pins':=[]) fun p hp=>absurd hp (by simp)).weak kl.symm fun j v e=>?_,T.keep _ _ _ st7 fun b hb o e=>(Ia.pin (b,o) (List.mem_append_right _ (List.mem_append_right _ (BJ hb e)))).1,fun b hb=>?_,?_,?_⟩
     · have e':=e
       unfold capt at e'
       rw [List.getElem?_map] at e'
       cases hm:map[j]? with
       | none=>rw [hm] at e';cases e'
       | some o =>
         rw [hm] at e'
         cases o with
         | none=>simp at e'
         | some i'=>rw [k8 j i' hm];exact e
     · obtain ⟨o,e,d⟩:=T.obj _ _ st7 b hb
       exact (Ia.pin (b,o) (List.mem_append_right _ (List.mem_append_right _ (BJ hb e)))).2.1
     · exact (Ia.pin (D,_) (List.mem_append_right _ (List.mem_append_left _ List.mem_cons_self))).2.1
     · exact (Ia.pin (D,_) (List.mem_append_right _ (List.mem_append_left _ List.mem_cons_self))).1
    cases b with
    | false =>
      rw [if_neg Bool.false_ne_true] at q9 ⊢
      obtain ⟨m',hm',w9⟩:=hNN _ _ q9
      obtain ⟨a1,a2,a3,a4,a5⟩:=wk rfl I9
      exact ⟨m',hm',i+1,acc,H9,its,k,a1,a2,a3,a4,a5,rv5,w9⟩
    | true =>
      rw [if_pos rfl] at q9 ⊢
      have pex:=pel _ s9 σ8 H9 _ I9 q9
      rw [eprog,ew,eA,eenv] at pex
      refine wpAny_mono pex (fun v s10 ⟨y,H10,I10,r10,q10⟩=>?_) err
      obtain ⟨m',hm',w10⟩:=hNN _ _ q10
      obtain ⟨a1,a2,a3,a4,a5⟩:=wk rfl I10
      have hl:=rv5.length
      refine wpAny_list_append_plain (items:=List.toArray its) ⟨k,a5⟩ (fun h11 pl11 sb11=>?_) (by simp only [List.size_toArray];omega)
      obtain ⟨k',e11⟩:=pl11
      refine ⟨m',hm',i+1,acc++[y],H10,its++[v],k',a1.turned (t':=s10.toks) (it:=D) (fun b o hb e=>(sb11.2 b hb).trans e) a4 ?_ (.inr (by rw [es0,hDd];exact Nat.le_refl _)) ncD (fun p hp=>absurd hp (by rw [epn];simp)),T.keep _ _ _ a2 fun b hb o e=>(sb11.2 b (fD b hb)).trans e,a3,a4,?_,rv5.append (.cons r10 .nil),w10⟩
      · rw [eL,szD]
        exact Nat.ne_of_lt (Nat.lt_succ_self _)
      · rw [e11,List.push_toArray]
 exact codeAny_compStart_list loop (T.self _ 0 _ _ _ (T.keep _ _ _ st fun b hb o e=>pushCells_keeps _ _ _ _ (kC _ _ (kD _ _ e))) loop)
theorem Blk.clos {pins:List (Addr×Obj)}{σ:St}{H:Hp}{s:Shared}(B:Blk X N' scope map tg elt ifs g tt te)(I:Inv X pins σ H s) :
 ∃ cl,closureFor scope X.env=pure cl/\(∀ x c,cl.lookup x=some c->X.env.cells.lookup x=some c)/\∀ x,(x,NameKind.free)∈scope.names->(cl.lookup x).isSome=true :=
 PH fun x hx=>I.ok.has x (by
  have q:=List.all_eq_true.mp B.free _ hx
  simpa using q)
noncomputable def Q6i (wi:TI)(map:List (Option Nat))(g:TG)(tt:TT)(te:TE):TE:=fun σ H Q=>wi σ H fun J H1=>∃ W:Nat->Nat->List V->Hp->Prop,(∃ m,W 0 m [] H1) /\
 OL J g tt te (capt σ map) (fun acc H'=>∀ D,H' D=none->Q (.ref D) (upd H' D (.lst acc))) W
theorem J0e (B:Blk X N' scope map tg elt ifs g tt te)(hi:PI X tg iter wi)(hs:∀ x,foldedSetIterable iter X.env x=pure x:=by intro _;rfl):PE X (.ListComp elt [⟨tg,iter,ifs,0⟩] scope pos) (Q6i wi map g tt te):=by
 intro pins s σ H Q I h
 obtain ⟨cl,hcl,hsub,hhas⟩:=B.clos I
 rw [eval_ListComp]
 refine wpAny_comprehension_free (use:=none) rfl hs hcl B.kind B.loc (thn (hi pins s σ H _ I h) fun v s1 h1=>thn h1 fun itv s2 h2=>?_)
 obtain ⟨it,fp,tn,J,H2,e,I2,T,st2,f2,W,⟨m0,w0⟩,turn⟩:=h2
 subst e
 refine J1l (RR:=fun acc C=>compPost (model X.prog X.w) X.A X.xe none (EP X pins σ Q) acc C) I2 B.m hsub hhas (R:=fun X=>X.calm=true) (fun _ _ _ _ _=>B.calm) T.gen st2 f2 w0 turn (fun D C acc H' s' m I' hD nsm fC c1 c2 c3 c4 fin=>?_) fun D C e s' z=>z
 refine ⟨m,nsm,fun h' sb=>⟨.ref D,_,?_,rfl,fin D hD⟩⟩
 exact I'.turned (t':=s'.toks) (fun b o hb e=>(sb.2 b hb).trans e) fC c1 (.inr c2) c3 c4
noncomputable def J3t (i:Nat)(wi:TI)(map:List (Option Nat))(g:TG)(tt:TT)(te:TE):TS:=fun D σ H=>wi σ H fun J H1=>∃ W:Nat->Nat->List V->Hp->Prop,(∃ m,W 0 m [] H1) /\
 OL J g tt te (capt σ map) (fun acc H'=>∀ d,H' d=none->D.nx (σ.set i (some (.ref d))) (upd H' d (.lst acc))) W
theorem YE {i:Nat}{y:Str}{py spos:Pos}(hN:X.N.Nodup)(hiN:X.N[i]?=some y)(hy:Loc X.env.scope y)(B:Blk X N' scope map tg elt ifs g tt te)(hi:PI X tg iter wi)
 (hsw:swapsWith (.ListComp elt [⟨tg,iter,ifs,0⟩] scope pos) (some (.Name y py)) spos.line X.env=pure true:=by rfl) (hfn:X.fn y=true\/X.env.scope.names.lookup y=some .local:=by first|exact .inl rfl|exact .inr rfl)
 (hs:∀ x,foldedSetIterable iter X.env x=pure x:=by intro _;rfl):PS X (.Assign [.Name y py] (.ListComp elt [⟨tg,iter,ifs,0⟩] scope pos) spos) (J3t i wi map g tt te):=by
 intro pins s σ H D I h
 obtain ⟨cl,hcl,hsub,hhas⟩:=B.clos I
 rw [exec_Assign_Name_used _ _ _ _ hsw]
 refine wpAny_bind (wpAny_standAt (wpAny_bind ?_))
 show wpAny _ _ (do let _ <- comprehension (.ListComp elt [⟨tg,iter,ifs,0⟩] scope pos) scope X.env _ (newList []) false (eval iter X.env) (some (assign (.Name y py) X.env))) _ _ _
 refine wpAny_bind (thn (wpAny_comprehension_free (use:=some (assign (.Name y py) X.env)) (Q:=fun _ s'=>SP X pins D .next s') rfl hs hcl B.kind B.loc (thn (hi pins s σ H _ I h) fun v s1 h1=>thn h1 fun itv s2 h2=>?_)) fun _ s' hq=>wpAny_pure (wpAny_pure hq))
 obtain ⟨it,fp,tn,J,H2,e,I2,T,st2,f2,W,⟨m0,w0⟩,turn⟩:=h2
 subst e
 refine J1l (RR:=fun acc C=>compPost (model X.prog X.w) X.A X.xe (some (assign (.Name y py) X.env)) (fun _ s'=>SP X pins D .next s') acc C) I2 B.m hsub hhas (R:=fun X=>X.calm=true) (fun _ _ _ _ _=>B.calm) T.gen st2 f2 w0 turn (fun d C acc H' s' m I' hD nsm fC c1 c2 c3 c4 fin=>?_) fun D C e s' z=>z
 refine wpAny_assign_Name (QA I' hN hiN hy (v:=.ref d) rfl (fun s'' I'' ⟨a,sb,ha⟩=>?_) hfn)
 have hCa:C≠a:=by
  rcases ha with z|z
  · rw [z];exact c1
  · exact (c3 y a z).symm
 refine ⟨m,nsm.sameBut sb hCa,fun h' sb'=>⟨_,_,?_,fin d hD⟩⟩
 exact I''.turned (t':=s''.toks) (fun b o hb e=>(sb'.2 b hb).trans e) fC c1 (.inr c2) c3 c4
end
theorem gkeep_name {j:Nat}{map:List (Option Nat)}(h:map[j]?=some none):HK (WL j) map:=fun v σ H Q q=>by
 refine ⟨⟨by simp,fun j' i hm=>?_⟩,q⟩
 have:j≠j':=fun z=>by rw [z,hm] at h;cases h
 rw [List.getElem?_set_ne this]
noncomputable def Bd (n:Nat)(i:Int):Prop:=i.natAbs<2 ^ n
theorem Bd.mono {m n:Nat}{i:Int}(h:Bd m i)(k:m<=n):Bd n i:=Nat.lt_of_lt_of_le h (Nat.pow_le_pow_right (by decide) k)
theorem Bd.mul {m n:Nat}{i j:Int}(h:Bd m i)(k:Bd n j):Bd (m+n) (i*j):=by
 unfold Bd at *
 rw [Int.natAbs_mul,Nat.pow_add]
 exact Nat.mul_lt_mul'' h k
theorem Bd.add {m n:Nat}{i j:Int}(h:Bd m i)(k:Bd n j):Bd (max m n+1) (i+j):=by
 have h':Bd (max m n) i:=h.mono (Nat.le_max_left _ _)
 have k':Bd (max m n) j:=k.mono (Nat.le_max_right _ _)
 unfold Bd at *
 rw [Nat.pow_succ]
 have:=Int.natAbs_add_le i j
 omega
theorem Bd.sub {m n:Nat}{i j:Int}(h:Bd m i)(k:Bd n j):Bd (max m n+1) (i - j):=by
 have h':Bd (max m n) i:=h.mono (Nat.le_max_left _ _)
 have k':Bd (max m n) j:=k.mono (Nat.le_max_right _ _)
 unfold Bd at *
 rw [Nat.pow_succ]
 have:=Int.natAbs_sub_le i j
 omega
theorem Bd.neg {m:Nat}{i:Int}(h:Bd m i):Bd m (-i):=by
 unfold Bd at *
 rw [Int.natAbs_neg]
 exact h
theorem Bd.of {n:Nat}{i:Int}(h1 : -(2 ^ n:Nat)<i)(h2:i<(2 ^ n:Nat)):Bd n i:=by
 unfold Bd
 omega
theorem Bd.lt {n:Nat}{i:Int}(h:Bd n i) : -((2 ^ n:Nat):Int)<i/\i<((2 ^ n:Nat):Int):=by
 unfold Bd at h
 omega
theorem Bd.ediv {n:Nat}{i:Int}(h:Bd n i){d:Int}(hd:0<d):Bd n (i / d):=by
 have h1:=h.lt
 have hp:(0:Int)<((2 ^ n:Nat):Int):=by
  have:0<2 ^ n:=Nat.pow_pos (by decide)
  omega
 refine Bd.of ?_ ?_
 · by_cases hi:0<=i
   · have:=Int.ediv_nonneg hi (Int.le_of_lt hd)
     omega
   · have h3 : -((2 ^ n:Nat):Int)*d<=-((2 ^ n:Nat):Int)*1:=by
      rw [Int.neg_mul,Int.neg_mul]
      exact Int.neg_le_neg (Int.mul_le_mul_of_nonneg_left (by omega) (Int.le_of_lt hp))
     have h4 : -((2 ^ n:Nat):Int)*d<=i - 1+1:=by omega
     have h5:i / d > -((2 ^ n:Nat):Int)\/i / d<=-((2 ^ n:Nat):Int):=by omega
     rcases h5 with q|q
     · exact q
     · have h6:=Int.mul_ediv_add_emod i d
       have h7:=Int.emod_nonneg i (Int.ne_of_gt hd)
       have h8:=Int.emod_lt_of_pos i hd
       have h9:d*(i / d)<=d*(-((2 ^ n:Nat):Int)):=Int.mul_le_mul_of_nonneg_left q (Int.le_of_lt hd)
       have h10:d*(-((2 ^ n:Nat):Int)) = -((2 ^ n:Nat):Int)*d:=Int.mul_comm _ _
       have h11:d*((2 ^ n:Nat):Int)>=d*1+(((2 ^ n:Nat):Int) - 1):=by
        have:(d - 1)*(((2 ^ n:Nat):Int) - 1)>=0:=Int.mul_nonneg (by omega) (by omega)
        rw [Int.sub_mul,Int.mul_sub,Int.mul_sub] at this
        omega
       have h12:d*(-((2 ^ n:Nat):Int)) = -(d*((2 ^ n:Nat):Int)):=Int.mul_neg _ _
       omega
 · by_cases hi:0<=i
   · exact Int.lt_of_le_of_lt (Int.ediv_le_self d hi) h1.2
   · have:i / d<0:=Int.ediv_neg_of_neg_of_pos (by omega) hd
     omega
theorem TZ {n:Nat}{i:Int}(h:Bd n i):Builtin.Int.intBits i<=n:=by
 unfold Builtin.Int.intBits
 split
 · exact Nat.zero_le _
 · rename_i hz
   have h0:i.natAbs≠0:=fun z=>hz (by have:i=0:=Int.natAbs_eq_zero.mp z;simp [this])
   exact (Nat.log2_lt h0).mpr h
noncomputable def CMulB (i j:Int):Prop:=(∃ m n,Bd m i/\Bd n j/\m+n<=100000000)\/Bd 64 j
noncomputable def Q8k (i j:Int):Prop:=0<j/\∃ n,Bd n j/\n<=9000
section
variable {X:Cx}
theorem V1:OpR X (binaryOp .Mult) (rI CMulB fun i j=>.int (i*j)):=opI fun i j _ _ _ _ _ hc q=>mul_int q (by
 rcases hc with ⟨m,n,h1,h2,h3⟩|h1
 case inr=>exact .of_right (TZ h1)
 have e1:=TZ h1
 have e2:=TZ h2
 unfold IntMulOk
 have e3:Builtin.Int.intTooBig (Builtin.Int.intBits i+Builtin.Int.intBits j)=false:=by
  unfold Builtin.Int.intTooBig
  refine decide_eq_false ?_
  have:bitsLine=134217728:=by unfold bitsLine;decide
  rw [this]
  omega
 rw [e3]
 simp)
theorem CL:OpR X (binaryOp .FloorDiv) (rI Q8k fun i j=>.int (i / j)):=opI fun i j _ _ _ _ _ hc q=>by
 obtain ⟨h1,n,h2,h3⟩:=hc
 refine floordiv_int (by omega) (by rw [Int.fdiv_eq_ediv_of_nonneg i (by omega)];exact q) (.inl (PyProof.noPylong_of_log2 ?_))
 have h0:j.natAbs≠0:=by omega
 exact (Nat.log2_lt h0).mpr (h2.mono h3)
theorem J4y:OpR X (binaryOp .FloorDiv) (rI (fun _ j=>j≠0/\∃ n,Bd n j/\n<=9000) fun i j=>.int (i.fdiv j)):=opI fun i j _ _ _ _ _ hc q=>by
 obtain ⟨h1,n,h2,h3⟩:=hc
 refine floordiv_int h1 q (.inl (PyProof.noPylong_of_log2 ?_))
 have h0:j.natAbs≠0:=by omega
 exact (Nat.log2_lt h0).mpr (h2.mono h3)
end
theorem Same.upd {H:Hp}{p:Addr}{o:HO}(h:H p=none):Same H (upd H p o):=fun b u e=>by rw [V9 (V8 e h)];exact e
noncomputable def Keep (p:Addr)(H H':Hp):Prop:=∀ b o,b≠p->H b=some o->H' b=some o
theorem Keep.upd {p:Addr}{H:Hp}{o:HO}:Keep p H (upd H p o):=fun b u n e=>by rw [V9 n];exact e
structure Callee (P:Program)(w:World)(K:Fg)(mg:Str->Option Value)(base:Heap)(CX:CXT)(x:Str)(k:Nat)(ps:List Str)(sp:Sp):Prop where
 ex:∃ f fd,FnOk P w K mg base CX k f fd ps sp/\mg x=some (.ref f)/\PySem.W.keepIn K (.ref f)=true/\Binds K fd ps []
section
variable {X:Cx}{k:Nat}{ps:List Str}{sp:Sp}{x:Str}{p pos:Pos}{e:Expr}{es:List Expr}{t:TA}
theorem NK (G:Callee X.prog X.w X.K X.mg X.base CX0 x k ps sp)(hr:Room k X.A)(hg:Gl X x)(ha:PA X (e::es) t)(hdb:(x==("__debug__" : Str))=false:=by decide) (he:starEach (e::es) X.env=(false,eval e X.env)::starEach es X.env:=by rfl) (hpl:(backTo pos (starEach es X.env)).any (·.1)=false:=by rfl) :
 PE X (.Call (.Name x p) (e::es) [] pos) (ZV sp [] E0 t):=by
 obtain ⟨f,fd,F,hm,hk,hb⟩:=G.ex
 exact J0f F hr hg hm hk hb .nil Q6t ha hdb he hpl
theorem XG:CS X (.builtin "isinstance") (fun xs H Q=>∃ y c t b,xs=[y,.ty c]/\TyOf X.K H y t/\PySem.W.kitOne X.K t (.type c)=some b/\Q (.bl b) H):=by
 intro pins s σ H xs us Q I r h
 obtain ⟨y,c,t,b,rfl,ty,e,q⟩:=h
 obtain ⟨u,w',rfl,r1,r2⟩:=US r
 cases (show w'=Value.type c from r2)
 exact J2v I r1 ty e fun tk=>⟨.bl b,H,I.tok _,rfl,q⟩
end
theorem Callee.mk' {CX:CXT}{x qual:Str}{st:Stmt}{f:Addr} {k:Nat}{ps:List Str}{sp:Sp}(F:Fun K x qual st f fd)(G:FnOk P w K mg base CX k f fd ps sp)(hm:mg x=some (.ref f))(hb:Binds K fd ps []) :
 Callee P w K mg base CX x k ps sp:=⟨f,fd,G,hm,F.kp,hb⟩
theorem J2u {c:Bool}{A B:Prop}(h1:c=true->A)(h2:c=false->B):if c=true then A else B:=by
 cases c with
 | true=>exact Q8z (h1 rfl)
 | false=>exact Q9a (h2 rfl)
theorem OJ:bootBuiltins "abs" = some (.builtin "abs"):=by decide +kernel
theorem TW:bootBuiltins "len" = some (.builtin "len"):=by decide +kernel
theorem EY:bootBuiltins "isinstance" = some (.builtin "isinstance"):=by decide +kernel
theorem J7j:bootBuiltins "max" = some (.builtin "max"):=by decide +kernel
theorem J7i:bootBuiltins "min" = some (.builtin "min"):=by decide +kernel
theorem Q5i:bootBuiltins "sum" = some (.builtin "sum"):=by decide +kernel
theorem TX:bootBuiltins "all" = some (.builtin "all"):=by decide +kernel
theorem RB:bootBuiltins "sorted" = some (.builtin "sorted"):=by decide +kernel
theorem Q5j:bootBuiltins "int" = some (.type "int"):=by decide +kernel
theorem Q1e:bootBuiltins "bool" = some (.type "bool"):=by decide +kernel
theorem OI:bootBuiltins "tuple" = some (.type "tuple"):=by decide +kernel
theorem Q5h:bootBuiltins "zip" = some (.type "zip"):=by decide +kernel
theorem Same.get {H H':Hp}{a:Addr}{o:HO}(S:Same H H')(h:H a=some o):H' a=some o:=S a o h
theorem rd_mul {i j:Int}{m n:Nat}{Q:Prop}(h1:Bd m i)(h2:Bd n j)(h3:m+n<=100000000)(q:Q):CMulB i j/\Q:=⟨.inl ⟨m,n,h1,h2,h3⟩,q⟩
theorem Bd.num (i:Int)(h:i.natAbs<18446744073709551616):Bd 64 i:=h
theorem DK:1000<=sizeLine:=by decide
theorem Q2a {a b:Int}(h:decide (V.int a=V.int b)=true):a=b:=by injection of_decide_eq_true h
theorem J9n {a b:Int}(h:(!decide (V.int a=V.int b))=true):a≠b:=fun z=>by rw [z] at h;simp at h
theorem J9o {a b:Int}(h:(!decide (V.int a=V.int b))=false):a=b:=by
 have q:decide (V.int a=V.int b)=true:=by cases e:decide (V.int a=V.int b) with|true=>rfl|false=>rw [e] at h;cases h
 exact Q2a q
theorem J6l {p:Prop}[Decidable p](h:decide p=true):p:=of_decide_eq_true h
theorem Q7q {p:Prop}[Decidable p](h:decide p=false):¬ p:=of_decide_eq_false h
noncomputable def Bag (H:Hp)(p:Addr):Prop:=∃ f m:Int,H p=some (.lst [.int f,.int m])/\0<=f/\0<=m/\m<2147483647
theorem Bag.mk' {H:Hp}{p:Addr}{f m:Int}(h0:0<=f)(h1:0<=m)(h2:m<2147483647):Bag (upd H p (.lst [.int f,.int m])) p:=⟨f,m,AC,h0,h1,h2⟩
theorem Bag.ne {H:Hp}{p a:Addr}{xs:List V}(b:Bag H p)(h:H a=some (.tup xs)):a≠p:=by
 obtain ⟨f,m,e,_⟩:=b
 exact Q7b h e (by intro z;cases z)
noncomputable def J7v (p:Addr)(many:Int)(H:Hp)(Q:VK):Prop:=∀ (r:Int) H',0<=r->r<many->Bag H' p->Keep p H H'->Q (.int r) H'
theorem CMulB.right {i j:Int}(h:Bd 64 j):CMulB i j:=.inr h
theorem Keep.tup {p:Addr}{H H':Hp}{a:Addr}{xs:List V}(S:Keep p H H')(b:Bag H p)(h:H a=some (.tup xs)):H' a=some (.tup xs):=S a _ (b.ne h) h
theorem J5z {a b:Int}(ha:0<=a)(hb:0<b):Int.gcd b (a % b)=Int.gcd a b:=by
 rw [Int.gcd_comm a b]
 have e:a % b=a - b*(a / b):=by have:=Int.mul_ediv_add_emod a b;omega
 rw [e]
 apply Nat.dvd_antisymm
 · apply Int.dvd_gcd
   · exact Int.gcd_dvd_left ..
   · have h1:((Int.gcd b (a - b*(a / b)):Nat):Int) ∣ b:=Int.gcd_dvd_left ..
     have h2:((Int.gcd b (a - b*(a / b)):Nat):Int) ∣ a - b*(a / b):=Int.gcd_dvd_right ..
     have h3:=Int.dvd_add h2 (Int.dvd_trans h1 (Int.dvd_mul_right b (a / b)))
     have e3:a - b*(a / b)+b*(a / b)=a:=by omega
     rw [e3] at h3
     exact h3
 · apply Int.dvd_gcd
   · exact Int.gcd_dvd_left ..
   · have h1:((Int.gcd b a:Nat):Int) ∣ b:=Int.gcd_dvd_left ..
     have h2:((Int.gcd b a:Nat):Int) ∣ a:=Int.gcd_dvd_right ..
     exact Int.dvd_sub h2 (Int.dvd_trans h1 (Int.dvd_mul_right b (a / b)))
theorem BA (l:List Str)(h:l.Nodup):l.Nodup:=h
section
variable {X:Cx}{l:Expr}
theorem J9x (K:Fg)(h:X.K=K):IxR X (J8v K):=by subst h;exact Q3t
theorem DZ (K:Fg)(h:X.K=K):IxR X (J8w K):=by subst h;exact J9y
theorem BE {es:List Expr}{k:Nat}{t:TGs}{n:Nat}{pos:Pos}(K:Fg)(h:X.K=K)(hc:X.calm=true)(hs:PGs X es t)(hn:(assignEach es X.env).length=n:=by rfl)(hst:(assignEach es X.env).findIdx? (·.1)=none:=by rfl):PG X (.Tuple es k pos) (Q3x K n t):=by subst h;exact Q3a hc hs hn hst
theorem DF (K:Fg)(h:X.K=K):CS X (.builtin "len") (fun xs H Q=>∃ p ys,xs=[.ref p]/\(SqL K H p ys\/SqT K H p ys)/\Q (.int ys.length) H):=by subst h;exact TV
theorem GU (K:Fg)(h:X.K=K):CS X (.type "tuple") (fun xs H Q=>∃ p ys,xs=[.ref p]/\((SqL K H p ys/\∀ l,H l=none->Q (.ref l) (upd H l (.tup ys)))\/(SqT K H p ys/\Q (.ref p) H))):=by subst h;exact PJ
theorem J2f {a:Expr}{ta:TE}(K:Fg)(h:X.K=K)(ha:PE X a ta)(he:∀ whole,isTrue a X.env whole=(do let v <- whole;standAt a.pos;holding [v] (truthy v))):PT X a (fun σ H Q=>ta σ H fun x H'=>∃ k,Q5o K x H' k/\Q k H'):=by subst h;exact J4k ha he
end
theorem OA:∀ {ns:List Int} {us:List Value},Vals (ns.map V.int) us->∃ xs:List (Int×Tok),us=xs.map (fun p=>Value.int p.1 p.2)/\xs.map (·.1)=ns
 | [],us,r=>by
   cases r
   exact ⟨[],rfl,rfl⟩
 | n::ns,us,r=>by
   cases r with
   | cons r1 r2 =>
     obtain ⟨t,rfl⟩:=r1
     obtain ⟨xs,e1,e2⟩:=OA r2
     exact ⟨(n,t)::xs,by rw [e1];rfl,by rw [<- e2];rfl⟩
theorem LH (xs:List (Int×Tok)):intItems xs.toArray=(xs.map fun p=>Value.int p.1 p.2).toArray:=by simp [intItems]
section
variable {X:Cx}
theorem J3j (K:Fg)(hK:X.K=K)(hc:X.calm=true):CS X (.builtin "sum") (fun xs H Q=>∃ (p:Addr) (ns:List Int),xs=[.ref p]/\SqL K H p (ns.map V.int)/\Q (.int ns.sum) H):=by
 subst hK
 intro pins s σ H xs us Q I r h
 obtain ⟨p,ns,rfl,hq,q⟩:=h
 obtain ⟨u,rfl,rx⟩:=PX r
 cases rx
 obtain ⟨its,rv,pl,hz⟩:=I.list hq
 obtain ⟨ps,e1,e2⟩:=OA rv
 subst e1
 have hl:=pl.isList
 rw [<- LH] at hl
 refine sum_intListG (xs:=ps.toArray) (I.ok.hd hc) hl fun h' tk t' k=>?_
 refine ⟨.int ns.sum,H,I.kept k,⟨t',?_⟩,q⟩
 rw [preSum_eq,List.take_of_length_le (by simp)]
 show Value.int ((ps.map (·.1)).sum) t'=_
 rw [e2]
theorem RC:∀ {bs:List Bool} {us:List Value},Vals (bs.map V.bl) us->us=bs.map Value.bool
 | [],us,r=>by
   cases r
   rfl
 | b::bs,us,r=>by
   cases r with
   | cons r1 r2 =>
     cases r1
     rw [RC r2]
     rfl
theorem VQ (bs:List Bool):(List.range bs.length).map (fun i=>bs[i]?.getD false)=bs:=by
 apply List.ext_getElem
 · simp
 · intro i h1 h2
   simp at h1
   simp [h1]
theorem HC (K:Fg)(hK:X.K=K)(hc:X.calm=true):CS X (.builtin "all") (fun xs H Q=>∃ (p:Addr) (bs:List Bool),xs=[.ref p]/\SqL K H p (bs.map V.bl)/\Q (.bl (bs.all id)) H):=by
 subst hK
 intro pins s σ H xs us Q I r h
 obtain ⟨p,bs,rfl,hq,q⟩:=h
 obtain ⟨u,rfl,rx⟩:=PX r
 cases rx
 obtain ⟨its,rv,pl,hz⟩:=I.list hq
 have e1:=RC rv
 subst e1
 have hl:=pl.isList
 have hlt:p<s.heap.objs.size:=by obtain ⟨_,e,_⟩:=hl;exact Heap.lt_size e
 refine call_all_walk (wpAny_pyIter_list hl ?_)
 refine ⟨_,_,_,_,_,_,(fun i=>bs[i]?.getD false),rfl,Walks.list (A:=X.A.in1) (I.ok.hd hc) _ p (Nat.ne_of_lt hlt) (bs.map Value.bool).toArray,⟨⟨_,Heap.get?_push_size _ rfl,rfl,rfl⟩,hl.push _⟩,?_,fun h' tk hk=>?_⟩
 · intro i v s' Q' E' hv hq'
   have e:bs[i]?.map Value.bool=some v:=by simpa using hv
   cases hb:bs[i]? with
   | none=>rw [hb] at e;cases e
   | some b =>
     rw [hb] at e
     cases e
     have hq'':Q' (bs[i]?.getD false) s':=hq'
     rw [hb] at hq''
     exact wpAny_truthy_bool hq''
 · have ea:(List.range (bs.map Value.bool).toArray.size).all (fun i=>bs[i]?.getD false)=bs.all id:=by
    have:=congrArg (fun l:List Bool=>l.all id) (VQ bs)
    simpa [List.all_map] using this
   rw [ea]
   refine ⟨.bl (bs.all id),H,I.kept fun b o e=>hk b o (fun hm=>?_) (Heap.get?_push_of_some _ e),rfl,q⟩
   have:b=s.heap.objs.size:=by simpa using hm
   exact absurd (this▸Heap.lt_size e) (Nat.lt_irrefl _)
end
section
variable {prog:Program}{w:World}{A:Around}{E:Value->Shared->Prop}{s:Shared}
theorem YQ {u t:Addr}{j:Nat}{its}{v:Value}{Q:Value->Shared->Prop}(a1:s.heap.IsTupleIter u t j)(a2:s.heap.IsTuple t its)(a3:its[j]?=some v)
 (q:∀ h',h'.IsTupleIter u t (j+1)->Heap.SameBut u s.heap h'->Q v { s with heap:=h' }):wpAny (model prog w) A (Builtin.SmallTypes.nextOf (.ref u)) Q E s:=by
 obtain ⟨oi,b1,b2,b3⟩:=id a1
 obtain ⟨ot,c1,_,nt,c2⟩:=a2
 unfold Builtin.SmallTypes.nextOf
 refine wpAny_bind (wpAny_callSpecial?_slot (name:=Str.ofString "__next__") a1.typeIs F.slot_tuple_iterator_next (wpAny_call_entry F.slot_tuple_iterator_next a1.typeIs F.entry_tuple_iterator_next ?_ (F.args_tuple_iterator_next_1 _)))
 show wpAny _ _ (field (.ref u) 0 >>= _) _ _ s
 refine wpAny_bind (wpAny_field b1 b3 (x:=.ref t) rfl ?_)
 show wpAny _ _ (if (Value.ref t==Value.none)=true then _ else _) _ _ s;rw [if_neg (show ¬ ((Value.ref t==Value.none)=true) from Bool.false_ne_true)]
 show wpAny _ _ (field (.ref u) 1 >>= _) _ _ s
 refine wpAny_bind (wpAny_field b1 b3 (x:=.int j 0) rfl ?_)
 show wpAny _ _ (seqItems? (.ref t) >>= _) _ _ s;refine wpAny_bind (wpAny_seqItems c1 c2 ?_)
 simp only [Int.toNat_natCast,a3]
 refine wpAny_bind (wpAny_setField b1 b3 (by simp) (wpAny_pure ⟨v,rfl,wpAny_pure (q _ ⟨_,Heap.get?_update_self _ b1 (Obj.isFreed_of_fields (Obj.data_mapFields b3 _)),(Obj.cls_mapFields ..).trans b2,by rw [Obj.data_mapFields b3];simp [rawInt]⟩ (Heap.SameBut.update ..))⟩))
theorem J2l {u t:Addr}{j:Nat}{its}{Q:Value->Shared->Prop}(a0:A.handled=none)(a1:s.heap.IsTupleIter u t j)(a2:s.heap.IsTuple t its)(a3:its[j]?=none)
 (q:∀ h' e,Heap.ExtBut u s.heap h'->(∃ o,h'.get? e=some o/\o.cls=.type "StopIteration")->E (.ref e) { s with heap:=h' }):wpAny (model prog w) A (Builtin.SmallTypes.nextOf (.ref u)) Q E s:=by
 obtain ⟨oi,b1,b2,b3⟩:=id a1
 obtain ⟨ot,c1,_,nt,c2⟩:=a2
 unfold Builtin.SmallTypes.nextOf
 refine wpAny_bind (wpAny_callSpecial?_slot (name:=Str.ofString "__next__") a1.typeIs F.slot_tuple_iterator_next (wpAny_call_entry F.slot_tuple_iterator_next a1.typeIs F.entry_tuple_iterator_next ?_ (F.args_tuple_iterator_next_1 _)))
 show wpAny _ _ (field (.ref u) 0 >>= _) _ _ s
 refine wpAny_bind (wpAny_field b1 b3 (x:=.ref t) rfl ?_)
 show wpAny _ _ (if (Value.ref t==Value.none)=true then _ else _) _ _ s;rw [if_neg (show ¬ ((Value.ref t==Value.none)=true) from Bool.false_ne_true)]
 show wpAny _ _ (field (.ref u) 1 >>= _) _ _ s
 refine wpAny_bind (wpAny_field b1 b3 (x:=.int j 0) rfl ?_)
 show wpAny _ _ (seqItems? (.ref t) >>= _) _ _ s;refine wpAny_bind (wpAny_seqItems c1 c2 ?_)
 simp only [Int.toNat_natCast,a3]
 refine wpAny_bind (wpAny_rule (wpAny_bind (wpAny_setField b1 b3 (by simp) ?_)))
 show wpAny _ _ (newExc (.type "StopIteration") [] >>= _) _ _ _;refine wpAny_bind ?_;simp only [newExc,newTuple]
 refine wpAny_bind (wpAny_newObj_type ?_ (by size_fits));refine wpAny_bind (m:=firstArgMember _ _) (wpAny_of_eq (a:=Value.none) (by first|rfl|(simp only [firstArgMember];rfl)) ?_)
 refine wpAny_newObj_type ?_ (by size_fits);simp only [raiseNew];refine wpAny_bind (wpAny_handled ?_)
 first|rw [show A.in1.handled=none from a0]|rw [a0]
 refine wpAny_bind (wpAny_pure (wpAny_throw (q _ _ (((Heap.SameBut.update ..).extBut.push _).push _) ⟨_,Heap.get?_push_size _ rfl,rfl⟩)))
noncomputable def ItAt (b:Bool)(h:Heap)(u l:Addr)(j:Nat):Prop:=match b with|false=>h.IsListIter u l j|true=>h.IsTupleIter u l j
noncomputable def SeqAt (b:Bool)(h:Heap)(l:Addr)(xs:Array Value):Prop:=match b with|false=>h.IsList l xs|true=>h.IsTuple l xs
theorem ItAt.at {b:Bool}{h h':Heap}{u l:Addr}{j:Nat}(x:ItAt b h u l j)(k:∀ o,h.get? u=some o->h'.get? u=some o):ItAt b h' u l j:=by
 cases b with
 | false=>exact Heap.IsListIter.at x k
 | true=>exact Heap.IsTupleIter.at x k
theorem SeqAt.at {b:Bool}{h h':Heap}{l:Addr}{xs:Array Value}(x:SeqAt b h l xs)(k:∀ o,h.get? l=some o->h'.get? l=some o):SeqAt b h' l xs:=by
 cases b with
 | false=>obtain ⟨o,e,r⟩:=x;exact ⟨o,k o e,r⟩
 | true=>obtain ⟨o,e,r⟩:=x;exact ⟨o,k o e,r⟩
theorem ItAt.obj {b:Bool}{h:Heap}{u l:Addr}{j:Nat}(x:ItAt b h u l j):∃ o,h.get? u=some o/\∀ v,o.data≠.cell v:=by
 cases b with
 | false=>obtain ⟨o,e,c,d⟩:=x;exact ⟨o,e,fun v z=>by rw [d] at z;cases z⟩
 | true=>obtain ⟨o,e,c,d⟩:=x;exact ⟨o,e,fun v z=>by rw [d] at z;cases z⟩
theorem UZ {b:Bool}{u l:Addr}{j:Nat}{xs:Array Value}{v:Value}{Q:Value->Shared->Prop}(a1:ItAt b s.heap u l j)(a2:SeqAt b s.heap l xs)(a3:xs[j]?=some v)
 (q:∀ h',ItAt b h' u l (j+1)->Heap.SameBut u s.heap h'->Q v { s with heap:=h' }):wpAny (model prog w) A (Builtin.SmallTypes.nextOf (.ref u)) Q E s:=by
 cases b with
 | false=>exact wpAny_nextOf_list_item a1 a2 a3 q
 | true=>exact YQ a1 a2 a3 q
theorem J8n {b:Bool}{u l:Addr}{j:Nat}{xs:Array Value}{Q:Value->Shared->Prop}(a0:A.handled=none)(a1:ItAt b s.heap u l j)(a2:SeqAt b s.heap l xs)(a3:xs[j]?=none)
 (q:∀ h' e,Heap.ExtBut u s.heap h'->(∃ o,h'.get? e=some o/\o.cls=.type "StopIteration")->E (.ref e) { s with heap:=h' }):wpAny (model prog w) A (Builtin.SmallTypes.nextOf (.ref u)) Q E s:=by
 cases b with
 | false=>exact wpAny_nextOf_list_end a0 a1 a2 a3 q
 | true=>exact J2l a0 a1 a2 a3 q
noncomputable abbrev CQ (h:Heap)(T:Addr)(vs:Array Value):Prop:=h.get? T=some { cls:=.type "tuple",data:=.seq vs }
theorem PY {T:Addr}{vs:Array Value}{v:Value}{k:Nat}{Q:Unit->Shared->Prop}(hv:vs.size<=1000)(hT:CQ s.heap T vs)
 (q:∀ h',CQ h' T (vs.setIfInBounds k v)->Heap.SameBut T s.heap h'->Q () { s with heap:=h' }):wpAny (model prog w) A (updateSeq T (·.setIfInBounds k v)) Q E s:=by
 have z1:vs.size<=sizeLine:=Nat.le_trans hv DK
 refine wpAny_updateSeq hT rfl (q _ ?_ (Heap.SameBut.update ..)) (hz:=z1) (_hz':=by simp;omega)
 show Heap.get? _ T=_
 rw [Heap.get?_update_self _ hT rfl];simp [Obj.mapSeq]
end
section
variable {X:Cx}{pins:List (Addr×Obj)}{σ:St}{H:Hp}{s:Shared}{h':Heap}
theorem Inv.zipped {fp:List Addr}{T:Addr}{o:HO}{t':Nat}(I:Inv X pins σ H s)(hf:∀ b∈fp,GA X pins H b)(k:∀ b o,b∉fp->s.heap.get? b=some o->h'.get? b=some o)(hT:s.heap.objs.size<=T)
 (new:ObjOk X.prog X.w (upd H T o) h' T o):Inv X pins σ (upd H T o) { s with heap:=h',toks:=t' }:=by
 have hn:H T=none:=I.hok.fresh hT
 have ne:∀ b u,s.heap.get? b=some u->b≠T:=fun b u e z=>absurd (Heap.lt_size e) (by rw [z];exact Nat.not_lt.mpr hT)
 have nfp:∀ b u,H b=some u->b∉fp:=fun b u e hb=>by rw [(hf b hb).1] at e;cases e
 refine I.step (g':=s.gens) (d':=s.drawn) (ch:=fp) (fun b hb=>?_) (fun b o _ _ hc e _=>k b o hc e) (fun b o _ _ hc e _=>⟨o.slots,k b o hc e⟩) (fun b u _ e n=>by rw [V9 (ne b u e)];exact n)
  (fun b o hc e=>⟨o,k b o hc e⟩) (fun b xs e=>by rw [V9 (V8 e hn)];exact e) (fun b o u e=>by rw [V9 (V8 e hn)];exact e) (fun b ps e=>⟨#[],by rw [V9 (V8 e hn),e];simp⟩) (fun m hm=>?_) (fun b u e=>?_) I.bare
 · obtain ⟨_,f1,_,f3,f4,f5⟩:=hf b hb
   exact ⟨f3,f1,f4,f5⟩
 · obtain ⟨o,es,ep,ho,r⟩:=hm
   exact ⟨o,es,ep,k _ o (fun hb=>(hf _ hb).2.1 rfl) ho,r⟩
 · by_cases hb:b=T
   · subst hb
     rw [AC] at e
     cases e
     exact new
   · rw [V9 hb] at e
     refine (I.hok b u e).stay (fun c v hc q=>k c v ?_ q) (fun c q=>by rw [V9 (V8 q hn)];exact q) fun c xs q=>by rw [V9 (V8 q hn)];exact q
     rcases hc with z|z
     · rw [z];exact nfp b u e
     · exact nfp c _ z
theorem Inv.turnedL {fp:List Addr}{t':Nat}(I:Inv X pins σ H s)(hf:∀ b∈fp,GA X pins H b)(k:∀ b o,b∉fp->s.heap.get? b=some o->h'.get? b=some o):Inv X pins σ H { s with heap:=h',toks:=t' }:=by
 have nfp:∀ b u,H b=some u->b∉fp:=fun b u e hb=>by rw [(hf b hb).1] at e;cases e
 refine I.step (g':=s.gens) (d':=s.drawn) (ch:=fp) (fun b hb=>?_) (fun b o _ _ hc e _=>k b o hc e) (fun b o _ _ hc e _=>⟨o.slots,k b o hc e⟩) (fun b u _ e n=>n)
  (fun b o hc e=>⟨o,k b o hc e⟩) (fun b xs e=>e) (fun b o u e=>e) (fun b ps e=>⟨#[],by rw [e];simp⟩) (fun m hm=>?_) (fun b u e=>?_) I.bare
 · obtain ⟨_,f1,_,f3,f4,f5⟩:=hf b hb
   exact ⟨f3,f1,f4,f5⟩
 · obtain ⟨o,es,ep,ho,r⟩:=hm
   exact ⟨o,es,ep,k _ o (fun hb=>(hf _ hb).2.1 rfl) ho,r⟩
 · refine (I.hok b u e).stay (fun c v hc q=>k c v ?_ q) (fun c q=>q) fun c xs q=>q
   rcases hc with z|z
   · rw [z];exact nfp b u e
   · exact nfp c _ z
noncomputable def SqX (K:Fg)(b:Bool)(H:Hp)(a:Addr)(xs:List V):Prop:=match b with|false=>SqL K H a xs|true=>SqT K H a xs
theorem Inv.seqX {b:Bool}{a:Addr}{xs:List V}(I:Inv X pins σ H s)(h:SqX X.K b H a xs):∃ its:List Value,Vals xs its/\SeqAt b s.heap a its.toArray/\xs.length<=sizeLine:=by
 cases b with
 | false=>obtain ⟨its,r,p,z⟩:=I.list h;exact ⟨its,r,p.isList,z⟩
 | true=>obtain ⟨its,r,p,z⟩:=I.tuple h;exact ⟨its,r,p,z⟩
theorem Inv.seqX_inj {b:Bool}{a:Addr}{xs ys:List V}(I:Inv X pins σ H s)(h:SqX X.K b H a xs)(h':SqX X.K b H a ys):xs=ys:=by
 cases b with
 | false=>exact I.list_inj h h'
 | true=>exact I.tuple_inj h h'
theorem Inv.seqX_ne {b:Bool}{a:Addr}{xs:List V}{c:Addr}(I:Inv X pins σ H s)(h:SqX X.K b H a xs)(f:GA X pins H c):a≠c:=by
 intro e
 subst e
 have base:∀ {o:Obj},X.base.get? a=some o->False:=fun {o} q=>by
  rcases f.2.2.2.1 with z|z
  · exact I.ok.noex a o q z
  · exact absurd (Heap.lt_size (I.ok.bs a o q).1) (Nat.not_lt.mpr z)
 cases b with
 | false =>
   rcases h with (h|⟨o,h⟩)|⟨o,_,_,h,_⟩
   · rw [f.1] at h;cases h
   · rw [f.1] at h;cases h
   · exact base (I.ok.mod.kin _ _ h)
 | true =>
   rcases h with (h|⟨o,h⟩)|⟨o,_,_,h,_⟩
   · rw [f.1] at h;cases h
   · rw [f.1] at h;cases h
   · exact base (I.ok.mod.kin _ _ h)
end
section
variable {prog:Program}{w:World}{A:Around}{E:Value->Shared->Prop}{s:Shared}
structure ZAp2 (z TI TO i1 i2 l1 l2:Addr):Prop where
 z_TI:z≠TI
 z_TO:z≠TO
 z_i1:z≠i1
 z_i2:z≠i2
 TI_z:TI≠z
 TI_TO:TI≠TO
 TI_i1:TI≠i1
 TI_i2:TI≠i2
 TO_z:TO≠z
 TO_TI:TO≠TI
 TO_i1:TO≠i1
 TO_i2:TO≠i2
 i1_z:i1≠z
 i1_TI:i1≠TI
 i1_TO:i1≠TO
 i1_i2:i1≠i2
 i2_z:i2≠z
 i2_TI:i2≠TI
 i2_TO:i2≠TO
 i2_i1:i2≠i1
 l1_z:l1≠z
 l1_TI:l1≠TI
 l1_TO:l1≠TO
 l1_i1:l1≠i1
 l1_i2:l1≠i2
 l2_z:l2≠z
 l2_TI:l2≠TI
 l2_TO:l2≠TO
 l2_i1:l2≠i1
 l2_i2:l2≠i2
theorem J1t {b1 b2:Bool}{z TI TO i1 i2 l1 l2:Addr}{k:Nat}{xs1 xs2:Array Value}{x1 x2 a1 a2:Value}{Q:Value->Shared->Prop}(D:ZAp2 z TI TO i1 i2 l1 l2)(hz:IsZip s.heap z TI TO .none)(hI:CQ s.heap TI #[.ref i1,.ref i2])(hO:CQ s.heap TO #[a1,a2])(d1:ItAt b1 s.heap i1 l1 k)(g1:SeqAt b1 s.heap l1 xs1)(d2:ItAt b2 s.heap i2 l2 k)(g2:SeqAt b2 s.heap l2 xs2)
 (e1:xs1[k]?=some x1) (e2:xs2[k]?=some x2)
 (q:∀ h',IsZip h' z TI TO (rawInt s.heap.objs.size)->CQ h' TO #[x1,x2]->ItAt b1 h' i1 l1 (k+1)->ItAt b2 h' i2 l2 (k+1)->CQ h' s.heap.objs.size #[x1,x2]->(∀ c o,c≠z->c≠TO->c≠i1->c≠i2->s.heap.get? c=some o->h'.get? c=some o)->Q (.ref s.heap.objs.size) { s with heap:=h' }) :
 wpAny (model prog w) A (Builtin.«zip.__next__» ⟨[.ref z],[]⟩) (fun fin s'=>∃ v,fin=.done (.ret v)/\Q v s') E s:=by
 show wpAny _ _ (field (.ref z) 2 >>= _) _ _ _;refine wpAny_bind (wpAny_field hz rfl (x:=.bool false) rfl ?_)
 show wpAny _ _ (field (.ref z) 3 >>= _) _ _ _;refine wpAny_bind (wpAny_field hz rfl (x:=.ref TI) rfl ?_)
 refine wpAny_bind (wpAny_seqItems hI rfl ?_)
 show wpAny _ _ (Builtin.SmallTypes.ownedTupleIsFree (.ref z) >>= _) _ _ _;refine wpAny_bind ?_;unfold Builtin.SmallTypes.ownedTupleIsFree
 refine wpAny_bind (wpAny_field hz rfl (x:=.none) rfl (wpAny_pure ?_));simp only [if_true];refine wpAny_bind (wpAny_rule ?_)
 refine wpAny_bind (wpAny_field hz rfl (x:=.ref TO) rfl ?_);refine wpAny_bind (wpAny_setField_rec hz (by simp) fun p0 z0 m0=>?_)
 replace z0:IsZip p0 z TI TO .ellipsis:=z0
 have y0:CQ p0 TO #[a1,a2]:=m0.extBut _ _ D.TO_z hO
 have w0:∀ c o,c≠z->c≠TO->c≠i1->c≠i2->s.heap.get? c=some o->p0.get? c=some o:=fun c o c1 _ _ _ e=>m0.extBut _ _ c1 e
 have r0:p0.objs.size=s.heap.objs.size:=m0.1
 have d1_0:ItAt b1 p0 i1 l1 k:=d1.at fun o e=>m0.extBut _ _ D.i1_z e
 have g1_0:SeqAt b1 p0 l1 xs1:=g1.at fun o e=>m0.extBut _ _ D.l1_z e
 have d2_0:ItAt b2 p0 i2 l2 k:=d2.at fun o e=>m0.extBut _ _ D.i2_z e
 have g2_0:SeqAt b2 p0 l2 xs2:=g2.at fun o e=>m0.extBut _ _ D.l2_z e
 refine wpAny_bind ?_;simp only [List.zipIdx_cons,List.zipIdx_nil,List.forIn_cons,List.forIn_nil]
 refine wpAny_bind (wpAny_bind (wpAny_onRaise ?_));show wpAny _ _ (Builtin.SmallTypes.nextOf (.ref i1) >>= _) _ _ _
 refine wpAny_bind (UZ d1_0 g1_0 e1 fun u1 t1 n1=>wpAny_pure ?_)
 have v1:CQ u1 TO #[a1,a2]:=n1.extBut _ _ D.TO_i1 y0
 refine wpAny_bind (wpAny_seqItems v1 rfl ?_);refine wpAny_bind (PY (Nat.le_of_ble_eq_true rfl) v1 fun p1 y1 m1=>?_)
 replace y1:CQ p1 TO #[x1,a2]:=y1
 have z1:IsZip p1 z TI TO .ellipsis:=m1.extBut _ _ D.z_TO (n1.extBut _ _ D.z_i1 z0)
 have w1:∀ c o,c≠z->c≠TO->c≠i1->c≠i2->s.heap.get? c=some o->p1.get? c=some o:=fun c o c1 c2 c3 c4 e=>m1.extBut _ _ c2 (n1.extBut _ _ c3 (w0 c o c1 c2 c3 c4 e))
 have r1:p1.objs.size=s.heap.objs.size:=by rw [m1.1,n1.1];exact r0
 have d1_1:ItAt b1 p1 i1 l1 (k+1):=t1.at fun o e=>m1.extBut _ _ D.i1_TO e
 have d2_1:ItAt b2 p1 i2 l2 k:=(d2_0.at fun o e=>n1.extBut _ _ D.i2_i1 e).at fun o e=>m1.extBut _ _ D.i2_TO e
 have g2_1:SeqAt b2 p1 l2 xs2:=(g2_0.at fun o e=>n1.extBut _ _ D.l2_i1 e).at fun o e=>m1.extBut _ _ D.l2_TO e
 refine wpAny_bind (wpAny_letGo (wpAny_pure ?_))
 refine wpAny_bind (wpAny_bind (wpAny_onRaise ?_));show wpAny _ _ (Builtin.SmallTypes.nextOf (.ref i2) >>= _) _ _ _
 refine wpAny_bind (UZ d2_1 g2_1 e2 fun u2 t2 n2=>wpAny_pure ?_)
 have v2:CQ u2 TO #[x1,a2]:=n2.extBut _ _ D.TO_i2 y1
 refine wpAny_bind (wpAny_seqItems v2 rfl ?_);refine wpAny_bind (PY (Nat.le_of_ble_eq_true rfl) v2 fun p2 y2 m2=>?_)
 replace y2:CQ p2 TO #[x1,x2]:=y2
 have z2:IsZip p2 z TI TO .ellipsis:=m2.extBut _ _ D.z_TO (n2.extBut _ _ D.z_i2 z1)
 have w2:∀ c o,c≠z->c≠TO->c≠i1->c≠i2->s.heap.get? c=some o->p2.get? c=some o:=fun c o c1 c2 c3 c4 e=>m2.extBut _ _ c2 (n2.extBut _ _ c4 (w1 c o c1 c2 c3 c4 e))
 have r2:p2.objs.size=s.heap.objs.size:=by rw [m2.1,n2.1];exact r1
 have d1_2:ItAt b1 p2 i1 l1 (k+1):=(d1_1.at fun o e=>n2.extBut _ _ D.i1_i2 e).at fun o e=>m2.extBut _ _ D.i1_TO e
 have d2_2:ItAt b2 p2 i2 l2 (k+1):=t2.at fun o e=>m2.extBut _ _ D.i2_TO e
 refine wpAny_bind (wpAny_letGo (wpAny_pure (wpAny_pure ?_)))
 refine wpAny_bind (wpAny_seqItems y2 rfl ?_);refine wpAny_bind (wpAny_newTuple ?_)
 have zl:z<p2.objs.size:=Heap.lt_size z2
 show wpAny _ _ (Builtin.SmallTypes.ownedTupleHandOut (.ref z) (.ref p2.objs.size) >>= _) _ _ _;refine wpAny_bind ?_;unfold Builtin.SmallTypes.ownedTupleHandOut
 have za:IsZip (p2.push { cls:=.type "tuple",data:=.seq #[x1,x2] }) z TI TO .ellipsis:=Heap.get?_push_of_some _ z2
 refine wpAny_bind (wpAny_setField_rec za (by simp) fun pa zb ma=>?_)
 replace zb:IsZip pa z TI TO (rawInt p2.objs.size):=zb
 refine wpAny_setField_rec zb (by simp) fun pb zc mb=>?_
 replace zc:IsZip pb z TI TO (rawInt p2.objs.size):=zc
 have up:∀ c o,c≠z->p2.get? c=some o->pb.get? c=some o:=fun c o c1 e=>mb.extBut _ _ c1 (ma.extBut _ _ c1 (Heap.get?_push_of_some _ e))
 have tt:CQ pb p2.objs.size #[x1,x2]:=mb.extBut _ _ (Nat.ne_of_gt zl) (ma.extBut _ _ (Nat.ne_of_gt zl) (Heap.get?_push_size _ rfl))
 rw [r2] at zc tt
 refine wpAny_pure ⟨_,rfl,?_⟩
 show Q (.ref p2.objs.size) _
 rw [r2]
 exact q pb zc (up _ _ D.TO_z y2) (d1_2.at fun o e=>up _ o D.i1_z e) (d2_2.at fun o e=>up _ o D.i2_z e) tt fun c o c1 c2 c3 c4 e=>up c o c1 (w2 c o c1 c2 c3 c4 e)
theorem J3o {b1 b2:Bool}{z TI TO i1 i2 l1 l2:Addr}{k:Nat}{xs1 xs2:Array Value}{a1 a2:Value}{Q:Fin->Shared->Prop}(hh:A.handled=none)(D:ZAp2 z TI TO i1 i2 l1 l2)(hz:IsZip s.heap z TI TO .none)(hI:CQ s.heap TI #[.ref i1,.ref i2])(hO:CQ s.heap TO #[a1,a2])(d1:ItAt b1 s.heap i1 l1 k)(g1:SeqAt b1 s.heap l1 xs1)(d2:ItAt b2 s.heap i2 l2 k)(g2:SeqAt b2 s.heap l2 xs2)
 (e1:xs1[k]?=none) (q:∀ h' e,(∀ c o,c≠z->c≠TO->c≠i1->c≠i2->s.heap.get? c=some o->h'.get? c=some o)->(∃ o,h'.get? e=some o/\o.cls=.type "StopIteration")->E (.ref e) { s with heap:=h' }) :
 wpAny (model prog w) A (Builtin.«zip.__next__» ⟨[.ref z],[]⟩) Q E s:=by
 show wpAny _ _ (field (.ref z) 2 >>= _) _ _ _;refine wpAny_bind (wpAny_field hz rfl (x:=.bool false) rfl ?_)
 show wpAny _ _ (field (.ref z) 3 >>= _) _ _ _;refine wpAny_bind (wpAny_field hz rfl (x:=.ref TI) rfl ?_)
 refine wpAny_bind (wpAny_seqItems hI rfl ?_)
 show wpAny _ _ (Builtin.SmallTypes.ownedTupleIsFree (.ref z) >>= _) _ _ _;refine wpAny_bind ?_;unfold Builtin.SmallTypes.ownedTupleIsFree
 refine wpAny_bind (wpAny_field hz rfl (x:=.none) rfl (wpAny_pure ?_));simp only [if_true];refine wpAny_bind (wpAny_rule ?_)
 refine wpAny_bind (wpAny_field hz rfl (x:=.ref TO) rfl ?_);refine wpAny_bind (wpAny_setField_rec hz (by simp) fun p0 z0 m0=>?_)
 replace z0:IsZip p0 z TI TO .ellipsis:=z0
 have y0:CQ p0 TO #[a1,a2]:=m0.extBut _ _ D.TO_z hO
 have w0:∀ c o,c≠z->c≠TO->c≠i1->c≠i2->s.heap.get? c=some o->p0.get? c=some o:=fun c o c1 _ _ _ e=>m0.extBut _ _ c1 e
 have r0:p0.objs.size=s.heap.objs.size:=m0.1
 have d1_0:ItAt b1 p0 i1 l1 k:=d1.at fun o e=>m0.extBut _ _ D.i1_z e
 have g1_0:SeqAt b1 p0 l1 xs1:=g1.at fun o e=>m0.extBut _ _ D.l1_z e
 have d2_0:ItAt b2 p0 i2 l2 k:=d2.at fun o e=>m0.extBut _ _ D.i2_z e
 have g2_0:SeqAt b2 p0 l2 xs2:=g2.at fun o e=>m0.extBut _ _ D.l2_z e
 refine wpAny_bind ?_;simp only [List.zipIdx_cons,List.zipIdx_nil,List.forIn_cons,List.forIn_nil]
 refine wpAny_bind (wpAny_bind (wpAny_onRaise ?_));show wpAny _ _ (Builtin.SmallTypes.nextOf (.ref i1) >>= _) _ _ _
 refine wpAny_bind (J8n hh d1_0 g1_0 e1 fun u1 e n1 he=>?_)
 obtain ⟨oe,f1,f2⟩:=he
 have z1:IsZip u1 z TI TO .ellipsis:=n1 _ _ D.z_i1 z0
 have ez:e≠z:=fun x=>by subst x;rw [z1] at f1;cases f1;simp at f2
 refine wpAny_setField_rec z1 (by simp) fun p1 _ m1=>q p1 e (fun c o c1 c2 c3 c4 x=>m1.extBut _ _ c1 (n1 _ _ c3 (w0 c o c1 c2 c3 c4 x))) ⟨oe,m1.extBut _ _ ez f1,f2⟩
end
section
variable {prog:Program}{w:World}{A:Around}{E:Value->Shared->Prop}{s:Shared}
noncomputable def CB (b:Bool)(l:Addr):Obj:=match b with
 | false=>{ cls:=.type "list_iterator",data:=.fields #[.ref l,.int 0 0] }
 | true=>{ cls:=.type "tuple_iterator",data:=.fields #[.ref l,.int 0 0] }
theorem WJ {b:Bool}{h:Heap}{u l:Addr}(e:h.get? u=some (CB b l)):ItAt b h u l 0:=by
 cases b with
 | false=>exact ⟨_,e,rfl,rfl⟩
 | true=>exact ⟨_,e,rfl,rfl⟩
theorem NY (b:Bool)(l:Addr):(CB b l).isFreed=false:=by cases b<;>rfl
theorem UY {b:Bool}{l:Addr}{xs:Array Value}{Q:Value->Shared->Prop}(a:SeqAt b s.heap l xs)(q:Q (.ref s.heap.objs.size) { s with heap:=s.heap.push (CB b l) }):wpAny (model prog w) A (pyIter (.ref l)) Q E s:=by
 cases b with
 | false=>exact wpAny_pyIter_list a q
 | true=>exact wpAny_pyIter_tuple a q
end
section
variable {prog:Program}{w:World}{A:Around}{E:Value->Shared->Prop}{s:Shared}
noncomputable abbrev zH2 (b1 b2:Bool)(l1 l2:Addr)(s:Shared):Heap:=(((((s.heap.push (CB b1 l1)).push (CB b2 l2)).push { cls:=.type "tuple",data:=.seq #[.ref s.heap.objs.size,.ref (s.heap.objs.size+1)] }).push { cls:=.type "tuple",data:=.seq #[.none,.none] }).push { cls:=.type "zip",data:=.fields #[.none,.bool false,.bool false,.ref (s.heap.objs.size+2),.ref (s.heap.objs.size+3)] })
theorem YR (b1 b2:Bool)(l1 l2:Addr)(xs1 xs2:Array Value) :
 Meets (Builtin.«zip.__new__» ⟨[.type "zip",.ref l1,.ref l2],[]⟩) (fun _ R s=>SeqAt b1 s.heap l1 xs1/\SeqAt b2 s.heap l2 xs2/\R (.ok (.ret (.ref (s.heap.objs.size+4)))) { s with heap:=zH2 b1 b2 l1 l2 s }) :=
 .of_wp fun prog w A R s h=>by
  obtain ⟨hp,g,d,tk,os⟩:=s;obtain ⟨k1,k2,h⟩:=h
  have hs:=sub_zip
  have K1:SeqAt b1 (Shared.heap ⟨hp,g,d,tk,os⟩) l1 xs1:=k1.at fun o e=>e
  have K2:SeqAt b2 (Shared.heap ⟨(hp.push (CB b1 l1)),g,d,tk,os⟩) l2 xs2:=k2.at fun o e=>Heap.get?_push_of_some _ (e)
  wp_walk using UY K1,UY K2
  simp only [Heap.size_push] at *
  exact ⟨_,rfl,h⟩
theorem J3i {b1 b2:Bool}{l1 l2:Addr}{xs1 xs2:Array Value}{Q:Value->Shared->Prop}(k1:SeqAt b1 s.heap l1 xs1)(k2:SeqAt b2 s.heap l2 xs2)
 (q:∀ h',IsZip h' (s.heap.objs.size+4) (s.heap.objs.size+2) (s.heap.objs.size+3) .none->CQ h' (s.heap.objs.size+2) #[.ref s.heap.objs.size,.ref (s.heap.objs.size+1)]->CQ h' (s.heap.objs.size+3) #[.none,.none]->ItAt b1 h' (s.heap.objs.size) l1 0->ItAt b2 h' (s.heap.objs.size+1) l2 0->(∀ c o,s.heap.get? c=some o->h'.get? c=some o)->Q (.ref (s.heap.objs.size+4)) { s with heap:=h' }) :
 wpAny (model prog w) A (call (.type "zip") [.ref l1,.ref l2]) Q E s:=by
 refine callType_new F.called_zip (by decide) (F.typeCall_zip_2 _ _) (F.newCall_zip_2 _ _) (fun obj=>F.args_object_init_3 obj _ _) F.entry_zip_new (YR b1 b2 l1 l2 xs1 xs2) ⟨k1,k2,?_⟩
 have z1:(s.heap.push (CB b1 l1)).objs.size=s.heap.objs.size+1:=by exact Heap.size_push ..
 have z2:((s.heap.push (CB b1 l1)).push (CB b2 l2)).objs.size=s.heap.objs.size+2:=by rw [Heap.size_push,z1]
 have z3:(((s.heap.push (CB b1 l1)).push (CB b2 l2)).push { cls:=.type "tuple",data:=.seq #[.ref s.heap.objs.size,.ref (s.heap.objs.size+1)] }).objs.size=s.heap.objs.size+3:=by rw [Heap.size_push,z2]
 have z4:((((s.heap.push (CB b1 l1)).push (CB b2 l2)).push { cls:=.type "tuple",data:=.seq #[.ref s.heap.objs.size,.ref (s.heap.objs.size+1)] }).push { cls:=.type "tuple",data:=.seq #[.none,.none] }).objs.size=s.heap.objs.size+4:=by rw [Heap.size_push,z3]
 have g0:(zH2 b1 b2 l1 l2 s).get? s.heap.objs.size=some _:=Heap.get?_push_of_some _ (Heap.get?_push_of_some _ (Heap.get?_push_of_some _ (Heap.get?_push_of_some _ (Heap.get?_push_size _ (NY _ _)))))
 have g1:(zH2 b1 b2 l1 l2 s).get? (s.heap.push (CB b1 l1)).objs.size=some _:=Heap.get?_push_of_some _ (Heap.get?_push_of_some _ (Heap.get?_push_of_some _ (Heap.get?_push_size _ (NY _ _))))
 rw [z1] at g1
 have g2:(zH2 b1 b2 l1 l2 s).get? ((s.heap.push (CB b1 l1)).push (CB b2 l2)).objs.size=some _:=Heap.get?_push_of_some _ (Heap.get?_push_of_some _ (Heap.get?_push_size _ rfl))
 rw [z2] at g2
 have g3:(zH2 b1 b2 l1 l2 s).get? (((s.heap.push (CB b1 l1)).push (CB b2 l2)).push { cls:=.type "tuple",data:=.seq #[.ref s.heap.objs.size,.ref (s.heap.objs.size+1)] }).objs.size=some _:=Heap.get?_push_of_some _ (Heap.get?_push_size _ rfl)
 rw [z3] at g3
 have g4:(zH2 b1 b2 l1 l2 s).get? ((((s.heap.push (CB b1 l1)).push (CB b2 l2)).push { cls:=.type "tuple",data:=.seq #[.ref s.heap.objs.size,.ref (s.heap.objs.size+1)] }).push { cls:=.type "tuple",data:=.seq #[.none,.none] }).objs.size=some _:=Heap.get?_push_size _ rfl
 rw [z4] at g4
 exact ⟨⟨_,g4,rfl⟩,q _ g4 g2 g3 (WJ g0) (WJ g1) fun c o x=>Heap.get?_push_of_some _ (Heap.get?_push_of_some _ (Heap.get?_push_of_some _ (Heap.get?_push_of_some _ (Heap.get?_push_of_some _ x))))⟩
end
noncomputable def Q5u (K:Fg)(b1 b2:Bool)(l1 l2:Addr):It :=
 ⟨fun i H=>∃ ys1 ys2 y1 y2,SqX K b1 H l1 ys1/\ys1[i]?=some y1/\SqX K b2 H l2 ys2/\ys2[i]?=some y2,
  fun i H v H'=>∃ t y1 y2,v=.ref t/\H t=none/\H'=upd H t (.tup [y1,y2])/\(∀ ys,SqX K b1 H l1 ys->ys[i]?=some y1)/\(∀ ys,SqX K b2 H l2 ys->ys[i]?=some y2),
  fun i H=>(∃ ys,SqX K b1 H l1 ys/\ys.length<=i)/\(∃ ys,SqX K b2 H l2 ys)⟩
structure ZFp2 (z TI TO i1 i2:Addr):Prop where
 z_TI:z≠TI
 z_TO:z≠TO
 z_i1:z≠i1
 z_i2:z≠i2
 TI_z:TI≠z
 TI_TO:TI≠TO
 TI_i1:TI≠i1
 TI_i2:TI≠i2
 TO_z:TO≠z
 TO_TI:TO≠TI
 TO_i1:TO≠i1
 TO_i2:TO≠i2
 i1_z:i1≠z
 i1_TI:i1≠TI
 i1_TO:i1≠TO
 i1_i2:i1≠i2
 i2_z:i2≠z
 i2_TI:i2≠TI
 i2_TO:i2≠TO
 i2_i1:i2≠i1
noncomputable def Q9i (b1 b2:Bool)(z TI TO i1 i2 l1 l2:Addr)(i:Nat)(h:Heap):Prop:=IsZip h z TI TO .none/\CQ h TI #[.ref i1,.ref i2]/\(∃ a1 a2,CQ h TO #[a1,a2])/\ItAt b1 h i1 l1 i/\ItAt b2 h i2 l2 i
theorem J1z {elts:List Expr}{c1}{tpos:Pos}{b1 b2:Bool}{z TI TO i1 i2 l1 l2:Addr}(Z:ZFp2 z TI TO i1 i2):Turn P w K (.Tuple elts c1 tpos) (Q5u K b1 b2 l1 l2) [z,TI,TO,i1,i2] z (Q9i b1 b2 z TI TO i1 i2 l1 l2) where
 mem:=by simp
 obj:=fun i h st b hb=>by
  obtain ⟨s1,s2,⟨a1,a2,s3⟩,d1,d2⟩:=st
  simp only [List.mem_cons,List.not_mem_nil,or_false] at hb
  rcases hb with rfl|rfl|rfl|rfl|rfl
  · exact ⟨_,s1,fun v q=>by cases q⟩
  · exact ⟨_,s2,fun v q=>by cases q⟩
  · exact ⟨_,s3,fun v q=>by cases q⟩
  · exact d1.obj
  · exact d2.obj
 keep:=fun i h h' st k=>by
  obtain ⟨s1,s2,⟨a1,a2,s3⟩,d1,d2⟩:=st
  exact ⟨k z (by simp) _ s1,k TI (by simp) _ s2,⟨a1,a2,k TO (by simp) _ s3⟩,d1.at fun o e=>k i1 (by simp) o e,d2.at fun o e=>k i2 (by simp) o e⟩
 item:=by
  intro X hP hw hK hc i pins s σ H E I hf st hg
  subst hP hw hK
  obtain ⟨ys1,ys2,y1,y2,h1,q1,h2,q2⟩:=hg
  obtain ⟨s1,s2,⟨a1,a2,s3⟩,d1,d2⟩:=st
  obtain ⟨v1,r1,p1,_⟩:=I.seqX h1
  obtain ⟨u1,m1,t1⟩:=r1.get q1
  obtain ⟨v2,r2,p2,_⟩:=I.seqX h2
  obtain ⟨u2,m2,t2⟩:=r2.get q2
  have D:ZAp2 z TI TO i1 i2 l1 l2:={ z_TI:=Z.z_TI,z_TO:=Z.z_TO,z_i1:=Z.z_i1,z_i2:=Z.z_i2,TI_z:=Z.TI_z,TI_TO:=Z.TI_TO,TI_i1:=Z.TI_i1,TI_i2:=Z.TI_i2,TO_z:=Z.TO_z,TO_TI:=Z.TO_TI,TO_i1:=Z.TO_i1,TO_i2:=Z.TO_i2,i1_z:=Z.i1_z,i1_TI:=Z.i1_TI,i1_TO:=Z.i1_TO,i1_i2:=Z.i1_i2,i2_z:=Z.i2_z,i2_TI:=Z.i2_TI,i2_TO:=Z.i2_TO,i2_i1:=Z.i2_i1,l1_z:=I.seqX_ne h1 (hf z (by simp)),l1_TI:=I.seqX_ne h1 (hf TI (by simp)),l1_TO:=I.seqX_ne h1 (hf TO (by simp)),l1_i1:=I.seqX_ne h1 (hf i1 (by simp)),l1_i2:=I.seqX_ne h1 (hf i2 (by simp)),l2_z:=I.seqX_ne h2 (hf z (by simp)),l2_TI:=I.seqX_ne h2 (hf TI (by simp)),l2_TO:=I.seqX_ne h2 (hf TO (by simp)),l2_i1:=I.seqX_ne h2 (hf i1 (by simp)),l2_i2:=I.seqX_ne h2 (hf i2 (by simp)) }
  have hT:s.TypeIs (.ref z) "zip":=⟨_,s1,rfl⟩
  have szn:∀ b∈[z,TI,TO,i1,i2],b≠s.heap.objs.size:=fun b hb e=>by
   simp only [List.mem_cons,List.not_mem_nil,or_false] at hb
   rcases hb with rfl|rfl|rfl|rfl|rfl
   · exact Nat.lt_irrefl _ (e▸Heap.lt_size s1)
   · exact Nat.lt_irrefl _ (e▸Heap.lt_size s2)
   · exact Nat.lt_irrefl _ (e▸Heap.lt_size s3)
   · obtain ⟨_,w1,_⟩:=d1.obj;exact Nat.lt_irrefl _ (e▸Heap.lt_size w1)
   · obtain ⟨_,w1,_⟩:=d2.obj;exact Nat.lt_irrefl _ (e▸Heap.lt_size w1)
  unfold pyNext
  refine wpAny_bind (wpAny_attempt (wpAny_callSpecial?_slot (name:=Str.ofString "__next__") hT F.slot_zip_next (wpAny_call_entry F.slot_zip_next hT F.entry_zip_next (J1t D s1 s2 s3 d1 p1 d2 p2 (x1:=u1) (by simpa using m1) (x2:=u2) (by simpa using m2) fun h' e1 e2 f1 f2 e3 kp=>wpAny_pure ?_) (F.args_zip_next_1 _))))
  refine ⟨_,rfl,wpAny_letOwnedTupleGo_zip (s:={ s with heap:=h' }) e1 fun hq e4 sb=>?_⟩
  have up:∀ b o,b≠z->h'.get? b=some o->hq.get? b=some o:=fun b o hb e=>sb.extBut _ _ hb e
  have I2:Inv X pins σ (upd H s.heap.objs.size (.tup [y1,y2])) { s with heap:=hq }:=I.zipped (t':=s.toks) (fp:=[z,TI,TO,i1,i2]) hf (fun b o hb e=>up b o (fun x=>hb (by simp [x])) (kp b o (fun x=>hb (by simp [x])) (fun x=>hb (by simp [x])) (fun x=>hb (by simp [x])) (fun x=>hb (by simp [x])) e)) (Nat.le_refl _)
   ⟨Nat.le_trans (Nat.le_of_ble_eq_true rfl) DK,[u1,u2],.cons t1 (.cons t2 (.nil)),⟨_,up _ _ (Ne.symm (szn z (by simp))) e3,rfl,_,rfl⟩⟩
  refine ⟨.ref s.heap.objs.size,_,I2,rfl,⟨_,y1,y2,rfl,I.hok.fresh (Nat.le_refl _),rfl,fun ys hy=>by rw [I.seqX_inj hy h1];exact q1,fun ys hy=>by rw [I.seqX_inj hy h2];exact q2⟩,⟨e4,up _ _ D.TI_z (kp _ _ D.TI_z D.TI_TO D.TI_i1 D.TI_i2 s2),⟨_,_,up _ _ D.TO_z e2⟩,f1.at fun o e=>up _ o D.i1_z e,f2.at fun o e=>up _ o D.i2_z e⟩,fun b hb=>?_⟩
  rw [V9 (szn b hb)]
  exact (hf b hb).1
 done:=by
  intro X hP hw hK hc i pins s σ H E I hf st hg
  subst hP hw hK
  obtain ⟨⟨ys1,h1,q1⟩,⟨ys2,h2⟩⟩:=hg
  obtain ⟨s1,s2,⟨a1,a2,s3⟩,d1,d2⟩:=st
  obtain ⟨v1,r1,p1,_⟩:=I.seqX h1
  obtain ⟨v2,r2,p2,_⟩:=I.seqX h2
  have D:ZAp2 z TI TO i1 i2 l1 l2:={ z_TI:=Z.z_TI,z_TO:=Z.z_TO,z_i1:=Z.z_i1,z_i2:=Z.z_i2,TI_z:=Z.TI_z,TI_TO:=Z.TI_TO,TI_i1:=Z.TI_i1,TI_i2:=Z.TI_i2,TO_z:=Z.TO_z,TO_TI:=Z.TO_TI,TO_i1:=Z.TO_i1,TO_i2:=Z.TO_i2,i1_z:=Z.i1_z,i1_TI:=Z.i1_TI,i1_TO:=Z.i1_TO,i1_i2:=Z.i1_i2,i2_z:=Z.i2_z,i2_TI:=Z.i2_TI,i2_TO:=Z.i2_TO,i2_i1:=Z.i2_i1,l1_z:=I.seqX_ne h1 (hf z (by simp)),l1_TI:=I.seqX_ne h1 (hf TI (by simp)),l1_TO:=I.seqX_ne h1 (hf TO (by simp)),l1_i1:=I.seqX_ne h1 (hf i1 (by simp)),l1_i2:=I.seqX_ne h1 (hf i2 (by simp)),l2_z:=I.seqX_ne h2 (hf z (by simp)),l2_TI:=I.seqX_ne h2 (hf TI (by simp)),l2_TO:=I.seqX_ne h2 (hf TO (by simp)),l2_i1:=I.seqX_ne h2 (hf i1 (by simp)),l2_i2:=I.seqX_ne h2 (hf i2 (by simp)) }
  have hT:s.TypeIs (.ref z) "zip":=⟨_,s1,rfl⟩
  have hl:=r1.length
  unfold pyNext
  refine wpAny_bind (wpAny_attempt (wpAny_callSpecial?_slot (name:=Str.ofString "__next__") hT F.slot_zip_next (wpAny_call_entry F.slot_zip_next hT F.entry_zip_next (J3o (I.ok.hd hc) D s1 s2 s3 d1 p1 d2 p2 (by simp;omega) fun h' e kp he=>?_) (F.args_zip_next_1 _))))
  obtain ⟨oe,f1,f2⟩:=he
  refine wpAny_bind (wpAny_isInstance (T:="StopIteration") (b:=true) ⟨oe,f1,f2⟩ isSubtype_stop (wpAny_pure ⟨rfl,?_⟩))
  exact I.turnedL (t':=s.toks) (fp:=[z,TI,TO,i1,i2]) hf fun b o hb e=>kp b o (fun x=>hb (by simp [x])) (fun x=>hb (by simp [x])) (fun x=>hb (by simp [x])) (fun x=>hb (by simp [x])) e
 self:=fun _ _ _ _ _ st h=>wpAny_pyIter_zip st.1 h
noncomputable def J5u (K:Fg)(b1 b2:Bool)(ta:TA):TI:=fun σ H R=>ta σ H fun vs H1=>∃ l1 l2,vs=[.ref l1,.ref l2]/\(∃ ys,SqX K b1 H1 l1 ys)/\(∃ ys,SqX K b2 H1 l2 ys)/\R (Q5u K b1 b2 l1 l2) H1
theorem J0c {X:Cx}{elts:List Expr}{c1}{tpos:Pos}(K:Fg)(hK:X.K=K)(b1 b2:Bool){e1 e2:Expr}{ta:TA}{p pos:Pos}(hg:Gl X "zip") (hm:X.mg "zip" = none) (ha:PA X [e1,e2] ta)
 (hs:starEach [e1,e2] X.env=[(false,eval e1 X.env),(false,eval e2 X.env)]:=by rfl) (hs2:starEach [e2] X.env=[(false,eval e2 X.env)]:=by rfl) :
 PI X (.Tuple elts c1 tpos) (.Call (.Name "zip" p) [e1,e2] [] pos) (J5u K b1 b2 ta):=by
 subst hK
 intro pins s σ H R I h
 refine Call_ (LD I hg hm Q5h (PyProof.Rows.callWith_type1 (thn (ha pos pins s σ H _ I h) fun us s1 ⟨vs,H1,I1,r1,q1⟩=>?_) (by rw [hs,hs2]) (by rw [hs2];rfl)))
 obtain ⟨l1,l2,e,⟨ys1,h1⟩,⟨ys2,h2⟩,q⟩:=q1
 subst e
 obtain ⟨u1,u2,rfl,t1,t2⟩:=US r1
 cases t1
 cases t2
 obtain ⟨v1,r1,p1,_⟩:=I1.seqX h1
 obtain ⟨v2,r2,p2,_⟩:=I1.seqX h2
 refine J3i p1 p2 fun h' f1 f2 f3 g1 g2 kp=>?_
 refine wpAny_pyIter_zip (s:={ s1 with heap:=h' }) f1 ?_
 refine ⟨s1.heap.objs.size+4,[s1.heap.objs.size+4,s1.heap.objs.size+2,s1.heap.objs.size+3,s1.heap.objs.size,s1.heap.objs.size+1],_,_,H1,rfl,I1.kept (t':=s1.toks) kp,J1z (b1:=b1) (TI:=s1.heap.objs.size+2) (TO:=s1.heap.objs.size+3) (i1:=s1.heap.objs.size) (i2:=s1.heap.objs.size+1) (l1:=l1) (l2:=l2) ⟨by show (_:Nat)≠_;omega,by show (_:Nat)≠_;omega,by show (_:Nat)≠_;omega,by show (_:Nat)≠_;omega,by show (_:Nat)≠_;omega,by show (_:Nat)≠_;omega,by show (_:Nat)≠_;omega,by show (_:Nat)≠_;omega,by show (_:Nat)≠_;omega,by show (_:Nat)≠_;omega,by show (_:Nat)≠_;omega,by show (_:Nat)≠_;omega,by show (_:Nat)≠_;omega,by show (_:Nat)≠_;omega,by show (_:Nat)≠_;omega,by show (_:Nat)≠_;omega,by show (_:Nat)≠_;omega,by show (_:Nat)≠_;omega,by show (_:Nat)≠_;omega,by show (_:Nat)≠_;omega⟩,⟨f1,f2,⟨_,_,f3⟩,g1,g2⟩,fun b hb=>?_,q⟩
 have hge:s1.heap.objs.size<=b:=by
  simp only [List.mem_cons,List.not_mem_nil,or_false] at hb
  rcases hb with rfl|rfl|rfl|rfl|rfl<;>first|exact Nat.le_refl _|exact Nat.le_add_right _ _
 exact I1.fpOk hge (I1.hok.fresh hge)
section
variable {X:Cx}
theorem J4t {x:Str}{n:Int}{pos:Pos}(hg:Gl X x)(hm:∃ t,X.mg x=some (.int n t))(hd:(x==("__debug__" : Str))=false:=by decide):PE X (.Name x pos) (tC (.int n)):=by
 obtain ⟨t,e⟩:=hm
 exact J9c hg e ⟨t,rfl⟩ hd
end
theorem J2c {X:Cx}(K:Fg)(h:X.K=K):SlR X (J4j K):=by subst h;exact J8p
section
variable {X:Cx}{x:Str}{C:Addr}{bm bmN:List Value}{newId Bn inN B nid initId:String}{e0:Expr}{rest:List Expr}{t:TA}{np cpos pos:Pos}
theorem J4l (O:OwnCls x C bm newId X.mg X.base)(Fn:ExcBaseFacts Bn newId inN bmN)(hBn:bm.contains (.type Bn)=true)(FB:ExcBaseFacts B nid initId bm)(hc:X.calm=true)(hg:Gl X x)(E:XK)
 (hx:∀ (pins:List (Addr×Obj)) (σ:St) (H:Hp) (s:Shared) (h':Heap) (e:Addr) (us:List Value),Inv X pins σ H s->Heap.MadeExcOf s.heap h' e (.ref C) us->E (.ref C) none H->X.xe (.ref e) { s with heap:=h' })
 (ha:PA X (e0::rest) t) (hz:∀ σ H Q,t σ H Q->t σ H fun vs H1=>vs.length<=sizeLine/\Q vs H1)
 (he:starEach (e0::rest) X.env=(false,eval e0 X.env)::starEach rest X.env:=by rfl) (hpl:(backTo cpos (starEach rest X.env)).any (·.1)=false:=by rfl) (hd:(x==("__debug__" : Str))=false:=by decide) :
 PS X (.Raise (some (.Call (.Name x np) (e0::rest) [] cpos)) none pos) (fun _ σ H=>t σ H fun _ H1=>E (.ref C) none H1):=by
 intro pins s σ H D I q
 obtain ⟨tl,N,nm,qn,bs,hdct,sn,sub,ab,col,dd,k0,k1,k2,k3,k5,mN,hC,hN,hni,T⟩:=O.obj
 refine wpAny_Raise_call_subU (C:=C) (nm:=nm) (q:=qn) (N:=N) (bs:=bs) (bm:=tl) (hdct:=hdct) (sn:=sn) (sub:=sub) (ab:=ab) (col:=col) (dd:=dd) (k0:=k0) (k1:=k1) (k2:=k2) (k3:=k3) (k5:=k5)
  Fn hBn FB (mN:=mN) (T.hasType FB.hasBase) (I.ok.hd hc) (by rw [he];show (false||(backTo cpos (starEach rest X.env)).any (·.1))=false;rw [hpl];rfl) hni (SS I hg O.bound ⟨rfl,?_⟩ hd)
 have h1:=ha cpos pins s σ H _ I (hz _ _ _ q)
 rw [he] at h1 ⊢
 refine Calls.evalArgs_plain (wpAny_mono h1 (fun us s2 ⟨vs,H1,I1,r,z,w⟩=>⟨rfl,by rw [<- r.length];exact z,I1.bk _ _ hC,hN.keeps I1.bk,T.keeps I1.bk,fun h' e hm=>hx pins σ H1 s2 h' e us I1 hm w⟩) fun _ _ y=>y)
end
section
variable {M:Model}{A:Around}{E:Value->Shared->Prop}{s:Shared}
structure Gone (fs:List Addr)(x:Addr)(ox:Obj)(old:List Addr)(h h':Heap)(T:Addr):Prop where
 keep:∀ b o,b∉fs->b≠x->b∉old->h.get? b=some o->h'.get? b=some o
 slot:∀ b o,b∈fs->h.get? b=some o->∃ sl,h'.get? b=some { o with slots:=sl }
 new:h.objs.size<=T
 exc:h'.get? x=some (ox.mapFields (·.setIfInBounds 1 (.ref T)))
 tr:∃ oT ts,h'.get? T=some oT/\oT.data=.fields ts/\ts[3]?=some .none
theorem OE {env:Env}{outer:List Env}{L x:Addr}{ox:Obj}{vs:Array Value}{hd:Value}{nx:Bool}{Q:Unit->Shared->Prop}(f1:A.frames=some (env::outer))(f2:s.heap.FunFrames base (env::outer))(f3:env.frame=some L)
 (x1:s.heap.get? x=some ox) (x2:ox.data=.fields vs) (x3:1<vs.size) (q:∀ h' T,Gone ((env::outer).filterMap (·.frame)) x ox [] s.heap h' T->Q () { s with heap:=h' }) :
 wpAny M A (do let a <- frameOf env;let pl <- entryPlaceOf L nx;let b <- EntryCells.newEntry hd a .none (rawInt L) .none pl;setField (.ref x) 1 b) (fun _ s'=>wpAny M A (setFlight (.ref x) none) Q E s') E s:=by
 have xf:x∉(env::outer).filterMap (·.frame):=fun hm=>by
  obtain ⟨_,o,e1,e2⟩:=f2.mem hm
  rw [x1] at e1
  cases e1
  exact e2 vs x2
 refine wpAny_bind (wpAny_frameOf_fun f1 f2 f3 fun g1 m1=>wpAny_bind (wpAny_entryPlaceOf fun pl hpl=>?_))
 unfold EntryCells.newEntry newFields
 refine wpAny_bind (wpAny_newObj_type ?_ (hpl.sizeOk5 _ _ _ _ _))
 generalize hob:({ cls:=.type "traceback",dict:=none,data:=.fields ([hd,.ref L,.none,rawInt L,.none]++(if pl.isEmpty then List.replicate 6 Value.none else pl)).toArray }:Obj)=ob
 have dob:ob.data=.fields ([hd,.ref L,.none,rawInt L,.none]++(if pl.isEmpty then List.replicate 6 Value.none else pl)).toArray:=by rw [<- hob]
 have lob:ob.isFreed=false:=Obj.isFreed_of_fields dob
 have xg1:g1.get? x=some ox:=(m1.2.1 x xf).trans x1
 have xg2:=Heap.get?_push_of_some (h:=g1) ob xg1
 refine wpAny_setField xg2 x2 x3 ?_
 have nTx:g1.objs.size≠x:=Nat.ne_of_gt (Heap.lt_size xg1)
 have dx:=Obj.data_mapFields x2 (·.setIfInBounds 1 (Value.ref g1.objs.size))
 have xg3:=Heap.get?_update_self (Obj.mapFields (·.setIfInBounds 1 (Value.ref g1.objs.size))) xg2 (Obj.isFreed_of_fields dx)
 have tg3:=(Heap.get?_update_other (g1.push ob) (Obj.mapFields (·.setIfInBounds 1 (Value.ref g1.objs.size))) (Ne.symm nTx)).trans (Heap.get?_push_size g1 lob)
 unfold setFlight
 refine wpAny_bind (wpAny_field xg3 dx (x:=.ref g1.objs.size) (by simp [x3]) ?_)
 rw [if_pos (show (Value.ref g1.objs.size != Value.none)=true from by simp)]
 refine wpAny_setField tg3 dob (by simp only [List.size_toArray,List.length_append,List.length_cons,List.length_nil]<;>omega) (q _ g1.objs.size ⟨?_,?_,?_,?_,?_⟩)
 · intro b o nf nx' _ e
   have e1:g1.get? b=some o:=(m1.2.1 b nf).trans e
   rw [Heap.get?_update_other _ _ (Nat.ne_of_gt (Heap.lt_size e1)),Heap.get?_update_other _ _ (Ne.symm nx')]
   exact Heap.get?_push_of_some _ e1
 · intro b o hb e
   obtain ⟨sl,e1⟩:=m1.2.2 b o e
   refine ⟨sl,?_⟩
   have nbx:b≠x:=fun z=>xf (z▸hb)
   rw [Heap.get?_update_other _ _ (Nat.ne_of_gt (Heap.lt_size e1)),Heap.get?_update_other _ _ (Ne.symm nbx)]
   exact Heap.get?_push_of_some _ e1
 · rw [m1.1]
   exact Nat.le_refl _
 · rw [Heap.get?_update_other _ _ nTx]
   exact xg3
 · refine ⟨_,_,Heap.get?_update_self _ tg3 (Obj.isFreed_of_fields (Obj.data_mapFields dob _)),Obj.data_mapFields dob _,?_⟩
   first|(simp;done)|(rcases hpl with rfl|⟨_,_,_,_,_,_,_,rfl⟩<;>simp)
theorem WF {env:Env}{outer:List Env}{L x:Addr}{ox:Obj}{vs:Array Value}{Q:Unit->Shared->Prop}(f1:A.frames=some (env::outer))(f2:s.heap.FunFrames base (env::outer))(f3:env.frame=some L)
 (x1:s.heap.get? x=some ox) (x2:ox.data=.fields vs) (x3:vs[1]?=some .none) (q:∀ h' T,Gone ((env::outer).filterMap (·.frame)) x ox [] s.heap h' T->Q () { s with heap:=h' }):wpAny M A (leaving env (.ref x)) Q E s:=by
 unfold leaving noteFrame;simp only [f3]
 refine wpAny_bind (wpAny_bind (wpAny_field x1 x2 x3 ?_));rw [if_neg (by decide)]
 exact OE f1 f2 f3 x1 x2 (Array.getElem?_eq_some_iff.mp x3).1 q
theorem YU {env:Env}{outer:List Env}{L x T0:Addr}{ox oT:Obj}{vs ts:Array Value}{Q:Unit->Shared->Prop}(f1:A.frames=some (env::outer))(f2:s.heap.FunFrames base (env::outer))(f3:env.frame=some L)
 (x1:s.heap.get? x=some ox) (x2:ox.data=.fields vs) (x3:vs[1]?=some (.ref T0)) (t1:s.heap.get? T0=some oT) (t2:oT.data=.fields ts) (t3:ts[3]?=some .none) (tx:T0≠x)
 (q:∀ h' T,Gone ((env::outer).filterMap (·.frame)) x ox [T0] s.heap h' T->Q () { s with heap:=h' }):wpAny M A (leaving env (.ref x)) Q E s:=by
 unfold leaving noteFrame;simp only [f3]
 refine wpAny_bind (wpAny_bind (wpAny_field x1 x2 x3 ?_));rw [if_pos (show (Value.ref T0 != Value.none)=true from by simp)]
 refine wpAny_bind (wpAny_field t1 t2 t3 ?_);rw [if_neg (show ¬ ((Value.none==rawInt L)=true) from by simp [rawInt])]
 refine wpAny_bind (wpAny_setField t1 t2 (Array.getElem?_eq_some_iff.mp t3).1 ?_)
 have oth:∀ b,b≠T0->(s.heap.update T0 (Obj.mapFields (·.setIfInBounds 3 Value.none))).get? b=s.heap.get? b:=fun b hb=>Heap.get?_update_other _ _ (Ne.symm hb)
 have nrec:∀ b o,s.heap.get? b=some o->(∀ vs,o.data≠.fields vs)->b≠T0:=fun b o e n z=>by
  rw [z,t1] at e
  cases e
  exact n ts t2
 have fT:∀ b∈(env::outer).filterMap (·.frame),b≠T0:=fun b hb=>by
  obtain ⟨_,o,e1,e2⟩:=f2.mem hb
  exact nrec b o e1 e2
 refine OE f1 (f2.of_keeps fun b o e n=>⟨o,(oth b (nrec b o e n)).trans e,rfl⟩) f3 ((oth x (Ne.symm tx)).trans x1) x2 (Array.getElem?_eq_some_iff.mp x3).1 fun h' T g=>q h' T ⟨?_,?_,?_,g.exc,g.tr⟩
 · intro b o nf nx no e
   exact g.keep b o nf nx (by simp) ((oth b (by simpa using no)).trans e)
 · intro b o hb e
   exact g.slot b o hb ((oth b (fT b hb)).trans e)
 · have:=g.new
   simpa using this
end
theorem ObjOk.ex {H:Hp}{h:Heap}{a:Addr}{o:HO}(x:ObjOk P w H h a o):∃ ob,h.get? a=some ob:=by
 cases o with
 | lst xs=>obtain ⟨_,_,_,_,e⟩:=x;exact ⟨_,e⟩
 | tup xs=>obtain ⟨_,_,_,ob,e,_⟩:=x;exact ⟨_,e⟩
 | dK kvs=>obtain ⟨_,_,_,_,o,_,_,e,_⟩:=x;exact ⟨_,e⟩
 | dT kvs=>obtain ⟨_,_,_,_,o,_,_,e,_⟩:=x;exact ⟨_,e⟩
 | set S n=>obtain ⟨o,_,_,_,e,_⟩:=x;exact ⟨_,e⟩
 | ins C dx fs=>obtain ⟨_,_,_,e,_⟩:=x;exact ⟨_,e⟩
 | own y=>exact x
 | xd fs=>obtain ⟨_,⟨_,_,_,e,_⟩,_⟩:=x;exact ⟨_,e⟩
 | rng lo hi=>obtain ⟨_,_,_,e⟩:=x;exact ⟨_,e⟩
 | frz ob u=>obtain ⟨e,_⟩:=x;exact ⟨_,e⟩
 | tbl ps=>exact ⟨_,(show h.get? a=some _ from x)⟩
 | met f y=>exact ⟨_,(show h.get? a=some _ from x)⟩
 | ext φ=>obtain ⟨_,e,_⟩:=x;exact e
theorem J3b (o:Obj)(f:Array Value->Array Value):(o.mapFields f).dict=o.dict:=by unfold Obj.mapFields;split<;>rfl
noncomputable def Exd (H:Hp)(base g h:Heap)(x C:Addr):Prop:=H x=none/\base.get? x=none/\g.get? x=none/\∃ ox vs T oT ts,h.get? x=some ox/\ox.cls=.ref C/\ox.dict=none/\ox.data=.fields vs/\vs[1]?=some (.ref T)/\vs[2]?=some .none /\
 T≠x/\H T=none/\base.get? T=none/\g.get? T=none/\h.get? T=some oT/\oT.data=.fields ts/\ts[3]?=some .none
noncomputable def CX1 (P:Program)(w:World)(base:Heap):CXT:=fun outer H s E e s'=>∃ (x C:Addr) (H':Hp),e=.ref x/\s'.os=s.os/\AllBare s'.gens/\Un (frs outer) [] H H' s.heap s'.heap/\HOk P w H' s'.heap/\Exd H' base s.heap s'.heap x C/\E (.ref C) none H'
theorem J3q {P:Program}{w:World}{K:Fg}{mg:Str->Option Value}{base:Heap}{N:List Str}{qual:Str}{scope:Scope}{f:Addr}{cd:Value}{A:Around}{outer:List Env}{s:Shared}{H:Hp}{E:XK}{C:Addr}
 (pins:List (Addr×Obj)) (σ:St) (H1:Hp) (s1:Shared) (h':Heap) (e:Addr) (us:List Value) (I:Inv (BO (CX1 P w base) P w K mg base N qual scope f cd A outer s H E) pins σ H1 s1) (hm:Heap.MadeExcOf s1.heap h' e (.ref C) us) (q:E (.ref C) none H1) :
 (BO (CX1 P w base) P w K mg base N qual scope f cd A outer s H E).xe (.ref e) { s1 with heap:=h' }:=by
 obtain ⟨t,e1,e2,e3⟩:=hm.there
 have nH:∀ b,s1.heap.get? b=none->H1 b=none:=fun b hb=>by
  cases z:H1 b with
  | none=>rfl
  | some o =>
    obtain ⟨ob,eo⟩:∃ ob,s1.heap.get? b=some ob:=(I.hok b o z).ex
    rw [hb] at eo
    cases eo
 have hst:s1.heap.FunFrames base (envOfC qual scope s.heap.objs.size f cd::outer):=I.stack
 have hfree:∀ b∈frs (envOfC qual scope s.heap.objs.size f cd::outer),H1 b=none:=I.stkFree
 show wpAny (model P w) (A.deeper (envOfC qual scope s.heap.objs.size f cd)) (leaving (envOfC qual scope s.heap.objs.size f cd) (.ref e)) _ _ { s1 with heap:=h' }
 refine WF (s:={ s1 with heap:=h' }) (base:=base) I.ok.frames (hst.of_keeps fun b o eb _=>⟨o,hm.keeps b o eb,rfl⟩) rfl e1 rfl rfl fun h2 T g=>?_
 have lt1:∀ b o,s1.heap.get? b=some o->b<h'.objs.size:=fun b o eb=>Heap.lt_size (hm.keeps b o eb)
 have neE:∀ b o,s1.heap.get? b=some o->b≠e:=fun b o eb z=>by rw [z,hm.new] at eb;cases eb
 have kp:∀ b o,b∉frs (envOfC qual scope s.heap.objs.size f cd::outer)->s1.heap.get? b=some o->h2.get? b=some o:=fun b o nf eb=>g.keep b o nf (neE b o eb) (by simp) (hm.keeps b o eb)
 have sl:∀ b o,b∈frs (envOfC qual scope s.heap.objs.size f cd::outer)->s1.heap.get? b=some o->∃ z,h2.get? b=some { o with slots:=z }:=fun b o hb eb=>g.slot b o hb (hm.keeps b o eb)
 have nTo:∀ b o,s1.heap.get? b=some o->b≠T:=fun b o eb z=>by
  have h1:=lt1 b o eb
  rw [z] at h1
  exact absurd (Nat.lt_of_lt_of_le h1 g.new) (Nat.lt_irrefl _)
 have baseK:∀ b o,base.get? b=some o->s1.heap.get? b=some o:=I.bk
 have nf:∀ b o,s.heap.get? b=some o->b∉frs outer->b∉frs (envOfC qual scope s.heap.objs.size f cd::outer):=fun b o eb nb hb=>by
  rcases List.mem_cons.mp (show b∈s.heap.objs.size::frs outer from hb) with z|z
  · exact absurd (Heap.lt_size eb) (by rw [z];exact Nat.lt_irrefl _)
  · exact nb z
 have tH:H1 T=none:=by
  cases z:H1 T with
  | none=>rfl
  | some o =>
    obtain ⟨ob,eo⟩:=(I.hok T o z).ex
    exact absurd rfl (nTo T ob eo)
 have U:Un (frs outer) [] H H1 s.heap s1.heap:=I.base
 refine ⟨e,C,H1,rfl,I.os,I.bare,⟨fun b o eb n hb hx=>kp b o (nf b o eb hb) (U.keep b o eb n hb hx),fun b o eb n hb hx=>?_,U.free,fun b o eb hx=>?_,U.tups,U.frzs,U.tbls⟩,fun b o eb=>?_,⟨nH e hm.new,?_,?_,?_⟩,q⟩
 · obtain ⟨z,e4⟩:=U.slot b o eb n hb hx
   obtain ⟨z',e5⟩:=sl b _ (List.mem_cons_of_mem _ hb) e4
   exact ⟨z',e5⟩
 · obtain ⟨o',e4⟩:=U.there b o eb hx
   by_cases hb:b∈frs (envOfC qual scope s.heap.objs.size f cd::outer)
   · obtain ⟨z,e5⟩:=sl b o' hb e4
     exact ⟨_,e5⟩
   · exact ⟨o',kp b o' hb e4⟩
 · refine (I.hok b o eb).stay (fun c v hc ev=>kp c v (fun hb=>?_) ev) (fun _ z=>z) fun _ _ z=>z
   have:=hfree c hb
   rcases hc with z|z
   · rw [z,eb] at this
     cases this
   · rw [z] at this
     cases this
 · cases z:base.get? e with
   | none=>rfl
   | some o=>exact absurd rfl (neE e o (baseK e o z))
 · cases z:s.heap.get? e with
   | none=>rfl
   | some o =>
     obtain ⟨o',e4⟩:=U.there e o z (by simp)
     exact absurd rfl (neE e o' e4)
 · obtain ⟨oT,ts,g1,g2,g3⟩:=g.tr
   refine ⟨_,_,T,oT,ts,g.exc,rfl,rfl,rfl,rfl,rfl,?_,tH,?_,?_,g1,g2,g3⟩
   · intro z
     have:=Heap.lt_size e1
     rw [<- z] at this
     exact absurd (Nat.lt_of_lt_of_le this g.new) (Nat.lt_irrefl _)
   · cases z:base.get? T with
     | none=>rfl
     | some o=>exact absurd rfl (nTo T o (baseK T o z))
   · cases z:s.heap.get? T with
     | none=>rfl
     | some o =>
       obtain ⟨o',e4⟩:=U.there T o z (by simp)
       exact absurd rfl (nTo T o' e4)
theorem Inv.raised {X:Cx}{pins:List (Addr×Obj)}{σ:St}{H H2:Hp}{s s':Shared}(I:Inv X pins σ H s)(os:s'.os=s.os)(bare:AllBare s'.gens)(un:Un (frs X.stack) [] H H2 s.heap s'.heap)(hok:HOk X.prog X.w H2 s'.heap):Inv X pins σ H2 s':=by
 obtain ⟨hh,g,d,t,os'⟩:=s'
 obtain rfl:os'=s.os:=os
 exact I.call (h':=hh) (g':=g) (d':=d) (t':=t) (ch:=[]) un hok bare (fun b z=>absurd z (by simp))
theorem MC {P:Program}{w:World}{K:Fg}{mg:Str->Option Value}{base:Heap}{N:List Str}{qual:Str}{scope:Scope}{f:Addr}{cd:Value}{A:Around}{outer:List Env}{s:Shared}{H:Hp}{E:XK} :
 FZ (CX1 P w base) (BO (CX1 P w base) P w K mg base N qual scope f cd A outer s H E) E:=by
 intro pins σ H1 s1 e s' I h
 obtain ⟨x,C,H2,rfl,os,bare,U2,hok2,⟨hx0,hb0,hg0,ox,vs,T0,oT,ts,x1,xc,xn,xd,v1,v2,tx,hT0,bT0,gT0,t1,t2,t3⟩,q⟩:=h
 have I2:Inv (BO (CX1 P w base) P w K mg base N qual scope f cd A outer s H E) pins σ H2 s':=I.raised os bare U2 hok2
 have hst:s'.heap.FunFrames base (envOfC qual scope s.heap.objs.size f cd::outer):=I2.stack
 have hfree:∀ b∈frs (envOfC qual scope s.heap.objs.size f cd::outer),H2 b=none:=I2.stkFree
 have U1:Un (frs outer) [] H H1 s.heap s1.heap:=I.base
 have U:Un (frs outer) [] H H2 s.heap s'.heap:=I2.base
 show wpAny (model P w) (A.deeper (envOfC qual scope s.heap.objs.size f cd)) (leaving (envOfC qual scope s.heap.objs.size f cd) (.ref x)) _ _ s'
 refine YU (s:=s') (base:=base) I2.ok.frames hst rfl x1 xd v1 t1 t2 t3 tx fun h2 T g=>?_
 have ne1:∀ b o,s.heap.get? b=some o->b≠x/\b≠T0:=fun b o eb=>by
  obtain ⟨o',e4⟩:=U1.there b o eb (by simp)
  refine ⟨fun z=>?_,fun z=>?_⟩
  · rw [z,hg0] at e4
    cases e4
  · rw [z,gT0] at e4
    cases e4
 have nf:∀ b o,s.heap.get? b=some o->b∉frs outer->b∉frs (envOfC qual scope s.heap.objs.size f cd::outer):=fun b o eb nb hb=>by
  rcases List.mem_cons.mp (show b∈s.heap.objs.size::frs outer from hb) with z|z
  · exact absurd (Heap.lt_size eb) (by rw [z];exact Nat.lt_irrefl _)
  · exact nb z
 have nTo:∀ b o,s'.heap.get? b=some o->b≠T:=fun b o eb z=>by
  have h1:=Heap.lt_size eb
  rw [z] at h1
  exact absurd (Nat.lt_of_lt_of_le h1 g.new) (Nat.lt_irrefl _)
 have tH:H2 T=none:=by
  cases z:H2 T with
  | none=>rfl
  | some o =>
    obtain ⟨ob,eo⟩:=(hok2 T o z).ex
    exact absurd rfl (nTo T ob eo)
 have dx:=Obj.data_mapFields xd (·.setIfInBounds 1 (Value.ref T))
 refine ⟨x,C,H2,rfl,I2.os,bare,⟨fun b o eb n hb hx=>g.keep b o (nf b o eb hb) (ne1 b o eb).1 (by simpa using (ne1 b o eb).2) (U.keep b o eb n hb hx),fun b o eb n hb hx=>?_,U.free,fun b o eb hx=>?_,U.tups,U.frzs,U.tbls⟩,fun b o eb=>?_,⟨hx0,hb0,?_,?_⟩,q⟩
 · obtain ⟨z,e4⟩:=U.slot b o eb n hb hx
   obtain ⟨z',e5⟩:=g.slot b _ (List.mem_cons_of_mem _ hb) e4
   exact ⟨z',e5⟩
 · obtain ⟨o',e4⟩:=U.there b o eb hx
   by_cases hb:b∈frs (envOfC qual scope s.heap.objs.size f cd::outer)
   · obtain ⟨z,e5⟩:=g.slot b o' hb e4
     exact ⟨_,e5⟩
   · exact ⟨o',g.keep b o' hb (ne1 b o eb).1 (by simpa using (ne1 b o eb).2) e4⟩
 · have nx:b≠x:=fun z=>by rw [z,hx0] at eb;cases eb
   refine (hok2 b o eb).stay (fun c v hc ev=>g.keep c v (fun hb=>?_) (fun z=>?_) (fun z=>?_) ev) (fun _ z=>z) fun _ _ z=>z
   · have:=hfree c hb
     rcases hc with y|y
     · rw [y,eb] at this;cases this
     · rw [y] at this;cases this
   · rcases hc with y|y
     · rw [<- y,z,hx0] at eb;cases eb
     · rw [z,hx0] at y;cases y
   · have z:c=T0:=by simpa using z
     rcases hc with y|y
     · rw [<- y,z,hT0] at eb;cases eb
     · rw [z,hT0] at y;cases y
 · cases z:s.heap.get? x with
   | none=>rfl
   | some o=>exact absurd rfl (ne1 x o z).1
 · obtain ⟨oT',ts',g1,g2,g3⟩:=g.tr
   refine ⟨_,_,T,oT',ts',g.exc,(Obj.cls_mapFields ..).trans xc,(J3b ..).trans xn,dx,?_,?_,?_,tH,?_,?_,g1,g2,g3⟩
   · have:=(Array.getElem?_eq_some_iff.mp v1).1
     simp [this]
   · rw [Array.getElem?_setIfInBounds_ne (by decide)]
     exact v2
   · intro z
     exact nTo x _ x1 z.symm
   · cases z:base.get? T with
     | none=>rfl
     | some o=>exact absurd rfl (nTo T o (I2.bk T o z))
   · cases z:s.heap.get? T with
     | none=>rfl
     | some o =>
       obtain ⟨o',e4⟩:=U.there T o z (by simp)
       exact absurd rfl (nTo T o' e4)
theorem Fun.okX {P:Program}{w:World} {mg:Str->Option Value}{base:Heap}{CX:CXT}{x qual:Str}{st:Stmt}{f:Addr} {N ps:List Str}{k:Nat}{sp:Sp}(F:Fun K x qual st f fd)(S:FnScope N ps (J7 st))(len:∀ vs H Q E,sp vs H Q E->vs.length=ps.length)
 (hbody:∀ (cdv:Value) (A:Around) (outer:List Env) (s:Shared) (H:Hp) (vs:List V) (Q:VK) (E:XK),Room k (A.deeper (envOfC qual (J7 st) s.heap.objs.size f cdv))->sp vs H Q E ->
  ∃ t,PSs (BO CX P w K mg base N qual (J7 st) f cdv A outer s H E) (BX st) t/\t { nx:=fun _ H'=>Q .non H',rt:=Q } (EB N vs) H):FnOk P w K mg base CX (k+1) f fd ps sp:=by
 obtain ⟨oc,od,kV,doc,pm,an,cdv,ct,osl,rfl,lk,hcd⟩:=F.ex
 exact Q1q lk hcd S len fun A outer s H vs Q E hr hsp=>hbody cdv A outer s H vs Q E hr hsp
theorem J0d {X:Cx}{CX:CXT}{k:Nat}{ps:List Str}{sp:Sp}{E:XK}{x:Str}{p pos:Pos}{e:Expr}{es:List Expr}{t:TA}(hp:FZ CX X E)(G:Callee X.prog X.w X.K X.mg X.base CX x k ps sp)(hr:Room k X.A)(hg:Gl X x)(ha:PA X (e::es) t)
 (hdb:(x==("__debug__" : Str))=false:=by decide) (he:starEach (e::es) X.env=(false,eval e X.env)::starEach es X.env:=by rfl) (hpl:(backTo pos (starEach es X.env)).any (·.1)=false:=by rfl):PE X (.Call (.Name x p) (e::es) [] pos) (ZV sp [] E t):=by
 obtain ⟨f,fd,F,hm,hk,hb⟩:=G.ex
 exact J0f F hr hg hm hk hb .nil hp ha hdb he hpl
structure XCls (K:Fg)(D:Addr):Prop where
 get:PySem.W.findIn K (.ref D) "__getattribute__" = some (some (.builtin "BaseException.__getattribute__"))
 hook:PySem.W.findIn K (.ref D) "__getattr__" = some none
 fnd:PySem.W.findObj K D none "__class__" = some (.bind (.builtin "getset_descriptor.__get__") (.builtin "object.__class__"))
 mro:PySem.W.mroIn K D (.type "object")=some true
 cls:(PySem.W.clsIn K D).isSome=true
 exc:PySem.W.subIn K (.ref D) (.type "BaseException")=some true
structure XBase (K:Fg)(B:Addr):Prop where
 cls:(PySem.W.clsIn K B).isSome=true
 typ:PySem.W.typeIn K (.ref B)=some (.type "type")
 exc:PySem.W.subIn K (.ref B) (.type "BaseException")=some true
abbrev bmV:List Value:=[.type "ValueError",.type "Exception",.type "BaseException",.type "object"]
theorem J4w {x:Str}{C:Addr}{bmB:List Value}{newId:String}(X:K.In base)(G:base.Ns mainGlobals mg)(e:PySem.W.nsIn K mainGlobals x=some (some (.ref C)))(q:PySem.W.excIn K C bmB newId=true):OwnCls x C bmB newId mg base:=by
 refine ⟨PySem.W.mg_of X G e,?_⟩
 unfold PySem.W.excIn at q
 split at q
 · rename_i dd cd sl ho
   split at q
   · rename_i C' bm k0 k1 k2 k3 n k5 hm hs
     simp only [Bool.and_eq_true,beq_iff_eq,Bool.not_eq_true'] at q;obtain ⟨⟨⟨⟨⟨rfl,rfl⟩,hdel⟩,ht⟩,hok⟩,hni⟩:=q
     obtain ⟨nm,bs,mro,ns,qn,hd,sn,sub,ab,col,del⟩:=cd
     dsimp only at hm hdel hok hni;subst hm hdel
     have hsl:sl=#[k0,k1,k2,k3,some (.builtin n),k5]:=by
      obtain ⟨l⟩:=sl
      simp only at hs;rw [hs]
     subst hsl
     refine ⟨bm,ns,nm,qn,bs,hd,sn,sub,ab,col,dd,k0,k1,k2,k3,k5,_,X _ _ ho,.of_isNs (PySem.W.isNs_of_in X hok),PySem.W.nsMap_none_of_in X hok hni,PySem.W.tail_of_in X ht⟩
   · cases q
 · cases q
theorem EX {X:Cx}:FZ (CX1 P w base) X E0:=fun _ _ _ _ _ _ _ h=>by
 obtain ⟨_,_,_,_,_,_,_,_,_,q⟩:=h
 exact q.elim
theorem LA {P:Program}{w:World}{K:Fg} {N:List Str}{qual:Str}{scope:Scope}{f:Addr}{cd:Value}{A:Around}{outer:List Env}{s:Shared}{H:Hp}{E:XK}{x m:Str}{C:Addr}{j}{mp np cpos pos:Pos}(O:OwnCls x C bmV "ValueError.__new__" mg base)
 (hg:Gl (BO (CX1 P w base) P w K mg base N qual scope f cd A outer s H E) x) (hd:(x==("__debug__" : Str))=false:=by decide) :
 PS (BO (CX1 P w base) P w K mg base N qual scope f cd A outer s H E) (.Raise (some (.Call (.Name x np) [.Constant (.str m) j mp] [] cpos)) none pos) (fun _ _ H1=>E (.ref C) none H1) :=
 J4l (X:=BO (CX1 P w base) P w K mg base N qual scope f cd A outer s H E) O PySem.F.excBase_ValueError (by decide) PySem.F.excBase_ValueError rfl hg E (fun pins σ H1 s1 h' e us I hm q=>J3q pins σ H1 s1 h' e us I hm q) (AW Q3c CW) (fun σ H Q q=>⟨Nat.le_trans (Nat.le_of_ble_eq_true rfl) DK,q⟩) rfl rfl hd
noncomputable abbrev met (ns:List Int)(k:Nat):List Int:=firstMet (fun i=>ns.getD i 0) k
noncomputable def Asc (xs:Array Nat):Prop:=xs.toList.Pairwise (· < ·)
noncomputable def iv:Value->Int
 | .int n _=>n
 | _=>0
noncomputable abbrev byT (w:World):Bool:=w.params.followText "set-order"
inductive Way (w:World)(a:Addr)(es:Array (Int×Value))(ep:Nat)(t:SetTable)(ord:List (Int×Value))(fx:List Addr)(h:Heap)(i:Nat)(first:Value):Prop
 | text (k:Nat) (b:byT w=true) (f:first=.int k 0) (o:ord=(pickOrder (w.params.setOrder a ep) es).toList)
 | place (k:Nat) (b:byT w=false) (d:(!t.plain&&decide (es.size>1))=false) (c:Asc t.place) (f:first=.int k 0) (e:SetTable.below t.place k=i) (o:ord=es.toList)
 | drawn (p:Addr) (ps:List Nat) (b:byT w=false) (d:(!t.plain&&decide (es.size>1))=true) (f:first=.ref p) (m:p∈fx) (q:h.get? p=some { cls:=.type "tuple",data:=.seq (ps.map fun x:Nat=>Value.int (x:Int) 0).toArray 0 }) (o:ps.map (fun x=>es[x]?)=ord.map some)
section
variable {w:World}{a:Addr}{o:Obj}{es:Array (Int×Value)}{ep:Nat}{t:SetTable}{ord:List (Int×Value)}{fx:List Addr}{i:Nat}{first:Value}
end
noncomputable def kA (k:Keyed->Int)(xs:Array Keyed)(i:Nat):Int:=match xs[i]? with
 | some p=>k p
 | none=>0
noncomputable def DI (k:Keyed->Int)(xs:Array Keyed)(lo n:Nat):Prop:=∀ i j,lo<=i->i<=j->j<lo+n->kA k xs i<=kA k xs j
noncomputable def KJ (k:Keyed->Int)(xs:Array Keyed)(lo n:Nat):Prop:=∀ i j,lo<=i->i<=j->j<lo+n->kA k xs j<=kA k xs i
theorem AY {k:Keyed->Int}{xs ys:Array Keyed}{i j:Nat}(h:xs[i]?=ys[j]?):kA k xs i=kA k ys j:=by unfold kA;rw [h]
theorem Z4 {k:Keyed->Int}{xs:Array Keyed}{i:Nat}(h:i<xs.size):kA k xs i=k xs[i]:=by unfold kA;rw [getElem?_pos xs i h]
theorem QN {k:Keyed->Int}{xs:Array Keyed}{src d:Nat}(hs:src<xs.size)(hd:d<=src)(i:Nat) :
 kA k (bubble xs src d) i=if i=src - d then kA k xs src else if src - d<i/\i<=src then kA k xs (i - 1) else kA k xs i:=by
 have e:=getElem?_bubble hs d hd i
 by_cases h1:i=src - d
 · rw [if_pos h1] at e ⊢;exact AY e
 · rw [if_neg h1] at e ⊢
   by_cases h2:src - d<i/\i<=src
   · rw [if_pos h2] at e ⊢;exact AY e
   · rw [if_neg h2] at e ⊢;exact AY e
theorem LF {k:Keyed->Int}{xs:Array Keyed}{i j:Nat}(hj:j<=xs.size)(q:Nat) :
 kA k (mirror xs i j ((j - i) / 2)) q=if i<=q/\q<j then kA k xs (i+j - 1 - q) else kA k xs q:=by
 have e:=getElem?_mirror_all (i:=i) hj q
 by_cases h1:i<=q/\q<j
 · rw [if_pos h1] at e ⊢;exact AY e
 · rw [if_neg h1] at e ⊢;exact AY e
theorem DL {k:Keyed->Int}{xs:Array Keyed}{i j:Nat}(hj:j<=xs.size)(heq:∀ q,i<=q->q<j->kA k xs q=kA k xs (j - 1))(q:Nat) :
 kA k (mirror xs i j ((j - i) / 2)) q=kA k xs q:=by
 rw [LF hj]
 split
 · rw [heq _ (by omega) (by omega),heq q (by omega) (by omega)]
 · rfl
structure Cmp (prog:Program)(w:World)(A:Around)(s:Shared)(κ:SortKind)(a₀:Array Keyed)(k:Keyed->Int):Prop where
 lt:∀ x∈a₀.toList,∀ y∈a₀.toList,∀ (E:Value->Shared->Prop) (Q:Bool->Shared->Prop),Q (decide (k x<k y)) s->wpAny (model prog w) A (keyLt' κ x.1 y.1) Q E s
structure TB (κ:SortKind)(a₀:Array Keyed)(st:SortSt):Prop where
 perm:(arrOf st).Perm a₀
 kind:kindOf st=κ
 ok:failedOf st=none
theorem TB.size {κ:SortKind}{a₀:Array Keyed}{st:SortSt}(h:TB κ a₀ st):(arrOf st).size=a₀.size:=h.perm.size_eq
theorem TB.setArr {κ:SortKind}{a₀:Array Keyed}{st:SortSt}(h:TB κ a₀ st){xs:Array Keyed}(hp:xs.Perm (arrOf st)):TB κ a₀ (setArr st xs):=⟨hp.trans h.perm,h.kind,h.ok⟩
theorem TB.mem {κ:SortKind}{a₀:Array Keyed}{st:SortSt}(h:TB κ a₀ st){p:Keyed}(hp:p∈(arrOf st).toList):p∈a₀.toList:=(Array.perm_iff_toList_perm.mp h.perm).mem_iff.mp hp
structure Sam (lo hi:Nat)(st st':SortSt):Prop where
 pend:pendingOf st'=pendingOf st
 out:∀ i,i<lo\/hi<=i->(arrOf st')[i]?=(arrOf st)[i]?
theorem Sam.refl (lo hi:Nat)(st:SortSt):Sam lo hi st st:=⟨rfl,fun _ _=>rfl⟩
theorem Sam.trans {lo hi:Nat}{a b c:SortSt}(h:Sam lo hi a b)(h':Sam lo hi b c):Sam lo hi a c:=⟨h'.pend.trans h.pend,fun i hi=>(h'.out i hi).trans (h.out i hi)⟩
theorem Sam.bubble {lo hi:Nat}{st:SortSt}{src d:Nat}(hs:src<(arrOf st).size)(hd:d<=src)(h1:lo<=src - d)(h2:src<hi):Sam lo hi st (setArr st (bubble (arrOf st) src d)):=⟨rfl,fun i h=>by
 show (PyProof.Rows.bubble (arrOf st) src d)[i]?=_
 rw [getElem?_bubble hs d hd i,if_neg (by omega),if_neg (by omega)]⟩
theorem Sam.mirror {lo hi:Nat}{st:SortSt}{i j:Nat}(hj:j<=(arrOf st).size)(h1:lo<=i)(h2:j<=hi):Sam lo hi st (setArr st (mirror (arrOf st) i j ((j - i) / 2))):=⟨rfl,fun q h=>by
 show (PyProof.Rows.mirror (arrOf st) i j ((j - i) / 2))[q]?=_
 rw [getElem?_mirror_all hj q,if_neg (by omega)]⟩
section
variable {prog:Program}{w:World}{A:Around}{E:Value->Shared->Prop}{s:Shared}{κ:SortKind}{a₀:Array Keyed}{k:Keyed->Int}
theorem MS {st:SortSt}{x y:Keyed}{Q:Option Bool->SortSt->Prop}(C:Cmp prog w A s κ a₀ k)(hk:kindOf st=κ)(hx:x∈a₀.toList)(hy:y∈a₀.toList)(h:Q (some (decide (k x<k y))) st):wpS (model prog w) A E s (lt' x y) Q st:=by
 rw [lt'_eq]
 refine wpS_bind (wpS_get ?_)
 rw [hk]
 refine wpS_bind (wpS_lift (wpAny_attempt (C.lt x hx y hy _ _ ⟨rfl,?_⟩)))
 exact wpS_pure h
theorem Y8 {st:SortSt}{arr:Array Keyed}{i:Nat}{Q:Keyed->SortSt->Prop}(hi:i<arr.size)(h:Q arr[i] st):wpS (model prog w) A E s (elem' arr i) Q st:=by
 rw [elem'_eq,getElem?_pos arr i hi]
 exact wpS_pure h
theorem GX {st:SortSt}{i j:Nat}{Q:Option Bool->SortSt->Prop}(C:Cmp prog w A s κ a₀ k)(hB:TB κ a₀ st)(hi:i<a₀.size)(hj:j<a₀.size)
 (h:Q (some (decide (kA k (arrOf st) i<kA k (arrOf st) j))) st):wpS (model prog w) A E s (ltAt' i j) Q st:=by
 have hi':i<(arrOf st).size:=by rw [hB.size];exact hi
 have hj':j<(arrOf st).size:=by rw [hB.size];exact hj
 rw [Z4 hi',Z4 hj'] at h
 rw [ltAt'_eq]
 refine wpS_bind (wpS_get ?_)
 exact wpS_bind (Y8 hi' (wpS_bind (Y8 hj' (MS C hB.kind (hB.mem (by simp)) (hB.mem (by simp)) h))))
theorem UQ {st:SortSt}{lo n ok:Nat}{Q:Bool->SortSt->Prop}(C:Cmp prog w A s κ a₀ k)(hn:lo+n<=a₀.size)(hok:ok<=n)(hB:TB κ a₀ st)(hs:DI k (arrOf st) lo ok)
 (h:∀ st',TB κ a₀ st'->Sam lo (lo+n) st st'->DI k (arrOf st') lo n->Q true st'):wpS (model prog w) A E s (binarySort' lo n ok) Q st:=by
 rw [binarySort'_eq]
 refine wpS_bind (wpS_mono (wpS_forRange (I:=fun q c st'=>c=(none,())/\TB κ a₀ st'/\Sam lo (lo+n) st st'/\DI k (arrOf st') lo (min q n))
  (Q:=fun c st'=>c=(none,())/\TB κ a₀ st'/\Sam lo (lo+n) st st'/\DI k (arrOf st') lo n) ?step ?fin ?init) ?post)
 case post =>
  rintro c st' ⟨rfl,tb,d3,so⟩
  exact wpS_pure (h st' tb d3 so)
 case init =>
  refine ⟨rfl,hB,Sam.refl _ _ _,fun i j h0 hij hj=>?_⟩
  by_cases h1:ok=0
  · have:i=j:=by omega
    subst this;exact Int.le_refl _
  · exact hs i j h0 hij (by omega)
 case fin =>
  rintro c st' ⟨hc,tb,d3,so⟩
  refine ⟨hc,tb,d3,?_⟩
  rwa [show min (max (max ok 1) n) n=n by omega] at so
 case step =>
  rintro q c st' hak hqn ⟨rfl,tb,hsm,so⟩
  rw [show min q n=q by omega] at so
  have hq:lo+q<a₀.size:=by omega
  refine wpS_bind (wpS_mono (wpS_forRange (I:=fun x c sx=>sx=st'/\∃ l r,c=(none,l,r)/\l<=r/\r<=q/\r - l<=q - x /\
   (∀ i,i<l->kA k (arrOf st') (lo+i)<=kA k (arrOf st') (lo+q))/\(∀ i,r<=i->i<q->kA k (arrOf st') (lo+q)<kA k (arrOf st') (lo+i)))
   (Q:=fun c sx=>sx=st'/\∃ l r,c=(none,l,r)/\l<=q /\
    (∀ i,i<l->kA k (arrOf st') (lo+i)<=kA k (arrOf st') (lo+q))/\(∀ i,l<=i->i<q->kA k (arrOf st') (lo+q)<kA k (arrOf st') (lo+i))) ?istep ?ifin ?iinit) ?ipost)
  case iinit=>exact ⟨rfl,0,q,rfl,by omega,by omega,by omega,fun i hi=>by omega,fun i h1 h2=>by omega⟩
  case ifin =>
   rintro c sx ⟨rfl,l,r,rfl,d1,d2,d3,d4,d5⟩
   have:l=r:=by omega
   subst this
   exact ⟨rfl,l,l,rfl,d2,d4,d5⟩
  case istep =>
   rintro x c sx _ q1 ⟨rfl,l,r,rfl,d1,d2,d3,d4,d5⟩
   dsimp only
   by_cases cmp:l>=r
   · rw [if_pos cmp]
     have:l=r:=by omega
     subst this
     exact wpS_pure ⟨rfl,l,l,rfl,d2,d4,d5⟩
   · rw [if_neg cmp]
     refine wpS_bind (GX C tb hq (by omega) ?_)
     by_cases les:kA k (arrOf sx) (lo+q)<kA k (arrOf sx) (lo+(l+r) / 2)
     · simp only [les,decide_true,if_true]
       refine wpS_pure ⟨rfl,l,(l+r) / 2,rfl,by omega,by omega,by omega,d4,fun i h1 h2=>?_⟩
       exact Int.lt_of_lt_of_le les (so _ _ (by omega) (by omega) (by omega))
     · simp only [les,decide_false,Bool.false_eq_true,if_false]
       refine wpS_pure ⟨rfl,(l+r) / 2+1,r,rfl,by omega,by omega,by omega,fun i h1=>?_,d5⟩
       exact Int.le_trans (so (lo+i) (lo+(l+r) / 2) (by omega) (by omega) (by omega)) (Int.not_lt.mp les)
  case ipost =>
   rintro c sx ⟨rfl,l,r,rfl,d6,d4,d5⟩
   show wpS _ _ _ _ (do moveDown' (lo+q) (lo+l);pure (ForInStep.yield (none,()))) _ _
   rw [moveDown'_eq]
   have kz:lo+q<(arrOf sx).size:=by rw [tb.size];exact hq
   refine wpS_bind (wpS_modify (wpS_pure ⟨rfl,tb.setArr (bubble_perm _ _ _),hsm.trans (Sam.bubble kz (by omega) (by omega) (by omega)),?_⟩))
   rw [show min (q+1) n=q+1 by omega]
   intro i j h0 hij hj
   show kA k (bubble (arrOf sx) (lo+q) (lo+q - (lo+l))) i<=kA k (bubble (arrOf sx) (lo+q) (lo+q - (lo+l))) j
   have lo':∀ i,lo<=i->i<lo+l->kA k (arrOf sx) i<=kA k (arrOf sx) (lo+q):=fun i h1 h2=>by
    have:=d4 (i - lo) (by omega)
    rwa [show lo+(i - lo)=i by omega] at this
   have hi':∀ i,lo+l<=i->i<lo+q->kA k (arrOf sx) (lo+q)<kA k (arrOf sx) i:=fun i h1 h2=>by
    have:=d5 (i - lo) (by omega) (by omega)
    rwa [show lo+(i - lo)=i by omega] at this
   rw [QN kz (by omega),QN kz (by omega),show lo+q - (lo+q - (lo+l))=lo+l by omega]
   repeat' split
   all_goals first
    | (exfalso;omega)
    | exact Int.le_refl _
    | exact lo' _ (by omega) (by omega)
    | exact Int.le_of_lt (hi' _ (by omega) (by omega))
    | exact so _ _ (by omega) (by omega) (by omega)
end
local macro_rules | `(tactic| walk_at "un gallop") => do let n := Lean.mkIdent (Lean.mkPrivateNameCore `PySem.Builtin.List.W1All `PySem.Builtin.gallop); `(tactic| unfold $n)
noncomputable def J0p:Bool->Keyed->Array Keyed->Nat->Nat->Nat->StateT SortSt Sem (Option Nat):=sortPriv% PySem.Builtin.gallop
noncomputable def AV (k:Keyed->Int)(left:Bool)(key:Keyed)(x:Int):Bool:=if left=true then decide (x<k key) else !decide (k key<x)
theorem J3n {k:Keyed->Int}{left:Bool}{key:Keyed}{x y:Int}(h:x<=y)(b:AV k left key y=true):AV k left key x=true:=by
 unfold AV at *
 cases left<;>simp at b ⊢<;>omega
section
variable {prog:Program}{w:World}{A:Around}{E:Value->Shared->Prop}{s:Shared}{κ:SortKind}{a₀:Array Keyed}{k:Keyed->Int}
theorem MD {left:Bool}{key:Keyed}{arr:Array Keyed}{i:Nat}{st:SortSt}{Q:Option Bool->SortSt->Prop}(C:Cmp prog w A s κ a₀ k)(hk:kindOf st=κ)(hkey:key∈a₀.toList)(ha:∀ p∈arr.toList,p∈a₀.toList)(hi:i<arr.size)(h:Q (some (AV k left key (kA k arr i))) st) :
 wpS (model prog w) A E s (do
  let x <- elem' arr i
  if left=true then lt' x key else do
   let c <- lt' key x
   pure (Option.map (fun z=>!z) c)) Q st:=by
 refine wpS_bind (Y8 hi ?_)
 have mx:arr[i]∈a₀.toList:=ha _ (by simp)
 rw [Z4 hi] at h
 unfold AV at h
 cases left
 · simp only [Bool.false_eq_true,if_false] at h ⊢
   refine wpS_bind (MS C hk hkey mx ?_)
   exact wpS_pure h
 · simp only [if_true] at h ⊢
   exact MS C hk mx hkey h
theorem CU {left:Bool}{key:Keyed}{arr:Array Keyed}{base n hint:Nat}{st:SortSt}{Q:Option Nat->SortSt->Prop}(C:Cmp prog w A s κ a₀ k)(hk:kindOf st=κ)(hkey:key∈a₀.toList)(ha:∀ p∈arr.toList,p∈a₀.toList)(hn:base+n<=arr.size)(hh:hint<n)(hs:DI k arr base n)
 (h:∀ m,m<=n->(∀ i,i<m->AV k left key (kA k arr (base+i))=true)->(∀ i,m<=i->i<n->AV k left key (kA k arr (base+i))=false)->Q (some m) st):wpS (model prog w) A E s (J0p left key arr base n hint) Q st:=by
 have dn:∀ {i j:Nat},i<=j->j<n->AV k left key (kA k arr (base+j))=true->AV k left key (kA k arr (base+i))=true:=fun {i j} hij hj b=>J3n (hs _ _ (by omega) (by omega) (by omega)) b
 have up:∀ {i j:Nat},i<=j->j<n->AV k left key (kA k arr (base+i))=false->AV k left key (kA k arr (base+j))=false:=fun {i j} hij hj b=>by
  cases q:AV k left key (kA k arr (base+j)) with
  | false=>rfl
  | true=>rw [dn hij hj q] at b;cases b
 unfold J0p
 walk_at "un gallop"
 dsimp only
 refine wpS_bind (MD C hk hkey ha (by omega) ?_)
 cases q0:AV k left key (kA k arr (base+hint))
 case' true =>
  simp only [if_true]
  refine wpS_bind (wpS_mono (wpS_forRange (I:=fun x c st'=>st'=st/\∃ l o,c=(none,l,o)/\l<o/\x+1<=o/\hint+l<n/\AV k left key (kA k arr (base+(hint+l)))=true)
   (Q:=fun c st'=>st'=st/\∃ l o,c=(none,l,o)/\l<o/\hint+l<n/\AV k left key (kA k arr (base+(hint+l)))=true/\(o<n - hint->AV k left key (kA k arr (base+(hint+o)))=false)) ?turn ?stop ⟨rfl,0,1,rfl,by omega,by omega,by omega,q0⟩) ?after)
  case stop =>
   rintro c st' ⟨rfl,l,o,rfl,b1,b2,b3,b4⟩
   exact ⟨rfl,l,o,rfl,b1,b3,b4,fun z=>by omega⟩
  case turn =>
   rintro x c st' _ hx ⟨rfl,l,o,rfl,b1,b2,b3,b4⟩
   dsimp only
   by_cases q:o>=n - hint
   · rw [if_pos q]
     exact wpS_pure ⟨rfl,l,o,rfl,b1,b3,b4,fun z=>by omega⟩
   · rw [if_neg q]
     refine wpS_bind (MD C hk hkey ha (by omega) ?_)
     cases z:AV k left key (kA k arr (base+(hint+o))) with
     | true =>
       simp only [Bool.not_true,Bool.false_eq_true,if_false]
       exact wpS_pure ⟨rfl,o,2*o+1,rfl,by omega,by omega,by omega,z⟩
     | false =>
       simp only [Bool.not_false,if_true]
       exact wpS_pure ⟨rfl,l,o,rfl,b1,b3,b4,fun _=>z⟩
  rintro c st' ⟨rfl,l,o,rfl,b1,b3,b4,b5⟩
  dsimp only
  have hlr:hint+l+1<=hint+min o (n - hint):=by omega
  have hrn:hint+min o (n - hint)<=n:=by omega
  have hlo:∀ i,i<hint+l+1->AV k left key (kA k arr (base+i))=true:=fun i hi=>dn (show i<=hint+l by omega) b3 b4
  have hhi:∀ i,hint+min o (n - hint)<=i->i<n->AV k left key (kA k arr (base+i))=false:=fun i h1 h2=>up (show hint+o<=i by omega) h2 (b5 (by omega))
  clear b1 b3 b4 b5
  generalize hint+l+1=L,hint+min o (n - hint)=R at *
 case' false =>
  simp only [Bool.false_eq_true,if_false]
  refine wpS_bind (wpS_mono (wpS_forRange (I:=fun x c st'=>st'=st/\∃ l o,c=(none,l,o)/\l<o/\x+1<=o/\l<=hint/\AV k left key (kA k arr (base+(hint - l)))=false)
   (Q:=fun c st'=>st'=st/\∃ l o,c=(none,l,o)/\l<o/\l<=hint/\AV k left key (kA k arr (base+(hint - l)))=false/\(o<hint+1->AV k left key (kA k arr (base+(hint - o)))=true)) ?turn ?stop ⟨rfl,0,1,rfl,by omega,by omega,by omega,q0⟩) ?after)
  case stop =>
   rintro c st' ⟨rfl,l,o,rfl,b1,b2,b3,b4⟩
   exact ⟨rfl,l,o,rfl,b1,b3,b4,fun z=>by omega⟩
  case turn =>
   rintro x c st' _ hx ⟨rfl,l,o,rfl,b1,b2,b3,b4⟩
   dsimp only
   by_cases q:o>=hint+1
   · rw [if_pos q]
     exact wpS_pure ⟨rfl,l,o,rfl,b1,b3,b4,fun z=>by omega⟩
   · rw [if_neg q]
     refine wpS_bind (MD C hk hkey ha (by omega) ?_)
     cases z:AV k left key (kA k arr (base+(hint - o))) with
     | true =>
       simp only [if_true]
       exact wpS_pure ⟨rfl,l,o,rfl,b1,b3,b4,fun _=>z⟩
     | false =>
       simp only [Bool.false_eq_true,if_false]
       exact wpS_pure ⟨rfl,o,2*o+1,rfl,by omega,by omega,by omega,z⟩
  rintro c st' ⟨rfl,l,o,rfl,b1,b3,b4,b5⟩
  dsimp only
  have hlr:hint+1 - min o (hint+1)<=hint - l:=by omega
  have hrn:hint - l<=n:=by omega
  have hlo:∀ i,i<hint+1 - min o (hint+1)->AV k left key (kA k arr (base+i))=true:=fun i hi=>dn (show i<=hint - o by omega) (by omega) (b5 (by omega))
  have hhi:∀ i,hint - l<=i->i<n->AV k left key (kA k arr (base+i))=false:=fun i h1 h2=>up (show hint - l<=i by omega) h2 b4
  clear b1 b3 b4 b5
  generalize hint+1 - min o (hint+1)=L,hint - l=R at *
 all_goals
  refine wpS_bind (wpS_mono (wpS_forRange (I:=fun x c st''=>st''=st'/\∃ l r,c=(none,l,r)/\l<=r/\r<=n/\r - l<=n - x/\(∀ i,i<l->AV k left key (kA k arr (base+i))=true)/\(∀ i,r<=i->i<n->AV k left key (kA k arr (base+i))=false))
   (Q:=fun c st''=>st''=st'/\∃ l,c=(none,l,l)/\l<=n/\(∀ i,i<l->AV k left key (kA k arr (base+i))=true)/\(∀ i,l<=i->i<n->AV k left key (kA k arr (base+i))=false)) ?turn ?stop ⟨rfl,L,R,rfl,hlr,hrn,by omega,hlo,hhi⟩) ?after)
  case stop =>
   rintro c st'' ⟨rfl,l,r,rfl,b1,b2,b3,b4,b5⟩
   have:l=r:=by omega
   subst this
   exact ⟨rfl,l,rfl,b2,b4,b5⟩
  case turn =>
   rintro x c st'' _ hx ⟨rfl,l,r,rfl,b1,b2,b3,b4,b5⟩
   dsimp only
   by_cases q:l>=r
   · rw [if_pos q]
     have:l=r:=by omega
     subst this
     exact wpS_pure ⟨rfl,l,rfl,b2,b4,b5⟩
   · rw [if_neg q]
     refine wpS_bind (MD C hk hkey ha (by omega) ?_)
     cases z:AV k left key (kA k arr (base+(l+(r - l) / 2))) with
     | true =>
       simp only [if_true]
       exact wpS_pure ⟨rfl,_,r,rfl,by omega,b2,by omega,fun i hi=>dn (show i<=l+(r - l) / 2 by omega) (by omega) z,b5⟩
     | false =>
       simp only [Bool.false_eq_true,if_false]
       exact wpS_pure ⟨rfl,l,_,rfl,by omega,by omega,by omega,b4,fun i h1 h2=>up h1 h2 z⟩
  case after =>
   rintro c st'' ⟨rfl,l,rfl,b1,b2,b3⟩
   exact wpS_pure (h l b1 b2 b3)
end
local macro_rules | `(tactic| walk_at "un countRun") => do let n := Lean.mkIdent (Lean.mkPrivateNameCore `PySem.Builtin.List.W1All `PySem.Builtin.countRun); `(tactic| unfold $n)
noncomputable def J4d:Nat->Nat->StateT SortSt Sem (Option Nat):=sortPriv% PySem.Builtin.countRun
section
variable {prog:Program}{w:World}{A:Around}{E:Value->Shared->Prop}{s:Shared}{κ:SortKind}{a₀:Array Keyed}{k:Keyed->Int}
theorem GF {st:SortSt}{i j:Nat}{Q:Unit->SortSt->Prop}(h:Q () (setArr st (mirror (arrOf st) i j ((j - i) / 2)))):wpS (model prog w) A E s (reverseSlice' i j) Q st:=by
 rw [reverseSlice'_eq];exact wpS_modify h
theorem UX {xs:Array Keyed}{lo x:Nat}(h:DI k xs lo x)(l:¬ kA k xs (lo+x)<kA k xs (lo+x - 1)):DI k xs lo (x+1):=fun i j h0 hij hj=>by
 by_cases e:j<lo+x
 · exact h i j h0 hij e
 · have ej:j=lo+x:=by omega
   subst ej
   by_cases ei:i=lo+x
   · rw [ei];exact Int.le_refl _
   · exact Int.le_trans (h i (lo+x - 1) h0 (by omega) (by omega)) (Int.not_lt.mp l)
theorem FC {xs:Array Keyed}{lo x:Nat}(h:KJ k xs lo x)(l:kA k xs (lo+x)<=kA k xs (lo+x - 1)):KJ k xs lo (x+1):=fun i j h0 hij hj=>by
 by_cases e:j<lo+x
 · exact h i j h0 hij e
 · have ej:j=lo+x:=by omega
   subst ej
   by_cases ei:i=lo+x
   · rw [ei];exact Int.le_refl _
   · exact Int.le_trans l (h i (lo+x - 1) h0 (by omega) (by omega))
theorem LK {xs ys:Array Keyed}{lo x:Nat}(h:KJ k xs lo x)(e:∀ i,kA k ys i=kA k xs i):KJ k ys lo x:=fun i j h0 hij hj=>by
 rw [e,e];exact h i j h0 hij hj
theorem UP {st:SortSt}{lo nrem:Nat}{Q:Option Nat->SortSt->Prop}(C:Cmp prog w A s κ a₀ k)(hn:lo+nrem<=a₀.size)(h1:1<=nrem)(hB:TB κ a₀ st)
 (h:∀ m st',TB κ a₀ st'->Sam lo (lo+nrem) st st'->1<=m->m<=nrem->DI k (arrOf st') lo m->Q (some m) st'):wpS (model prog w) A E s (J4d lo nrem) Q st:=by
 unfold J4d
 walk_at "un countRun"
 dsimp only
 refine wpS_bind (wpS_mono (wpS_forRange (I:=fun x c st'=>st'=st/\c=(none,x)/\DI k (arrOf st) lo x)
  (Q:=fun c st'=>st'=st/\∃ x,c=(none,x)/\1<=x/\x<=nrem/\DI k (arrOf st) lo x/\(x=nrem\/kA k (arrOf st) (lo+x)<kA k (arrOf st) (lo+x - 1))) ?turn ?stop ⟨rfl,rfl,fun i j h0 hij hj=>?_⟩) ?after)
 case stop =>
  rintro c st' ⟨rfl,rfl,b1⟩
  rw [show max 1 nrem=nrem by omega] at b1 ⊢
  exact ⟨rfl,nrem,rfl,h1,Nat.le_refl _,b1,.inl rfl⟩
 case turn =>
  rintro x c st' hx1 hx ⟨rfl,rfl,b1⟩
  dsimp only
  refine wpS_bind (GX C hB (by omega) (by omega) ?_)
  by_cases q:kA k (arrOf st') (lo+x)<kA k (arrOf st') (lo+x - 1)
  · simp only [q,decide_true,if_true]
    exact wpS_pure ⟨rfl,x,rfl,hx1,by omega,b1,.inr q⟩
  · simp only [q,decide_false,Bool.false_eq_true,if_false]
    exact wpS_pure ⟨rfl,rfl,UX b1 q⟩
 · have:i=j:=by omega
   subst this;exact Int.le_refl _
 rintro c st' ⟨rfl,n,rfl,n1,n2,so,up⟩
 dsimp only
 by_cases q:n=nrem
 · rw [if_pos (by simpa using q)]
   exact wpS_pure (h n st' hB (Sam.refl _ _ _) n1 n2 so)
 rw [if_neg (by simpa using q)]
 have lt:=up.resolve_left q
 have facts:n>1\/¬ n>1:=Nat.lt_or_ge 1 n |>.imp id fun z=>by omega
 rcases facts with g1|g1
 case' inl =>
  rw [if_pos g1]
  refine wpS_bind (GX C hB (by omega) (by omega) ?_)
  by_cases r:kA k (arrOf st') lo<kA k (arrOf st') (lo+n - 1)
  · simp only [r,decide_true,if_true]
    exact wpS_pure (h n st' hB (Sam.refl _ _ _) n1 n2 so)
  simp only [r,decide_false,Bool.false_eq_true,if_false]
  have sz:lo+n<=(arrOf st').size:=by rw [hB.size];omega
  have al:∀ i,lo<=i->i<lo+n->kA k (arrOf st') i=kA k (arrOf st') (lo+n - 1):=fun i i1 i2=>by
   have a1:=so lo i (by omega) i1 i2
   have a2:=so i (lo+n - 1) i1 (by omega) (by omega)
   omega
  refine wpS_bind (GF ?_)
  have tb:=hB.setArr (mirror_perm (arrOf st') lo (lo+n) ((lo+n - lo) / 2))
  have sm:Sam lo (lo+nrem) st' _:=Sam.mirror (st:=st') (i:=lo) (j:=lo+n) sz (Nat.le_refl _) (by omega)
  have fl:KJ k (mirror (arrOf st') lo (lo+n) ((lo+n - lo) / 2)) lo (n+1):=LK (xs:=arrOf st') (FC (fun i j h0 hij hj=>by rw [al i h0 (by omega),al j (by omega) hj];exact Int.le_refl _) (Int.le_of_lt lt)) (DL sz al)
  generalize hst:setArr st' (mirror (arrOf st') lo (lo+n) ((lo+n - lo) / 2))=st2 at tb sm ⊢
  rw [show mirror (arrOf st') lo (lo+n) ((lo+n - lo) / 2)=arrOf st2 by rw [<- hst]] at fl
  clear hst al
 case' inr =>
  rw [if_neg g1]
  have fl:KJ k (arrOf st') lo (n+1):=FC (fun i j h0 hij hj=>by
   have:i=j:=by omega
   subst this;exact Int.le_refl _) (Int.le_of_lt lt)
  obtain ⟨st2,hst⟩:∃ z,z=st':=⟨_,rfl⟩
  have sm:Sam lo (lo+nrem) st' st2:=by rw [hst];exact Sam.refl _ _ _
  have tb:TB κ a₀ st2:=by rw [hst];exact hB
  rw [<- hst] at fl
  rw [<- hst]
  clear hst
 all_goals
  refine wpS_bind (wpS_lift (wpAny_rule ⟨rfl,?_⟩))
  refine wpS_bind (wpS_mono (wpS_forRange (I:=fun x c st'=>∃ u,c=(none,x,u)/\TB κ a₀ st'/\Sam lo (lo+nrem) st2 st'/\KJ k (arrOf st') lo x/\u+1<=x/\∀ i,lo+x - (u+1)<=i->i<lo+x->kA k (arrOf st') i=kA k (arrOf st') (lo+x - 1))
   (Q:=fun c st'=>∃ x u,c=(none,x,u)/\n+1<=x/\x<=nrem/\TB κ a₀ st'/\Sam lo (lo+nrem) st2 st'/\KJ k (arrOf st') lo x/\u+1<=x/\∀ i,lo+x - (u+1)<=i->i<lo+x->kA k (arrOf st') i=kA k (arrOf st') (lo+x - 1)) ?_ ?_ ⟨0,rfl,tb,Sam.refl _ _ _,fl,by omega,fun i i1 i2=>by congr 1;omega⟩) ?_)
  · rintro x c st3 hx1 hx ⟨u,rfl,b1,b2,b3,b4,b5⟩
    dsimp only
    have sz:lo+x<=(arrOf st3).size:=by rw [b1.size];omega
    refine wpS_bind (GX C b1 (by omega) (by omega) ?_)
    by_cases q:kA k (arrOf st3) (lo+x)<kA k (arrOf st3) (lo+x - 1)
    · simp only [q,decide_true,if_true]
      by_cases z:u>0
      · rw [if_pos z]
        refine wpS_bind (GF (wpS_pure ⟨0,rfl,b1.setArr (mirror_perm _ _ _ _),b2.trans (Sam.mirror sz (by omega) (by omega)),LK (xs:=arrOf st3) (FC b3 (Int.le_of_lt q)) (DL sz b5),by omega,fun i i1 i2=>by congr 1;omega⟩))
      · rw [if_neg z]
        exact wpS_pure ⟨0,rfl,b1,b2,FC b3 (Int.le_of_lt q),by omega,fun i i1 i2=>by congr 1;omega⟩
    · simp only [q,decide_false,Bool.false_eq_true,if_false]
      refine wpS_bind (GX C b1 (by omega) (by omega) ?_)
      by_cases z:kA k (arrOf st3) (lo+x - 1)<kA k (arrOf st3) (lo+x)
      · simp only [z,decide_true,if_true]
        exact wpS_pure ⟨x,u,rfl,hx1,by omega,b1,b2,b3,b4,b5⟩
      · simp only [z,decide_false,Bool.false_eq_true,if_false]
        have eq:kA k (arrOf st3) (lo+x)=kA k (arrOf st3) (lo+x - 1):=by omega
        refine wpS_pure ⟨u+1,rfl,b1,b2,FC b3 (Int.le_of_eq eq),by omega,fun i i1 i2=>?_⟩
        rw [show lo+(x+1) - 1=lo+x by omega]
        by_cases ei:i=lo+x
        · rw [ei]
        · rw [eq];exact b5 i (by omega) (by omega)
  · rintro c st3 ⟨u,rfl,b1,b2,b3,b4,b5⟩
    rw [show max (n+1) nrem=nrem by omega] at b3 b4 b5 ⊢
    exact ⟨nrem,u,rfl,by omega,Nat.le_refl _,b1,b2,b3,b4,b5⟩
  rintro c st3 ⟨m,u,rfl,m1,m2,b1,b2,b3,b4,b5⟩
  dsimp only
  have sz:lo+m<=(arrOf st3).size:=by rw [b1.size];omega
  have fin:∀ st4:SortSt,TB κ a₀ st4->Sam lo (lo+nrem) st3 st4->KJ k (arrOf st4) lo m->TB κ a₀ (setArr st4 (mirror (arrOf st4) lo (lo+m) ((lo+m - lo) / 2)))/\Sam lo (lo+nrem) st' (setArr st4 (mirror (arrOf st4) lo (lo+m) ((lo+m - lo) / 2)))/\DI k (mirror (arrOf st4) lo (lo+m) ((lo+m - lo) / 2)) lo m:=fun st4 c1 c2 c3=>by
   have sz4:lo+m<=(arrOf st4).size:=by rw [c1.size];omega
   refine ⟨c1.setArr (mirror_perm _ _ _ _),(sm.trans (b2.trans c2)).trans (Sam.mirror sz4 (Nat.le_refl _) (by omega)),fun i j h0 hij hj=>?_⟩
   rw [LF sz4,LF sz4,if_pos (by omega),if_pos (by omega)]
   exact c3 _ _ (by omega) (by omega) (by omega)
  have z:u>0\/¬ u>0:=Nat.eq_zero_or_pos u |>.symm.imp id fun z=>by omega
  rcases z with z|z
  case' inl =>
   rw [if_pos z]
   refine wpS_bind (GF ?_)
   refine wpS_bind (GF ?_)
   obtain ⟨d1,d2,d3⟩:=fin _ (b1.setArr (mirror_perm (arrOf st3) (lo+m - (u+1)) (lo+m) ((lo+m - (lo+m - (u+1))) / 2))) (Sam.mirror sz (by omega) (by omega)) (LK b3 (DL sz b5))
  case' inr =>
   rw [if_neg z]
   refine wpS_bind (GF ?_)
   obtain ⟨d1,d2,d3⟩:=fin _ b1 (Sam.refl _ _ _) b3
  all_goals
   refine wpS_bind (wpS_mono (wpS_forRange (I:=fun x c sx=>c=(none,x)/\TB κ a₀ sx/\Sam lo (lo+nrem) st' sx/\DI k (arrOf sx) lo x) (Q:=fun c sx=>∃ x,c=(none,x)/\1<=x/\x<=nrem/\TB κ a₀ sx/\Sam lo (lo+nrem) st' sx/\DI k (arrOf sx) lo x) ?_ ?_ ⟨rfl,d1,d2,d3⟩) ?_)
   · rintro x c st5 hx1 hx ⟨rfl,e1,e2,e3⟩
     dsimp only
     refine wpS_bind (GX C e1 (by omega) (by omega) ?_)
     by_cases q:kA k (arrOf st5) (lo+x)<kA k (arrOf st5) (lo+x - 1)
     · simp only [q,decide_true,if_true]
       exact wpS_pure ⟨x,rfl,by omega,by omega,e1,e2,e3⟩
     · simp only [q,decide_false,Bool.false_eq_true,if_false]
       exact wpS_pure ⟨rfl,e1,e2,UX e3 q⟩
   · rintro c st5 ⟨rfl,e1,e2,e3⟩
     rw [show max m nrem=nrem by omega] at e3 ⊢
     exact ⟨nrem,rfl,h1,Nat.le_refl _,e1,e2,e3⟩
   rintro c st5 ⟨x,rfl,x1,x2,e1,e2,e3⟩
   exact wpS_pure (h x _ e1 e2 x1 x2 e3)
end
noncomputable def QL:Array Keyed->Array Keyed->StateT SortSt Sem (Array Keyed):=sortPriv% PySem.Builtin.mergeLo
noncomputable def J8q:Nat->StateT SortSt Sem Unit:=sortPriv% PySem.Builtin.setMinGallop
local macro_rules | `(tactic| walk_at "un mergeLo") => do let n := Lean.mkIdent (Lean.mkPrivateNameCore `PySem.Builtin.List.W1All `PySem.Builtin.mergeLo); `(tactic| unfold $n)
noncomputable def SrtA (k:Keyed->Int)(xs:Array Keyed):Prop:=DI k xs 0 xs.size
theorem SrtA.le {k:Keyed->Int}{xs:Array Keyed}(h:SrtA k xs){i j:Nat}(hij:i<=j)(hj:j<xs.size):kA k xs i<=kA k xs j:=h i j (Nat.zero_le _) hij (by omega)
theorem BV {k:Keyed->Int}{xs:Array Keyed}{p:Keyed}(i:Nat):kA k (xs.push p) i=if i=xs.size then k p else kA k xs i:=by
 unfold kA
 rw [Array.getElem?_push]
 by_cases e:i=xs.size
 · rw [if_pos e,if_pos e]
 · rw [if_neg e,if_neg e]
structure MLo (k:Keyed->Int)(a b out:Array Keyed)(ia ib:Nat):Prop where
 srt:SrtA k out
 la:∀ i j,i<out.size->ia<=j->j<a.size->kA k out i<=kA k a j
 lb:∀ i j,i<out.size->ib<=j->j<b.size->kA k out i<=kA k b j
 pm:(out.toList++a.toList.drop ia++b.toList.drop ib).Perm (a.toList++b.toList)
 sz:out.size=ia+ib
theorem UW {k:Keyed->Int}{xs:Array Keyed}{p:Keyed}(h:SrtA k xs)(l:∀ i,i<xs.size->kA k xs i<=k p):SrtA k (xs.push p):=fun i j _ hij hj=>by
 rw [Array.size_push] at hj
 rw [BV,BV]
 by_cases ei:i=xs.size
 · rw [if_pos ei,if_pos (by omega)];exact Int.le_refl _
 · rw [if_neg ei]
   by_cases ej:j=xs.size
   · rw [if_pos ej];exact l i (by omega)
   · rw [if_neg ej];exact h.le hij (by omega)
section
variable {k:Keyed->Int}{a b out:Array Keyed}{ia ib:Nat}
theorem J0t {xs:Array Keyed}{i:Nat}(h:i<xs.size):xs.toList.drop i=xs[i]::xs.toList.drop (i+1):=by
 rw [List.drop_eq_getElem_cons (by simpa using h)]
 simp
theorem MLo.pushA (h:MLo k a b out ia ib)(sa:SrtA k a)(hi:ia<a.size)(l:∀ j,ib<=j->j<b.size->kA k a ia<=kA k b j):MLo k a b (out.push a[ia]) (ia+1) ib:=by
 refine ⟨UW h.srt fun i hi'=>by rw [<- Z4 (k:=k) hi];exact h.la i ia hi' (Nat.le_refl _) hi,fun i j h1 h2 h3=>?_,fun i j h1 h2 h3=>?_,?_,by rw [Array.size_push,h.sz];omega⟩
 · rw [Array.size_push] at h1
   rw [BV]
   split
   · rw [<- Z4 (k:=k) hi];exact sa.le (by omega) h3
   · exact h.la i j (by omega) (by omega) h3
 · rw [Array.size_push] at h1
   rw [BV]
   split
   · rw [<- Z4 (k:=k) hi];exact l j h2 h3
   · exact h.lb i j (by omega) h2 h3
 · have p:=h.pm
   rw [J0t hi] at p
   refine List.Perm.trans ?_ p
   rw [Array.toList_push,List.append_assoc,List.append_assoc,List.append_assoc]
   exact List.Perm.refl _
theorem MLo.pushB (h:MLo k a b out ia ib)(sb:SrtA k b)(hi:ib<b.size)(l:∀ j,ia<=j->j<a.size->kA k b ib<=kA k a j):MLo k a b (out.push b[ib]) ia (ib+1):=by
 refine ⟨UW h.srt fun i hi'=>by rw [<- Z4 (k:=k) hi];exact h.lb i ib hi' (Nat.le_refl _) hi,fun i j h1 h2 h3=>?_,fun i j h1 h2 h3=>?_,?_,by rw [Array.size_push,h.sz];omega⟩
 · rw [Array.size_push] at h1
   rw [BV]
   split
   · rw [<- Z4 (k:=k) hi];exact l j h2 h3
   · exact h.la i j (by omega) h2 h3
 · rw [Array.size_push] at h1
   rw [BV]
   split
   · rw [<- Z4 (k:=k) hi];exact sb.le (by omega) h3
   · exact h.lb i j (by omega) (by omega) h3
 · have p:=h.pm
   rw [J0t hi] at p
   refine List.Perm.trans ?_ p
   rw [Array.toList_push,List.append_assoc,List.append_assoc,List.append_assoc]
   refine List.Perm.append_left _ ?_
   exact (List.perm_middle (a:=b[ib]) (l₁:=a.toList.drop ia) (l₂:=b.toList.drop (ib+1))).symm
theorem XF {xs ys:Array Keyed}{i m:Nat}(h:i+m<ys.size):xs++ys.extract i (i+(m+1))=(xs++ys.extract i (i+m)).push ys[i+m]:=by
 apply Array.ext'
 simp only [Array.toList_append,Array.toList_extract,Array.toList_push,List.append_assoc]
 congr 1
 rw [List.extract_eq_take_drop,List.extract_eq_take_drop,show i+(m+1) - i=m+1 by omega,show i+m - i=m by omega,List.take_succ]
 congr 1
 rw [List.getElem?_drop,List.getElem?_eq_getElem (by simpa using h)]
 simp
theorem KA {xs ys:Array Keyed}{i:Nat}:xs++ys.extract i (i+0)=xs:=by
 have:ys.extract i (i+0)=#[]:=by
  apply Array.ext'
  simp
 rw [this,Array.append_empty]
theorem MLo.takeA (h:MLo k a b out ia ib)(sa:SrtA k a):∀ m,ia+m<=a.size->(∀ i,i<m->∀ j,ib<=j->j<b.size->kA k a (ia+i)<=kA k b j)->MLo k a b (out++a.extract ia (ia+m)) (ia+m) ib
 | 0,_,_=>by rw [KA];exact h
 | m+1,hm,l=>by
   rw [XF (by omega)]
   exact (MLo.takeA h sa m (by omega) fun i hi=>l i (by omega)).pushA sa (by omega) (l m (by omega))
theorem MLo.takeB (h:MLo k a b out ia ib)(sb:SrtA k b):∀ m,ib+m<=b.size->(∀ i,i<m->∀ j,ia<=j->j<a.size->kA k b (ib+i)<=kA k a j)->MLo k a b (out++b.extract ib (ib+m)) ia (ib+m)
 | 0,_,_=>by rw [KA];exact h
 | m+1,hm,l=>by
   rw [XF (by omega)]
   exact (MLo.takeB h sb m (by omega) fun i hi=>l i (by omega)).pushB sb (by omega) (l m (by omega))
structure MEnd (k:Keyed->Int)(a b out:Array Keyed):Prop where
 srt:SrtA k out
 pm:out.toList.Perm (a.toList++b.toList)
theorem MLo.fin (h:MLo k a b out a.size b.size):MEnd k a b out:=⟨h.srt,by
 have p:=h.pm
 rw [List.drop_eq_nil_of_le (by simp),List.drop_eq_nil_of_le (by simp),List.append_nil,List.append_nil] at p
 exact p⟩
theorem MLo.done (h:MLo k a b out ia ib)(sa:SrtA k a)(ha:ia<=a.size)(hb:ib=b.size):MEnd k a b (out++a.extract ia++b.extract ib):=by
 subst hb
 have t:=h.takeA sa (a.size - ia) (by omega) fun i hi j h1 h2=>by omega
 rw [show ia+(a.size - ia)=a.size by omega] at t
 have e:b.extract b.size=#[]:=by simp
 rw [e,Array.append_empty]
 exact t.fin
theorem MLo.last (h:MLo k a b out ia ib)(sa:SrtA k a)(sb:SrtA k b)(ha:ia+1=a.size)(hb:ib<=b.size)(l:∀ i,i<b.size->kA k b i<=kA k a (a.size - 1)):MEnd k a b (out++b.extract ib++a.extract ia):=by
 have t:=h.takeB sb (b.size - ib) (by omega) fun i hi j h1 h2=>by rw [show j=a.size - 1 by omega];exact l _ (by omega)
 rw [show ib+(b.size - ib)=b.size by omega] at t
 have t2:=t.takeA sa 1 (by omega) fun i hi j h1 h2=>by omega
 rw [ha] at t2
 exact t2.fin
end
structure Sst (st st':SortSt):Prop where
 kind:kindOf st'=kindOf st
 arr:arrOf st'=arrOf st
 pend:pendingOf st'=pendingOf st
 ok:failedOf st'=failedOf st
theorem Sst.refl (st:SortSt):Sst st st:=⟨rfl,rfl,rfl,rfl⟩
section
variable {prog:Program}{w:World}{A:Around}{E:Value->Shared->Prop}{s:Shared}{κ:SortKind}{a₀:Array Keyed}{k:Keyed->Int}
theorem FG {st st0:SortSt}{n:Nat}{Q:Unit->SortSt->Prop}(h0:Sst st0 st)(h:∀ st',Sst st0 st'->Q () st'):wpS (model prog w) A E s (J8q n) Q st:=by
 show wpS _ _ _ _ (modify fun z=>SortSt.mk' (kindOf z) (arrOf z) (pendingOf z) n (failedOf z)) Q st
 exact wpS_modify (h _ ⟨h0.kind,h0.arr,h0.pend,h0.ok⟩)
theorem RM {a b:Array Keyed}{st:SortSt}{Q:Array Keyed->SortSt->Prop}(C:Cmp prog w A s κ a₀ k)(hk:kindOf st=κ)(ma:∀ p∈a.toList,p∈a₀.toList)(mb:∀ p∈b.toList,p∈a₀.toList)(sa:SrtA k a)(sb:SrtA k b)(na:0<a.size)(nb:0<b.size)
 (l0:kA k b 0<=kA k a 0) (ll:∀ i,i<b.size->kA k b i<kA k a (a.size - 1)) (h:∀ out st',Sst st st'->MEnd k a b out->Q out st'):wpS (model prog w) A E s (QL a b) Q st:=by
 unfold QL
 walk_at "un mergeLo"
 dsimp only
 refine wpS_bind (wpS_lift (wpAny_rule ⟨rfl,?_⟩))
 refine wpS_bind (Y8 nb ?_)
 have m0:MLo k a b #[b[0]] 0 1:=by
  have e:MLo k a b #[] 0 0:=⟨fun i j _ _ h=>by simp at h,fun i j h=>by simp at h,fun i j h=>by simp at h,List.Perm.refl _,rfl⟩
  exact e.pushB sb nb fun j h1 h2=>Int.le_trans l0 (sa.le h1 h2)
 by_cases q1:1=b.size
 · rw [if_pos (by simpa using q1)]
   exact wpS_pure (h _ st (Sst.refl _) (m0.done sa (Nat.zero_le _) q1))
 rw [if_neg (by simpa using q1)]
 by_cases q2:0+1=a.size
 · rw [if_pos (by simpa using q2)]
   exact wpS_pure (h _ st (Sst.refl _) (m0.last sa sb q2 (by omega) fun i hi=>Int.le_of_lt (ll i hi)))
 rw [if_neg (by simpa using q2)]
 refine wpS_bind (wpS_get ?_)
 refine wpS_bind (wpS_mono (wpS_forRange (I:=fun x c st'=>∃ out ia ib g,c=(none,out,ia,ib,g)/\Sst st st'/\MLo k a b out ia ib/\ia+1<a.size/\ib<b.size/\x<ia+ib)
  (Q:=fun c st'=>∃ out z,c=(some out,z)/\Sst st st'/\MEnd k a b out) ?_ ?_ ⟨_,0,1,_,rfl,Sst.refl _,m0,by omega,by omega,by omega⟩) ?_)
 · rintro x c st' _ hx ⟨out,ia,ib,g,rfl,t,m,b1,b2,b3⟩
   dsimp only
   have hk':kindOf st'=κ:=t.kind.trans hk
   refine wpS_bind (wpS_mono (wpS_forRange (I:=fun y c sx=>∃ out ia ib u v,c=(none,out,ia,ib,u,v)/\sx=st'/\MLo k a b out ia ib/\ia+1<a.size/\ib<b.size/\x<ia+ib)
    (Q:=fun c sx=>sx=st'/\((∃ out z,c=(some out,z)/\MEnd k a b out)\/∃ out ia ib u v,c=(none,out,ia,ib,u,v)/\MLo k a b out ia ib/\ia+1<a.size/\ib<b.size/\x<ia+ib)) ?_ ?_ ⟨_,ia,ib,_,_,rfl,rfl,m,b1,b2,b3⟩) ?_)
   · rintro y c sx _ hy ⟨out,ia,ib,u,v,rfl,rfl,m,b1,b2,b3⟩
     dsimp only
     have hia:ia<a.size:=by omega
     refine wpS_bind (Y8 b2 (wpS_bind (Y8 hia (wpS_bind (MS C hk' (mb _ (by simp)) (ma _ (by simp)) ?_)))))
     by_cases q:k b[ib]<k a[ia]
     · simp only [q,decide_true,if_true]
       refine wpS_bind (Y8 b2 ?_)
       have m':=m.pushB sb b2 fun j h1 h2=>Int.le_trans (by rw [Z4 b2,Z4 hia];exact Int.le_of_lt q) (sa.le h1 h2)
       by_cases z:ib+1=b.size
       · rw [if_pos (by simpa using z)]
         exact wpS_pure ⟨rfl,.inl ⟨_,_,rfl,m'.done sa (by omega) z⟩⟩
       · rw [if_neg (by simpa using z)]
         split
         · exact wpS_pure ⟨rfl,.inr ⟨_,_,_,_,_,rfl,m',b1,by omega,by omega⟩⟩
         · exact wpS_pure ⟨_,_,_,_,_,rfl,rfl,m',b1,by omega,by omega⟩
     · simp only [q,decide_false,Bool.false_eq_true,if_false]
       refine wpS_bind (Y8 hia ?_)
       have m':=m.pushA sa hia fun j h1 h2=>Int.le_trans (by rw [Z4 b2,Z4 hia];omega:kA k a ia<=kA k b ib) (sb.le h1 h2)
       by_cases z:ia+1+1=a.size
       · rw [if_pos (by simpa using z)]
         exact wpS_pure ⟨rfl,.inl ⟨_,_,rfl,m'.last sa sb z (by omega) fun i hi=>Int.le_of_lt (ll i hi)⟩⟩
       · rw [if_neg (by simpa using z)]
         split
         · exact wpS_pure ⟨rfl,.inr ⟨_,_,_,_,_,rfl,m',by omega,b2,by omega⟩⟩
         · exact wpS_pure ⟨_,_,_,_,_,rfl,rfl,m',by omega,b2,by omega⟩
   · rintro c sx ⟨out,ia,ib,u,v,rfl,rfl,m,b1,b2,b3⟩
     exact ⟨rfl,.inr ⟨_,_,_,_,_,rfl,m,b1,b2,b3⟩⟩
   rintro c sx ⟨rfl,⟨out,z,rfl,e⟩|⟨out,ia,ib,u,v,rfl,m,b1,b2,b3⟩⟩
   · exact wpS_pure ⟨out,_,rfl,t,e⟩
   dsimp only
   refine wpS_bind (wpS_lift (wpAny_rule ⟨rfl,?_⟩))
   refine wpS_bind (wpS_mono (wpS_forRange (I:=fun y c sx=>∃ out ia ib g u v,c=(none,out,ia,ib,g,u,v)/\Sst st sx/\MLo k a b out ia ib/\ia+1<a.size/\ib<b.size/\x+y<ia+ib)
    (Q:=fun c sx=>Sst st sx/\((∃ out z,c=(some out,z)/\MEnd k a b out)\/∃ out ia ib g u v,c=(none,out,ia,ib,g,u,v)/\MLo k a b out ia ib/\ia+1<a.size/\ib<b.size/\x+1<ia+ib)) ?_ ?_ ⟨_,ia,ib,_,_,_,rfl,t,m,b1,b2,by omega⟩) ?_)
   · rintro y c sx _ hy ⟨out,ia,ib,g,u,v,rfl,t,m,b1,b2,b3⟩
     dsimp only
     have hia:ia<a.size:=by omega
     have gz:g>1\/¬ g>1:=Decidable.em _
     rcases gz with gz|gz
     case' inl=>rw [if_pos gz]
     case' inr=>rw [if_neg gz]
     all_goals
      refine wpS_bind (FG t fun sy t=>?_)
      refine wpS_bind (Y8 b2 ?_)
      refine wpS_bind (CU C (t.kind.trans hk) (mb _ (by simp)) ma (by omega) (by omega) (fun i j h0 hij hj=>sa.le hij (by omega)) fun n1 e1 e2 e3=>?_)
      have f2:∀ i,i<n1->kA k a (ia+i)<=kA k b ib:=fun i hi=>by
       have:=e2 i hi
       unfold AV at this
       rw [Z4 b2]
       simpa using this
      have f3:∀ i,n1<=i->i<a.size - ia->kA k b ib<kA k a (ia+i):=fun i h1 h2=>by
       have:=e3 i h1 h2
       unfold AV at this
       rw [Z4 b2]
       simpa using this
      have n1l:n1<a.size - ia:=by
       apply Decidable.byContradiction
       intro z
       have x1:=f2 (a.size - 1 - ia) (by omega)
       rw [show ia+(a.size - 1 - ia)=a.size - 1 by omega] at x1
       have:=ll ib b2
       omega
      have m1:=m.takeA sa n1 (by omega) fun i hi j h1 h2=>Int.le_trans (f2 i hi) (sb.le h1 h2)
      have f4:∀ j,ia+n1<=j->j<a.size->kA k b ib<kA k a j:=fun j h1 h2=>by
       have:=f3 (j - ia) (by omega) (by omega)
       rwa [show ia+(j - ia)=j by omega] at this
      dsimp only
      clear e2 e3 f2 f3
      have nz:n1>0\/¬ n1>0:=Decidable.em _
      rcases nz with nz|nz
      case' inl =>
       rw [if_pos nz]
       by_cases z1:ia+n1+1=a.size
       · rw [if_pos (by simpa using z1)]
         exact wpS_pure ⟨t,.inl ⟨_,_,rfl,m1.last sa sb z1 (by omega) fun i hi=>Int.le_of_lt (ll i hi)⟩⟩
       rw [if_neg (by simpa using z1),if_neg (by simp;omega)]
       have z2:ia+n1+1<a.size:=by omega
       have z3:ia<=ia+n1:=by omega
       generalize out++a.extract ia (ia+n1)=out1 at *
       generalize ia+n1=ja at *
      case' inr =>
       rw [if_neg nz]
       have e0:n1=0:=by omega
       subst e0
       rw [KA] at m1
       rw [Nat.add_zero] at m1 f4
       have z2:ia+1<a.size:=b1
       have z3:ia<=ia:=Nat.le_refl _
       generalize hq:ia=ja at m1 f4 z2
       rw [hq] at z3
       have z3:ia<=ja:=by omega
       generalize out=out1 at m1
       try rw [hq]
      all_goals
       have hja:ja<a.size:=by omega
       refine wpS_bind (Y8 b2 ?_)
       have m2:=m1.pushB sb b2 fun j h1 h2=>Int.le_of_lt (f4 j h1 h2)
       by_cases z4:ib+1=b.size
       · rw [if_pos (by simpa using z4)]
         exact wpS_pure ⟨t,.inl ⟨_,_,rfl,m2.done sa (by omega) z4⟩⟩
       rw [if_neg (by simpa using z4)]
       refine wpS_bind (Y8 hja ?_)
       refine wpS_bind (CU C (t.kind.trans hk) (ma _ (by simp)) mb (by omega) (by omega) (fun i j h0 hij hj=>sb.le hij (by omega)) fun n2 e1 e2 e3=>?_)
       have f2:∀ i,i<n2->kA k b (ib+1+i)<kA k a ja:=fun i hi=>by
        have:=e2 i hi
        unfold AV at this
        rw [Z4 hja]
        simpa using this
       have f3:∀ i,n2<=i->i<b.size - (ib+1)->kA k a ja<=kA k b (ib+1+i):=fun i h1 h2=>by
        have:=e3 i h1 h2
        unfold AV at this
        rw [Z4 hja]
        simpa using this
       have m3:=m2.takeB sb n2 (by omega) fun i hi j h1 h2=>Int.le_trans (Int.le_of_lt (f2 i hi)) (sa.le h1 h2)
       have f5:∀ j,ib+1+n2<=j->j<b.size->kA k a ja<=kA k b j:=fun j h1 h2=>by
        have:=f3 (j - (ib+1)) (by omega) (by omega)
        rwa [show ib+1+(j - (ib+1))=j by omega] at this
       dsimp only
       clear e2 e3 f2 f3
       have nz2:n2>0\/¬ n2>0:=Decidable.em _
       rcases nz2 with nz2|nz2
       case' inl =>
        rw [if_pos nz2]
        by_cases z5:ib+1+n2=b.size
        · rw [if_pos (by simpa using z5)]
          exact wpS_pure ⟨t,.inl ⟨_,_,rfl,m3.done sa (by omega) z5⟩⟩
        rw [if_neg (by simpa using z5)]
        have z6:ib+1+n2<b.size:=by omega
        have z7:x+y<ia+(ib+1+n2):=by omega
       case' inr =>
        rw [if_neg nz2]
        have e0:n2=0:=by omega
        subst e0
        rw [KA] at m3
        have z6:ib+1<b.size:=by omega
        have z7:x+y<ia+(ib+1):=by omega
       all_goals
        refine wpS_bind (Y8 hja ?_)
        have m4:=m3.pushA sa hja f5
        by_cases z8:ja+1+1=a.size
        · rw [if_pos (by simpa using z8)]
          exact wpS_pure ⟨t,.inl ⟨_,_,rfl,m4.last sa sb z8 (by omega) fun i hi=>Int.le_of_lt (ll i hi)⟩⟩
        rw [if_neg (by simpa using z8)]
        split
        · exact wpS_pure ⟨t,.inr ⟨_,_,_,_,_,_,rfl,m4,by omega,by omega,by omega⟩⟩
        · exact wpS_pure ⟨_,_,_,_,_,_,rfl,t,m4,by omega,by omega,by omega⟩
   · rintro c sx ⟨out,ia,ib,g,u,v,rfl,t,m,b1,b2,b3⟩
     exact ⟨t,.inr ⟨_,_,_,_,_,_,rfl,m,b1,b2,by omega⟩⟩
   rintro c sx ⟨t,⟨out,z,rfl,e⟩|⟨out,ia,ib,g,u,v,rfl,m,b1,b2,b3⟩⟩
   · exact wpS_pure ⟨out,_,rfl,t,e⟩
   dsimp only
   refine wpS_bind (FG t fun sy t=>wpS_pure ⟨_,ia,ib,_,rfl,t,m,b1,b2,b3⟩)
 · rintro c st' ⟨out,ia,ib,g,rfl,t,m,b1,b2,b3⟩
   omega
 rintro c st' ⟨out,z,rfl,t,e⟩
 exact wpS_pure (h out st' t e)
end
noncomputable def QK:Array Keyed->Array Keyed->StateT SortSt Sem (Array Keyed):=sortPriv% PySem.Builtin.mergeHi
local macro_rules | `(tactic| walk_at "un mergeHi") => do let n := Lean.mkIdent (Lean.mkPrivateNameCore `PySem.Builtin.List.W1All `PySem.Builtin.mergeHi); `(tactic| unfold $n)
structure MHi (k:Keyed->Int)(a b out:Array Keyed)(na nb:Nat):Prop where
 srt:∀ i j,i<=j->j<out.size->kA k out j<=kA k out i
 la:∀ i j,i<out.size->j<na->kA k a j<=kA k out i
 lb:∀ i j,i<out.size->j<nb->kA k b j<=kA k out i
 pm:(a.toList.take na++b.toList.take nb++out.toList.reverse).Perm (a.toList++b.toList)
 sz:out.size+na+nb=a.size+b.size
section
variable {k:Keyed->Int}{a b out:Array Keyed}{na nb:Nat}
theorem QT {xs:Array Keyed}{p:Keyed}(h:∀ i j,i<=j->j<xs.size->kA k xs j<=kA k xs i)(l:∀ i,i<xs.size->k p<=kA k xs i):∀ i j,i<=j->j<(xs.push p).size->kA k (xs.push p) j<=kA k (xs.push p) i:=fun i j hij hj=>by
 rw [Array.size_push] at hj
 rw [BV,BV]
 by_cases ei:i=xs.size
 · rw [if_pos ei,if_pos (by omega)];exact Int.le_refl _
 · rw [if_neg ei]
   by_cases ej:j=xs.size
   · rw [if_pos ej];exact l i (by omega)
   · rw [if_neg ej];exact h i j hij (by omega)
theorem ZU {xs:Array Keyed}{i:Nat}(h:i<xs.size):xs.toList.take (i+1)=xs.toList.take i++[xs[i]]:=by
 rw [List.take_succ,List.getElem?_eq_getElem (by simpa using h)]
 simp
theorem MHi.pushA (h:MHi k a b out (na+1) nb)(sa:SrtA k a)(hi:na<a.size)(l:∀ j,j<nb->kA k b j<=kA k a na):MHi k a b (out.push a[na]) na nb:=by
 refine ⟨QT h.srt fun i hi'=>by rw [<- Z4 (k:=k) hi];exact h.la i na hi' (by omega),fun i j h1 h2=>?_,fun i j h1 h2=>?_,?_,by rw [Array.size_push];have:=h.sz;omega⟩
 · rw [Array.size_push] at h1
   rw [BV]
   split
   · rw [<- Z4 (k:=k) hi];exact sa.le (by omega) hi
   · exact h.la i j (by omega) (by omega)
 · rw [Array.size_push] at h1
   rw [BV]
   split
   · rw [<- Z4 (k:=k) hi];exact l j h2
   · exact h.lb i j (by omega) h2
 · have p:=h.pm
   rw [ZU hi] at p
   refine List.Perm.trans ?_ p
   rw [Array.toList_push,List.reverse_append,List.append_assoc,List.append_assoc,List.append_assoc]
   refine List.Perm.append_left _ ?_
   exact (List.perm_middle (a:=a[na]) (l₁:=b.toList.take nb) (l₂:=out.toList.reverse))
theorem MHi.pushB (h:MHi k a b out na (nb+1))(sb:SrtA k b)(hi:nb<b.size)(l:∀ j,j<na->kA k a j<=kA k b nb):MHi k a b (out.push b[nb]) na nb:=by
 refine ⟨QT h.srt fun i hi'=>by rw [<- Z4 (k:=k) hi];exact h.lb i nb hi' (by omega),fun i j h1 h2=>?_,fun i j h1 h2=>?_,?_,by rw [Array.size_push];have:=h.sz;omega⟩
 · rw [Array.size_push] at h1
   rw [BV]
   split
   · rw [<- Z4 (k:=k) hi];exact l j h2
   · exact h.la i j (by omega) h2
 · rw [Array.size_push] at h1
   rw [BV]
   split
   · rw [<- Z4 (k:=k) hi];exact sb.le (by omega) hi
   · exact h.lb i j (by omega) (by omega)
 · have p:=h.pm
   rw [ZU hi] at p
   refine List.Perm.trans ?_ p
   rw [Array.toList_push,List.reverse_append,List.append_assoc,List.append_assoc,List.append_assoc]
   exact List.Perm.refl _
theorem VO {xs ys:Array Keyed}{i j:Nat}(h:i<j)(hj:j<=ys.size):xs++(ys.extract i j).reverse=(xs++(ys.extract (i+1) j).reverse).push ys[i]:=by
 apply Array.ext'
 simp only [Array.toList_append,Array.toList_reverse,Array.toList_extract,Array.toList_push,List.append_assoc]
 congr 1
 rw [List.extract_eq_take_drop,List.extract_eq_take_drop,List.drop_eq_getElem_cons (by simp;omega),show j - i=(j - (i+1))+1 by omega,List.take_succ_cons,List.reverse_cons]
 simp
theorem IQ {xs ys:Array Keyed}{i:Nat}:xs++(ys.extract i i).reverse=xs:=by
 have:ys.extract i i=#[]:=by
  apply Array.ext'
  simp
 rw [this]
 simp
theorem MHi.takeA (h:MHi k a b out na nb)(sa:SrtA k a)(ha:na<=a.size):∀ m t,t+m=na->(∀ i,t<=i->i<na->∀ j,j<nb->kA k b j<=kA k a i)->MHi k a b (out++(a.extract t na).reverse) t nb
 | 0,t,e,_=>by rw [show t=na by omega,IQ];exact h
 | m+1,t,e,l=>by
   rw [VO (by omega) ha]
   exact (MHi.takeA h sa ha m (t+1) (by omega) fun i h1 h2=>l i (by omega) h2).pushA sa (by omega) (l t (Nat.le_refl _) (by omega))
theorem MHi.takeB (h:MHi k a b out na nb)(sb:SrtA k b)(hb:nb<=b.size):∀ m t,t+m=nb->(∀ i,t<=i->i<nb->∀ j,j<na->kA k a j<=kA k b i)->MHi k a b (out++(b.extract t nb).reverse) na t
 | 0,t,e,_=>by rw [show t=nb by omega,IQ];exact h
 | m+1,t,e,l=>by
   rw [VO (by omega) hb]
   exact (MHi.takeB h sb hb m (t+1) (by omega) fun i h1 h2=>l i (by omega) h2).pushB sb (by omega) (l t (Nat.le_refl _) (by omega))
theorem J5l {xs:Array Keyed}{i:Nat}(h:i<xs.size):kA k xs.reverse i=kA k xs (xs.size - 1 - i):=by
 apply AY
 rw [Array.getElem?_reverse h]
theorem MHi.fin (h:MHi k a b out 0 0):MEnd k a b out.reverse:=⟨fun i j _ hij hj=>by
 rw [Array.size_reverse] at hj
 rw [J5l (by omega),J5l (by omega)]
 exact h.srt _ _ (by omega) (by omega),by
 have p:=h.pm
 rw [List.take_zero,List.take_zero,List.nil_append,List.nil_append] at p
 rw [Array.toList_reverse]
 exact p⟩
theorem Q7n {xs:Array Keyed}:xs.extract 0 0=#[]:=by
 apply Array.ext'
 simp
theorem MH {xs ys:Array Keyed}{n:Nat}:(xs++(ys.extract 0 n).reverse).reverse=ys.extract 0 n++xs.reverse:=by
 rw [Array.reverse_append,Array.reverse_reverse]
theorem MHi.done (h:MHi k a b out na nb)(sa:SrtA k a)(sb:SrtA k b)(ha:na<=a.size)(hb:nb<=b.size)(z:na=0\/nb=0):MEnd k a b (a.extract 0 na++b.extract 0 nb++out.reverse):=by
 rcases z with rfl|rfl
 · have t:=(h.takeB sb hb nb 0 (by omega) fun i _ _ j hj=>by omega).fin
   rw [MH] at t
   rw [Q7n,Array.empty_append]
   exact t
 · have t:=(h.takeA sa ha na 0 (by omega) fun i _ _ j hj=>by omega).fin
   rw [MH] at t
   rw [Q7n,Array.append_empty]
   exact t
theorem MHi.last (h:MHi k a b out na nb)(sa:SrtA k a)(sb:SrtA k b)(ha:na<=a.size)(z:nb=1)(hb:0<b.size)(l:∀ i,i<a.size->kA k b 0<=kA k a i):MEnd k a b (b.extract 0 nb++a.extract 0 na++out.reverse):=by
 subst z
 have t:=((h.takeA sa ha na 0 (by omega) fun i _ h2 j hj=>by rw [show j=0 by omega];exact l i (by omega)).takeB sb (by omega) 1 0 (by omega) fun i _ _ j hj=>by omega).fin
 rw [MH,MH,<- Array.append_assoc] at t
 exact t
end
section
variable {prog:Program}{w:World}{A:Around}{E:Value->Shared->Prop}{s:Shared}{κ:SortKind}{a₀:Array Keyed}{k:Keyed->Int}
theorem RL {a b:Array Keyed}{st:SortSt}{Q:Array Keyed->SortSt->Prop}(C:Cmp prog w A s κ a₀ k)(hk:kindOf st=κ)(ma:∀ p∈a.toList,p∈a₀.toList)(mb:∀ p∈b.toList,p∈a₀.toList)(sa:SrtA k a)(sb:SrtA k b)(pa:0<a.size)(pb:0<b.size)
 (l0:kA k b 0<=kA k a 0) (ll:∀ i,i<b.size->kA k b i<=kA k a (a.size - 1)) (h:∀ out st',Sst st st'->MEnd k a b out->Q out st'):wpS (model prog w) A E s (QK a b) Q st:=by
 have first:∀ i,i<a.size->kA k b 0<=kA k a i:=fun i hi=>Int.le_trans l0 (sa.le (Nat.zero_le _) hi)
 unfold QK
 walk_at "un mergeHi"
 dsimp only
 refine wpS_bind (wpS_lift (wpAny_rule ⟨rfl,?_⟩))
 have hl:a.size - 1<a.size:=by omega
 refine wpS_bind (Y8 hl ?_)
 have m0:MHi k a b #[a[a.size - 1]] (a.size - 1) b.size:=by
  have e:MHi k a b #[] (a.size - 1+1) b.size:=⟨fun i j _ h=>by simp at h,fun i j h=>by simp at h,fun i j h=>by simp at h,by
   rw [show a.size - 1+1=a.size by omega,List.take_of_length_le (by simp),List.take_of_length_le (by simp)]
   simp,by simp;omega⟩
  exact e.pushA sa hl fun j hj=>ll j hj
 by_cases q1:a.size - 1=0
 · rw [if_pos (by simpa using q1)]
   exact wpS_pure (h _ st (Sst.refl _) (m0.done sa sb (by omega) (Nat.le_refl _) (.inl q1)))
 rw [if_neg (by simpa using q1)]
 by_cases q2:b.size=1
 · rw [if_pos (by simpa using q2)]
   exact wpS_pure (h _ st (Sst.refl _) (m0.last sa sb (by omega) q2 pb first))
 rw [if_neg (by simpa using q2)]
 refine wpS_bind (wpS_get ?_)
 refine wpS_bind (wpS_mono (wpS_forRange (I:=fun x c st'=>∃ na nb out g,c=(none,na,nb,out,g)/\Sst st st'/\MHi k a b out na nb/\0<na/\na<a.size/\1<nb/\nb<=b.size/\x+na+nb<a.size+b.size)
  (Q:=fun c st'=>∃ out z,c=(some out,z)/\Sst st st'/\MEnd k a b out) ?_ ?_ ⟨a.size - 1,b.size,_,_,rfl,Sst.refl _,m0,by omega,hl,by omega,Nat.le_refl _,by omega⟩) ?_)
 · rintro x c st' _ hx ⟨na,nb,out,g,rfl,t,m,b1,b2,b3,b4,b5⟩
   dsimp only
   have hk':kindOf st'=κ:=t.kind.trans hk
   refine wpS_bind (wpS_mono (wpS_forRange (I:=fun y c sx=>∃ na nb out u v,c=(none,na,nb,out,u,v)/\sx=st'/\MHi k a b out na nb/\0<na/\na<a.size/\1<nb/\nb<=b.size/\x+na+nb<a.size+b.size)
    (Q:=fun c sx=>sx=st'/\((∃ out z,c=(some out,z)/\MEnd k a b out)\/∃ na nb out u v,c=(none,na,nb,out,u,v)/\MHi k a b out na nb/\0<na/\na<a.size/\1<nb/\nb<=b.size/\x+na+nb<a.size+b.size)) ?_ ?_ ⟨na,nb,_,_,_,rfl,rfl,m,b1,b2,b3,b4,b5⟩) ?_)
   · rintro y c sx _ hy ⟨na,nb,out,u,v,rfl,rfl,m,b1,b2,b3,b4,b5⟩
     dsimp only
     have hia:na - 1<a.size:=by omega
     have hib:nb - 1<b.size:=by omega
     refine wpS_bind (Y8 hib (wpS_bind (Y8 hia (wpS_bind (MS C hk' (mb _ (by simp)) (ma _ (by simp)) ?_)))))
     by_cases q:k b[nb - 1]<k a[na - 1]
     · simp only [q,decide_true,if_true]
       refine wpS_bind (Y8 hia ?_)
       have m':=MHi.pushA (na:=na - 1) (by rw [show na - 1+1=na by omega];exact m) sa hia fun j hj=>Int.le_trans (sb.le (show j<=nb - 1 by omega) hib) (by rw [Z4 hib,Z4 hia];exact Int.le_of_lt q)
       by_cases z:na - 1=0
       · rw [if_pos (by simpa using z)]
         exact wpS_pure ⟨rfl,.inl ⟨_,_,rfl,m'.done sa sb (by omega) b4 (.inl z)⟩⟩
       · rw [if_neg (by simpa using z)]
         split
         · exact wpS_pure ⟨rfl,.inr ⟨_,_,_,_,_,rfl,m',by omega,by omega,b3,b4,by omega⟩⟩
         · exact wpS_pure ⟨_,_,_,_,_,rfl,rfl,m',by omega,by omega,b3,b4,by omega⟩
     · simp only [q,decide_false,Bool.false_eq_true,if_false]
       refine wpS_bind (Y8 hib ?_)
       have m':=MHi.pushB (nb:=nb - 1) (by rw [show nb - 1+1=nb by omega];exact m) sb hib fun j hj=>Int.le_trans (sa.le (show j<=na - 1 by omega) hia) (by rw [Z4 hib,Z4 hia];omega)
       by_cases z:nb - 1=1
       · rw [if_pos (by simpa using z)]
         exact wpS_pure ⟨rfl,.inl ⟨_,_,rfl,m'.last sa sb (by omega) z pb first⟩⟩
       · rw [if_neg (by simpa using z)]
         split
         · exact wpS_pure ⟨rfl,.inr ⟨_,_,_,_,_,rfl,m',b1,b2,by omega,by omega,by omega⟩⟩
         · exact wpS_pure ⟨_,_,_,_,_,rfl,rfl,m',b1,b2,by omega,by omega,by omega⟩
   · rintro c sx ⟨na,nb,out,u,v,rfl,rfl,m,b1,b2,b3,b4,b5⟩
     exact ⟨rfl,.inr ⟨_,_,_,_,_,rfl,m,b1,b2,b3,b4,b5⟩⟩
   rintro c sx ⟨rfl,⟨out,z,rfl,e⟩|⟨na,nb,out,u,v,rfl,m,b1,b2,b3,b4,b5⟩⟩
   · exact wpS_pure ⟨out,_,rfl,t,e⟩
   dsimp only
   refine wpS_bind (wpS_lift (wpAny_rule ⟨rfl,?_⟩))
   refine wpS_bind (wpS_mono (wpS_forRange (I:=fun y c sx=>∃ na nb out g u v,c=(none,na,nb,out,g,u,v)/\Sst st sx/\MHi k a b out na nb/\0<na/\na<a.size/\1<nb/\nb<=b.size/\x+y+na+nb<a.size+b.size)
    (Q:=fun c sx=>Sst st sx/\((∃ out z,c=(some out,z)/\MEnd k a b out)\/∃ na nb out g u v,c=(none,na,nb,out,g,u,v)/\MHi k a b out na nb/\0<na/\na<a.size/\1<nb/\nb<=b.size/\x+1+na+nb<a.size+b.size)) ?_ ?_ ⟨na,nb,_,_,_,_,rfl,t,m,b1,b2,b3,b4,by omega⟩) ?_)
   · rintro y c sx _ hy ⟨na,nb,out,g,u,v,rfl,t,m,b1,b2,b3,b4,b5⟩
     dsimp only
     have hib:nb - 1<b.size:=by omega
     have gz:g>1\/¬ g>1:=Decidable.em _
     rcases gz with gz|gz
     case' inl=>rw [if_pos gz]
     case' inr=>rw [if_neg gz]
     all_goals
      refine wpS_bind (FG t fun sy t=>?_)
      refine wpS_bind (Y8 hib ?_)
      refine wpS_bind (CU C (t.kind.trans hk) (mb _ (by simp)) ma (by omega) (by omega) (fun i j h0 hij hj=>sa.le hij (by omega)) fun n1 e1 e2 e3=>?_)
      have f2:∀ i,i<n1->kA k a i<=kA k b (nb - 1):=fun i hi=>by
       have:=e2 i hi
       unfold AV at this
       rw [Z4 hib]
       simpa using this
      have f3:∀ i,n1<=i->i<na->kA k b (nb - 1)<kA k a i:=fun i h1 h2=>by
       have:=e3 i h1 h2
       unfold AV at this
       rw [Z4 hib]
       simpa using this
      have m1:=m.takeA sa (by omega) (na - n1) n1 (by omega) fun i h1 h2 j hj=>Int.le_trans (sb.le (show j<=nb - 1 by omega) hib) (Int.le_of_lt (f3 i h1 h2))
      dsimp only
      clear e2 e3 f3
      have nz:na - n1>0\/¬ na - n1>0:=Decidable.em _
      rcases nz with nz|nz
      case' inl =>
       rw [if_pos nz]
       by_cases z1:n1=0
       · rw [if_pos (by simpa using z1)]
         exact wpS_pure ⟨t,.inl ⟨_,_,rfl,m1.done sa sb (by omega) b4 (.inl z1)⟩⟩
       rw [if_neg (by simpa using z1)]
       have z2:0<n1/\n1<a.size/\n1<=na:=by omega
       generalize out++(a.extract n1 na).reverse=out1 at *
      case' inr =>
       rw [if_neg nz]
       have e0:n1=na:=by omega
       subst e0
       rw [IQ] at m1
       have z2:0<n1/\n1<a.size/\n1<=n1:=by omega
       generalize out=out1 at *
      all_goals
       have hja:n1 - 1<a.size:=by omega
       refine wpS_bind (Y8 hib ?_)
       have m2:=MHi.pushB (nb:=nb - 1) (by rw [show nb - 1+1=nb by omega];exact m1) sb hib fun j hj=>f2 j hj
       by_cases z4:nb - 1=1
       · rw [if_pos (by simpa using z4)]
         exact wpS_pure ⟨t,.inl ⟨_,_,rfl,m2.last sa sb (by omega) z4 pb first⟩⟩
       rw [if_neg (by simpa using z4)]
       refine wpS_bind (Y8 hja ?_)
       refine wpS_bind (CU C (t.kind.trans hk) (ma _ (by simp)) mb (by omega) (by omega) (fun i j h0 hij hj=>sb.le hij (by omega)) fun n2 e1 e2 e3=>?_)
       have f2:∀ i,i<n2->kA k b i<kA k a (n1 - 1):=fun i hi=>by
        have:=e2 i hi
        unfold AV at this
        rw [Z4 hja]
        simpa using this
       have f3:∀ i,n2<=i->i<nb - 1->kA k a (n1 - 1)<=kA k b i:=fun i h1 h2=>by
        have:=e3 i h1 h2
        unfold AV at this
        rw [Z4 hja]
        simpa using this
       have m3:=m2.takeB sb (by omega) (nb - 1 - n2) n2 (by omega) fun i h1 h2 j hj=>Int.le_trans (sa.le (show j<=n1 - 1 by omega) hja) (f3 i h1 h2)
       dsimp only
       clear e2 e3 f3
       have nz2:nb - 1 - n2>0\/¬ nb - 1 - n2>0:=Decidable.em _
       rcases nz2 with nz2|nz2
       case' inl =>
        rw [if_pos nz2]
        by_cases z5:n2=1
        · rw [if_pos (by simpa using z5)]
          exact wpS_pure ⟨t,.inl ⟨_,_,rfl,m3.last sa sb (by omega) z5 pb first⟩⟩
        rw [if_neg (by simpa using z5)]
        by_cases z6:n2=0
        · rw [if_pos (by simpa using z6)]
          exact wpS_pure ⟨t,.inl ⟨_,_,rfl,m3.done sa sb (by omega) (by omega) (.inr z6)⟩⟩
        rw [if_neg (by simpa using z6)]
        have z7:1<n2/\n2<=nb - 1:=by omega
       case' inr =>
        rw [if_neg nz2]
        have e0:n2=nb - 1:=by omega
        subst e0
        rw [IQ] at m3
        have z7:1<nb - 1/\nb - 1<=nb - 1:=by omega
       all_goals
        refine wpS_bind (Y8 hja ?_)
        have m4:=MHi.pushA (na:=n1 - 1) (by rw [show n1 - 1+1=n1 by omega];exact m3) sa hja fun j hj=>Int.le_of_lt (f2 j hj)
        by_cases z8:n1 - 1=0
        · rw [if_pos (by simpa using z8)]
          exact wpS_pure ⟨t,.inl ⟨_,_,rfl,m4.done sa sb (by omega) (by omega) (.inl z8)⟩⟩
        rw [if_neg (by simpa using z8)]
        split
        · exact wpS_pure ⟨t,.inr ⟨_,_,_,_,_,_,rfl,m4,by omega,by omega,by omega,by omega,by omega⟩⟩
        · exact wpS_pure ⟨_,_,_,_,_,_,rfl,t,m4,by omega,by omega,by omega,by omega,by omega⟩
   · rintro c sx ⟨na,nb,out,g,u,v,rfl,t,m,b1,b2,b3,b4,b5⟩
     exact ⟨t,.inr ⟨_,_,_,_,_,_,rfl,m,b1,b2,b3,b4,by omega⟩⟩
   rintro c sx ⟨t,⟨out,z,rfl,e⟩|⟨na,nb,out,g,u,v,rfl,m,b1,b2,b3,b4,b5⟩⟩
   · exact wpS_pure ⟨out,_,rfl,t,e⟩
   dsimp only
   refine wpS_bind (FG t fun sy t=>wpS_pure ⟨na,nb,_,_,rfl,t,m,b1,b2,b3,b4,b5⟩)
 · rintro c st' ⟨na,nb,out,g,rfl,t,m,b1,b2,b3,b4,b5⟩
   omega
 rintro c st' ⟨out,z,rfl,t,e⟩
 exact wpS_pure (h out st' t e)
end
local macro_rules | `(tactic| walk_at "un mergeAt") => do let n := Lean.mkIdent (Lean.mkPrivateNameCore `PySem.Builtin.List.W1All `PySem.Builtin.mergeAt); `(tactic| unfold $n)
section
variable {k:Keyed->Int}
theorem FU {xs:Array Keyed}{l r i:Nat}(h:i<r - l)(hr:r<=xs.size):kA k (xs.extract l r) i=kA k xs (l+i):=by
 apply AY
 rw [Array.getElem?_extract,if_pos (by omega)]
theorem NI (sa:Nat):∀ (l:List Keyed) (n:Nat) (xs:Array Keyed),sa+n+l.length<=xs.size->∀ i:Nat,
 ((l.zipIdx n).foldl (fun a x=>match x with|(p,j)=>a.setIfInBounds (sa+j) p) xs)[i]?=if sa+n<=i/\i<sa+n+l.length then l[i - (sa+n)]? else xs[i]?
 | [],n,xs,_,i=>by
   rw [if_neg (fun z=>by have:([]:List Keyed).length=0:=rfl;omega)]
   rfl
 | p::l,n,xs,h,i=>by
   rw [List.zipIdx_cons,List.foldl_cons]
   have ih:=NI sa l (n+1) (xs.setIfInBounds (sa+n) p) (by rw [Array.size_setIfInBounds];simp at h;omega) i
   rw [ih]
   have hl:(p::l).length=l.length+1:=rfl
   rw [hl] at h ⊢
   by_cases c1:sa+(n+1)<=i/\i<sa+(n+1)+l.length
   · rw [if_pos c1,if_pos (by omega),show i - (sa+n)=i - (sa+(n+1))+1 by omega,List.getElem?_cons_succ]
   · rw [if_neg c1]
     by_cases c2:i=sa+n
     · subst c2
       rw [if_pos (by omega),Nat.sub_self,List.getElem?_cons_zero,Array.getElem?_setIfInBounds,if_pos rfl,if_pos (by omega)]
     · rw [if_neg (by omega),Array.getElem?_setIfInBounds,if_neg (by omega)]
theorem VR {sa:Nat}{l:List Keyed}{xs ys:Array Keyed}(h:sa+l.length<=xs.size)(e:∀ i,ys[i]?=if sa<=i/\i<sa+l.length then l[i - sa]? else xs[i]?):ys.toList=xs.toList.take sa++l++xs.toList.drop (sa+l.length):=by
 apply List.ext_getElem?
 intro i
 rw [Array.getElem?_toList,e i,List.append_assoc]
 have ts:(xs.toList.take sa).length=sa:=by rw [List.length_take,Array.length_toList];omega
 by_cases c1:i<sa
 · rw [if_neg (by omega),List.getElem?_append_left (by omega),List.getElem?_take,if_pos c1,Array.getElem?_toList]
 · rw [List.getElem?_append_right (by omega),ts]
   by_cases c2:i<sa+l.length
   · rw [if_pos (by omega),List.getElem?_append_left (by omega)]
   · rw [if_neg (by omega),List.getElem?_append_right (by omega),List.getElem?_drop,show sa+l.length+(i - sa - l.length)=i by omega,Array.getElem?_toList]
theorem MEnd.size {x y out:Array Keyed}(h:MEnd k x y out):out.size=x.size+y.size:=by
 have:=h.pm.length_eq
 simpa using this
theorem MEnd.all {x y out:Array Keyed}(h:MEnd k x y out){P:Int->Prop}(hx:∀ i,i<x.size->P (kA k x i))(hy:∀ i,i<y.size->P (kA k y i)):∀ i,i<out.size->P (kA k out i):=fun i hi=>by
 have m:out[i]∈x.toList++y.toList:=h.pm.mem_iff.mp (by simp)
 rw [Z4 hi]
 rcases List.mem_append.mp m with m|m
 · obtain ⟨j,hj,e⟩:=List.mem_iff_getElem.mp m
   have hj':j<x.size:=by simpa using hj
   have:=hx j hj'
   rw [Z4 hj'] at this
   rw [<- e];simpa using this
 · obtain ⟨j,hj,e⟩:=List.mem_iff_getElem.mp m
   have hj':j<y.size:=by simpa using hj
   have:=hy j hj'
   rw [Z4 hj'] at this
   rw [<- e];simpa using this
theorem J2n {xs ys x y out:Array Keyed}{sa n1 nb:Nat}(ex:x=xs.extract sa n1)(ey:y=xs.extract n1 (n1+nb))(h1:sa<=n1)(h2:n1+nb<=xs.size)(m:MEnd k x y out)(s1:DI k xs 0 n1)(s2:DI k xs n1 (xs.size - n1))
 (lo:∀ i j,i<sa->n1<=j->j<xs.size->kA k xs i<=kA k xs j) (hi:∀ i j,i<n1->n1+nb<=j->j<xs.size->kA k xs i<=kA k xs j)
 (e:∀ i:Nat,ys[i]?=if sa<=i/\i<sa+out.toList.length then out.toList[i - sa]? else xs[i]?):ys.Perm xs/\SrtA k ys:=by
 have zx:x.size=n1 - sa:=by rw [ex,Array.size_extract];omega
 have zy:y.size=nb:=by rw [ey,Array.size_extract];omega
 have zo:out.size=(n1 - sa)+nb:=by rw [m.size,zx,zy]
 have zl:out.toList.length=out.size:=by simp
 have tl:=VR (by omega) e
 have zz:ys.size=xs.size:=by
  have:=congrArg List.length tl
  simp at this
  omega
 refine ⟨?_,fun i j _ hij hj=>?_⟩
 · rw [Array.perm_iff_toList_perm,tl]
   have e1:xs.toList=xs.toList.take sa++(x.toList++y.toList)++xs.toList.drop (sa+out.toList.length):=by
    apply List.ext_getElem?
    intro i
    rw [List.append_assoc,ex,ey,Array.toList_extract,Array.toList_extract,List.extract_eq_take_drop,List.extract_eq_take_drop]
    have ts:(xs.toList.take sa).length=sa:=by rw [List.length_take,Array.length_toList];omega
    have t1:((xs.toList.drop sa).take (n1 - sa)).length=n1 - sa:=by rw [List.length_take,List.length_drop,Array.length_toList];omega
    have t2:((xs.toList.drop n1).take (n1+nb - n1)).length=nb:=by rw [List.length_take,List.length_drop,Array.length_toList];omega
    by_cases c1:i<sa
    · rw [List.getElem?_append_left (by omega),List.getElem?_take,if_pos c1]
    · rw [List.getElem?_append_right (by omega),ts]
      by_cases c2:i<n1
      · rw [List.append_assoc,List.getElem?_append_left (by omega),List.getElem?_take,if_pos (by omega),List.getElem?_drop,show sa+(i - sa)=i by omega]
      · rw [List.append_assoc,List.getElem?_append_right (by omega),t1]
        by_cases c3:i<n1+nb
        · rw [List.getElem?_append_left (by omega),List.getElem?_take,if_pos (by omega),List.getElem?_drop,show n1+(i - sa - (n1 - sa))=i by omega]
        · rw [List.getElem?_append_right (by omega),t2,List.getElem?_drop,show sa+out.toList.length+(i - sa - (n1 - sa) - nb)=i by omega]
   rw [List.append_assoc]
   conv=>rhs;rw [e1,List.append_assoc]
   exact List.Perm.append_left _ (List.Perm.append_right _ m.pm)
 · have at_:∀ q,q<xs.size->kA k ys q=if sa<=q/\q<n1+nb then kA k out (q - sa) else kA k xs q:=fun q hq=>by
    by_cases c:sa<=q/\q<n1+nb
    · rw [if_pos c]
      refine AY ?_
      rw [e q,if_pos (by omega),Array.getElem?_toList]
    · rw [if_neg c]
      refine AY ?_
      rw [e q,if_neg (by omega)]
   have xa:∀ q,q<x.size->kA k x q=kA k xs (sa+q):=fun q hq=>by rw [ex];exact FU (by omega) (by omega)
   have ya:∀ q,q<y.size->kA k y q=kA k xs (n1+q):=fun q hq=>by rw [ey];exact FU (by omega) (by omega)
   rw [at_ i (by omega),at_ j (by omega)]
   by_cases c1:sa<=i/\i<n1+nb
   · rw [if_pos c1]
     by_cases c2:sa<=j/\j<n1+nb
     · rw [if_pos c2];exact m.srt.le (by omega) (by omega)
     · rw [if_neg c2]
       exact m.all (P:=fun v=>v<=kA k xs j) (fun q hq=>by rw [xa q hq];exact hi _ _ (by omega) (by omega) (by omega)) (fun q hq=>by rw [ya q hq];exact s2 _ _ (by omega) (by omega) (by omega)) _ (by omega)
   · rw [if_neg c1]
     by_cases c2:sa<=j/\j<n1+nb
     · rw [if_pos c2]
       exact m.all (P:=fun v=>kA k xs i<=v) (fun q hq=>by rw [xa q hq];exact s1 _ _ (by omega) (by omega) (by omega)) (fun q hq=>by rw [ya q hq];exact lo _ _ (by omega) (by omega) (by omega)) _ (by omega)
     · rw [if_neg c2]
       by_cases c3:j<n1
       · exact s1 _ _ (by omega) hij (by omega)
       · by_cases c4:i<n1
         · exact lo _ _ (by omega) (by omega) (by omega)
         · exact s2 _ _ (by omega) hij (by omega)
end
section
variable {prog:Program}{w:World}{A:Around}{E:Value->Shared->Prop}{s:Shared}{κ:SortKind}{a₀:Array Keyed}{k:Keyed->Int}
theorem J8e {M:Model}{σ:Type}{st st':σ}{Q:PUnit->σ->Prop}(h:Q ⟨⟩ st'):wpS M A E s (set st':StateT σ Sem PUnit) Q st:=by
 unfold wpS;rw [StateT.run_set];exact wpAny_pure ⟨rfl,h⟩
theorem XS {st:SortSt}{n1 n2 p q:Nat}{Q:Bool->SortSt->Prop}(C:Cmp prog w A s κ a₀ k)(hB:TB κ a₀ st)(hp:pendingOf st=#[(0,n1,p),(n1,n2,q)])(hz:n1+n2=a₀.size)(h1:0<n1)(h2:0<n2)(s1:DI k (arrOf st) 0 n1)(s2:DI k (arrOf st) n1 n2)
 (h:∀ st',TB κ a₀ st'->SrtA k (arrOf st')->(pendingOf st').size<=1->Q true st'):wpS (model prog w) A E s (mergeAt' 0) Q st:=by
 have zz:(arrOf st).size=n1+n2:=by rw [hB.size,hz]
 have whole:(∀ i j,i<n1->n1<=j->j<n1+n2->kA k (arrOf st) i<=kA k (arrOf st) j)->SrtA k (arrOf st):=fun l i j _ hij hj=>by
  by_cases c1:j<n1
  · exact s1 i j (Nat.zero_le _) hij (by omega)
  · by_cases c2:i<n1
    · exact l i j c2 (by omega) (by omega)
    · exact s2 i j (by omega) hij (by omega)
 have mem:∀ p∈(arrOf st).toList,p∈a₀.toList:=fun p hp=>hB.mem hp
 unfold mergeAt'
 walk_at "un mergeAt"
 dsimp only
 refine wpS_bind (wpS_get ?_)
 have e0:(pendingOf st)[0]?=some (0,n1,p):=by rw [hp];rfl
 have e1:(pendingOf st)[0+1]?=some (n1,n2,q):=by rw [hp];rfl
 rw [e0,e1]
 dsimp only
 have hps:(((pendingOf st).setIfInBounds 0 (0,n1+n2,p)).eraseIdxIfInBounds (0+1)).size<=1:=by
  rw [hp]
  simp [Array.eraseIdxIfInBounds]
 obtain ⟨sn,hsn⟩:∃ sn,sn=SortSt.mk' (kindOf st) (arrOf st) (((pendingOf st).setIfInBounds 0 (0,n1+n2,p)).eraseIdxIfInBounds (0+1)) (gallopOf st) (failedOf st):=⟨_,rfl⟩
 have tb:TB κ a₀ sn:=by rw [hsn];exact ⟨hB.perm,hB.kind,hB.ok⟩
 have ea:arrOf sn=arrOf st:=by rw [hsn]
 have ep:(pendingOf sn).size<=1:=by rw [hsn];exact hps
 refine wpS_bind (J8e (st':=SortSt.mk' (kindOf st) (arrOf st) (((pendingOf st).setIfInBounds 0 (0,n1+n2,p)).eraseIdxIfInBounds (0+1)) (gallopOf st) (failedOf st)) ?_)
 rw [<- hsn]
 clear hsn hps
 have i1:n1<(arrOf st).size:=by omega
 have i2:n1 - 1<(arrOf st).size:=by omega
 refine wpS_bind (Y8 i1 ?_)
 refine wpS_bind (CU (arr:=arrOf st) C tb.kind (mem _ (by simp)) mem (by omega) h1 s1 fun k0 g1 g2 g3=>?_)
 have f2:∀ i,i<k0->kA k (arrOf st) i<=kA k (arrOf st) n1:=fun i hi=>by
  have:=g2 i hi
  unfold AV at this
  rw [Z4 i1]
  simpa using this
 have f3:∀ i,k0<=i->i<n1->kA k (arrOf st) n1<kA k (arrOf st) i:=fun i h1 h2=>by
  have:=g3 i h1 h2
  unfold AV at this
  rw [Z4 i1]
  simpa using this
 clear g2 g3
 dsimp only
 by_cases z1:n1 - k0=0
 · rw [if_pos (by simpa using z1)]
   refine wpS_pure (h sn tb (by rw [ea];exact whole fun i j hi hj hj'=>Int.le_trans (f2 i (by omega)) (s2 n1 j (Nat.le_refl _) hj (by omega))) ep)
 rw [if_neg (by simpa using z1)]
 rw [show 0+k0+(n1 - k0) - 1=n1 - 1 by omega]
 refine wpS_bind (Y8 i2 ?_)
 refine wpS_bind (CU (arr:=arrOf st) C tb.kind (mem _ (by simp)) mem (by omega) (by omega) s2 fun nb g4 g2 g3=>?_)
 have f4:∀ i,i<nb->kA k (arrOf st) (n1+i)<kA k (arrOf st) (n1 - 1):=fun i hi=>by
  have:=g2 i hi
  unfold AV at this
  rw [Z4 i2]
  simpa using this
 have f5:∀ i,nb<=i->i<n2->kA k (arrOf st) (n1 - 1)<=kA k (arrOf st) (n1+i):=fun i h1 h2=>by
  have:=g3 i h1 h2
  unfold AV at this
  rw [Z4 i2]
  simpa using this
 clear g2 g3
 dsimp only
 have hiw:∀ i j,i<n1->n1+nb<=j->j<n1+n2->kA k (arrOf st) i<=kA k (arrOf st) j:=fun i j a1 a2 a3=>by
  have:=f5 (j - n1) (by omega) (by omega)
  rw [show n1+(j - n1)=j by omega] at this
  exact Int.le_trans (s1 i (n1 - 1) (Nat.zero_le _) (by omega) (by omega)) this
 by_cases z2:nb=0
 · rw [if_pos (by simpa using z2)]
   exact wpS_pure (h sn tb (by rw [ea];exact whole fun i j hi hj hj'=>hiw i j hi (by omega) hj') ep)
 rw [if_neg (by simpa using z2)]
 have zx:((arrOf st).extract k0 n1).size=n1 - k0:=by rw [Array.size_extract];omega
 have zy:((arrOf st).extract n1 (n1+nb)).size=nb:=by rw [Array.size_extract];omega
 have xa:∀ q,q<n1 - k0->kA k ((arrOf st).extract k0 n1) q=kA k (arrOf st) (k0+q):=fun q hq=>FU hq (by omega)
 have ya:∀ q,q<nb->kA k ((arrOf st).extract n1 (n1+nb)) q=kA k (arrOf st) (n1+q):=fun q hq=>FU (by omega) (by omega)
 have sx:SrtA k ((arrOf st).extract k0 n1):=fun i j _ hij hj=>by
  rw [xa i (by omega),xa j (by omega)];exact s1 _ _ (by omega) (by omega) (by omega)
 have sy:SrtA k ((arrOf st).extract n1 (n1+nb)):=fun i j _ hij hj=>by
  rw [ya i (by omega),ya j (by omega)];exact s2 _ _ (by omega) (by omega) (by omega)
 have mx:∀ p∈((arrOf st).extract k0 n1).toList,p∈a₀.toList:=fun p hp=>by
  rw [Array.toList_extract,List.extract_eq_take_drop] at hp
  exact mem p (List.mem_of_mem_drop (List.mem_of_mem_take hp))
 have my:∀ p∈((arrOf st).extract n1 (n1+nb)).toList,p∈a₀.toList:=fun p hp=>by
  rw [Array.toList_extract,List.extract_eq_take_drop] at hp
  exact mem p (List.mem_of_mem_drop (List.mem_of_mem_take hp))
 have l0:kA k ((arrOf st).extract n1 (n1+nb)) 0<=kA k ((arrOf st).extract k0 n1) 0:=by
  rw [ya 0 (by omega),xa 0 (by omega)]
  exact Int.le_of_lt (f3 _ (by omega) (by omega))
 have ll:∀ i,i<((arrOf st).extract n1 (n1+nb)).size->kA k ((arrOf st).extract n1 (n1+nb)) i<kA k ((arrOf st).extract k0 n1) (((arrOf st).extract k0 n1).size - 1):=fun i hi=>by
  rw [zx,xa _ (by omega),ya i (by omega),show k0+(n1 - k0 - 1)=n1 - 1 by omega]
  exact f4 i (by omega)
 have fin:∀ (out:Array Keyed) (st':SortSt),Sst sn st'->MEnd k ((arrOf st).extract k0 n1) ((arrOf st).extract n1 (n1+nb)) out->∀ ys:Array Keyed,ys=out.toList.zipIdx.foldl (fun a x=>match x with|(p,j)=>a.setIfInBounds (0+k0+j) p) (arrOf st')->TB κ a₀ (setArr st' ys)/\SrtA k ys/\(pendingOf st').size<=1/\failedOf st'=none:=fun out st' t m ys ey=>by
  have ea':arrOf st'=arrOf st:=t.arr.trans ea
  have zo:out.size=(n1 - k0)+nb:=by rw [m.size,zx,zy]
  have gt:=NI (0+k0) out.toList 0 (arrOf st') (by rw [ea',Array.length_toList];omega)
  rw [<- ey] at gt
  obtain ⟨pr,so⟩:=J2n (xs:=arrOf st) (ys:=ys) rfl rfl (by omega) (by omega) m s1 (by rw [zz,show n1+n2 - n1=n2 by omega];exact s2) (fun i j a1 a2 a3=>Int.le_trans (f2 i a1) (s2 n1 j (Nat.le_refl _) a2 (by omega))) (fun i j a1 a2 a3=>hiw i j a1 a2 (by omega)) (fun i=>by
   have:=gt i
   rw [ea',Nat.add_zero,Nat.zero_add] at this
   exact this)
  exact ⟨⟨pr.trans hB.perm,t.kind.trans tb.kind,t.ok.trans tb.ok⟩,so,by rw [t.pend];exact ep,t.ok.trans tb.ok⟩
 rw [show 0+k0=k0 by omega] at *
 have nz:n1 - k0<=nb\/¬ n1 - k0<=nb:=Decidable.em _
 rcases nz with nz|nz
 case' inl =>
  rw [if_pos nz]
  refine wpS_bind (RM (a:=(arrOf st).extract k0 n1) (b:=(arrOf st).extract n1 (n1+nb)) C tb.kind mx my sx sy (by omega) (by omega) l0 ll fun out st' t m=>?_)
 case' inr =>
  rw [if_neg nz]
  refine wpS_bind (RL (a:=(arrOf st).extract k0 n1) (b:=(arrOf st).extract n1 (n1+nb)) C tb.kind mx my sx sy (by omega) (by omega) l0 (fun i hi=>Int.le_of_lt (ll i hi)) fun out st' t m=>?_)
 all_goals
  obtain ⟨c1,c2,c3,c4⟩:=fin out st' t m _ rfl
  refine wpS_bind (wpS_modify (wpS_bind (wpS_get ?_)))
  refine wpS_pure ?_
  have:(failedOf st').isNone=true:=by rw [c4];rfl
  show Q (failedOf st').isNone _
  rw [this]
  exact h _ c1 c2 c3
end
theorem J2m {n:Nat}(h2:2<=n)(h:n<128):minRun' n n 0<=n/\n<=2*minRun' n n 0:=by
 obtain ⟨f,rfl⟩:∃ f,n=f+2:=⟨n - 2,by omega⟩
 by_cases c:f+2<64
 · have e:minRun' (f+2) (f+2) 0=f+2+0:=by rw [minRun'_succ,if_pos c]
   rw [e];omega
 · have e:minRun' (f+2) (f+2) 0=(f+2) / 2+max 0 ((f+2) % 2):=by rw [minRun'_succ,if_neg c,minRun'_succ,if_pos (by omega)]
   rw [e];omega
section
variable {prog:Program}{w:World}{A:Around}{E:Value->Shared->Prop}{s:Shared}{κ:SortKind}{a₀:Array Keyed}{k:Keyed->Int}
theorem J1y {st:SortSt}{Q:Unit->SortSt->Prop}(C:Cmp prog w A s κ a₀ k)(hB:TB κ a₀ st)(hp:pendingOf st=#[])(h2:2<=a₀.size)(h128:a₀.size<128)
 (h:∀ st',TB κ a₀ st'->SrtA k (arrOf st')->Q () st'):wpS (model prog w) A E s sortRuns' Q st:=by
 obtain ⟨r1,r2⟩:=J2m h2 h128
 rw [sortRuns'_eq]
 refine wpS_bind (wpS_get ?_)
 dsimp only
 rw [hB.size]
 generalize minRun' a₀.size a₀.size 0=mr at r1 r2 ⊢
 refine wpS_bind (wpS_mono (wpS_forRange
  (I:=fun x c sx=>TB κ a₀ sx/\((x=0/\c=(none,0)/\pendingOf sx=#[])\/(1<=x/\∃ n p,c=(none,n)/\pendingOf sx=#[(0,n,p)]/\DI k (arrOf sx) 0 n/\1<=n/\n<=a₀.size/\a₀.size<=n+mr/\(x=1\/n=a₀.size))\/(2<=x/\∃ n p q,c=(none,a₀.size)/\pendingOf sx=#[(0,n,p),(n,a₀.size - n,q)]/\DI k (arrOf sx) 0 n/\DI k (arrOf sx) n (a₀.size - n)/\1<=n/\n<a₀.size)))
  (Q:=fun c sx=>TB κ a₀ sx/\((c=(none,a₀.size)/\∃ p,pendingOf sx=#[(0,a₀.size,p)]/\SrtA k (arrOf sx))\/(c=(none,a₀.size)/\∃ n p q,pendingOf sx=#[(0,n,p),(n,a₀.size - n,q)]/\DI k (arrOf sx) 0 n/\DI k (arrOf sx) n (a₀.size - n)/\1<=n/\n<a₀.size))) ?_ ?_ ⟨hB,.inl ⟨rfl,rfl,hp⟩⟩) ?_)
 · rintro x c sx _ hx ⟨tb,⟨rfl,rfl,pe⟩|⟨x1,n,p,rfl,pe,so,n1,n2,n3,n4⟩|⟨x2,n,p,q,rfl,pe,so,so2,n1,n2⟩⟩
   · dsimp only
     rw [if_neg (by omega)]
     simp only [Nat.sub_zero,Nat.zero_add]
     refine wpS_bind (UP C (by omega) (by omega) tb fun m sy tb1 sm m1 m2 so=>?_)
     dsimp only
     have pe1:pendingOf sy=#[]:=sm.pend.trans pe
     by_cases c1:m<mr
     · rw [if_pos c1]
       refine wpS_bind (wpS_lift (wpAny_rule ⟨rfl,?_⟩))
       have em:min a₀.size mr=mr:=by omega
       refine wpS_bind (UQ C (by omega) (by omega) tb1 so fun sz tb2 sm2 so2=>?_)
       simp only [Bool.not_true,Bool.false_eq_true,if_false]
       refine wpS_bind (wpS_get ?_)
       have pe2:pendingOf sz=#[]:=sm2.pend.trans pe1
       have hb:(pendingOf sz).back?=none:=by rw [pe2];rfl
       rw [hb]
       dsimp only
       exact wpS_bind (wpS_modify (wpS_pure ⟨⟨tb2.perm,tb2.kind,tb2.ok⟩,.inr (.inl ⟨Nat.le_refl _,min a₀.size mr,0,rfl,by show (pendingOf sz).push _=_;rw [pe2];rfl,so2,by omega,by omega,by omega,.inl (by first|trivial|rfl)⟩)⟩))
     · rw [if_neg c1]
       refine wpS_bind (wpS_get ?_)
       have hb:(pendingOf sy).back?=none:=by rw [pe1];rfl
       rw [hb]
       dsimp only
       exact wpS_bind (wpS_modify (wpS_pure ⟨⟨tb1.perm,tb1.kind,tb1.ok⟩,.inr (.inl ⟨Nat.le_refl _,m,0,rfl,by show (pendingOf sy).push _=_;rw [pe1];rfl,so,m1,m2,by omega,.inl (by first|trivial|rfl)⟩)⟩))
   · dsimp only
     by_cases c0:n>=a₀.size
     · rw [if_pos c0]
       have e:n=a₀.size:=by omega
       subst e
       exact wpS_pure ⟨tb,.inl ⟨rfl,p,pe,fun i j h0 hij hj=>so i j h0 hij (by rw [tb.size] at hj;exact hj)⟩⟩
     rw [if_neg c0]
     refine wpS_bind (UP C (by omega) (by omega) tb fun m sy tb1 sm m1 m2 so2=>?_)
     dsimp only
     have pe1:pendingOf sy=#[(0,n,p)]:=sm.pend.trans pe
     have so1:DI k (arrOf sy) 0 n:=fun i j h0 hij hj=>by
      have e1:kA k (arrOf sy) i=kA k (arrOf sx) i:=AY (sm.out i (.inl (by omega)))
      have e2:kA k (arrOf sy) j=kA k (arrOf sx) j:=AY (sm.out j (.inl (by omega)))
      rw [e1,e2];exact so i j h0 hij hj
     have cc:m<mr\/¬ m<mr:=Decidable.em _
     rcases cc with cc|cc
     case' inl =>
      rw [if_pos cc]
      refine wpS_bind (wpS_lift (wpAny_rule ⟨rfl,?_⟩))
      refine wpS_bind (UQ C (by omega) (by omega) tb1 so2 fun sz tb2 sm2 so3=>?_)
      simp only [Bool.not_true,Bool.false_eq_true,if_false]
      have pe2:pendingOf sz=#[(0,n,p)]:=sm2.pend.trans pe1
      have so4:DI k (arrOf sz) 0 n:=fun i j h0 hij hj=>by
       have e1:kA k (arrOf sz) i=kA k (arrOf sy) i:=AY (sm2.out i (.inl (by omega)))
       have e2:kA k (arrOf sz) j=kA k (arrOf sy) j:=AY (sm2.out j (.inl (by omega)))
       rw [e1,e2];exact so1 i j h0 hij hj
      have em:min (a₀.size - n) mr=a₀.size - n:=by omega
      rw [em] at so3
      have e3:n+min (a₀.size - n) mr=a₀.size:=by omega
      have e4:min (a₀.size - n) mr=a₀.size - n:=em
     case' inr =>
      rw [if_neg cc]
      obtain ⟨sz,hsz⟩:∃ z,z=sy:=⟨_,rfl⟩
      rw [<- hsz]
      rw [<- hsz] at tb1 pe1 so1 so2
      have tb2:=tb1
      have pe2:=pe1
      have so4:=so1
      have e4:m=a₀.size - n:=by omega
      have e3:n+m=a₀.size:=by omega
      have so3:DI k (arrOf sz) n (a₀.size - n):=by rw [<- e4];exact so2
     all_goals
      refine wpS_bind (wpS_get ?_)
      have hb:(pendingOf sz).back?=some (0,n,p):=by rw [pe2];rfl
      rw [hb]
      dsimp only
      refine wpS_bind (wpS_mono (wpS_forRange (I:=fun _ c su=>c=(none,())/\su=sz) (Q:=fun c su=>c=(none,())/\su=sz) ?_ (fun _ _ z=>z) ⟨rfl,rfl⟩) ?_)
      · rintro y c su _ _ ⟨rfl,rfl⟩
        refine wpS_bind (wpS_get ?_)
        rw [pe2,if_neg (show ¬ (#[(0,n,p)]:Array (Nat×Nat×Nat)).size>1 from Nat.not_lt.mpr (Nat.le_refl 1))]
        exact wpS_pure ⟨rfl,rfl⟩
      rintro c su ⟨rfl,rfl⟩
      dsimp only
      refine wpS_bind (wpS_modify (wpS_bind (wpS_modify (wpS_pure ?_))))
      refine ⟨⟨tb2.perm,tb2.kind,tb2.ok⟩,.inr (.inr ⟨by omega,n,?_,0,by rw [e3],?_,so4,so3,n1,by omega⟩)⟩
      rotate_left
      show ((pendingOf su).modify ((pendingOf su).size - 1) _).push _=_
      rw [pe2,e4]
      rfl
   · dsimp only
     rw [if_pos (Nat.le_refl _)]
     exact wpS_pure ⟨tb,.inr ⟨rfl,n,p,q,pe,so,so2,n1,n2⟩⟩
 · rintro c sx ⟨tb,⟨h0,_⟩|⟨x1,n,p,rfl,pe,so,n1,n2,n3,n4⟩|⟨x2,n,p,q,rfl,pe,so,so2,n1,n2⟩⟩
   · omega
   · have e:n=a₀.size:=by omega
     subst e
     exact ⟨tb,.inl ⟨rfl,p,pe,fun i j h0 hij hj=>so i j h0 hij (by rw [tb.size] at hj;exact hj)⟩⟩
   · exact ⟨tb,.inr ⟨rfl,n,p,q,pe,so,so2,n1,n2⟩⟩
 rintro c sx ⟨tb,⟨rfl,p,pe,so⟩|⟨rfl,n,p,q,pe,so,so2,n1,n2⟩⟩
 · dsimp only
   refine wpS_bind (wpS_mono (wpS_forRange (I:=fun _ c sy=>sy=sx/\c=(none,())) (Q:=fun c sy=>sy=sx/\c=(none,())) ?_ (fun _ _ z=>z) ⟨rfl,rfl⟩) ?_)
   · rintro y c sy _ _ ⟨rfl,rfl⟩
     refine wpS_bind (wpS_get ?_)
     rw [if_pos (by rw [pe];exact Nat.le_refl 1)]
     exact wpS_pure ⟨rfl,rfl⟩
   · rintro c sy ⟨rfl,rfl⟩
     exact wpS_pure (h _ tb so)
 · dsimp only
   refine wpS_bind (wpS_mono (wpS_forRange (I:=fun x c sy=>c=(none,())/\((x=0/\sy=sx)\/(1<=x/\TB κ a₀ sy/\SrtA k (arrOf sy)/\(pendingOf sy).size<=1))) (Q:=fun c sy=>c=(none,())/\TB κ a₀ sy/\SrtA k (arrOf sy)) ?_ ?_ ⟨rfl,.inl ⟨rfl,rfl⟩⟩) ?_)
   · rintro y c sy _ _ ⟨rfl,⟨rfl,rfl⟩|⟨y1,tb1,so1,pz⟩⟩
     · refine wpS_bind (wpS_get ?_)
       rw [if_neg (by rw [pe];exact Nat.not_le.mpr (Nat.lt_succ_self 1))]
       have z0:(pendingOf sy).size - 2=0:=by rw [pe];rfl
       rw [z0]
       simp only [Nat.lt_irrefl,gt_iff_lt,if_false,Option.any_none,Bool.false_eq_true]
       refine wpS_bind (XS C tb pe (by omega) (by omega) (by omega) so so2 fun su tb1 so1 pz=>?_)
       simp only [Bool.not_true,Bool.false_eq_true,if_false]
       exact wpS_pure ⟨rfl,.inr ⟨Nat.le_refl _,tb1,so1,pz⟩⟩
     · refine wpS_bind (wpS_get ?_)
       rw [if_pos pz]
       exact wpS_pure ⟨rfl,tb1,so1⟩
   · rintro c sy ⟨rfl,⟨h0,_⟩|⟨_,tb1,so1,_⟩⟩
     · omega
     · exact ⟨rfl,tb1,so1⟩
   · rintro c sy ⟨rfl,tb1,so1⟩
     exact wpS_pure (h _ tb1 so1)
end
noncomputable def CD (p:Int):List Int->Int
 | []=>p
 | a::ns=>CD (p*18446744073709551616+a) ns
noncomputable def IY:List Int->List Int->Bool
 | a::ns,c::ms=>decide (a<c)||(decide (a=c)&&IY ns ms)
 | _,_=>false
noncomputable def BP (z:Int):Prop:=-1000000000000000000<z/\z<1000000000000000000
theorem J0s:∀ (ns ms:List Int) (p q:Int),ns.length=ms.length->(∀ z∈ns,BP z)->(∀ z∈ms,BP z)->(CD p ns<CD q ms↔p<q\/(p=q/\IY ns ms=true))
 | [],[],p,q,_,_,_=>by
   show p<q↔_
   simp [IY]
 | a::ns,c::ms,p,q,hl,hn,hm=>by
   have h1:=hn a (List.mem_cons_self ..)
   have h2:=hm c (List.mem_cons_self ..)
   have ih:=J0s ns ms (p*18446744073709551616+a) (q*18446744073709551616+c) (by simpa using hl) (fun z hz=>hn z (List.mem_cons_of_mem _ hz)) fun z hz=>hm z (List.mem_cons_of_mem _ hz)
   show CD (p*18446744073709551616+a) ns<CD (q*18446744073709551616+c) ms↔_
   rw [ih]
   clear ih hn hm hl
   unfold BP at h1 h2
   show _↔p<q\/(p=q/\(decide (a<c)||(decide (a=c)&&IY ns ms))=true)
   simp only [Bool.or_eq_true,Bool.and_eq_true,decide_eq_true_eq]
   cases IY ns ms
   · simp only [Bool.false_eq_true,and_false,or_false]
     rcases Int.lt_trichotomy p q with z|z|z<;>omega
   · simp only [and_true]
     rcases Int.lt_trichotomy p q with z|z|z<;>rcases Int.lt_trichotomy a c with y|y|y<;>omega
theorem WO:∀ (ns ms:List Int) (p q:Int),ns.length=ms.length->(∀ z∈ns,BP z)->(∀ z∈ms,BP z)->CD p ns=CD q ms->p=q/\ns=ms
 | [],[],p,q,_,_,_,h=>⟨h,rfl⟩
 | a::ns,c::ms,p,q,hl,hn,hm,h=>by
   have h1:=hn a (List.mem_cons_self ..)
   have h2:=hm c (List.mem_cons_self ..)
   obtain ⟨e1,e2⟩:=WO ns ms (p*18446744073709551616+a) (q*18446744073709551616+c) (by simpa using hl) (fun z hz=>hn z (List.mem_cons_of_mem _ hz)) (fun z hz=>hm z (List.mem_cons_of_mem _ hz)) h
   unfold BP at h1 h2
   have e3:p=q/\a=c:=by rcases Int.lt_trichotomy p q with z|z|z<;>omega
   exact ⟨e3.1,by rw [e3.2,e2]⟩
structure TupZ (h:Heap)(v:Value)(ns:List Int):Prop where
 ex:∃ a o xs n,v=.ref a/\h.get? a=some o/\o.cls=.type "tuple"/\o.data=.seq xs n/\IntsAre xs.toList ns
section
variable {prog:Program}{w:World}{A:Around}{E:Value->Shared->Prop}{s:Shared}
theorem J2j {b:Bool}{x y:Int}{t u:Tok}{Q:Bool->Shared->Prop}(h:Q (decide (x<y)) s):wpAny (model prog w) A (oneLt' b (.int x t) (.int y u)) Q E s:=by
 cases b
 · refine PySem.W.kat_one _ _ ?_
   exact CmpOf.ints_lt (prog:=prog) (w:=w) (A:=A) (P:=fun i v=>∃ t,v=.int (if i=0 then x else y) t) (fun i=>if i=0 then x else y) (fun i v h=>h) 0 1 _ _ _ _ _ ⟨t,rfl⟩ ⟨u,rfl⟩ h
 · exact oneLt_int h
theorem LS {b:Bool}{Q:Bool->Shared->Prop}:∀ {xs ys:List Value} {ns ms:List Int} (i:Nat),IntsAre xs ns->IntsAre ys ms->ns.length=ms.length->Q (IY ns ms) s->PySem.W.KatLex prog w A b false Q (xs.zip ys) i s
 | _,_,_,_,i,.nil,.nil,_,h=>PySem.W.kat_nil h
 | _,_,_,_,i,.cons a t hx,.cons c u hy,hl,h=>by
   rw [List.zip_cons_cons]
   refine PySem.W.kat_cons (wpAny_eqBool_int ?_)
   unfold IY at h
   by_cases e:a=c
   · subst e
     rw [show (a==a)=true by simp]
     refine PySem.W.kat_yes (LS (i+1) hx hy (by simpa using hl) ?_)
     simpa using h
   · rw [show (a==c)=false by simpa using e]
     refine PySem.W.kat_no (J2j ?_)
     have:decide (a=c)=false:=by simpa using e
     rw [this] at h
     simpa using h
theorem WK {vs:List Value}{ns:List Int}(h:IntsAre vs ns):vs.length=ns.length:=by
 induction h with
 | nil=>rfl
 | cons n t _ ih=>simp [ih]
theorem J9q {b:Bool}{x y:Value}{ns ms:List Int}{Q:Bool->Shared->Prop}(hx:TupZ s.heap x ns)(hy:TupZ s.heap y ms)(hl:ns.length=ms.length)(h:Q (IY ns ms) s):wpAny (model prog w) A (keyLt' (tuples' b) x y) Q E s:=by
 obtain ⟨a,o,xs,n,rfl,g1,c1,d1,i1⟩:=hx
 obtain ⟨a',o',ys,n',rfl,g2,c2,d2,i2⟩:=hy
 refine PySem.W.kat_lt g1 d1 g2 d2 ?_
 have e:decide (xs.size<ys.size)=false:=by
  have z1:=WK i1
  have z2:=WK i2
  simp at z1 z2
  simp;omega
 rw [e]
 exact LS 0 i1 i2 hl h
theorem J2p {vs:List Value}{rows:Value->List Int}{Q:SortKind->Shared->Prop}(ht:∀ v∈vs,TupZ s.heap v (rows v))(hp:∀ v∈vs,rows v≠[])(hne:0<vs.length)(h:Q (tuples' true) s):wpAny (model prog w) A (keyKind' vs.toArray) Q E s:=by
 have mk:∀ vs:List Value,(∀ v∈vs,TupZ s.heap v (rows v))->(∀ v∈vs,rows v≠[])->∃ fs,PySem.W.KatTups s.heap vs fs/\fs.length=vs.length/\∀ v∈fs,∃ n t,v=Value.int n t:=by
  intro vs
  induction vs with
  | nil=>exact fun _ _=>⟨[],PySem.W.KatTups.nil,rfl,by simp⟩
  | cons v vs ih =>
    intro ht hp
    obtain ⟨fs,k1,k2,k3⟩:=ih (fun v hv=>ht v (List.mem_cons_of_mem _ hv)) fun v hv=>hp v (List.mem_cons_of_mem _ hv)
    obtain ⟨a,o,xs,n,e,g1,c1,d1,i1⟩:=(ht v (List.mem_cons_self ..)).ex
    have hr:=hp v (List.mem_cons_self ..)
    generalize rows v=r at hr i1
    generalize hx:xs.toList=l at i1
    cases i1 with
    | nil=>exact absurd rfl hr
    | cons m t i2 =>
      refine ⟨.int m t::fs,?_,by simp [k2],fun v hv=>?_⟩
      · rw [e]
        exact PySem.W.KatTups.cons g1 c1 d1 (by rw [<- Array.getElem?_toList,hx];rfl) k1
      · rcases List.mem_cons.mp hv with rfl|hv
        · exact ⟨m,t,rfl⟩
        · exact k3 v hv
 obtain ⟨fs,k1,k2,k3⟩:=mk vs ht hp
 refine PySem.W.kat_kind (T:=.type "int") k1 (by omega) (fun v hv=>?_) (by decide) ?_
 · obtain ⟨n,t,rfl⟩:=k3 v hv
   exact PySem.W.Looks.of_pure rfl
 · exact h
theorem NT {a:Addr}{vs:List Value}{n m:Nat}{rows:Value->List Int}{P:Fin->Shared->Prop}(gl:s.heap.get? a=some (seqObj "list" vs.toArray n))
 (ht:∀ v∈vs,TupZ s.heap v (rows v)) (hm:∀ v∈vs,(rows v).length=m/\∀ z∈rows v,BP z) (m0:0<m) (h128:vs.length<128)
 (h:∀ out:Array Value,out.toList.Perm vs->out.toList.Pairwise (fun x y=>CD 0 (rows x)<=CD 0 (rows y))->P (.done (.ret .none)) { s with heap:=sortedHeap s.heap a vs out }) :
 wpAny (model prog w) A (Builtin.«list.sort» ⟨[.ref a],[]⟩) P E s:=by
 rw [list_sort_plain]
 have al:a<s.heap.objs.size:=Heap.lt_size gl
 refine wpAny_bind (listItems_at gl rfl ?_)
 refine wpAny_bind (listUpdate_at gl rfl ?_)
 obtain ⟨ep1,gl1⟩:∃ ep1,(s.heap.update a (Obj.mapSeq fun _=>#[])).get? a=some (seqObj "list" #[] ep1):=⟨_,get?_update_seq gl (fun _=>#[])⟩
 refine wpAny_bind (seqEpoch_at gl1 rfl ?_)
 refine wpAny_bind (wpAny_newTuple ?_)
 refine wpAny_bind (wpAny_newList ?_)
 refine wpAny_holding ?_
 have keep:∀ b o,b≠a->s.heap.get? b=some o->(((s.heap.update a (Obj.mapSeq fun _=>#[])).push (seqObj "tuple" vs.toArray 0)).push (seqObj "list" #[] 0)).get? b=some o:=fun b o hb g=>by
  refine Heap.get?_push_of_some _ (Heap.get?_push_of_some _ ?_)
  rw [Heap.get?_update_ne _ _ _ _ hb]
  exact g
 have gl6:(((s.heap.update a (Obj.mapSeq fun _=>#[])).push (seqObj "tuple" vs.toArray 0)).push (seqObj "list" #[] 0)).get? a=some (seqObj "list" #[] ep1):=Heap.get?_push_of_some _ (Heap.get?_push_of_some _ gl1)
 have ht6:∀ v∈vs,TupZ (((s.heap.update a (Obj.mapSeq fun _=>#[])).push (seqObj "tuple" vs.toArray 0)).push (seqObj "list" #[] 0)) v (rows v):=fun v hv=>by
  obtain ⟨b,o,xs,n',e,g1,c1,d1,i1⟩:=ht v hv
  refine ⟨b,o,xs,n',e,keep b o (fun z=>?_) g1,c1,d1,i1⟩
  rw [z,gl] at g1
  cases g1
  exact absurd c1 (by simp [seqObj])
 show wpAny (model prog w) A _ P E { s with heap:=((s.heap.update a (Obj.mapSeq fun _=>#[])).push (seqObj "tuple" vs.toArray 0)).push (seqObj "list" #[] 0) }
 dsimp only
 have sz0:vs.toArray.size=vs.length:=by simp
 have fin:∀ xs:Array Keyed,xs.Perm (pairsOf vs)->SrtA (fun p=>CD 0 (rows p.1)) xs->P (.done (.ret .none)) { s with heap:=sortedHeap s.heap a vs (xs.map (·.2)) }:=fun xs hp hs=>by
  have zl:xs.toList.Perm (vs.zip vs):=by rw [<- pairsOf_toList];exact Array.perm_iff_toList_perm.mp hp
  have both:∀ p,p∈xs.toList->p.1=p.2:=fun p hp'=>(mem_zip_self (zl.mem_iff.mp hp')).1
  have e:(xs.map (·.2)).toList=xs.toList.map (·.1):=by
   rw [Array.toList_map];exact List.map_congr_left fun p hp'=>(both p hp').symm
  refine h _ ?_ ?_
  · rw [e]
    have:=zl.map Prod.fst
    rwa [List.map_fst_zip (Nat.le_refl _)] at this
  · rw [e,List.pairwise_iff_getElem]
    intro i j hi hj hij
    have ib:i<xs.size:=by simpa using hi
    have jb:j<xs.size:=by simpa using hj
    have q:=hs.le (Nat.le_of_lt hij) jb
    rw [Z4 ib,Z4 jb] at q
    simpa using q
 by_cases h2:vs.toArray.size<2
 · rw [if_pos h2,if_pos h2]
   refine wpAny_bind (wpAny_pure ?_)
   rw [StateT.run_pure]
   refine wpAny_bind (wpAny_pure ?_)
   dsimp only
   refine wpAny_bind (seqEpoch_at gl6 rfl ?_)
   refine wpAny_bind (listUpdate_at gl6 rfl ?_ (hsz2:=by rw [Array.size_map];show (pairsOf vs).size<=_;rw [pairsOf_size,sizeLine_eq];omega))
   simp only [bne_self_eq_false,Bool.false_eq_true,if_false]
   refine wpAny_pure (fin (vs.toArray.zip vs.toArray) (Array.Perm.refl _) ?_)
   intro i j _ hij hj
   have z:(vs.toArray.zip vs.toArray).size=vs.length:=pairsOf_size vs
   have:i=j:=by omega
   subst this;exact Int.le_refl _
 · rw [if_neg h2,if_neg h2]
   refine wpAny_bind (J2p ht6 (fun v hv (z:rows v=[])=>by have:=(hm v hv).1;rw [z] at this;simp at this;omega) (by omega) ?_)
   have C:Cmp prog w A { s with heap:=((s.heap.update a (Obj.mapSeq fun _=>#[])).push (seqObj "tuple" vs.toArray 0)).push (seqObj "list" #[] 0) } (tuples' true) (pairsOf vs) (fun p=>CD 0 (rows p.1)):=⟨fun x hx y hy E' Q q=>by
    rw [pairsOf_toList] at hx hy
    have mx:=(mem_zip_self hx).2
    have my:=(mem_zip_self hy).2
    refine J9q (ht6 _ mx) (ht6 _ my) (by rw [(hm _ mx).1,(hm _ my).1]) ?_
    have:=J0s (rows x.1) (rows y.1) 0 0 (by rw [(hm _ mx).1,(hm _ my).1]) (hm _ mx).2 (hm _ my).2
    have e:IY (rows x.1) (rows y.1)=decide (CD 0 (rows x.1)<CD 0 (rows y.1)):=by
     rw [Bool.eq_iff_iff,decide_eq_true_eq,this]
     simp
    rw [e]
    exact q⟩
   have zp:(pairsOf vs).size=vs.length:=pairsOf_size vs
   refine wpAny_bind (wpAny_mono (J1y (E:=E) (a₀:=pairsOf vs) (st:=SortSt.mk' (tuples' true) (vs.toArray.zip vs.toArray) #[] 7 none)
    (Q:=fun _ st'=>TB (tuples' true) (pairsOf vs) st'/\SrtA (fun p=>CD 0 (rows p.1)) (arrOf st')) C ⟨Array.Perm.refl _,rfl,rfl⟩ rfl (by omega) (by omega) fun st' a1 a2=>⟨a1,a2⟩) ?_ fun _ _ e=>e)
   rintro ⟨⟨⟩,st'⟩ s' ⟨rfl,tb,hs⟩
   dsimp only
   refine wpAny_bind (seqEpoch_at gl6 rfl ?_)
   refine wpAny_bind (listUpdate_at gl6 rfl ?_ (hsz2:=by refine Nat.le_trans (Nat.le_of_eq ((Array.size_map ..).trans (tb.size.trans (pairsOf_size _)))) ?_;rw [sizeLine_eq];omega))
   rw [tb.ok]
   simp only [bne_self_eq_false,Bool.false_eq_true,if_false]
   exact wpAny_pure (fin (arrOf st') tb.perm hs)
end
section
variable {prog:Program}{w:World}{A:Around}{E:Value->Shared->Prop}{s:Shared}
theorem WQ {it l:Addr}{items:Array Value}(hne:l≠it):∀ (n i:Nat) (s:Shared) (Q:List Value->Shared->Prop),s.heap.IsListIter it l i->s.heap.IsList l items->i+n<=items.size ->
 (∀ h',h'.IsListIter it l (i+n)->Heap.SameBut it s.heap h'->Q ((items.toList.drop i).take n) { s with heap:=h' })->wpAny (model prog w) A (draw (.ref it) n) Q E s
 | 0,i,s,Q,hit,_,_,hQ=>by
   show wpAny _ _ (pure []) Q E s;exact wpAny_pure (by simpa using hQ s.heap hit (Heap.SameBut.refl ..))
 | n+1,i,s,Q,hit,ht,hle,hQ=>by
   have hlt:i<items.size:=by omega
   show wpAny _ _ (pyNext (.ref it) >>= _) Q E s;refine wpAny_bind (wpAny_pyNext_list_item hit ht (x:=items[i]) (by simp [hlt]) fun h₁ hit₁ hs₁=>?_)
   have ht1:h₁.IsList l items:=by
    obtain ⟨o,e,r⟩:=ht
    exact ⟨o,(hs₁.2 l hne).trans e,r⟩
   refine wpAny_bind (wpAny_holding (WQ hne n (i+1) _ _ hit₁ ht1 (by omega) fun h₂ hit₂ hs₂=>wpAny_pure ?_))
   have hd:items.toList.drop i=items[i]::items.toList.drop (i+1):=by simp [List.drop_eq_getElem_cons,hlt]
   have:=hQ h₂ (by rw [show i+(n+1)=i+1+n by omega];exact hit₂) (hs₁.trans hs₂)
   rw [hd,List.take_succ_cons] at this
   exact this
theorem LV {l:Addr}{items:Array Value}{Q:List Value->Shared->Prop}(hh:A.handled=none)(ht:s.heap.IsList l items)
 (hQ:∀ h',Heap.ExtBut s.heap.objs.size s.heap h'->Q items.toList { s with heap:=h' }):wpAny (model prog w) A (unpackItems (.ref l) items.size none) Q E s:=by
 have hlt:l≠s.heap.objs.size:=by obtain ⟨o,ho,_⟩:=ht;exact Nat.ne_of_lt (Heap.lt_size ho)
 have ty:s.TypeIs (.ref l) "list":=by obtain ⟨o,ho,hc,_⟩:=ht;exact ⟨o,ho,hc⟩
 unfold unpackItems;refine wpAny_bind ?_
 unfold notIterableAtAll;refine wpAny_bind (wpAny_specialOf ty slot_list_iter.lookup ?_)
 refine wpAny_pure ?_;simp only [Bool.false_eq_true,if_false]
 refine wpAny_bind (wpAny_holding (wpAny_pyIter_list ht ?_))
 have hp:∀ ob:Obj,(s.heap.push ob).IsList l items:=fun ob=>by
  obtain ⟨o,e,r⟩:=ht
  exact ⟨o,Heap.get?_push_of_some _ e,r⟩
 refine wpAny_bind (wpAny_holding (WQ hlt items.size 0 _ _ ⟨_,Heap.get?_push_size _ rfl,rfl,rfl⟩ (hp _) (by omega) fun h₁ hit₁ hs₁=>?_))
 have hall:List.take items.size (List.drop 0 items.toList)=items.toList:=by rw [List.drop_zero];exact List.take_of_length_le (by simp)
 rw [hall,if_neg (by simp)]
 have ht₁:h₁.IsList l items:=by
  obtain ⟨o,e,r⟩:=ht
  exact ⟨o,(hs₁.2 l hlt).trans (Heap.get?_push_of_some _ e),r⟩
 refine wpAny_bind (wpAny_holding (wpAny_pyNext_list_end hh hit₁ ht₁ (by simp) fun h₂ he₂=>?_))
 simp only [Option.isSome_none,Bool.false_eq_true,if_false]
 refine wpAny_pure (hQ h₂ fun b o hb e=>he₂ b o hb (hs₁.extBut b o hb (Heap.get?_push_of_some _ e)))
end
section
variable {X:Cx}
noncomputable def Q7k (K:Fg)(n:Nat)(t:TGs):TG:=fun v σ H Q=>∃ a xs,v=.ref a/\SqL K H a xs/\xs.length=n/\t xs σ H Q
theorem BF {es:List Expr}{k:Nat}{t:TGs}{n:Nat}{pos:Pos}(K:Fg)(hK:X.K=K)(hc:X.calm=true)(h:PGs X es t)(hn:(assignEach es X.env).length=n:=by rfl)(hst:(assignEach es X.env).findIdx? (·.1)=none:=by rfl):PG X (.Tuple es k pos) (Q7k K n t):=by
 subst hK
 intro pins s σ H v u Q I r hw
 obtain ⟨a,xs,e1,hq,hl,hw⟩:=hw
 subst e1
 cases r
 obtain ⟨its,rv,p,hz⟩:=I.list hq
 have hl':its.toArray.size=n:=by simp [<- hl,rv.length]
 rw [assign_Tuple];refine wpAny_bind (wpAny_standAt ?_)
 unfold unpack;rw [hn,hst,<- hl']
 refine wpAny_bind (wpAny_holding (LV (I.ok.hd hc) p.isList fun h' hx=>?_))
 have I1:Inv X pins σ H { s with heap:=h' }:=I.kept (t':=s.toks) fun b o e=>hx b o (Nat.ne_of_lt (Heap.lt_size e)) e
 exact h pins _ σ H xs _ Q I1 (by simpa using rv) hw
end
structure Frg where
 ads:List Addr
 R:(Addr->Prop)->Hp->V->Prop
 keep:∀ M H H' v,(∀ c o,(¬ M c\/c∈ads)->H c=some o->H' c=some o)->R M H v->R M H' v
 avoid:∀ M M' H v,(∀ c,M' c->M c\/H c=none)->R M H v->R M' H v
 ref:∀ M H v,R M H v->∃ a,v=.ref a
 nt:∀ M H v,R M H v->∀ c∈ads,∃ o,H c=some o/\∀ vs,o≠.tup vs
noncomputable abbrev Tg:=List (List Int×Addr×Value)×Nat
inductive D where
 | non|bl (b:Bool)|int (i:Int)|str (x:Str)|ty (n:String)|adr (a:Addr)
 | tup (xs:List D)|lst (xs:List D)|own (xs:List D)|bag|scr (ns:List Int)|dct (t:Tg) (ks:List (List Int)) (xs:List D)|frg (f:Frg) (d:D)
structure BagT where
 ok:Addr->Hp->Prop
 st:∀ p H H',ok p H->(∀ o,H p=some o->H' p=some o)->ok p H'
 dm:∀ p H,ok p H->∃ o,H p=some o
noncomputable def KTp (K:Fg)(a:Addr)(xs:List V):Prop:=∃ (o:Obj) (its:Array Value) (n:Nat),K.lookup a=some o/\o.cls=.type "tuple"/\o.data=.seq its n/\its.size<=sizeLine/\Vals xs its.toList
noncomputable def TpA (K:Fg)(M:Addr->Prop)(H:Hp)(a:Addr)(vs:List V):Prop:=(¬ M a/\H a=some (.tup vs))\/KTp K a vs
theorem TpA.sq {H:Hp}{a:Addr}{vs:List V}(h:TpA K M H a vs):SqT K H a vs:=h.elim (fun z=>.inl (.inl z.2)) .inr
theorem TpA.keep {H H':Hp}{a:Addr}{vs:List V}(k:∀ b o,¬ M b->H b=some o->H' b=some o)(h:TpA K M H a vs):TpA K M H' a vs:=h.imp (fun z=>⟨z.1,k _ _ z.1 z.2⟩) id
theorem TpA.avoid {M M':Addr->Prop}{H:Hp}{a:Addr}{vs:List V}(k:∀ b,M' b->M b\/H b=none)(h:TpA K M H a vs):TpA K M' H a vs:=by
 refine h.imp (fun z=>⟨fun m=>?_,z.2⟩) id
 rcases k a m with n|n
 · exact z.1 n
 · rw [n] at z;cases z.2
noncomputable def KL (K:Fg)(a:Addr)(xs:List V):Prop:=∃ (o:Obj) (its:Array Value) (n:Nat),K.lookup a=some o/\o.cls=.type "list"/\o.dict=none/\o.data=.seq its n/\its.size<=sizeLine/\Vals xs its.toList
noncomputable def tkH (ns:List Int):Int:=reduceHash (Builtin.Tuple.tupleHashOf (ns.map hashInt))
noncomputable def Q9d (x:List Int×Addr×Value):DictEntry:=⟨tkH x.1,.ref x.2.1,x.2.2⟩
noncomputable def DOb (a:Addr)(es:List (List Int×Addr×Value))(ep:Nat):HO:=.ext fun h=>((a==sysModules)=false/\es.length<=sizeLine/\(es.map (·.1)).Nodup)/\∃ (o:Obj) (ds:Array DictEntry),h.get? a=some o/\o.ExactDict/\o.data=.dict ds ep/\ds.toList=es.map Q9d
noncomputable def DctE (K:Fg)(M:Addr->Prop)(H:Hp)(es:List (List Int×Addr×Value))(ks:List (List Int))(vs:List V):Prop:=es.map (·.1)=ks/\(∀ e∈es,TpA K M H e.2.1 (e.1.map V.int))/\Vals vs (es.map (·.2.2))
theorem DctE.keep {H H':Hp}{es:List (List Int×Addr×Value)}{ks:List (List Int)}{vs:List V}(k:∀ b o,¬ M b->H b=some o->H' b=some o)(h:DctE K M H es ks vs):DctE K M H' es ks vs:=⟨h.1,fun e m=>(h.2.1 e m).keep k,h.2.2⟩
theorem DctE.avoid {M M':Addr->Prop}{H:Hp}{es:List (List Int×Addr×Value)}{ks:List (List Int)}{vs:List V}(k:∀ b,M' b->M b\/H b=none)(h:DctE K M H es ks vs):DctE K M' H es ks vs:=⟨h.1,fun e m=>(h.2.1 e m).avoid k,h.2.2⟩
mutual
noncomputable def Rep (K:Fg)(M:Addr->Prop)(H:Hp):D->V->Prop
 | .non,v=>v=.non
 | .bl b,v=>v=.bl b
 | .int i,v=>v=.int i
 | .str x,v=>v=.str x
 | .ty n,v=>v=.ty n
 | .adr a,v=>v=.ref a
 | .tup xs,v=>∃ a vs,v=.ref a/\TpA K M H a vs/\Reps K M H xs vs
 | .lst xs,v=>∃ a vs,v=.ref a/\(¬ M a/\H a=some (.lst vs))/\Reps K M H xs vs
 | .own _,_=>False
 | .bag,_=>False
 | .frg _ _,_=>False
 | .scr ns,v=>∃ a,v=.ref a/\((¬ M a/\Rd H a (.lst (ns.map V.int)))\/KL K a (ns.map V.int))
 | .dct t ks xs,v=>∃ (a:Addr) (vs:List V),v=.ref a/\(¬ M a/\H a=some (DOb a t.1 t.2)/\DctE K M H t.1 ks vs)/\Reps K M H xs vs
noncomputable def Reps (K:Fg)(M:Addr->Prop)(H:Hp):List D->List V->Prop
 | [],vs=>vs=[]
 | d::ds,vs=>∃ v r,vs=v::r/\Rep K M H d v/\Reps K M H ds r
end
theorem Rd.keep {H H':Hp}{a:Addr}{u:HO}(k:∀ o,H a=some o->H' a=some o)(h:Rd H a u):Rd H' a u:=by
 rcases h with h|⟨o,h⟩
 · exact .inl (k _ h)
 · exact .inr ⟨o,k _ h⟩
theorem Rd.some {H:Hp}{a:Addr}{u:HO}(h:Rd H a u):H a≠none:=by
 rcases h with h|⟨o,h⟩<;>rw [h]<;>simp
section
variable {K:Fg}{M M':Addr->Prop}{H H':Hp}
mutual
theorem Rep.keep (k:∀ b o,¬ M b->H b=some o->H' b=some o):∀ (d:D) (v:V),Rep K M H d v->Rep K M H' d v
 | .non,_,h=>h
 | .bl _,_,h=>h
 | .int _,_,h=>h
 | .str _,_,h=>h
 | .ty _,_,h=>h
 | .adr _,_,h=>h
 | .tup xs,v,h=>by
   obtain ⟨a,vs,e,z,r⟩:=h
   exact ⟨a,vs,e,z.keep k,Reps.keep k xs vs r⟩
 | .lst xs,v,h=>by
   obtain ⟨a,vs,e,z,r⟩:=h
   exact ⟨a,vs,e,⟨z.1,k _ _ z.1 z.2⟩,Reps.keep k xs vs r⟩
 | .own _,_,h=>h
 | .bag,_,h=>h
 | .frg _ _,_,h=>h
 | .scr ns,v,h=>by
   obtain ⟨a,e,z⟩:=h
   exact ⟨a,e,z.imp (fun q=>⟨q.1,q.2.keep fun o=>k a o q.1⟩) id⟩
 | .dct t ks xs,v,h=>by
   obtain ⟨a,vs,e,z,r⟩:=h
   exact ⟨a,vs,e,⟨z.1,k _ _ z.1 z.2.1,z.2.2.keep k⟩,Reps.keep k xs _ r⟩
theorem Reps.keep (k:∀ b o,¬ M b->H b=some o->H' b=some o):∀ (ds:List D) (vs:List V),Reps K M H ds vs->Reps K M H' ds vs
 | [],_,h=>h
 | d::ds,vs,h=>by
   obtain ⟨v,r,e,h1,h2⟩:=h
   exact ⟨v,r,e,Rep.keep k d v h1,Reps.keep k ds r h2⟩
end
mutual
theorem Rep.avoid (k:∀ b,M' b->M b\/H b=none):∀ (d:D) (v:V),Rep K M H d v->Rep K M' H d v
 | .non,_,h=>h
 | .bl _,_,h=>h
 | .int _,_,h=>h
 | .str _,_,h=>h
 | .ty _,_,h=>h
 | .adr _,_,h=>h
 | .tup xs,v,h=>by
   obtain ⟨a,vs,e,z,r⟩:=h
   exact ⟨a,vs,e,z.avoid k,Reps.avoid k xs vs r⟩
 | .lst xs,v,h=>by
   obtain ⟨a,vs,e,z,r⟩:=h
   refine ⟨a,vs,e,⟨fun m=>?_,z.2⟩,Reps.avoid k xs vs r⟩
   rcases k a m with n|n
   · exact z.1 n
   · rw [n] at z;cases z.2
 | .own _,_,h=>h
 | .bag,_,h=>h
 | .frg _ _,_,h=>h
 | .scr ns,v,h=>by
   obtain ⟨a,e,z⟩:=h
   refine ⟨a,e,z.imp (fun q=>⟨fun m=>?_,q.2⟩) id⟩
   rcases k a m with n|n
   · exact q.1 n
   · exact q.2.some n
 | .dct t ks xs,v,h=>by
   obtain ⟨a,vs,e,z,r⟩:=h
   refine ⟨a,vs,e,⟨fun m=>?_,z.2.1,z.2.2.avoid k⟩,Reps.avoid k xs _ r⟩
   rcases k a m with n|n
   · exact z.1 n
   · rw [n] at z;cases z.2.1
theorem Reps.avoid (k:∀ b,M' b->M b\/H b=none):∀ (ds:List D) (vs:List V),Reps K M H ds vs->Reps K M' H ds vs
 | [],_,h=>h
 | d::ds,vs,h=>by
   obtain ⟨v,r,e,h1,h2⟩:=h
   exact ⟨v,r,e,Rep.avoid k d v h1,Reps.avoid k ds r h2⟩
end
end
noncomputable abbrev Ev:=List (Option D)
structure Wd where
 K:Fg
 B:BagT
 H0:Hp
 M0:Addr->Prop
 b0:Option Addr
noncomputable def okB (B:BagT)(b:Option Addr)(H:Hp):Prop:=∀ p,b=some p->B.ok p H
noncomputable def Kp (b:Option Addr)(H H':Hp):Prop:=∀ c o,b≠some c->H c=some o->H' c=some o
theorem Kp.refl (b:Option Addr)(H:Hp):Kp b H H:=fun _ _ _ h=>h
theorem Kp.trans {H H1 H2:Hp}(x:Kp b H H1)(y:Kp b H1 H2):Kp b H H2:=fun c o n h=>y c o n (x c o n h)
theorem Kp.upd {H:Hp}{p:Addr}{o:HO}(h:H p=none):Kp b H (upd H p o):=fun c u _ e=>Same.upd h c u e
theorem Kp.same {H H':Hp}(h:Same H H'):Kp b H H':=fun c o _ e=>h c o e
noncomputable def RepX (W:Wd)(M:Addr->Prop)(b:Option Addr)(H:Hp):D->V->Prop
 | .own xs,v=>∃ a vs,v=.ref a/\M a/\b≠some a/\W.H0 a=none/\¬ W.M0 a/\H a=some (.lst vs)/\Reps W.K M H xs vs
 | .bag,v=>∃ p,b=some p/\v=.ref p
 | .frg f d,v=>(∀ c∈f.ads,M c/\b≠some c/\W.H0 c=none/\¬ W.M0 c)/\f.R M H v/\Rep W.K (fun c=>M c/\c∉f.ads) H d v
 | d,v=>Rep W.K M H d v
noncomputable def plain:D->Bool
 | .own _=>false
 | .bag=>false
 | .frg _ _=>false
 | _=>true
noncomputable def AO:D->Bool
 | .own _=>false
 | .frg _ _=>false
 | _=>true
theorem RepX.rep {W:Wd} {H:Hp}{d:D}{v:V}(h:RepX W M b H d v)(p:plain d=true):Rep W.K M H d v:=by
 cases d<;>first|exact h|cases p
theorem Rep.x {W:Wd} {H:Hp}{d:D}{v:V}(h:Rep W.K M H d v):RepX W M b H d v:=by
 cases d<;>first|exact h|exact h.elim
noncomputable def RepXs (W:Wd)(M:Addr->Prop)(b:Option Addr)(H:Hp):List D->List V->Prop
 | [],vs=>vs=[]
 | d::ds,vs=>∃ v r,vs=v::r/\RepX W M b H d v/\RepXs W M b H ds r
structure Hs (W:Wd)(M:Addr->Prop)(b:Option Addr)(H:Hp):Prop where
 ok:okB W.B b H
 bagM:∀ p,b=some p->M p
 dom:∀ c,M c->∃ o,H c=some o
 m0:∀ c,W.M0 c->M c
theorem RepX.move {W:Wd}{M M':Addr->Prop}{b b':Option Addr}{H H':Hp}{f:Frg}{d:D}{v:V}(h:RepX W M b H (.frg f d) v)(ow:∀ c∈f.ads,M c->b≠some c->M' c/\b'≠some c)(k:∀ c o,(¬ M' c\/c∈f.ads)->H c=some o->H' c=some o)(a:∀ c,M' c->M c\/H c=none):RepX W M' b' H' (.frg f d) v:=by
 refine ⟨fun c m=>?_,f.keep M' H H' v k (f.avoid M M' H v a h.2.1),Rep.keep (fun c o n e=>k c o ?_ e) _ _ (Rep.avoid (fun c m=>(a c m.1).imp (fun z=>⟨z,m.2⟩) id) _ _ h.2.2)⟩
 · obtain ⟨q1,q2,q3,q4⟩:=h.1 c m
   obtain ⟨z1,z2⟩:=ow c m q1 q2
   exact ⟨z1,z2,q3,q4⟩
 · by_cases z:c∈f.ads
   · exact .inr z
   · exact .inl fun m=>n ⟨m,z⟩
theorem RepX.step {W:Wd} {H H':Hp}{d:D}{v:V}(hb:∀ p,b=some p->M p)(k:Kp b H H')(h:RepX W M b H d v):RepX W M b H' d v:=by
 have k':∀ c o,¬ M c->H c=some o->H' c=some o:=fun c o n e=>k c o (fun z=>n (hb c z)) e
 cases d
 case own xs =>
  obtain ⟨a,vs,e,m,n,n0,m0,h1,h2⟩:=h
  exact ⟨a,vs,e,m,n,n0,m0,k _ _ n h1,Reps.keep k' _ _ h2⟩
 case bag=>exact h
 case frg f d=>exact RepX.move h (fun c m m1 n=>⟨m1,n⟩) (fun c o q e=>q.elim (fun n=>k' c o n e) fun m=>k c o (h.1 c m).2.1 e) fun c m=>.inl m
 all_goals exact Rep.keep k' _ _ h
theorem RepXs.reps {W:Wd} {H:Hp}:∀ (ds:List D) (vs:List V),RepXs W M b H ds vs->ds.all plain=true->Reps W.K M H ds vs
 | [],_,h,_=>h
 | d::ds,vs,h,p=>by
   obtain ⟨v,r,e,h1,h2⟩:=h
   simp only [List.all_cons,Bool.and_eq_true] at p
   exact ⟨v,r,e,h1.rep p.1,RepXs.reps ds r h2 p.2⟩
theorem Reps.length {H:Hp}:∀ (ds:List D) (vs:List V),Reps K M H ds vs->vs.length=ds.length
 | [],_,h=>by cases (show _=_ from h);rfl
 | d::ds,vs,h=>by
   obtain ⟨v,r,rfl,h1,h2⟩:=h
   simp [Reps.length ds r h2]
theorem Reps.get {H:Hp}:∀ {ds:List D} {vs:List V} {i:Nat} {d:D},Reps K M H ds vs->ds[i]?=some d->∃ v,vs[i]?=some v/\Rep K M H d v
 | [],_,_,_,h,e=>by simp at e
 | d::ds,vs,0,_,h,e=>by
   obtain ⟨v,r,rfl,h1,h2⟩:=h
   simp at e;subst e
   exact ⟨v,rfl,h1⟩
 | d::ds,vs,i+1,d',h,e=>by
   obtain ⟨v,r,rfl,h1,h2⟩:=h
   obtain ⟨u,e1,e2⟩:=Reps.get (i:=i) h2 (by simpa using e)
   exact ⟨u,by simpa using e1,e2⟩
theorem Reps.at {H:Hp}{ds:List D}{vs:List V}{i:Int}{d:D}(h:Reps K M H ds vs)(e:atI ds i=some d):∃ v,atI vs i=some v/\Rep K M H d v:=by
 unfold atI at *
 rw [h.length]
 cases q:ixN ds.length i with
 | none=>rw [q] at e;cases e
 | some j =>
   rw [q] at e
   exact Reps.get h e
theorem Reps.append {H:Hp}:∀ {ds es:List D} {vs us:List V},Reps K M H ds vs->Reps K M H es us->Reps K M H (ds++es) (vs++us)
 | [],_,_,_,h,h'=>by cases (show _=_ from h);exact h'
 | d::ds,_,_,_,h,h'=>by
   obtain ⟨v,r,rfl,h1,h2⟩:=h
   exact ⟨v,_,rfl,h1,Reps.append h2 h'⟩
theorem Reps.drop {H:Hp}:∀ {ds:List D} {vs:List V} (j:Nat),Reps K M H ds vs->Reps K M H (ds.drop j) (vs.drop j)
 | _,_,0,h=>h
 | [],_,_+1,h=>by cases (show _=_ from h);exact rfl
 | e::ds,_,j+1,h=>by
   obtain ⟨v',r,rfl,h1,h2⟩:=h
   exact Reps.drop j h2
theorem Reps.take {H:Hp}:∀ {ds:List D} {vs:List V} (j:Nat),Reps K M H ds vs->Reps K M H (ds.take j) (vs.take j)
 | _,_,0,h=>rfl
 | [],_,_+1,h=>by cases (show _=_ from h);exact rfl
 | e::ds,_,j+1,h=>by
   obtain ⟨v',r,rfl,h1,h2⟩:=h
   exact ⟨v',_,rfl,h1,Reps.take j h2⟩
noncomputable def PinR (W:Wd)(M:Addr->Prop)(b:Option Addr)(H:Hp):D->V->Prop
 | .own xs,v=>RepX W M b H (.own xs) v
 | d,v=>Rep W.K M H d v
theorem PinR.x {W:Wd} {H:Hp}{d:D}{v:V}(h:PinR W M b H d v):RepX W M b H d v:=by
 cases d<;>first|exact h|exact h.elim
theorem RepX.pin {W:Wd} {H:Hp}{d:D}{v:V}(h:RepX W M b H d v)(p:plain d=true):PinR W M b H d v:=by
 cases d<;>first|exact h|cases p
theorem PinR.to {W:Wd}{M M':Addr->Prop}{b b':Option Addr}{H H':Hp}{d:D}{v:V}(h:PinR W M b H d v)(rep:∀ d v,Rep W.K M H d v->Rep W.K M' H' d v)(reps:∀ ds vs,Reps W.K M H ds vs->Reps W.K M' H' ds vs)(own:∀ xs a vs,d=.own xs->v=.ref a->M a->b≠some a->H a=some (.lst vs)->M' a/\b'≠some a/\H' a=some (.lst vs)):PinR W M' b' H' d v:=by
 cases d
 case own xs =>
  obtain ⟨a,vs,rfl,m1,m2,m3,m4,hh,r⟩:=h
  obtain ⟨q1,q2,q3⟩:=own xs a vs rfl rfl m1 m2 hh
  exact ⟨a,vs,rfl,q1,q2,m3,m4,q3,reps _ _ r⟩
 case bag=>exact h.elim
 all_goals exact rep _ _ h
noncomputable def HH:D->V->Addr->Prop
 | .own _,v,c=>v=.ref c
 | .frg f _,_,c=>c∈f.ads
 | _,_,_=>False
noncomputable def mine:D->Bool
 | .own _=>true
 | .frg _ _=>true
 | _=>false
theorem HH.m {d:D}{v:V}{c:Addr}(h:HH d v c):mine d=true:=by cases d<;>first|rfl|exact h.elim
theorem RepX.mine {W:Wd} {H:Hp}{d:D}{v:V}{c:Addr}(h:RepX W M b H d v)(m:HH d v c):M c/\b≠some c/\W.H0 c=none/\¬ W.M0 c:=by
 cases d
 case own xs =>
  obtain ⟨a,vs,e,m1,n,n0,m0,h1,h2⟩:=h
  cases (e.symm.trans (show v=.ref c from m))
  exact ⟨m1,n,n0,m0⟩
 case frg f d=>exact h.1 c m
 all_goals exact m.elim
structure Sta (W:Wd)(pn:List (D×V))(M:Addr->Prop)(b:Option Addr)(H:Hp)(σ:St)(ρ:Ev):Prop extends Hs W M b H where
 kp:Kp W.b0 W.H0 H
 new:b=W.b0\/(W.b0=none/\∀ p,b=some p->W.H0 p=none)
 env:∀ (i:Nat) d,ρ[i]?=some (some d)->∃ v,σ[i]?=some (some v)/\RepX W M b H d v
 len:ρ.length=σ.length
 pin:∀ q∈pn,PinR W M b H q.1 q.2
theorem Sta.step {W:Wd}{pn:List (D×V)} {H H':Hp}{σ:St}{ρ:Ev}(s:Sta W pn M b H σ ρ)(k:Kp b H H')(o:okB W.B b H'):Sta W pn M b H' σ ρ where
 ok:=o
 bagM:=s.bagM
 dom:=fun c m=>by
  by_cases z:b=some c
  · exact W.B.dm c H' (o c z)
  · obtain ⟨u,e⟩:=s.dom c m
    exact ⟨u,k c u z e⟩
 m0:=s.m0
 kp:=fun c u n e=>by
  refine k c u (fun z=>?_) (s.kp c u n e)
  rcases s.new with q|⟨_,q⟩
  · exact n (q▸z)
  · rw [q c z] at e;cases e
 new:=s.new
 env:=fun i d e=>by
  obtain ⟨v,e1,r⟩:=s.env i d e
  exact ⟨v,e1,r.step s.bagM k⟩
 len:=s.len
 pin:=fun q hq=>(s.pin q hq).to (fun _ _ r=>Rep.keep (fun c o n e=>k c o (fun z=>n (s.bagM c z)) e) _ _ r) (fun _ _ r=>Reps.keep (fun c o n e=>k c o (fun z=>n (s.bagM c z)) e) _ _ r) fun xs a vs _ _ m n hh=>⟨m,n,k _ _ n hh⟩
theorem Hs.new {W:Wd} {H:Hp}(s:Hs W M b H){p:Addr}(h:H p=none):¬ M p:=fun m=>by
 obtain ⟨o,e⟩:=s.dom p m
 rw [h] at e;cases e
theorem Hs.okU {W:Wd} {H:Hp}(s:Hs W M b H){p:Addr}{o:HO}(h:H p=none):okB W.B b (upd H p o):=fun q e=>W.B.st q H _ (s.ok q e) fun u e'=>Same.upd h q u e'
noncomputable abbrev DE:=Ev->(D->Prop)->Prop
noncomputable abbrev DT:=Ev->(Bool->Prop)->Prop
noncomputable abbrev DA:=Ev->(List D->Prop)->Prop
noncomputable def dn (W:Wd)(d:DE):TE:=fun σ H Q=>∃ pn M b ρ P,Sta W pn M b H σ ρ/\d ρ P/\∀ x v H',P x->RepX W M b H' x v->Kp b H H'->okB W.B b H'->Q v H'
noncomputable def dnT (W:Wd)(d:DT):TT:=fun σ H Q=>∃ pn M b ρ P,Sta W pn M b H σ ρ/\d ρ P/\∀ x H',P x->Kp b H H'->okB W.B b H'->Q x H'
noncomputable def dnA (W:Wd)(d:DA):TA:=fun σ H Q=>∃ pn M b ρ P,Sta W pn M b H σ ρ/\d ρ P/\∀ xs vs H',P xs->RepXs W M b H' xs vs->Kp b H H'->okB W.B b H'->Q vs H'
theorem dn.elim {W:Wd}{d:DE}{σ:St}{H:Hp}{Q:VK}{R:Prop}(h:dn W d σ H Q)(f:∀ pn M b ρ P,Sta W pn M b H σ ρ->d ρ P->(∀ x v H',P x->RepX W M b H' x v->Kp b H H'->okB W.B b H'->Q v H')->R):R:=by
 obtain ⟨pn,M,b,ρ,P,st,h,k⟩:=h
 exact f pn M b ρ P st h k
theorem dnT.elim {W:Wd}{d:DT}{σ:St}{H:Hp}{Q:Bool->Hp->Prop}{R:Prop}(h:dnT W d σ H Q)(f:∀ pn M b ρ P,Sta W pn M b H σ ρ->d ρ P->(∀ x H',P x->Kp b H H'->okB W.B b H'->Q x H')->R):R:=by
 obtain ⟨pn,M,b,ρ,P,st,h,k⟩:=h
 exact f pn M b ρ P st h k
theorem dnA.elim {W:Wd}{d:DA}{σ:St}{H:Hp}{Q:List V->Hp->Prop}{R:Prop}(h:dnA W d σ H Q)(f:∀ pn M b ρ P,Sta W pn M b H σ ρ->d ρ P->(∀ xs vs H',P xs->RepXs W M b H' xs vs->Kp b H H'->okB W.B b H'->Q vs H')->R):R:=by
 obtain ⟨pn,M,b,ρ,P,st,h,k⟩:=h
 exact f pn M b ρ P st h k
section
variable {X:Cx}{W:Wd}{e a b c:Expr}{es:List Expr}{pos:Pos}{d da db dc:DE}{dA:DA}{t:TE}
theorem PE.mono {t':TE}(h:PE X e t)(m:∀ σ H Q,t' σ H Q->t σ H Q):PE X e t':=fun pins s σ H Q I q=>h pins s σ H Q I (m σ H Q q)
theorem PT.mono {t t':TT}(h:PT X e t)(m:∀ σ H Q,t' σ H Q->t σ H Q):PT X e t':=fun pins s σ H Q I q=>h pins s σ H Q I (m σ H Q q)
theorem PA.mono {t t':TA}(h:PA X es t)(m:∀ σ H Q,t' σ H Q->t σ H Q):PA X es t':=fun pos pins s σ H Q I q=>h pos pins s σ H Q I (m σ H Q q)
noncomputable def J3f (i:Nat):DE:=fun ρ P=>match ρ[i]? with|some (some d)=>P d|_=>False
theorem dv (i:Nat) {x:Str} {pos:Pos} (hN:X.N[i]?=some x:=by rfl) (hv:Vis X.env.scope x:=by first|exact Or.inl rfl|exact Or.inr (Or.inl rfl)|exact Or.inr (Or.inr rfl)) (hd:(x==("__debug__" : Str))=false:=by decide)
 (hcd:(x==("__classdict__" : Str))=false:=by decide):PE X (.Name x pos) (dn W (J3f i)):=(J4r hN hv hd hcd).mono fun σ H Q hh=>hh.elim fun pn M b ρ P st h k=>by
 unfold J3f at h
 split at h
 case h_1 d e =>
  obtain ⟨v,e1,r⟩:=st.env i d e
  exact ⟨v,e1,k d v H h r (Kp.refl _ _) st.ok⟩
 case h_2=>exact h.elim
noncomputable def dC (d:D):DE:=fun _ P=>P d
theorem Q0s {d:D}{v:V}(h:PE X e (tC v))(hr:∀ M H,Rep W.K M H d v):PE X e (dn W (dC d)):=h.mono fun σ H Q hh=>hh.elim fun pn M b ρ P st h k=>k d v H h (Rep.x (hr M H)) (Kp.refl _ _) st.ok
theorem Q4q {i j pos}:PE X (.Constant (.int i) j pos) (dn W (dC (.int i))):=Q0s Z5 fun _ _=>rfl
theorem Q7t {i j pos}:PE X (.Constant (.bool i) j pos) (dn W (dC (.bl i))):=Q0s Q6s fun _ _=>rfl
theorem J6o {x:Str}{n:Int}{pos:Pos}(hg:Gl X x)(hm:∃ t,X.mg x=some (.int n t))(hd:(x==("__debug__" : Str))=false:=by decide):PE X (.Name x pos) (dn W (dC (.int n))):=Q0s (J4t hg hm hd) fun _ _=>rfl
theorem Q0t {x:Str}{T:String}{pos:Pos}(hg:Gl X x)(hm:X.mg x=none)(hv:bootBuiltins x=some (.type T))(hn:x≠"__name__":=by decide) (hd:(x==("__debug__" : Str))=false:=by decide):PE X (.Name x pos) (dn W (dC (.ty T))):=Q0s (J9e (v:=.ty T) hg hm hv rfl hn hd) fun _ _=>rfl
noncomputable def OpD (W:Wd)(r:R2)(o:D->D->(D->Prop)->Prop):Prop:=∀ M b H x y v u P Q,Hs W M b H->RepX W M b H x v->RepX W M b H y u->o x y P->(∀ z w H',P z->RepX W M b H' z w->Kp b H H'->okB W.B b H'->Q w H')->r v u H Q
noncomputable def dOp (o:D->D->(D->Prop)->Prop)(da db:DE):DE:=fun ρ P=>da ρ fun x=>db ρ fun y=>o x y P
theorem ZI {r:R2}{o:D->D->(D->Prop)->Prop}(hd:OpD W r o):∀ σ H Q,dn W (dOp o da db) σ H Q->tOp r (dn W da) (dn W db) σ H Q:=by
 intro σ H Q hh
 refine hh.elim fun pn M b ρ P st h k=>?_
 refine ⟨pn,M,b,ρ,_,st,h,fun x v H1 hx rx k1 o1=>?_⟩
 refine ⟨pn,M,b,ρ,_,st.step k1 o1,hx,fun y u H2 hy ry k2 o2=>?_⟩
 exact hd M b H2 x y v u P Q ((st.step k1 o1).step k2 o2).toHs (rx.step st.bagM k2) ry hy fun z w H' hz rz k3 o3=>k z w H' hz rz ((k1.trans k2).trans k3) o3
theorem Q7r {op:Operator}{r:R2}{o:D->D->(D->Prop)->Prop}(ho:OpR X (binaryOp op) r)(hd:OpD W r o)(ha:PE X a (dn W da))(hb:PE X b (dn W db)):PE X (.BinOp a op b pos) (dn W (dOp o da db)):=(BR ho ha hb).mono (ZI hd)
theorem Q4r {op:CmpOp}{r:R2}{o:D->D->(D->Prop)->Prop}(ho:OpR X (compareOp op) r)(hd:OpD W r o)(ha:PE X a (dn W da))(hb:PE X b (dn W db))(hm:behindInMarks op b=false):PE X (.Compare a [op] [b] pos) (dn W (dOp o da db)):=(J9d ho ha hb hm).mono (ZI hd)
theorem Q7s {r:R2}{o:D->D->(D->Prop)->Prop}(hr:IxR X r)(hd:OpD W r o)(ha:PE X a (dn W da))(hb:PE X b (dn W db))(hs:UI b):PE X (.Subscript a b pos) (dn W (dOp o da db)):=(NL hr ha hb hs).mono (ZI hd)
noncomputable def oI (C:Int->Int->Prop)(g:Int->Int->Int):D->D->(D->Prop)->Prop
 | .int i,.int j,P=>C i j/\P (.int (g i j))
 | _,_,_=>False
noncomputable def oI0 (g:Int->Int->Int):D->D->(D->Prop)->Prop
 | .int i,.int j,P=>P (.int (g i j))
 | _,_,_=>False
noncomputable def oB0 (g:Int->Int->Bool):D->D->(D->Prop)->Prop
 | .int i,.int j,P=>P (.bl (g i j))
 | _,_,_=>False
theorem AH {C:Int->Int->Prop}{g:Int->Int->Int}:OpD W (rI C fun i j=>.int (g i j)) (oI C g):=by
 intro M b H x y v u P Q hs rx ry ho k
 cases x<;>first|exact ho.elim|skip
 cases y<;>first|exact ho.elim|skip
 cases (show _=_ from rx)
 cases (show _=_ from ry)
 exact ⟨_,_,rfl,rfl,ho.1,k _ _ H ho.2 (show _=_ from rfl) (Kp.refl _ _) hs.ok⟩
theorem Z6 {g:Int->Int->Int}:OpD W (rI0 fun i j=>.int (g i j)) (oI0 g):=by
 intro M b H x y v u P Q hs rx ry ho k
 cases x<;>first|exact ho.elim|skip
 cases y<;>first|exact ho.elim|skip
 cases (show _=_ from rx)
 cases (show _=_ from ry)
 exact ⟨_,_,rfl,rfl,k _ _ H ho (show _=_ from rfl) (Kp.refl _ _) hs.ok⟩
theorem HG {g:Int->Int->Bool}:OpD W (rI0 fun i j=>.bl (g i j)) (oB0 g):=by
 intro M b H x y v u P Q hs rx ry ho k
 cases x<;>first|exact ho.elim|skip
 cases y<;>first|exact ho.elim|skip
 cases (show _=_ from rx)
 cases (show _=_ from ry)
 exact ⟨_,_,rfl,rfl,k _ _ H ho (show _=_ from rfl) (Kp.refl _ _) hs.ok⟩
noncomputable def Q6y (neg:Bool):D->D->(D->Prop)->Prop
 | .int i,.int j,P=>P (.bl (decide (i=j)!=neg))
 | .bl i,.bl j,P=>P (.bl (decide (i=j)!=neg))
 | .str i,.str j,P=>P (.bl (decide (i=j)!=neg))
 | .non,.non,P=>P (.bl (true != neg))
 | .non,.int _,P=>P (.bl (false != neg))
 | .int _,.non,P=>P (.bl (false != neg))
 | .str _,.int _,P=>P (.bl (false != neg))
 | .int _,.str _,P=>P (.bl (false != neg))
 | _,_,_=>False
theorem DJ:OpD W rEq (Q6y false):=by
 intro M b H x y v u P Q hs rx ry ho k
 cases x<;>cases y<;>first|exact ho.elim|skip
 all_goals (cases (show _=_ from rx);cases (show _=_ from ry);refine ⟨rfl,?_⟩;refine k _ _ H ho ?_ (Kp.refl _ _) hs.ok)
 all_goals (show V.bl _=V.bl _;simp)
theorem Q3j:OpD W rNe (Q6y true):=by
 intro M b H x y v u P Q hs rx ry ho k
 cases x<;>cases y<;>first|exact ho.elim|skip
 all_goals (cases (show _=_ from rx);cases (show _=_ from ry);refine ⟨rfl,?_⟩;refine k _ _ H ho ?_ (Kp.refl _ _) hs.ok)
 all_goals (show V.bl _=V.bl _;simp)
noncomputable def oIx:D->D->(D->Prop)->Prop
 | .tup xs,.int i,P=>(atI xs i).elim False P
 | .lst xs,.int i,P=>(atI xs i).elim False P
 | .own xs,.int i,P=>(atI xs i).elim False P
 | _,_,_=>False
theorem Q7 (K:Fg)(h:X.K=K):IxR X (fun x y H Q=>J8v K x y H Q\/J8w K x y H Q):=(J9x K h).or (DZ K h)
theorem Q8:OpD W (fun x y H Q=>J8v W.K x y H Q\/J8w W.K x y H Q) oIx:=by
 intro M b H x y v u P Q hs rx ry ho k
 cases x<;>first|exact ho.elim|skip
 all_goals (cases y<;>first|exact ho.elim|skip)
 all_goals cases (show _=_ from ry)
 case tup.int xs i =>
  obtain ⟨a,vs,rfl,hh,r⟩:=rx
  simp only [oIx] at ho
  cases e:atI xs i with
  | none=>rw [e] at ho;exact ho.elim
  | some d =>
    rw [e] at ho
    obtain ⟨w,e1,r1⟩:=r.at e
    exact .inl ⟨a,vs,i,w,rfl,rfl,hh.sq,e1,k d w H ho r1.x (Kp.refl _ _) hs.ok⟩
 case lst.int xs i =>
  obtain ⟨a,vs,rfl,hh,r⟩:=rx
  simp only [oIx] at ho
  cases e:atI xs i with
  | none=>rw [e] at ho;exact ho.elim
  | some d =>
    rw [e] at ho
    obtain ⟨w,e1,r1⟩:=r.at e
    exact .inr ⟨a,vs,i,w,rfl,rfl,SqL.of hh.2,e1,k d w H ho r1.x (Kp.refl _ _) hs.ok⟩
 case own.int xs i =>
  obtain ⟨a,vs,rfl,_,_,_,_,hh,r⟩:=rx
  simp only [oIx] at ho
  cases e:atI xs i with
  | none=>rw [e] at ho;exact ho.elim
  | some d =>
    rw [e] at ho
    obtain ⟨w,e1,r1⟩:=r.at e
    exact .inr ⟨a,vs,i,w,rfl,rfl,SqL.of hh,e1,k d w H ho r1.x (Kp.refl _ _) hs.ok⟩
noncomputable def dUn (o:D->(D->Prop)->Prop)(da:DE):DE:=fun ρ P=>da ρ fun x=>o x P
noncomputable def Q3l:D->(D->Prop)->Prop
 | .int i,P=>P (.int (-i))
 | _,_=>False
theorem Q4o (ha:PE X a (dn W da)):PE X (.UnaryOp .USub a pos) (dn W (dUn Q3l da)):=(Q6r Q2e ha).mono fun σ H Q hh=>hh.elim fun pn M b ρ P st h k=>by
 refine ⟨pn,M,b,ρ,_,st,h,fun x v H1 hx rx k1 o1=>?_⟩
 cases x<;>first|exact hx.elim|skip
 cases (show _=_ from rx)
 exact ⟨_,rfl,k _ _ H1 hx (show _=_ from rfl) k1 o1⟩
inductive IfP (c:Bool)(A B:Prop):Prop
 | t (e:c=true) (h:A):IfP c A B
 | f (e:c=false) (h:B):IfP c A B
theorem IfP.of {c:Bool}{A B:Prop}(h1:c=true->A)(h2:c=false->B):IfP c A B:=by
 cases c
 · exact .f rfl (h2 rfl)
 · exact .t rfl (h1 rfl)
theorem IfP.true_of {A B:Prop}(h:IfP true A B):A:=by
 cases h with
 | t _ h=>exact h
 | f e _=>cases e
theorem IfP.false_of {A B:Prop}(h:IfP false A B):B:=by
 cases h with
 | f _ h=>exact h
 | t e _=>cases e
theorem XQ {A B:Prop}:IfP true A B=A:=propext ⟨IfP.true_of,fun h=>.t rfl h⟩
theorem J3m {A B:Prop}:IfP false A B=B:=propext ⟨IfP.false_of,fun h=>.f rfl h⟩
noncomputable def Q8e (da db:DE):DE:=fun ρ P=>da ρ fun x=>match x with|.bl k=>IfP k (db ρ P) (P (.bl false))|_=>False
noncomputable def Q8b (da:DE):DE:=fun ρ P=>da ρ fun x=>match x with|.bl k=>P (.bl (!k))|_=>False
variable {rest:List Expr}
theorem Q4m {op}(h:PE X a (dn W da)):PE X (.BoolOp op [a] pos) (dn W da):=Q3d h
theorem Q4s (ha:PE X a (dn W da))(hb:PE X (.BoolOp .And (b::rest) pos) (dn W db)):PE X (.BoolOp .And (a::b::rest) pos) (dn W (Q8e da db)):=(Q3f ha hb).mono fun σ H Q hh=>hh.elim fun pn M b ρ P st h k=>by
 refine ⟨pn,M,b,ρ,_,st,h,fun x v H1 hx rx k1 o1=>?_⟩
 cases x<;>first|exact hx.elim|skip
 case bl c =>
  cases (show _=_ from rx)
  refine ⟨c,rfl,?_⟩
  cases hx with
  | f e hx=>subst e;rw [if_neg Bool.false_ne_true];exact k _ _ H1 hx (show _=_ from rfl) k1 o1
  | t e hx=>subst e;rw [if_pos rfl];exact ⟨pn,M,b,ρ,P,st.step k1 o1,hx,fun x v H' hp r k2 o2=>k x v H' hp r (k1.trans k2) o2⟩
theorem Q4n (ha:PE X a (dn W da)):PE X (.UnaryOp .Not a pos) (dn W (Q8b da)):=(Q3e ha).mono fun σ H Q hh=>hh.elim fun pn M b ρ P st h k=>by
 refine ⟨pn,M,b,ρ,_,st,h,fun x v H1 hx rx k1 o1=>?_⟩
 cases x<;>first|exact hx.elim|skip
 case bl c =>
  cases (show _=_ from rx)
  exact ⟨c,rfl,k _ _ H1 hx (show _=_ from rfl) k1 o1⟩
noncomputable def J6r (da:DE):DT:=fun ρ P=>da ρ fun x=>match x with|.bl k=>P k|_=>False
theorem Q4b {op:CmpOp}{r:R2}{o:D->D->(D->Prop)->Prop}(ho:OpR X (compareOp op) r)(hd:OpD W r o)(ha:PE X a (dn W da))(hb:PE X b (dn W db))(hm:behindInMarks op b=false):PT X (.Compare a [op] [b] pos) (dnT W (J6r (dOp o da db))):=(FS ho ha hb hm).mono fun σ H Q hh=>hh.elim fun pn M b ρ P st h k=>by
 refine ZI hd σ H _ ⟨pn,M,b,ρ,_,st,h,fun x v H1 hx rx k1 o1=>?_⟩
 cases x<;>first|exact hx.elim|skip
 case bl c =>
  cases (show _=_ from rx)
  exact ⟨c,rfl,k _ H1 hx k1 o1⟩
noncomputable def Q7v (da:DE):DT:=fun ρ P=>da ρ fun x=>match x with
 | .bl k=>P k
 | .int i=>P (i != 0)
 | .non=>P false
 | .tup xs=>P (!xs.isEmpty)
 | .lst xs=>P (!xs.isEmpty)
 | .own xs=>P (!xs.isEmpty)
 | _=>False
theorem Reps.empty {H:Hp}{ds:List D}{vs:List V}(h:Reps K M H ds vs):(!ds.isEmpty) = !vs.isEmpty:=by
 cases ds with
 | nil=>cases (show _=_ from h);rfl
 | cons d ds=>obtain ⟨v,r,rfl,_⟩:=h;rfl
theorem J6d (hK:X.K=W.K)(ha:PE X a (dn W da))(he:∀ whole,isTrue a X.env whole=(do let v <- whole;standAt a.pos;holding [v] (truthy v))):PT X a (dnT W (Q7v da)):=(J2f W.K hK ha he).mono fun σ H Q hh=>hh.elim fun pn M b ρ P st h k=>by
 refine ⟨pn,M,b,ρ,_,st,h,fun x v H1 hx rx k1 o1=>?_⟩
 cases x<;>first|exact hx.elim|skip
 case bl c=>cases (show _=_ from rx);exact ⟨_,rfl,k _ H1 hx k1 o1⟩
 case int c=>cases (show _=_ from rx);exact ⟨_,rfl,k _ H1 hx k1 o1⟩
 case non=>cases (show _=_ from rx);exact ⟨_,rfl,k _ H1 hx k1 o1⟩
 case tup xs=>obtain ⟨a,vs,rfl,hh,r⟩:=rx;exact ⟨_,.inr (.inl ⟨vs,hh.sq,r.empty⟩),k _ H1 hx k1 o1⟩
 case lst xs=>obtain ⟨a,vs,rfl,hh,r⟩:=rx;exact ⟨_,.inl ⟨vs,SqL.of hh.2,r.empty⟩,k _ H1 hx k1 o1⟩
 case own xs=>obtain ⟨a,vs,rfl,_,_,_,_,hh,r⟩:=rx;exact ⟨_,.inl ⟨vs,SqL.of hh,r.empty⟩,k _ H1 hx k1 o1⟩
noncomputable def Q4v (t u:DT):DT:=fun ρ P=>t ρ fun c=>IfP c (P true) (u ρ P)
noncomputable def Q1s (t:DT):DT:=fun ρ P=>t ρ fun c=>P (!c)
variable {ta tb:DT}
theorem Q6a:∀ σ H Q,dnT W (Q4v ta tb) σ H Q->tOr (dnT W ta) (dnT W tb) σ H Q:=by
 intro σ H Q hh
 refine hh.elim fun pn M b ρ P st h k=>?_
 refine ⟨pn,M,b,ρ,_,st,h,fun x H1 hx k1 o1=>?_⟩
 cases hx with
 | t e hx=>rw [if_pos e];exact k _ H1 hx k1 o1
 | f e hx=>rw [if_neg (by rw [e];exact Bool.false_ne_true)];exact ⟨pn,M,b,ρ,P,st.step k1 o1,hx,fun x H' hp k2 o2=>k x H' hp (k1.trans k2) o2⟩
theorem PW.mono {t t':TT}(h:PW X e t)(m:∀ σ H Q,t' σ H Q->t σ H Q):PW X e t':=fun wh pins s σ H Q I q=>h wh pins s σ H Q I (m σ H Q q)
theorem Q3z (ha:PT X a (dnT W ta)):PW X (.BoolOp .Or [a] pos) (dnT W ta):=Q2x ha
theorem Q7o (ha:PT X a (dnT W ta))(hb:PW X (.BoolOp .Or (b::rest) pos) (dnT W tb)):PW X (.BoolOp .Or (a::b::rest) pos) (dnT W (Q4v ta tb)):=(Q6q ha hb).mono Q6a
theorem Q4a (ha:PT X a (dnT W ta)):PT X (.UnaryOp .Not a pos) (dnT W (Q1s ta)):=(Q2y ha).mono fun σ H Q hh=>hh.elim fun pn M b ρ P st h k=>⟨pn,M,b,ρ,_,st,h,fun x H1 hx k1 o1=>k _ H1 hx k1 o1⟩
noncomputable def J6y (o o':D->D->(D->Prop)->Prop)(da db dc:DE):DE:=fun ρ P=>da ρ fun x=>db ρ fun y=>o x y fun z=>match z with|.bl k=>IfP k (dc ρ fun w=>o' y w P) (P (.bl false))|_=>False
theorem J6p {op op':CmpOp}{r r':R2}{o o':D->D->(D->Prop)->Prop}(ho:OpR X (compareOp op) r)(ho':OpR X (compareOp op') r')(hd:OpD W r o)(hd':OpD W r' o')(ha:PE X a (dn W da))(hb:PE X b (dn W db))(hc:PE X c (dn W dc))
 (hm:lastMarks [op,op'] [b,c]=false:=by with_unfolding_all rfl):PE X (.Compare a [op,op'] [b,c] pos) (dn W (J6y o o' da db dc)):=(J4v ho ho' ha hb hc hm).mono fun σ H Q hh=>hh.elim fun pn M b ρ P st h k=>by
 refine ⟨pn,M,b,ρ,_,st,h,fun x v H1 hx rx k1 o1=>?_⟩
 refine ⟨pn,M,b,ρ,_,st.step k1 o1,hx,fun y u H2 hy ry k2 o2=>?_⟩
 refine hd M b H2 x y v u _ _ ((st.step k1 o1).step k2 o2).toHs (rx.step st.bagM k2) ry hy fun z w H' hz rz k3 o3=>?_
 cases z<;>first|exact hz.elim|skip
 case bl q =>
  cases (show _=_ from rz)
  refine ⟨q,rfl,?_⟩
  cases hz with
  | f e hz=>subst e;rw [if_neg Bool.false_ne_true];exact k _ _ H' hz (show _=_ from rfl) ((k1.trans k2).trans k3) o3
  | t e hz =>
    subst e
    rw [if_pos rfl]
    refine ⟨pn,M,b,ρ,_,((st.step k1 o1).step k2 o2).step k3 o3,hz,fun w u' H4 hw rw' k4 o4=>?_⟩
    exact hd' M b H4 y w u u' P Q ((((st.step k1 o1).step k2 o2).step k3 o3).step k4 o4).toHs ((ry.step st.bagM k3).step st.bagM k4) rw' hw fun z w H' hz rz k5 o5=>k z w H' hz rz ((((k1.trans k2).trans k3).trans k4).trans k5) o5
noncomputable def Q5n:DA:=fun _ P=>P []
noncomputable def J7m (da:DE)(dr:DA):DA:=fun ρ P=>da ρ fun x=>dr ρ fun xs=>P (x::xs)
theorem Q4u:PA X [] (dnA W Q5n):=CW.mono fun σ H Q hh=>hh.elim fun pn M b ρ P st h k=>k [] [] H h rfl (Kp.refl _ _) st.ok
theorem Q0v {dr:DA}(ha:PE X e (dn W da))(hr:PA X es (dnA W dr))(hs:starEach (e::es) X.env=(false,eval e X.env)::starEach es X.env:=by rfl):PA X (e::es) (dnA W (J7m da dr)):=(AW ha hr hs).mono fun σ H Q hh=>hh.elim fun pn M b ρ P st h k=>by
 refine ⟨pn,M,b,ρ,_,st,h,fun x v H1 hx rx k1 o1=>?_⟩
 refine ⟨pn,M,b,ρ,_,st.step k1 o1,hx,fun xs vs H2 hy ry k2 o2=>?_⟩
 exact k _ _ H2 hy ⟨v,vs,rfl,rx.step st.bagM k2,ry⟩ (k1.trans k2) o2
noncomputable def GE (xs:List D):Bool:=xs.all plain&&decide (xs.length<=1000)
noncomputable def Q7u (dA:DA):DE:=fun ρ P=>dA ρ fun xs=>GE xs=true/\P (.tup xs)
noncomputable def Q8c (dA:DA):DE:=fun ρ P=>dA ρ fun xs=>GE xs=true/\P (.lst xs)
theorem GE.len {xs:List D}(h:GE xs=true):xs.length<=sizeLine:=by
 unfold GE at h
 simp only [Bool.and_eq_true,decide_eq_true_eq] at h
 exact Nat.le_trans h.2 DK
theorem GE.pl {xs:List D}(h:GE xs=true):xs.all plain=true:=by
 unfold GE at h
 simp only [Bool.and_eq_true,decide_eq_true_eq] at h
 exact h.1
theorem IW {bg:Option Addr}{H:Hp}{xs:List D}{vs:List V}{p:Addr}(hs:Hs W M bg H)(r:Reps W.K M H xs vs)(h:H p=none):RepX W M bg (upd H p (.tup vs)) (.tup xs) (.ref p) :=
 ⟨p,vs,rfl,.inl ⟨hs.new h,AC⟩,Reps.keep (fun c o _ e=>Same.upd h c o e) _ _ r⟩
theorem GZ {bg:Option Addr}{H:Hp}{xs:List D}{vs:List V}{p:Addr}(hs:Hs W M bg H)(r:Reps W.K M H xs vs)(h:H p=none):RepX W M bg (upd H p (.lst vs)) (.lst xs) (.ref p) :=
 ⟨p,vs,rfl,⟨hs.new h,AC⟩,Reps.keep (fun c o _ e=>Same.upd h c o e) _ _ r⟩
theorem Q4k {x1}(h:PA X es (dnA W dA)):PE X (.Tuple es x1 pos) (dn W (Q7u dA)):=(Q3b h).mono fun σ H Q hh=>hh.elim fun pn M b ρ P st h k=>by
 refine ⟨pn,M,b,ρ,_,st,h,fun xs vs H1 hx rx k1 o1=>?_⟩
 have rr:=rx.reps _ _ (GE.pl hx.1)
 refine ⟨by rw [rr.length];exact GE.len hx.1,fun p hp=>k _ _ _ hx.2 (IW (st.step k1 o1).toHs rr hp) (k1.trans (Kp.upd hp)) ((st.step k1 o1).okU hp)⟩
theorem Q4p (h:PA X es (dnA W dA)):PE X (.List es pos) (dn W (Q8c dA)):=(SB h).mono fun σ H Q hh=>hh.elim fun pn M b ρ P st h k=>by
 refine ⟨pn,M,b,ρ,_,st,h,fun xs vs H1 hx rx k1 o1=>?_⟩
 have rr:=rx.reps _ _ (GE.pl hx.1)
 refine ⟨by rw [rr.length];exact GE.len hx.1,fun p hp=>k _ _ _ hx.2 (GZ (st.step k1 o1).toHs rr hp) (k1.trans (Kp.upd hp)) ((st.step k1 o1).okU hp)⟩
end
noncomputable abbrev DSp:=List D->(D->Prop)->(Addr->Prop)->Prop
noncomputable def Q5q (K:Fg)(M:Addr->Prop)(b:Option Addr)(H:Hp):D->V->Prop
 | .own _,_=>False
 | .bag,v=>∃ p,b=some p/\v=.ref p
 | d,v=>Rep K M H d v
noncomputable def RepAs (K:Fg)(M:Addr->Prop)(b:Option Addr)(H:Hp):List D->List V->Prop
 | [],vs=>vs=[]
 | d::ds,vs=>∃ v r,vs=v::r/\Q5q K M b H d v/\RepAs K M b H ds r
noncomputable def Q0 (K:Fg)(B:BagT)(S:DSp):Sp:=fun vs H Q E=>∃ (M:Addr->Prop) (b:Option Addr) (ds:List D) (P:D->Prop) (Ed:Addr->Prop),S ds P Ed/\RepAs K M b H ds vs/\okB B b H/\(∀ p,b=some p->M p)/\(∀ c,M c->∃ o,H c=some o) /\
 (∀ d v H',P d->Rep K M H' d v->Kp b H H'->okB B b H'->Q v H')/\∀ C H',Ed C->Kp b H H'->okB B b H'->E (.ref C) none H'
theorem RepXs.args {W:Wd} {H:Hp}:∀ (ds:List D) (vs:List V),RepXs W M b H ds vs->ds.all AO=true->RepAs W.K M b H ds vs
 | [],_,h,_=>h
 | d::ds,vs,h,p=>by
   obtain ⟨v,r,e,h1,h2⟩:=h
   simp only [List.all_cons,Bool.and_eq_true] at p
   refine ⟨v,r,e,?_,RepXs.args ds r h2 p.2⟩
   cases d<;>first|exact h1|cases p.1
theorem RepAs.length {H:Hp}:∀ {ds:List D} {vs:List V},RepAs K M b H ds vs->vs.length=ds.length
 | [],_,h=>by cases (show _=_ from h);rfl
 | d::ds,vs,h=>by
   obtain ⟨v,r,rfl,h1,h2⟩:=h
   simp [RepAs.length h2]
noncomputable def HL (W:Wd)(E:XK)(Ed:Addr->Prop):Prop:=∀ C H',Ed C->Kp W.b0 W.H0 H'->okB W.B W.b0 H'->E (.ref C) none H'
theorem Sta.ok0 {W:Wd}{pn:List (D×V)} {H:Hp}{σ:St}{ρ:Ev}(s:Sta W pn M b H σ ρ):okB W.B W.b0 H:=by
 rcases s.new with q|⟨q,_⟩
 · rw [<- q];exact s.ok
 · intro p e;rw [q] at e;cases e
section
variable {X:Cx}{W:Wd}{e a b c:Expr}{es:List Expr}{pos p:Pos}{d:DE}{dA:DA}{x:Str}{k:Nat}{ps:List Str}{S:DSp}
noncomputable def QX (S:DSp)(Ed:Addr->Prop)(dA:DA):DE:=fun ρ P=>dA ρ fun ds=>ds.all AO=true/\S ds P Ed
theorem ZJ {E:XK}{Ed:Addr->Prop}(hE:HL W E Ed):∀ σ H Q,dn W (QX S Ed dA) σ H Q->ZV (Q0 W.K W.B S) [] E (dnA W dA) σ H Q:=by
 intro σ H Q hh
 refine hh.elim fun pn M b ρ P st h k=>?_
 refine ⟨pn,M,b,ρ,_,st,h,fun xs vs H1 hx rx k1 o1=>?_⟩
 have st1:=st.step k1 o1
 refine ⟨M,b,xs,P,Ed,hx.2,?_,o1,st.bagM,st1.dom,fun d v H' hd rd k2 o2=>k d v H' hd rd.x (k1.trans k2) o2,fun C H' hC k2 o2=>?_⟩
 · rw [List.append_nil];exact rx.args _ _ hx.1
 · have st2:=st1.step k2 o2
   exact hE C H' hC st2.kp st2.ok0
theorem EA:HL W E0 (fun _=>False):=fun _ _ h=>h.elim
theorem Q4l (G:Callee X.prog X.w X.K X.mg X.base CX0 x k ps (Q0 W.K W.B S))(hr:Room k X.A)(hg:Gl X x)(ha:PA X (e::es) (dnA W dA))(hdb:(x==("__debug__" : Str))=false:=by decide) (he:starEach (e::es) X.env=(false,eval e X.env)::starEach es X.env:=by rfl) (hpl:(backTo pos (starEach es X.env)).any (·.1)=false:=by rfl) :
 PE X (.Call (.Name x p) (e::es) [] pos) (dn W (QX S (fun _=>False) dA)):=(NK G hr hg ha hdb he hpl).mono (ZJ EA)
theorem Q0q {CX:CXT}{E:XK}{Ed:Addr->Prop}(hE:HL W E Ed)(hp:FZ CX X E)(G:Callee X.prog X.w X.K X.mg X.base CX x k ps (Q0 W.K W.B S))(hr:Room k X.A)(hg:Gl X x)(ha:PA X (e::es) (dnA W dA))(hdb:(x==("__debug__" : Str))=false:=by decide) (he:starEach (e::es) X.env=(false,eval e X.env)::starEach es X.env:=by rfl) (hpl:(backTo pos (starEach es X.env)).any (·.1)=false:=by rfl) :
 PE X (.Call (.Name x p) (e::es) [] pos) (dn W (QX S Ed dA)):=(J0d hp G hr hg ha hdb he hpl).mono (ZJ hE)
noncomputable def GC (W:Wd)(r:List V->Hp->VK->Prop)(o:List D->(D->Prop)->Prop):Prop:=∀ M b H xs vs P Q,Hs W M b H->RepXs W M b H xs vs->o xs P->(∀ z w H',P z->RepX W M b H' z w->Kp b H H'->okB W.B b H'->Q w H')->r vs H Q
noncomputable def dCB (o:List D->(D->Prop)->Prop)(dA:DA):DE:=fun ρ P=>dA ρ fun xs=>o xs P
variable {r:List V->Hp->VK->Prop}{o:List D->(D->Prop)->Prop}{id T:String}
theorem Q1i (hd:GC W r o):∀ σ H Q,dn W (dCB o dA) σ H Q->tCB r (dnA W dA) σ H Q:=by
 intro σ H Q hh
 refine hh.elim fun pn M b ρ P st h k=>?_
 refine ⟨pn,M,b,ρ,_,st,h,fun xs vs H1 hx rx k1 o1=>?_⟩
 exact hd M b H1 xs vs P Q (st.step k1 o1).toHs rx hx fun z w H' hz rz k2 o2=>k z w H' hz rz (k1.trans k2) o2
theorem J6q (hc:CS X (.builtin id) r)(hd:GC W r o)(hg:Gl X x)(hm:X.mg x=none)(hv:bootBuiltins x=some (.builtin id))(ha:PA X (e::es) (dnA W dA))(hn:x≠"__name__":=by decide) (hdb:(x==("__debug__" : Str))=false:=by decide)
 (he:starEach (e::es) X.env=(false,eval e X.env)::starEach es X.env:=by rfl) (hpl:(backTo pos (starEach es X.env)).any (·.1)=false:=by rfl):PE X (.Call (.Name x p) (e::es) [] pos) (dn W (dCB o dA)):=(DH hc hg hm hv ha hn hdb he hpl).mono (Q1i hd)
theorem J3e (hc:CS X (.type T) r)(hd:GC W r o)(hg:Gl X x)(hm:X.mg x=none)(hv:bootBuiltins x=some (.type T))(ha:PA X (e::es) (dnA W dA))(hn:x≠"__name__":=by decide) (hdb:(x==("__debug__" : Str))=false:=by decide)
 (he:starEach (e::es) X.env=(false,eval e X.env)::starEach es X.env:=by rfl) (hpl:(backTo pos (starEach es X.env)).any (·.1)=false:=by rfl):PE X (.Call (.Name x p) (e::es) [] pos) (dn W (dCB o dA)):=(J2i hc hg hm hv ha hn hdb he hpl).mono (Q1i hd)
theorem rx1 {b:Option Addr}{H:Hp}{x:D}{vs:List V}(h:RepXs W M b H [x] vs):∃ v,vs=[v]/\RepX W M b H x v:=by
 obtain ⟨v,r,rfl,h1,h2⟩:=h
 cases (show _=_ from h2)
 exact ⟨v,rfl,h1⟩
theorem rx2 {b:Option Addr}{H:Hp}{x y:D}{vs:List V}(h:RepXs W M b H [x,y] vs):∃ v u,vs=[v,u]/\RepX W M b H x v/\RepX W M b H y u:=by
 obtain ⟨v,r,rfl,h1,h2⟩:=h
 obtain ⟨u,rfl,h3⟩:=rx1 h2
 exact ⟨v,u,rfl,h1,h3⟩
noncomputable def GO:List D->Option (List Int)
 | []=>some []
 | .int i::r=>(GO r).map (i::·)
 | _=>none
noncomputable def GW:List D->Option (List Bool)
 | []=>some []
 | .bl i::r=>(GW r).map (i::·)
 | _=>none
theorem GO.eq:∀ {ds:List D} {ns:List Int},GO ds=some ns->ds=ns.map D.int
 | [],ns,h=>by cases h;rfl
 | d::r,ns,h=>by
   cases d<;>first|cases h|skip
   case int i =>
    simp only [GO,Option.map_eq_some_iff] at h
    obtain ⟨m,e,rfl⟩:=h
    rw [GO.eq e];rfl
theorem GW.eq:∀ {ds:List D} {ns:List Bool},GW ds=some ns->ds=ns.map D.bl
 | [],ns,h=>by cases h;rfl
 | d::r,ns,h=>by
   cases d<;>first|cases h|skip
   case bl i =>
    simp only [GW,Option.map_eq_some_iff] at h
    obtain ⟨m,e,rfl⟩:=h
    rw [GW.eq e];rfl
theorem LQ (ns:List Bool):GW (ns.map D.bl)=some ns:=by
 induction ns with
 | nil=>rfl
 | cons n ns ih=>simp [GW,ih]
theorem Reps.ints {H:Hp}:∀ {ns:List Int} {vs:List V},Reps K M H (ns.map D.int) vs->vs=ns.map V.int
 | [],_,h=>by cases (show _=_ from h);rfl
 | n::ns,_,h=>by
   obtain ⟨v,r,rfl,h1,h2⟩:=h
   cases (show _=_ from h1)
   rw [Reps.ints h2];rfl
theorem Reps.bls {H:Hp}:∀ {ns:List Bool} {vs:List V},Reps K M H (ns.map D.bl) vs->vs=ns.map V.bl
 | [],_,h=>by cases (show _=_ from h);rfl
 | n::ns,_,h=>by
   obtain ⟨v,r,rfl,h1,h2⟩:=h
   cases (show _=_ from h1)
   rw [Reps.bls h2];rfl
noncomputable def asL:D->Option (List D)
 | .lst xs=>some xs
 | .own xs=>some xs
 | _=>none
theorem asL.rep {b:Option Addr}{H:Hp}{x:D}{v:V}{xs:List D}(h:RepX W M b H x v)(e:asL x=some xs):∃ a vs,v=.ref a/\H a=some (.lst vs)/\Reps W.K M H xs vs:=by
 cases x<;>first|cases e|skip
 case lst=>obtain ⟨a,vs,rfl,hh,r⟩:=h;exact ⟨a,vs,rfl,hh.2,r⟩
 case own=>obtain ⟨a,vs,rfl,_,_,_,_,hh,r⟩:=h;exact ⟨a,vs,rfl,hh,r⟩
noncomputable def Q8u:List D->(D->Prop)->Prop
 | [.lst xs],P=>P (.int xs.length)
 | [.own xs],P=>P (.int xs.length)
 | [.tup xs],P=>P (.int xs.length)
 | [.scr ns],P=>P (.int ns.length)
 | _,_=>False
theorem ZB:GC W (fun xs H Q=>∃ p ys,xs=[.ref p]/\(SqL W.K H p ys\/SqT W.K H p ys)/\Q (.int ys.length) H) Q8u:=by
 intro M b H xs vs P Q hs rx ho k
 match xs,ho with
 | [.lst xs],ho =>
   obtain ⟨v,rfl,r⟩:=rx1 rx
   obtain ⟨a,us,rfl,hh,r'⟩:=r
   exact ⟨a,us,rfl,.inl (SqL.of hh.2),k _ _ H ho (by show _=_;rw [r'.length]) (Kp.refl _ _) hs.ok⟩
 | [.own xs],ho =>
   obtain ⟨v,rfl,r⟩:=rx1 rx
   obtain ⟨a,us,rfl,_,_,_,_,hh,r'⟩:=r
   exact ⟨a,us,rfl,.inl (SqL.of hh),k _ _ H ho (by show _=_;rw [r'.length]) (Kp.refl _ _) hs.ok⟩
 | [.tup xs],ho =>
   obtain ⟨v,rfl,r⟩:=rx1 rx
   obtain ⟨a,us,rfl,hh,r'⟩:=r
   exact ⟨a,us,rfl,.inr (hh.sq),k _ _ H ho (by show _=_;rw [r'.length]) (Kp.refl _ _) hs.ok⟩
 | [.scr ns],ho =>
   obtain ⟨v,rfl,r⟩:=rx1 rx
   obtain ⟨a,rfl,hh⟩:=r
   refine ⟨a,ns.map V.int,rfl,.inl (hh.imp (·.2) id),k _ _ H ho (by show _=_;rw [List.length_map]) (Kp.refl _ _) hs.ok⟩
noncomputable def J5a:List D->(D->Prop)->Prop
 | [.lst xs],P=>P (.tup xs)
 | [.own xs],P=>P (.tup xs)
 | [.tup xs],P=>P (.tup xs)
 | _,_=>False
theorem XE:GC W (fun xs H Q=>∃ p ys,xs=[.ref p]/\((SqL W.K H p ys/\∀ l,H l=none->Q (.ref l) (upd H l (.tup ys)))\/(SqT W.K H p ys/\Q (.ref p) H))) J5a:=by
 intro M b H xs vs P Q hs rx ho k
 match xs,ho with
 | [.lst xs],ho =>
   obtain ⟨v,rfl,r⟩:=rx1 rx
   obtain ⟨a,us,rfl,hh,r'⟩:=r
   exact ⟨a,us,rfl,.inl ⟨SqL.of hh.2,fun l hl=>k _ _ _ ho (IW hs r' hl) (Kp.upd hl) (hs.okU hl)⟩⟩
 | [.own xs],ho =>
   obtain ⟨v,rfl,r⟩:=rx1 rx
   obtain ⟨a,us,rfl,_,_,_,_,hh,r'⟩:=r
   exact ⟨a,us,rfl,.inl ⟨SqL.of hh,fun l hl=>k _ _ _ ho (IW hs r' hl) (Kp.upd hl) (hs.okU hl)⟩⟩
 | [.tup xs],ho =>
   obtain ⟨v,rfl,r⟩:=rx1 rx
   obtain ⟨a,us,rfl,hh,r'⟩:=r
   exact ⟨a,us,rfl,.inr ⟨hh.sq,k _ _ H ho ⟨a,us,rfl,hh,r'⟩ (Kp.refl _ _) hs.ok⟩⟩
noncomputable def Q8w:List D->(D->Prop)->Prop
 | [.int i],P=>P (.int (if i<0 then -i else i))
 | _,_=>False
theorem Q5g:GC W (fun xs H Q=>∃ i,xs=[.int i]/\Q (.int (if i<0 then -i else i)) H) Q8w:=by
 intro M b H xs vs P Q hs rx ho k
 match xs,ho with
 | [.int i],ho =>
   obtain ⟨v,rfl,r⟩:=rx1 rx
   cases (show _=_ from r)
   exact ⟨i,rfl,k _ _ H ho (show _=_ from rfl) (Kp.refl _ _) hs.ok⟩
noncomputable def o2I (g:Int->Int->Int):List D->(D->Prop)->Prop
 | [.int i,.int j],P=>P (.int (g i j))
 | _,_=>False
theorem J1k {g:Int->Int->Int}:GC W (fun xs H Q=>∃ i j,xs=[.int i,.int j]/\Q (.int (g i j)) H) (o2I g):=by
 intro M b H xs vs P Q hs rx ho k
 match xs,ho with
 | [.int i,.int j],ho =>
   obtain ⟨v,u,rfl,r,r'⟩:=rx2 rx
   cases (show _=_ from r)
   cases (show _=_ from r')
   exact ⟨i,j,rfl,k _ _ H ho (show _=_ from rfl) (Kp.refl _ _) hs.ok⟩
noncomputable def Q6w:List D->(D->Prop)->Prop
 | [x],P=>(asL x).elim False fun xs=>(GO xs).elim False fun ns=>P (.int ns.sum)
 | _,_=>False
theorem Q5f:GC W (fun xs H Q=>∃ (p:Addr) (ns:List Int),xs=[.ref p]/\SqL W.K H p (ns.map V.int)/\Q (.int ns.sum) H) Q6w:=by
 intro M b H xs vs P Q hs rx ho k
 match xs,ho with
 | [x],ho =>
   obtain ⟨v,rfl,r⟩:=rx1 rx
   simp only [Q6w] at ho
   cases ex:asL x with
   | none=>rw [ex] at ho;exact ho.elim
   | some xs =>
     rw [ex] at ho
     simp only [Option.elim] at ho
     cases en:GO xs with
     | none=>rw [en] at ho;exact ho.elim
     | some ns =>
       rw [en] at ho
       cases GO.eq en
       obtain ⟨a,us,rfl,hh,r'⟩:=asL.rep r ex
       cases r'.ints
       exact ⟨a,ns,rfl,SqL.of hh,k _ _ H ho (show _=_ from rfl) (Kp.refl _ _) hs.ok⟩
noncomputable def Q7a (g:List Bool->Bool):List D->(D->Prop)->Prop
 | [x],P=>(asL x).elim False fun xs=>(GW xs).elim False fun ns=>P (.bl (g ns))
 | _,_=>False
theorem TR {g:List Bool->Bool}:GC W (fun xs H Q=>∃ (p:Addr) (bs:List Bool),xs=[.ref p]/\SqL W.K H p (bs.map V.bl)/\Q (.bl (g bs)) H) (Q7a g):=by
 intro M b H xs vs P Q hs rx ho k
 match xs,ho with
 | [x],ho =>
   obtain ⟨v,rfl,r⟩:=rx1 rx
   simp only [Q7a] at ho
   cases ex:asL x with
   | none=>rw [ex] at ho;exact ho.elim
   | some xs =>
     rw [ex] at ho
     simp only [Option.elim] at ho
     cases en:GW xs with
     | none=>rw [en] at ho;exact ho.elim
     | some ns =>
       rw [en] at ho
       cases GW.eq en
       obtain ⟨a,us,rfl,hh,r'⟩:=asL.rep r ex
       cases r'.bls
       exact ⟨a,ns,rfl,SqL.of hh,k _ _ H ho (show _=_ from rfl) (Kp.refl _ _) hs.ok⟩
theorem FX (K:Fg)(h:X.K=K):CS X (.builtin "isinstance") (fun xs H Q=>∃ y c t b,xs=[y,.ty c]/\(TyOf K H y t\/∃ a vs,y=.ref a/\KTp K a vs/\t=.type "tuple")/\PySem.W.kitOne K t (.type c)=some b/\Q (.bl b) H):=by
 subst h
 intro pins s σ H xs us Q I rs q
 obtain ⟨y,c,t,b,rfl,ty,e,q⟩:=q
 rcases ty with ty|⟨a,vs,rfl,⟨o,its,n,hk,hc,hs,hz,r⟩,rfl⟩
 · exact XG pins s σ H _ us Q I rs ⟨y,c,t,b,rfl,ty,e,q⟩
 · obtain ⟨u1,u2,rfl,r1,r2⟩:=US rs
   cases (show u2=Value.type c from r2)
   cases (show u1=Value.ref a from r1)
   refine PySem.W.kia_one PySem.W.kitx_tuple I.kIn ⟨o,I.kIn a o hk,hc⟩ e (fun z=>nomatch z) fun tk=>?_
   exact ⟨.bl b,H,I.tok _,rfl,q⟩
noncomputable def KM:D->Option String
 | .non=>some "NoneType"
 | .bl _=>some "bool"
 | .int _=>some "int"
 | .str _=>some "str"
 | .lst _=>some "list"
 | .own _=>some "list"
 | .tup _=>some "tuple"
 | .frg _ (.lst _)=>some "list"
 | _=>none
noncomputable def Q9b (K:Fg)(t c:String)(b:Bool):Prop:=PySem.W.kitOne K (.type t) (.type c)=some b
noncomputable def Q6x (K:Fg):List D->(D->Prop)->Prop
 | [x,.ty c],P=>match KM x with|some t=>∃ b,Q9b K t c b/\P (.bl b)|none=>False
 | _,_=>False
theorem LP:GC W (fun xs H Q=>∃ y c t b,xs=[y,.ty c]/\(TyOf W.K H y t\/∃ a vs,y=.ref a/\KTp W.K a vs/\t=.type "tuple")/\PySem.W.kitOne W.K t (.type c)=some b/\Q (.bl b) H) (Q6x W.K):=by
 intro M b H xs vs P Q hs rx ho k
 match xs,ho with
 | [x,.ty c],ho =>
   obtain ⟨v,u,rfl,r,r'⟩:=rx2 rx
   cases (show _=_ from r')
   simp only [Q6x] at ho
   split at ho
   case h_2=>exact ho.elim
   case h_1 t et =>
    obtain ⟨q,hq,hp⟩:=ho
    refine ⟨v,c,.type t,q,rfl,?_,hq,k _ _ H hp (show _=_ from rfl) (Kp.refl _ _) hs.ok⟩
    cases x<;>first|cases et|skip
    case non=>cases (show _=_ from r);exact .inl (.non)
    case bl=>cases (show _=_ from r);exact .inl (.bl _)
    case int=>cases (show _=_ from r);exact .inl (.int _)
    case str=>cases (show _=_ from r);exact .inl (.str _)
    case lst=>obtain ⟨a,us,rfl,hh,r'⟩:=r;exact .inl (.lst hh.2)
    case own=>obtain ⟨a,us,rfl,_,_,_,_,hh,r'⟩:=r;exact .inl (.lst hh)
    case frg f d =>
     cases d<;>first|cases et|skip
     case lst=>obtain ⟨a,us,rfl,hh,r'⟩:=r.2.2;exact .inl (.lst hh.2)
    case tup =>
     obtain ⟨a,us,rfl,hh,r'⟩:=r
     exact hh.elim (fun z=>.inl (.tup z.2)) fun z=>.inr ⟨a,us,rfl,z,rfl⟩
end
theorem Reps.plain {H:Hp}:∀ {ds:List D} {vs:List V},Reps K M H ds vs->ds.all plain=true
 | [],_,_=>rfl
 | d::ds,_,h=>by
   obtain ⟨v,r,rfl,h1,h2⟩:=h
   rw [List.all_cons,Reps.plain h2,Bool.and_true]
   cases d<;>first|rfl|exact h1.elim
noncomputable def UJ (W:Wd)(J:It)(need:List (D×V))(items:List D):Prop:=∀ M b H,Hs W M b H->(∀ q∈need,RepX W M b H q.1 q.2) ->
 (∀ (i:Nat) d,items[i]?=some d->J.go i H/\∀ x H3,J.yld i H x H3->Same H H3/\RepX W M b H3 d x)/\∀ i,items.length<=i->J.stop i H
noncomputable def dnI (W:Wd)(fz:Bool)(di:DA):TI:=fun σ H R=>∃ pn M b ρ P,Sta W pn M b H σ ρ/\di ρ P/\∀ items J need H',P items->items.all plain=true->UJ W J need items->(∀ q∈need,RepX W M b H' q.1 q.2/\(fz=true->plain q.1=true))->Kp b H H'->okB W.B b H'->R J H'
theorem dnI.elim {W:Wd}{fz:Bool}{d:DA}{σ:St}{H:Hp}{R:It->Hp->Prop}{Z:Prop}(h:dnI W fz d σ H R)(f:∀ pn M b ρ P,Sta W pn M b H σ ρ->d ρ P->(∀ items J need H',P items->items.all plain=true->UJ W J need items->(∀ q∈need,RepX W M b H' q.1 q.2/\(fz=true->plain q.1=true))->Kp b H H'->okB W.B b H'->R J H')->Z):Z:=by
 obtain ⟨pn,M,b,ρ,P,st,h,k⟩:=h
 exact f pn M b ρ P st h k
section
variable {X:Cx}{W:Wd}{tg l e a b:Expr}{pos p:Pos}{d dl:DE}{dA:DA}{fz:Bool}
theorem PI.mono {t t':TI}(h:PI X tg l t)(m:∀ σ H R,t' σ H R->t σ H R):PI X tg l t':=fun pins s σ H R I q=>h pins s σ H R I (m σ H R q)
theorem Q2z {tl:TE}(K:Fg)(h:X.K=K)(hl:PE X l tl):PI X tg l (fun σ H R=>tl σ H fun x H1=>(∃ a,x=.ref a/\(∃ xs,SqL K H1 a xs)/\R (Itl K a) H1)\/(∃ a,x=.ref a/\(∃ xs,SqT K H1 a xs)/\R (Itt K a) H1)):=by
 subst h
 intro pins s σ H R I h
 refine thn (hl pins s σ H _ I h) fun v s1 ⟨x,H1,I1,r1,q1⟩=>?_
 rcases q1 with ⟨a,e,⟨xs,hq⟩,q⟩|⟨a,e,⟨xs,hq⟩,q⟩
 · subst e
   cases r1
   obtain ⟨its,rv,p,hz⟩:=I1.list hq
   refine wpAny_pyIter_list p.isList ?_
   refine ⟨s1.heap.objs.size,[s1.heap.objs.size],_,_,H1,rfl,I1.kept (t':=s1.toks) fun b o e=>Heap.get?_push_of_some _ e,J2a a _,⟨_,Heap.get?_push_size _ rfl,rfl,rfl⟩,fun b hb=>?_,q⟩
   have e:b=s1.heap.objs.size:=by simpa using hb
   subst e
   exact I1.fpOk (Nat.le_refl _) (I1.hok.fresh (Nat.le_refl _))
 · subst e
   cases r1
   obtain ⟨its,rv,p,hz⟩:=I1.tuple hq
   refine wpAny_pyIter_tuple (show s1.heap.IsTuple a its.toArray from p) ?_
   refine ⟨s1.heap.objs.size,[s1.heap.objs.size],_,_,H1,rfl,I1.kept (t':=s1.toks) fun b o e=>Heap.get?_push_of_some _ e,XT a _,⟨_,Heap.get?_push_size _ rfl,rfl,rfl⟩,fun b hb=>?_,q⟩
   have e:b=s1.heap.objs.size:=by simpa using hb
   subst e
   exact I1.fpOk (Nat.le_refl _) (I1.hok.fresh (Nat.le_refl _))
noncomputable def Q3w (fz:Bool)(dl:DE):DA:=fun ρ P=>dl ρ fun x=>match x with
 | .lst xs=>P xs
 | .tup xs=>P xs
 | .own xs=>fz=false/\P xs
 | _=>False
theorem J5t {x:D}{xs:List D}{a:Addr}(hx:asL x=some xs):UJ W (Itl W.K a) [(x,.ref a)] xs:=by
 intro M b H hs hn
 obtain ⟨a',vs,e,hh,r⟩:=asL.rep (hn _ (List.mem_singleton.mpr rfl)) hx
 cases e
 refine ⟨fun i d e=>?_,fun i hi=>⟨vs,SqL.of hh,by rw [r.length];exact hi⟩⟩
 obtain ⟨v,e1,r1⟩:=r.get e
 refine ⟨⟨vs,v,SqL.of hh,e1⟩,fun y H3 ⟨eH,hy⟩=>?_⟩
 subst eH
 have:=hy vs (SqL.of hh)
 rw [e1] at this;cases this
 exact ⟨Same.refl _,r1.x⟩
theorem Q3v {xs:List D}{a:Addr}:UJ W (Itt W.K a) [(.tup xs,.ref a)] xs:=by
 intro M b H hs hn
 obtain ⟨a',vs,e,hh,r⟩:=hn _ (List.mem_singleton.mpr rfl)
 cases e
 refine ⟨fun i d e=>?_,fun i hi=>⟨vs,hh.sq,by rw [r.length];exact hi⟩⟩
 obtain ⟨v,e1,r1⟩:=r.get e
 refine ⟨⟨vs,v,hh.sq,e1⟩,fun y H3 ⟨eH,hy⟩=>?_⟩
 subst eH
 have:=hy vs (hh.sq)
 rw [e1] at this;cases this
 exact ⟨Same.refl _,r1.x⟩
theorem J5e {b:Option Addr}{H:Hp}{x:D}{v:V}(r:RepX W M b H x v)(h:fz=true->plain x=true):∀ q∈[(x,v)],RepX W M b H q.1 q.2/\(fz=true->plain q.1=true):=fun q hq=>by
 have e:=List.mem_singleton.mp hq
 subst e
 exact ⟨r,h⟩
theorem Q4j (hK:X.K=W.K)(hl:PE X l (dn W dl)):PI X tg l (dnI W fz (Q3w fz dl)):=(Q2z W.K hK hl).mono fun σ H R hh=>hh.elim fun pn M b ρ P st h k=>by
 refine ⟨pn,M,b,ρ,_,st,h,fun x v H1 hx rx k1 o1=>?_⟩
 cases x<;>first|exact hx.elim|skip
 case lst xs =>
  obtain ⟨a,vs,rfl,hh,r⟩:=(show RepX W M b H1 (.lst xs) v from rx)
  exact .inl ⟨a,rfl,⟨vs,SqL.of hh.2⟩,k xs _ _ H1 hx r.plain (J5t (x:=.lst xs) rfl) (J5e rx fun _=>rfl) k1 o1⟩
 case tup xs =>
  obtain ⟨a,vs,rfl,hh,r⟩:=(show RepX W M b H1 (.tup xs) v from rx)
  exact .inr ⟨a,rfl,⟨vs,hh.sq⟩,k xs _ _ H1 hx r.plain Q3v (J5e rx fun _=>rfl) k1 o1⟩
 case own xs =>
  obtain ⟨a,vs,rfl,m1,m2,m3,m4,hh,r⟩:=(show RepX W M b H1 (.own xs) v from rx)
  exact .inl ⟨a,rfl,⟨vs,SqL.of hh⟩,k xs _ _ H1 hx.2 r.plain (J5t (x:=.own xs) rfl) (J5e rx fun z=>by rw [hx.1] at z;cases z) k1 o1⟩
noncomputable def BI (lo:Int)(n:Nat):List D:=(List.range n).map fun (i:Nat)=>.int (lo+i)
theorem IR (lo:Int)(n:Nat):(BI lo n).all plain=true:=by
 simp [BI,plain]
theorem WI {lo:Int}{n:Nat}:UJ W (Itr lo n) [] (BI lo n):=by
 intro M b H hs _
 refine ⟨fun i d e=>?_,fun i hi=>by show n<=i;simpa [BI] using hi⟩
 have hi:i<n:=by
  have:=(List.getElem?_eq_some_iff.mp e).1
  simpa [BI] using this
 refine ⟨hi,fun x H3 ⟨eH,ex⟩=>?_⟩
 subst eH ex
 refine ⟨Same.refl _,?_⟩
 simp [BI,hi] at e
 subst e
 exact (show _=_ from rfl)
noncomputable def J0n (dA:DA):DA:=fun ρ P=>dA ρ fun xs=>match xs with
 | [.int j]=>(-(2 ^ 62)<=j/\j<2 ^ 62)/\P (BI 0 j.toNat)
 | _=>False
noncomputable def J0m (dA:DA):DA:=fun ρ P=>dA ρ fun xs=>match xs with
 | [.int i,.int j]=>(-(2 ^ 62)<=i/\i<2 ^ 62/\-(2 ^ 62)<=j/\j<2 ^ 62)/\P (BI i (j - i).toNat)
 | _=>False
theorem J3d (hg:Gl X "range") (hm:X.mg "range" = none) (ha:PA X [a] (dnA W dA)) (hs:starEach [a] X.env=[(false,eval a X.env)]:=by rfl):PI X tg (.Call (.Name "range" p) [a] [] pos) (dnI W fz (J0n dA)):=(QG hg hm ha hs).mono fun σ H R hh=>hh.elim fun pn M b ρ P st h k=>by
 refine ⟨pn,M,b,ρ,_,st,h,fun xs vs H1 hx rx k1 o1=>?_⟩
 match xs,hx with
 | [.int j],hx =>
   obtain ⟨v,rfl,r⟩:=rx1 rx
   cases (show _=_ from r)
   exact ⟨j,rfl,hx.1.1,hx.1.2,k _ _ _ H1 hx.2 (IR _ _) WI (fun q hq=>by cases hq) k1 o1⟩
theorem J3c (hg:Gl X "range") (hm:X.mg "range" = none) (ha:PA X [a,b] (dnA W dA)) (hs:starEach [a,b] X.env=[(false,eval a X.env),(false,eval b X.env)]:=by rfl) (hs2:starEach [b] X.env=[(false,eval b X.env)]:=by rfl):PI X tg (.Call (.Name "range" p) [a,b] [] pos) (dnI W fz (J0m dA)):=(J2h hg hm ha hs hs2).mono fun σ H R hh=>hh.elim fun pn M b ρ P st h k=>by
 refine ⟨pn,M,b,ρ,_,st,h,fun xs vs H1 hx rx k1 o1=>?_⟩
 match xs,hx with
 | [.int i,.int j],hx =>
   obtain ⟨v,u,rfl,r,r'⟩:=rx2 rx
   cases (show _=_ from r)
   cases (show _=_ from r')
   exact ⟨i,j,rfl,hx.1,k _ _ _ H1 hx.2 (IR _ _) WI (fun q hq=>by cases hq) k1 o1⟩
noncomputable def asK (fz t:Bool):D->Option (List D)
 | .tup xs=>if t then some xs else none
 | .lst xs=>if t then none else some xs
 | .own xs=>if t||fz then none else some xs
 | _=>none
theorem asK.rep {b:Option Addr}{H:Hp}{t:Bool}{x:D}{v:V}{xs:List D}(h:RepX W M b H x v)(e:asK fz t x=some xs):(∃ a vs,v=.ref a/\SqX W.K t H a vs/\Reps W.K M H xs vs)/\(fz=true->plain x=true):=by
 cases x<;>first|cases e|skip
 case lst =>
  obtain ⟨a,vs,rfl,hh,r⟩:=h
  cases t<;>cases e
  exact ⟨⟨a,vs,rfl,SqL.of hh.2,r⟩,fun _=>rfl⟩
 case own =>
  obtain ⟨a,vs,rfl,_,_,_,_,hh,r⟩:=h
  cases t<;>cases fz<;>cases e
  exact ⟨⟨a,vs,rfl,SqL.of hh,r⟩,fun z=>by cases z⟩
 case tup =>
  obtain ⟨a,vs,rfl,hh,r⟩:=h
  cases t<;>cases e
  exact ⟨⟨a,vs,rfl,hh.sq,r⟩,fun _=>rfl⟩
noncomputable def UK (xs ys:List D):List D:=List.zipWith (fun x y=>.tup [x,y]) xs ys
noncomputable def Q1n (fz t1 t2:Bool)(dA:DA):DA:=fun ρ P=>dA ρ fun zs=>match zs with
 | [x,y]=>(match asK fz t1 x,asK fz t2 y with|some xs,some ys=>xs.length<=ys.length/\P (UK xs ys)|_,_=>False)
 | _=>False
theorem MR:∀ (xs ys:List D),(UK xs ys).all plain=true
 | [],_=>rfl
 | _::_,[]=>rfl
 | x::xs,y::ys=>by
   show (plain (.tup [x,y])&&(UK xs ys).all plain)=true
   rw [MR xs ys];rfl
theorem Q3u {t1 t2:Bool}{x y:D}{xs ys:List D}{l1 l2:Addr}(h1:asK fz t1 x=some xs)(h2:asK fz t2 y=some ys)(hl:xs.length<=ys.length):UJ W (Q5u W.K t1 t2 l1 l2) [(x,.ref l1),(y,.ref l2)] (UK xs ys):=by
 intro M b H hs hn
 obtain ⟨⟨a1,us,e1,q1,r1⟩,_⟩:=asK.rep (hn _ (.head _)) h1
 obtain ⟨⟨a2,ws,e2,q2,r2⟩,_⟩:=asK.rep (hn _ (.tail _ (.head _))) h2
 cases e1
 cases e2
 have hlen:(UK xs ys).length=xs.length:=by simp [UK];omega
 refine ⟨fun i d e=>?_,fun i hi=>⟨⟨us,q1,by rw [r1.length,<- hlen];exact hi⟩,⟨ws,q2⟩⟩⟩
 have hi:i<xs.length:=by rw [<- hlen];exact (List.getElem?_eq_some_iff.mp e).1
 obtain ⟨u,eu,ru⟩:=r1.get (List.getElem?_eq_getElem hi)
 obtain ⟨w,ew,rw'⟩:=r2.get (List.getElem?_eq_getElem (Nat.lt_of_lt_of_le hi hl))
 refine ⟨⟨us,ws,u,w,q1,eu,q2,ew⟩,fun v H3 ⟨t,y1,y2,ev,ht,eH,k1,k2⟩=>?_⟩
 subst ev eH
 have z1:=k1 us q1
 have z2:=k2 ws q2
 rw [eu] at z1;cases z1
 rw [ew] at z2;cases z2
 refine ⟨Same.upd ht,?_⟩
 have ed:d=.tup [xs[i],ys[i]'(Nat.lt_of_lt_of_le hi hl)]:=by
  have:(UK xs ys)[i]?=some (.tup [xs[i],ys[i]'(Nat.lt_of_lt_of_le hi hl)]):=by
   simp [UK,List.getElem?_zipWith,hi,Nat.lt_of_lt_of_le hi hl]
  rw [this] at e;exact (Option.some.inj e).symm
 subst ed
 exact IW hs ⟨u,[w],rfl,ru,w,[],rfl,rw',rfl⟩ ht
theorem Q4i {elts:List Expr}{c1}{tpos:Pos}(hK:X.K=W.K)(t1 t2:Bool)(hg:Gl X "zip") (hm:X.mg "zip" = none) (ha:PA X [a,b] (dnA W dA))
 (h:PI X (.Tuple elts c1 tpos) (.Call (.Name "zip" p) [a,b] [] pos) (J5u W.K t1 t2 (dnA W dA))):PI X (.Tuple elts c1 tpos) (.Call (.Name "zip" p) [a,b] [] pos) (dnI W fz (Q1n fz t1 t2 dA)):=h.mono fun σ H R hh=>hh.elim fun pn M b ρ P st h k=>by
 refine ⟨pn,M,b,ρ,_,st,h,fun zs vs H1 hx rx k1 o1=>?_⟩
 match zs,hx with
 | [x,y],hx =>
   obtain ⟨v,u,rfl,r,r'⟩:=rx2 rx
   dsimp only at hx
   split at hx
   case h_2=>exact hx.elim
   case h_1 xs ys e1 e2 =>
    obtain ⟨⟨a1,us,z1,q1,r1⟩,f1⟩:=asK.rep r e1
    obtain ⟨⟨a2,ws,z2,q2,r2⟩,f2⟩:=asK.rep r' e2
    subst z1 z2
    refine ⟨a1,a2,rfl,⟨us,q1⟩,⟨ws,q2⟩,k _ _ _ H1 hx.2 (MR _ _) (Q3u e1 e2 hx.1) (fun q hq=>?_) k1 o1⟩
    rcases List.mem_cons.mp hq with z|z
    · subst z;exact ⟨r,f1⟩
    · have z:=List.mem_singleton.mp z
      subst z;exact ⟨r',f2⟩
end
noncomputable def GD (W:Wd)(g:TG)(gd:D->Ev->(Ev->Prop)->Prop):Prop:=∀ pn M b H σ ρ x v Q P,Sta W pn M b H σ ρ->RepX W M b H x v->plain x=true->gd x ρ P->(∀ ρ' σ',P ρ'->Sta W pn M b H σ' ρ'->(∀ (i:Nat) d,mine d=true->ρ'[i]?=some (some d)->ρ[i]?=some (some d)/\σ'[i]?=σ[i]?)->Q σ' H)->g v σ H Q
theorem Sta.set {W:Wd}{pn:List (D×V)} {H:Hp}{σ:St}{ρ:Ev}{x:D}{v:V}(s:Sta W pn M b H σ ρ)(j:Nat)(r:RepX W M b H x v):Sta W pn M b H (σ.set j (some v)) (ρ.set j (some x)) where
 toHs:=s.toHs
 kp:=s.kp
 new:=s.new
 len:=by simp [s.len]
 pin:=s.pin
 env:=fun i d e=>by
  by_cases z:j=i
  · subst z
    rw [List.getElem?_set] at e
    simp at e
    obtain ⟨hl,rfl⟩:=e
    exact ⟨v,by rw [List.getElem?_set];simp [<- s.len,hl],r⟩
  · rw [List.getElem?_set_ne z] at e
    obtain ⟨w,e1,r1⟩:=s.env i d e
    exact ⟨w,by rw [List.getElem?_set_ne z];exact e1,r1⟩
theorem SC {ρ:Ev}{σ:St}{j:Nat}{x:D}{v:V}(p:plain x=true):∀ (i:Nat) d,mine d=true->(ρ.set j (some x))[i]?=some (some d)->ρ[i]?=some (some d)/\(σ.set j (some v))[i]?=σ[i]?:=fun i d hm e=>by
 by_cases z:j=i
 · subst z
   rw [List.getElem?_set] at e
   simp at e
   obtain ⟨hl,rfl⟩:=e
   cases x<;>first|(cases hm;done)|(cases p;done)
 · rw [List.getElem?_set_ne z] at e
   exact ⟨e,by rw [List.getElem?_set_ne z]⟩
noncomputable def gdN (j:Nat):D->Ev->(Ev->Prop)->Prop:=fun x ρ P=>P (ρ.set j (some x))
theorem Z2 {W:Wd}(j:Nat):GD W (WL j) (gdN j):=fun pn M b H σ ρ x v Q P st r p h k=>k _ _ h (st.set j r) (SC p)
noncomputable def ND:List Nat->List D->Ev->Ev
 | j::js,x::xs,ρ=>ND js xs (ρ.set j (some x))
 | _,_,ρ=>ρ
noncomputable def GR:List Nat->TGs
 | []=>Q7j
 | j::js=>Q1p (WL j) (GR js)
noncomputable def Q7i (K:Fg)(n:Nat)(t:TGs):TG:=fun v σ H Q=>Q3x K n t v σ H Q\/Q7k K n t v σ H Q
noncomputable def gdU (js:List Nat):D->Ev->(Ev->Prop)->Prop:=fun x ρ P=>match x with
 | .tup xs=>xs.length=js.length/\P (ND js xs ρ)
 | .lst xs=>xs.length=js.length/\P (ND js xs ρ)
 | _=>False
theorem OC {W:Wd}{pn:List (D×V)} {H:Hp}{Q:St->Hp->Prop}{P:Ev->Prop}:∀ (js:List Nat) (xs:List D) (vs:List V) (σ:St) (ρ:Ev),Sta W pn M b H σ ρ->Reps W.K M H xs vs->xs.length=js.length->P (ND js xs ρ)->(∀ ρ' σ',P ρ'->Sta W pn M b H σ' ρ'->(∀ (i:Nat) d,mine d=true->ρ'[i]?=some (some d)->ρ[i]?=some (some d)/\σ'[i]?=σ[i]?)->Q σ' H)->GR js vs σ H Q
 | [],[],vs,σ,ρ,st,r,hl,h,k=>⟨r,k _ _ h st fun _ _ _ e=>⟨e,rfl⟩⟩
 | j::js,x::xs,vs,σ,ρ,st,r,hl,h,k=>by
   obtain ⟨v,us,rfl,r1,r2⟩:=r
   refine ⟨v,us,rfl,?_⟩
   have p:plain x=true:=by cases x<;>first|rfl|exact r1.elim
   refine OC js xs us _ (ρ.set j (some x)) (st.set j r1.x) r2 (by simpa using hl) h fun ρ' σ' hp st' ho=>k ρ' σ' hp st' fun i xs hm e=>?_
   obtain ⟨z1,z2⟩:=ho i xs hm e
   obtain ⟨z3,z4⟩:=SC (v:=v) (σ:=σ) p i xs hm z1
   exact ⟨z3,z2.trans z4⟩
theorem CO {W:Wd}(js:List Nat):GD W (Q7i W.K js.length (GR js)) (gdU js):=fun pn M b H σ ρ x v Q P st r p h k=>by
 cases x<;>first|exact h.elim|skip
 case tup xs =>
  obtain ⟨a,vs,rfl,hh,r⟩:=r
  exact .inl ⟨a,vs,rfl,hh.sq,by rw [r.length];exact h.1,OC js xs vs σ ρ st r h.1 h.2 k⟩
 case lst xs =>
  obtain ⟨a,vs,rfl,hh,r⟩:=r
  exact .inr ⟨a,vs,rfl,SqL.of hh.2,by rw [r.length];exact h.1,OC js xs vs σ ρ st r h.1 h.2 k⟩
theorem PG.or {X:Cx}{tg:Expr}{t u:TG}(h:PG X tg t)(h':PG X tg u):PG X tg (fun v σ H Q=>t v σ H Q\/u v σ H Q):=by
 intro pins s σ H v u' Q I r q
 rcases q with q|q
 · exact h pins s σ H v u' Q I r q
 · exact h' pins s σ H v u' Q I r q
theorem gkeep_seq {js:List Nat}{n:Nat}{map:List (Option Nat)}(hj:∀ j∈js,map[j]?=some none):HK (Q7i K n (GR js)) map:=by
 have key:∀ (js:List Nat),(∀ j∈js,map[j]?=some none)->∀ vs σ H Q,GR js vs σ H Q->GR js vs σ H fun σ' H'=>(σ'.length=σ.length/\∀ j i:Nat,map[j]?=some (some i)->σ'[j]?=σ[j]?)/\Q σ' H':=by
  intro js
  induction js with
  | nil=>intro _ vs σ H Q h;exact ⟨h.1,⟨rfl,fun _ _ _=>rfl⟩,h.2⟩
  | cons j js ih =>
    intro hj vs σ H Q h
    obtain ⟨v,r,e,h⟩:=h
    refine ⟨v,r,e,?_⟩
    have q:=ih (fun j' m=>hj j' (.tail _ m)) r _ H _ h
    have mono:∀ (js:List Nat) vs σ H (Q Q':St->Hp->Prop),(∀ s h,Q s h->Q' s h)->GR js vs σ H Q->GR js vs σ H Q':=by
     intro js
     induction js with
     | nil=>intro vs σ H Q Q' m h;exact ⟨h.1,m _ _ h.2⟩
     | cons j js ih=>intro vs σ H Q Q' m ⟨v,r,e,h⟩;exact ⟨v,r,e,ih _ _ _ _ _ m h⟩
    refine mono js r _ H _ _ (fun s h ⟨⟨l,z⟩,w⟩=>⟨⟨by rw [l];simp,fun j' i hm=>?_⟩,w⟩) q
    rw [z j' i hm]
    have n1:j≠j':=fun z=>by
     have:=hj j (.head _)
     rw [z,hm] at this;cases this
    rw [List.getElem?_set_ne n1]
 intro v σ H Q h
 rcases h with ⟨a,xs,e,s,l,h⟩|⟨a,xs,e,s,l,h⟩
 · exact .inl ⟨a,xs,e,s,l,key js hj _ _ _ _ h⟩
 · exact .inr ⟨a,xs,e,s,l,key js hj _ _ _ _ h⟩
noncomputable def HJ (ρ:Ev)(map:List (Option Nat)):Ev:=map.map fun o=>o.bind fun i=>(ρ[i]?).join
noncomputable def TF (gd:D->Ev->(Ev->Prop)->Prop)(dt:DT)(de:DE)(ρc:Ev):List D->List D->(List D->Prop)->Prop
 | [],acc,P=>P acc
 | x::xs,acc,P=>gd x ρc fun ρ1=>dt ρ1 fun c=>IfP c (de ρ1 fun y=>plain y=true/\TF gd dt de ρc xs (acc++[y]) P) (TF gd dt de ρc xs acc P)
inductive compI (gd:D->Ev->(Ev->Prop)->Prop)(dt:DT)(de:DE)(ρc:Ev)(items:List D)(P:List D->Prop):Prop
 | mk (I:Nat->List D->Prop) (h0:I 0 []) (hs:∀ (i:Nat) x acc,items[i]?=some x->I i acc->gd x ρc fun ρ1=>dt ρ1 fun c=>IfP c (de ρ1 fun y=>plain y=true/\I (i+1) (acc++[y])) (I (i+1) acc)) (hd:∀ acc,I items.length acc->P acc):compI gd dt de ρc items P
theorem J7e {gd:D->Ev->(Ev->Prop)->Prop}{dt:DT}{de:DE}{ρc:Ev}{items:List D}{P:List D->Prop}(h:TF gd dt de ρc items [] P):compI gd dt de ρc items P:=by
 refine ⟨fun i acc=>TF gd dt de ρc (items.drop i) acc P,h,fun i x acc e q=>?_,fun acc q=>?_⟩
 · obtain ⟨hlt,rfl⟩:=List.getElem?_eq_some_iff.mp e
   try dsimp only at q
   rw [List.drop_eq_getElem_cons hlt] at q
   exact q
 · (try dsimp only at q);rw [List.drop_length] at q;exact q
noncomputable def J6x (map:List (Option Nat))(gd:D->Ev->(Ev->Prop)->Prop)(di:DA)(dt:DT)(de:DE):DE:=fun ρ P=>di ρ fun items=>items.length<=1000/\compI gd dt de (HJ ρ map) items fun acc=>P (.lst acc)
theorem Sta.capt {W:Wd}{pn:List (D×V)} {H:Hp}{σ:St}{ρ:Ev}(s:Sta W pn M b H σ ρ)(map:List (Option Nat)):Sta W pn M b H (capt σ map) (HJ ρ map) where
 toHs:=s.toHs
 kp:=s.kp
 new:=s.new
 len:=by simp [L2.capt,HJ]
 pin:=s.pin
 env:=fun j d e=>by
  unfold HJ at e
  rw [List.getElem?_map] at e
  simp only [Option.map_eq_some_iff] at e
  obtain ⟨o,e1,e2⟩:=e
  simp only [Option.bind_eq_some_iff] at e2
  obtain ⟨i,rfl,e3⟩:=e2
  have e4:ρ[i]?=some (some d):=by
   cases q:ρ[i]? with
   | none=>rw [q] at e3;cases e3
   | some z=>rw [q] at e3;exact congrArg some e3
  obtain ⟨v,e5,r⟩:=s.env i d e4
  exact ⟨v,by unfold L2.capt;rw [List.getElem?_map,e1];simp [e5],r⟩
theorem IH {W:Wd}{pn:List (D×V)}{M:Addr->Prop}{b:Option Addr}{H:Hp}{σ:St}{ρ:Ev}{J:It}{need:List (D×V)}{items:List D}{g:TG}{gd:D->Ev->(Ev->Prop)->Prop}{dt:DT}{de:DE}{P:List D->Prop}{Fin:List V->Hp->Prop}
 (hG:GD W g gd) (st:Sta W pn M b H σ ρ) (hp:items.all plain=true) (hI:UJ W J need items) (hn:∀ q∈need,RepX W M b H q.1 q.2) (hl:items.length<=1000) (h:compI gd dt de ρ items P)
 (fin:∀ ds acc H',P ds->Reps W.K M H' ds acc->acc.length<=sizeLine->Kp b H H'->okB W.B b H'->Fin acc H'):∃ Wf:Nat->Nat->List V->Hp->Prop,(∃ m,Wf 0 m [] H)/\OL J g (dnT W dt) (dn W de) σ Fin Wf:=by
 obtain ⟨I,i0,istep,idone⟩:=h
 refine ⟨fun i m acc H2=>m=items.length - i/\i<=items.length/\acc.length<=i/\Kp b H H2/\okB W.B b H2/\∃ ds,Reps W.K M H2 ds acc/\I i ds,⟨items.length,by simp,Nat.zero_le _,Nat.le_refl _,Kp.refl _ _,st.ok,[],rfl,i0⟩,?_⟩
 rintro i m acc H2 ⟨rfl,hi,ha,k2,o2,ds,r,q⟩
 have st2:=st.step k2 o2
 obtain ⟨hgo,hstop⟩:=hI M b H2 st2.toHs fun q hq=>(hn q hq).step st.bagM k2
 by_cases hlt:i<items.length
 · have ei:items[i]?=some items[i]:=List.getElem?_eq_getElem hlt
   replace q:=istep i _ ds ei q
   refine .inr ⟨(hgo i _ ei).1,by have:=DK;omega,fun acc' H'=>acc'.length<=i+1/\Kp b H H'/\okB W.B b H'/\∃ ds,Reps W.K M H' ds acc'/\I (i+1) ds,fun acc' H' n=>⟨items.length - (i+1),by omega,rfl,hlt,n⟩,fun x H3 y=>?_⟩
   obtain ⟨S3,rx⟩:=(hgo i _ ei).2 x H3 y
   have o3:okB W.B b H3:=fun p e=>W.B.st p H2 H3 (o2 p e) fun o e'=>S3 p o e'
   have k3:Kp b H2 H3:=Kp.same S3
   have st3:=st2.step k3 o3
   refine hG pn M b H3 σ ρ items[i] x _ _ st3 rx (List.all_eq_true.mp hp _ (List.getElem_mem hlt)) q fun ρ1 σ1 h1 st4 _=>?_
   refine ⟨pn,M,b,ρ1,_,st4,h1,fun c H5 h5 k5 o5=>?_⟩
   cases h5 with
   | t e h5 =>
     rw [if_pos e]
     refine ⟨pn,M,b,ρ1,_,st4.step k5 o5,h5,fun y v H6 h6 ry k6 o6=>?_⟩
     have kk:=((k3.trans k5).trans k6)
     refine ⟨by simp;omega,k2.trans kk,o6,ds++[y],Reps.append (Reps.keep (fun c o n e=>kk c o (fun z=>n (st.bagM c z)) e) _ _ r) ⟨v,[],rfl,ry.rep h6.1,rfl⟩,h6.2⟩
   | f e h5 =>
     rw [if_neg (by rw [e];exact Bool.false_ne_true)]
     have kk:=k3.trans k5
     exact ⟨by omega,k2.trans kk,o5,ds,Reps.keep (fun c o n e=>kk c o (fun z=>n (st.bagM c z)) e) _ _ r,h5⟩
 · have e:i=items.length:=by omega
   subst e
   exact .inl ⟨hstop _ (Nat.le_refl _),by have:=DK;omega,fin ds acc H2 (idone _ q) r (by have:=DK;omega) k2 o2⟩
section
variable {X:Cx}{W:Wd}{elt iter tg:Expr}{ifs:List Expr}{scope:Scope}{pos:Pos}{N':List Str}{map:List (Option Nat)}{g:TG}{gd:D->Ev->(Ev->Prop)->Prop}{di:DA}{dt:DT}{de:DE}
theorem Q0r (hG:GD W g gd)(B:Blk X N' scope map tg elt ifs g (dnT W dt) (dn W de))(hi:PI X tg iter (dnI W false di))(hs:∀ x,foldedSetIterable iter X.env x=pure x:=by intro _;rfl):PE X (.ListComp elt [⟨tg,iter,ifs,0⟩] scope pos) (dn W (J6x map gd di dt de)):=(J0e B hi hs).mono fun σ H Q hh=>hh.elim fun pn M b ρ P st h k=>by
 refine ⟨pn,M,b,ρ,_,st,h,fun items J need H1 hx hp hI hn k1 o1=>?_⟩
 have st1:=st.step k1 o1
 refine IH hG (st1.capt map) hp hI (fun q hq=>(hn q hq).1) hx.1 hx.2 fun ds acc H' hP r hl k2 o2 D hD=>?_
 exact k _ _ _ hP (GZ (st1.step k2 o2).toHs r hD) ((k1.trans k2).trans (Kp.upd hD)) ((st1.step k2 o2).okU hD)
noncomputable def OF:DT:=fun _ P=>P true
theorem Q0p:PIf X [] (dnT W OF):=fun pins s σ H Q I hh=>hh.elim fun pn M b ρ P st h k=>J9b pins s σ H Q I (k true H h (Kp.refl _ _) st.ok)
theorem Q0o {c:Expr}(hc:PT X c (dnT W dt)):PIf X [c] (dnT W dt):=J9a hc
end
structure StS (W:Wd)(pn:List (D×V))(M:Addr->Prop)(b:Option Addr)(H:Hp)(σ:St)(ρ:Ev):Prop extends Sta W pn M b H σ ρ where
 dj:∀ (i j:Nat) d e v u c,ρ[i]?=some (some d)->ρ[j]?=some (some e)->σ[i]?=some (some v)->σ[j]?=some (some u)->HH d v c->HH e u c->i=j
 lj:∀ ys a,(D.own ys,V.ref a)∈pn->∀ (i:Nat) d v,ρ[i]?=some (some d)->σ[i]?=some (some v)->¬ HH d v a
theorem StS.own {W:Wd}{pn:List (D×V)} {H:Hp}{σ:St}{ρ:Ev}(s:StS W pn M b H σ ρ):∀ (i j:Nat) xs ys a,ρ[i]?=some (some (.own xs))->ρ[j]?=some (some (.own ys))->σ[i]?=some (some (.ref a))->σ[j]?=some (some (.ref a))->i=j:=fun i j xs ys a e1 e2 e3 e4=>s.dj i j _ _ _ _ a e1 e2 e3 e4 rfl rfl
theorem StS.lk {W:Wd}{pn:List (D×V)} {H:Hp}{σ:St}{ρ:Ev}(s:StS W pn M b H σ ρ):∀ ys a,(D.own ys,V.ref a)∈pn->∀ (i:Nat) xs,ρ[i]?=some (some (.own xs))->σ[i]?≠some (some (.ref a)):=fun ys a hq i xs e y=>s.lj ys a hq i _ _ e y rfl
theorem StS.step {W:Wd}{pn:List (D×V)} {H H':Hp}{σ:St}{ρ:Ev}(s:StS W pn M b H σ ρ)(k:Kp b H H')(o:okB W.B b H'):StS W pn M b H' σ ρ:=⟨s.toSta.step k o,s.dj,s.lj⟩
theorem StS.of2 {W:Wd}{pn pn':List (D×V)}{M M':Addr->Prop}{b b':Option Addr}{H H':Hp}{σ σ':St}{ρ ρ':Ev}(s:StS W pn M b H σ ρ)(t:Sta W pn' M' b' H' σ' ρ')(hp:∀ ys a,(D.own ys,V.ref a)∈pn'->(D.own ys,V.ref a)∈pn)(h:∀ (i:Nat) d v c,ρ'[i]?=some (some d)->σ'[i]?=some (some v)->HH d v c->∃ d0,ρ[i]?=some (some d0)/\σ[i]?=some (some v)/\HH d0 v c):StS W pn' M' b' H' σ' ρ' :=
 ⟨t,fun i j d e v u c e1 e2 e3 e4 m1 m2=>by
  obtain ⟨d0,z1,z2,z3⟩:=h i d v c e1 e3 m1
  obtain ⟨d1,y1,y2,y3⟩:=h j e u c e2 e4 m2
  exact s.dj i j d0 d1 v u c z1 y1 z2 y2 z3 y3,fun ys a hq i d v e1 e2 m=>by
  obtain ⟨d0,z1,z2,z3⟩:=h i d v a e1 e2 m
  exact s.lj ys a (hp ys a hq) i d0 v z1 z2 z3⟩
theorem StS.of {W:Wd}{pn:List (D×V)}{M M':Addr->Prop}{b b':Option Addr}{H H':Hp}{σ σ':St}{ρ ρ':Ev}(s:StS W pn M b H σ ρ)(t:Sta W pn M' b' H' σ' ρ')(h:∀ (i:Nat) d,mine d=true->ρ'[i]?=some (some d)->ρ[i]?=some (some d)/\σ'[i]?=σ[i]?):StS W pn M' b' H' σ' ρ' :=
 s.of2 t (fun _ _ q=>q) fun i d v c e1 e2 m=>by
  obtain ⟨z1,z2⟩:=h i d m.m e1
  exact ⟨d,z1,z2▸e2,m⟩
theorem StS.add {W:Wd}{pn:List (D×V)}{M M':Addr->Prop}{b b':Option Addr}{H H':Hp}{σ:St}{ρ:Ev}(s:StS W pn M b H σ ρ)(i:Nat){d:D}{v:V}(t:Sta W pn M' b' H' (σ.set i (some v)) (ρ.set i (some d)))(h:∀ c,HH d v c->¬ M c):StS W pn M' b' H' (σ.set i (some v)) (ρ.set i (some d)):=by
 have slot:∀ (j:Nat) e u,(ρ.set i (some d))[j]?=some (some e)->(σ.set i (some v))[j]?=some (some u)->(j=i/\e=d/\u=v)\/(j≠i/\ρ[j]?=some (some e)/\σ[j]?=some (some u)):=fun j e u e1 e2=>by
  by_cases z:i=j
  · subst z
    rw [List.getElem?_set] at e1 e2
    simp at e1 e2
    exact .inl ⟨rfl,e1.2.symm,e2.2.symm⟩
  · rw [List.getElem?_set_ne z] at e1 e2
    exact .inr ⟨fun y=>z y.symm,e1,e2⟩
 have old:∀ (j:Nat) e u c,ρ[j]?=some (some e)->σ[j]?=some (some u)->HH e u c->M c:=fun j e u c e1 e2 m=>by
  obtain ⟨w,e3,r⟩:=s.env j e e1
  rw [e2] at e3;cases e3
  exact (r.mine m).1
 refine ⟨t,fun j k e f u w c e1 e2 e3 e4 m1 m2=>?_,fun ys a hq j e u e1 e2 m=>?_⟩
 · rcases slot j e u e1 e3 with ⟨z1,z2,z3⟩|⟨z1,z2,z3⟩<;>rcases slot k f w e2 e4 with ⟨y1,y2,y3⟩|⟨y1,y2,y3⟩
   · rw [z1,y1]
   · subst z2 z3;exact absurd (old k f w c y2 y3 m2) (h c m1)
   · subst y2 y3;exact absurd (old j e u c z2 z3 m1) (h c m2)
   · exact s.dj j k e f u w c z2 y2 z3 y3 m1 m2
 · rcases slot j e u e1 e2 with ⟨z1,z2,z3⟩|⟨z1,z2,z3⟩
   · subst z2 z3
     obtain ⟨a2,us2,ev,n1,_⟩:=(s.pin _ hq)
     cases ev
     exact absurd n1 (h a m)
   · exact s.lj ys a hq j e u z2 z3 m
structure DEnds where
 nx:Ev->Prop
 rt:D->Prop
 bk:Ev->Prop:=fun _=>False
 ct:Ev->Prop:=fun _=>False
 ro:List D->Prop:=fun _=>False
noncomputable abbrev DS:=DEnds->Ev->Prop
structure Link (W:Wd)(pn:List (D×V))(E:Ends)(F:DEnds):Prop where
 nx:∀ M b ρ σ H,StS W pn M b H σ ρ->F.nx ρ->E.nx σ H
 rt:∀ d v H,F.rt d->Rep W.K W.M0 H d v->Kp W.b0 W.H0 H->okB W.B W.b0 H->E.rt v H
 bk:∀ M b ρ σ H,StS W pn M b H σ ρ->F.bk ρ->E.bk σ H
 ct:∀ M b ρ σ H,StS W pn M b H σ ρ->F.ct ρ->E.ct σ H
 ro:∀ xs a vs H,F.ro xs->W.H0 a=none->¬ W.M0 a->H a=some (.lst vs)->Reps W.K (fun c=>W.M0 c\/c=a) H xs vs->Kp W.b0 W.H0 H->okB W.B W.b0 H->E.rt (.ref a) H
noncomputable def sn (W:Wd)(d:DS):TS:=fun E σ H=>∃ pn M b ρ F,StS W pn M b H σ ρ/\Link W pn E F/\d F ρ
theorem sn.elim {W:Wd}{d:DS}{E:Ends}{σ:St}{H:Hp}{Z:Prop}(h:sn W d E σ H)(f:∀ pn M b ρ F,StS W pn M b H σ ρ->Link W pn E F->d F ρ->Z):Z:=by
 obtain ⟨pn,M,b,ρ,F,s,l,h⟩:=h
 exact f pn M b ρ F s l h
section
variable {X:Cx}{W:Wd}{e a b c tg iter l:Expr}{es:List Expr}{pos p:Pos}{d db de:DE}{dA di:DA}{dt:DT}{st:Stmt}{rest sts:List Stmt}{d1 d2:DS}{t:TS}
theorem PS.mono {t':TS}(h:PS X st t)(m:∀ E σ H,t' E σ H->t E σ H):PS X st t':=fun pins s σ H D I q=>h pins s σ H D I (m D σ H q)
theorem PSs.mono {t':TS}(h:PSs X sts t)(m:∀ E σ H,t' E σ H->t E σ H):PSs X sts t':=fun pins s σ H D I q=>h pins s σ H D I (m D σ H q)
noncomputable def J6v:DS:=fun F ρ=>F.nx ρ
noncomputable def Q4w (d1 d2:DS):DS:=fun F ρ=>d1 { F with nx:=d2 F } ρ
theorem Q0i:PSs X [] (sn W J6v):=IS.mono fun E σ H hh=>hh.elim fun pn M b ρ F s l h=>l.nx _ _ _ _ _ s h
theorem Q0h (h:PS X st (sn W d1)):PSs X [st] (sn W d1):=BD h
theorem J6e (h1:PS X st (sn W d1))(h2:PSs X rest (sn W d2)):PSs X (st::rest) (sn W (Q4w d1 d2)):=(AI h1 h2).mono fun E σ H hh=>hh.elim fun pn M b ρ F s l h=>⟨pn,M,b,ρ,{ F with nx:=d2 F },s,⟨fun M b ρ σ H s' h'=>⟨pn,M,b,ρ,F,s',l,h'⟩,l.rt,l.bk,l.ct,l.ro⟩,h⟩
noncomputable def Q4x (de:DE):DS:=fun F ρ=>de ρ fun x=>match x with|.own xs=>F.rt (.lst xs)|.bag=>False|.frg _ _=>False|x=>F.rt x
theorem J8u {b:Option Addr}{H:Hp}{x:D}{v:V}(hs:Hs W M b H)(r:Rep W.K M H x v):Rep W.K W.M0 H x v:=Rep.avoid (fun c m=>.inl (hs.m0 c m)) _ _ r
theorem Q4d (he:PE X e (dn W de)):PS X (.Return (some e) pos) (sn W (Q4x de)):=(CK he).mono fun E σ H hh=>hh.elim fun pn M b ρ F s l h=>by
 refine ⟨pn,M,b,ρ,_,s.toSta,h,fun x v H' hx rx k o=>?_⟩
 have s':=s.toSta.step k o
 cases x
 case own xs =>
  obtain ⟨a,vs,rfl,m,n,n0,m0,hh,r⟩:=rx
  exact l.rt _ _ H' hx ⟨a,vs,rfl,⟨m0,hh⟩,Reps.avoid (fun c m=>.inl (s'.m0 c m)) _ _ r⟩ s'.kp s'.ok0
 case bag=>exact hx.elim
 case frg=>exact hx.elim
 all_goals exact l.rt _ _ H' hx (J8u s'.toHs (RepX.rep rx rfl)) s'.kp s'.ok0
noncomputable def Q1v (de:DE):DS:=fun F ρ=>de ρ fun _=>F.nx ρ
theorem Q0l (he:PE X e (dn W de))(hs:swapsWith e none pos.line X.env=pure false:=by rfl):PS X (.Expr e pos) (sn W (Q1v de)):=(RZ he hs).mono fun E σ H hh=>hh.elim fun pn M b ρ F s l h=>⟨pn,M,b,ρ,_,s.toSta,h,fun x v H' hx rx k o=>l.nx _ _ _ _ _ (s.step k o) hx⟩
noncomputable def Q4z (dt:DT)(d1 d2:DS):DS:=fun F ρ=>dt ρ fun c=>IfP c (d1 F ρ) (d2 F ρ)
theorem Q7p {s1 s2:List Stmt}(hc:PT X c (dnT W dt))(ha:PSs X s1 (sn W d1))(hb:PSs X s2 (sn W d2)):PS X (.If c s1 s2 pos) (sn W (Q4z dt d1 d2)):=(VT hc ha hb).mono fun E σ H hh=>hh.elim fun pn M b ρ F s l h=>by
 refine ⟨pn,M,b,ρ,_,s.toSta,h,fun x H' hx k o=>?_⟩
 cases hx with
 | t e hx=>rw [if_pos e];exact ⟨pn,M,b,ρ,F,s.step k o,l,hx⟩
 | f e hx=>rw [if_neg (by rw [e];exact Bool.false_ne_true)];exact ⟨pn,M,b,ρ,F,s.step k o,l,hx⟩
noncomputable def J3g (de:DE)(gd:D->Ev->(Ev->Prop)->Prop):DS:=fun F ρ=>de ρ fun x=>plain x=true/\gd x ρ F.nx
theorem J3r {g:TG}{gd:D->Ev->(Ev->Prop)->Prop}(hG:GD W g gd):∀ E σ H,sn W (J3g de gd) E σ H->Q2q (dn W de) g E σ H:=fun E σ H hh=>hh.elim fun pn M b ρ F s l h=>by
 refine ⟨pn,M,b,ρ,_,s.toSta,h,fun x v H' hx rx k o=>?_⟩
 exact hG pn M b H' σ ρ x v E.nx F.nx (s.toSta.step k o) rx hx.1 hx.2 fun ρ' σ' hp st' ho=>l.nx _ _ _ _ _ (s.of st' ho) hp
theorem Q4c {i:Nat} {x:Str} {pos':Pos} (hN:X.N.Nodup) (hi:X.N[i]?=some x) (hx:Loc X.env.scope x) (he:PE X e (dn W de)) (hs:swapsWith e (some (.Name x pos')) pos.line X.env=pure false:=by rfl) (hf:X.fn x=true\/X.env.scope.names.lookup x=some .local:=by first|exact .inl rfl|exact .inr rfl|assumption) :
 PS X (.Assign [.Name x pos'] e pos) (sn W (J3g de (gdN i))):=(EW hN hi hx he hs hf).mono (J3r (Z2 i))
theorem Q4g {g:TG}{gd:D->Ev->(Ev->Prop)->Prop}(hG:GD W g gd)(he:PE X e (dn W de))(hg:PG X tg g)(hs:swapsWithSole [tg] e pos.line X.env=pure false:=by rfl)(hw:swappedStores [tg] e X.env=pure none:=by rfl)
 (h1:(assignEach [tg] X.env).map (·.2)=[assign tg X.env]:=by rfl):PS X (.Assign [tg] e pos) (sn W (J3g de gd)):=(YF he hg hs hw h1).mono (J3r hG)
theorem StS.newOwn {pn:List (D×V)} {b:Option Addr}{H:Hp}{σ:St}{ρ:Ev}{xs:List D}{vs:List V}{p:Addr}(s:StS W pn M b H σ ρ)(i:Nat)(r:Reps W.K M H xs vs)(h:H p=none) :
 StS W pn (fun c=>M c\/c=p) b (upd H p (.lst vs)) (σ.set i (some (.ref p))) (ρ.set i (some (.own xs))):=by
 have hM:∀ c,(M c\/c=p)->M c\/H c=none:=fun c hc=>hc.imp id (fun z=>by rw [z];exact h)
 have kk:∀ c o,H c=some o->upd H p (.lst vs) c=some o:=fun c o e=>Same.upd h c o e
 have rep:∀ d v,Rep W.K M H d v->Rep W.K (fun c=>M c\/c=p) (upd H p (.lst vs)) d v:=fun d v r=>Rep.keep (fun c o _ e=>kk c o e) _ _ (Rep.avoid hM _ _ r)
 have reps:∀ d v,Reps W.K M H d v->Reps W.K (fun c=>M c\/c=p) (upd H p (.lst vs)) d v:=fun d v r=>Reps.keep (fun c o _ e=>kk c o e) _ _ (Reps.avoid hM _ _ r)
 have hbp:b≠some p:=fun z=>by
  obtain ⟨o,e⟩:=W.B.dm p H (s.ok p z)
  rw [h] at e;cases e
 have h0:W.H0 p=none:=by
  cases q:W.H0 p with
  | none=>rfl
  | some o =>
    by_cases z:W.b0=some p
    · rcases s.new with y|⟨y,_⟩
      · exact absurd (y.trans z) hbp
      · rw [y] at z;cases z
    · have:=s.kp p o z q
      rw [h] at this;cases this
 have hm0:¬ W.M0 p:=fun z=>s.toHs.new h (s.m0 p z)
 refine s.add i ⟨⟨s.toHs.okU h,fun q e=>.inl (s.bagM q e),fun c hc=>?_,fun c m=>.inl (s.m0 c m)⟩,fun c o n e=>kk c o (s.kp c o n e),s.new,fun j d e=>?_,by simp [s.len],fun q hq=>(s.pin q hq).to rep reps fun xs a vs _ _ m n hh=>⟨.inl m,n,kk _ _ hh⟩⟩ fun c m=>by
  cases (show V.ref p=V.ref c from m)
  exact s.toHs.new h
 · rcases hc with hc|hc
   · obtain ⟨o,e⟩:=s.dom c hc;exact ⟨o,kk c o e⟩
   · rw [hc];exact ⟨_,AC⟩
 · by_cases z:i=j
   · subst z
     rw [List.getElem?_set] at e
     simp at e
     obtain ⟨hl,rfl⟩:=e
     exact ⟨.ref p,by rw [List.getElem?_set];simp [<- s.len,hl],p,vs,rfl,.inr rfl,hbp,h0,hm0,AC,reps _ _ r⟩
   · rw [List.getElem?_set_ne z] at e
     obtain ⟨w,e1,r1⟩:=s.env j d e
     refine ⟨w,by rw [List.getElem?_set_ne z];exact e1,?_⟩
     cases d
     case own ys =>
      obtain ⟨a,us,rfl,m1,m2,m3,m4,hh,r'⟩:=r1
      exact ⟨a,us,rfl,.inl m1,m2,m3,m4,kk _ _ hh,reps _ _ r'⟩
     case bag=>exact r1
     case frg f _=>exact RepX.move r1 (fun c _ m n=>⟨.inl m,n⟩) (fun c o _ e=>kk c o e) hM
     all_goals exact rep _ _ r1
theorem StS.setOwn {pn:List (D×V)} {b:Option Addr}{H:Hp}{σ:St}{ρ:Ev}{xs ys:List D}{vs:List V}{a:Addr}(s:StS W pn M b H σ ρ)(i:Nat)(e:ρ[i]?=some (some (.own xs)))(ea:σ[i]?=some (some (.ref a)))(r:Reps W.K M H ys vs) :
 StS W pn M b (upd H a (.lst vs)) σ (ρ.set i (some (.own ys))):=by
 obtain ⟨v,e1,a',us,ev,m1,m2,m3,m4,hh,r'⟩:=s.env i _ e
 rw [ea] at e1;cases e1;cases ev
 have kk:∀ c o,¬ M c->H c=some o->upd H a (.lst vs) c=some o:=fun c o n q=>by rw [V9 (show c≠a from fun z=>n (by rw [z];exact m1))];exact q
 have kb:∀ c o,c≠a->H c=some o->upd H a (.lst vs) c=some o:=fun c o n q=>by rw [V9 n];exact q
 refine s.of2 ⟨⟨fun q z=>W.B.st q H _ (s.ok q z) fun o h=>kb q o (fun w=>m2 (w▸z)) h,s.bagM,fun c hc=>?_,s.m0⟩,fun c o n q=>kb c o (fun z=>by rw [z,m3] at q;cases q) (s.kp c o n q),s.new,fun j d e'=>?_,by simp [s.len],fun q hq=>(s.pin q hq).to (fun _ _ r=>Rep.keep kk _ _ r) (fun _ _ r=>Reps.keep kk _ _ r) fun zs a2 us ed ev m n hh2=>⟨m,n,kb _ _ (fun y=>s.lk zs a2 (by rw [<- ed,<- ev];exact hq) i xs e (by rw [y];exact ea)) hh2⟩⟩ (fun _ _ q=>q) fun j d v c e' e2 m=>?_
 · by_cases z:c=a
   · rw [z];exact ⟨_,AC⟩
   · obtain ⟨o,q⟩:=s.dom c hc;exact ⟨o,kb c o z q⟩
 · by_cases z:i=j
   · subst z
     rw [List.getElem?_set] at e'
     simp at e'
     obtain ⟨hl,rfl⟩:=e'
     exact ⟨.ref a,ea,a,vs,rfl,m1,m2,m3,m4,AC,Reps.keep kk _ _ r⟩
   · rw [List.getElem?_set_ne z] at e'
     obtain ⟨w,e1,r1⟩:=s.env j d e'
     refine ⟨w,e1,?_⟩
     cases d
     case own zs =>
      obtain ⟨a2,us2,rfl,n1,n2,n3,n4,hh2,r2⟩:=r1
      have na:a2≠a:=fun y=>z (s.own i j xs zs a e e' ea (y▸e1))
      exact ⟨a2,us2,rfl,n1,n2,n3,n4,kb _ _ na hh2,Reps.keep kk _ _ r2⟩
     case bag=>exact r1
     case frg f _ =>
      have na:a∉f.ads:=fun y=>z (s.dj i j _ _ _ _ a e e' ea e1 rfl y)
      exact RepX.move r1 (fun c _ m n=>⟨m,n⟩) (fun c o q h=>kb c o (fun y=>q.elim (fun n=>n (by rw [y];exact m1)) (fun n=>na (by rw [<- y];exact n))) h) fun c m=>.inl m
     all_goals exact Rep.keep kk _ _ r1
 · by_cases z:i=j
   · subst z
     rw [List.getElem?_set] at e'
     simp at e'
     obtain ⟨_,rfl⟩:=e'
     exact ⟨_,e,e2,m⟩
   · rw [List.getElem?_set_ne z] at e'
     exact ⟨d,e',e2,m⟩
noncomputable def Q1u (i:Nat)(dA:DA):DS:=fun F ρ=>dA ρ fun xs=>GE xs=true/\F.nx (ρ.set i (some (.own xs)))
theorem Q0k {i:Nat} {x:Str} {pos' lpos:Pos} (hN:X.N.Nodup) (hi:X.N[i]?=some x) (hx:Loc X.env.scope x) (ha:PA X es (dnA W dA)) (hs:swapsWith (.List es lpos) (some (.Name x pos')) pos.line X.env=pure false:=by rfl) (hf:X.fn x=true\/X.env.scope.names.lookup x=some .local:=by first|exact .inl rfl|exact .inr rfl|assumption) :
 PS X (.Assign [.Name x pos'] (.List es lpos) pos) (sn W (Q1u i dA)):=(EW hN hi hx (SB ha) hs hf).mono fun E σ H hh=>hh.elim fun pn M b ρ F s l h=>by
 refine ⟨pn,M,b,ρ,_,s.toSta,h,fun xs vs H' hx rx k o=>?_⟩
 have rr:=rx.reps _ _ (GE.pl hx.1)
 exact ⟨by rw [rr.length];exact GE.len hx.1,fun q hq=>l.nx _ _ _ _ _ ((s.step k o).newOwn i rr hq) hx.2⟩
noncomputable def Q1t (own:Bool)(i:Nat)(map:List (Option Nat))(gd:D->Ev->(Ev->Prop)->Prop)(di:DA)(dt:DT)(de:DE):DS:=fun F ρ=>di ρ fun items=>items.length<=1000/\compI gd dt de (HJ ρ map) items fun acc=>F.nx (ρ.set i (some (if own then .own acc else .lst acc)))
theorem Q0j {elt iter tg:Expr}{ifs:List Expr}{scope:Scope}{N':List Str}{map:List (Option Nat)}{g:TG}{gd:D->Ev->(Ev->Prop)->Prop}(own:Bool){i:Nat}{y:Str}{py spos:Pos}(hN:X.N.Nodup)(hiN:X.N[i]?=some y)(hy:Loc X.env.scope y)(hG:GD W g gd)(B:Blk X N' scope map tg elt ifs g (dnT W dt) (dn W de))(hi:PI X tg iter (dnI W false di))
 (hsw:swapsWith (.ListComp elt [⟨tg,iter,ifs,0⟩] scope pos) (some (.Name y py)) spos.line X.env=pure true:=by rfl) (hfn:X.fn y=true\/X.env.scope.names.lookup y=some .local:=by first|exact .inl rfl|exact .inr rfl)
 (hs:∀ x,foldedSetIterable iter X.env x=pure x:=by intro _;rfl):PS X (.Assign [.Name y py] (.ListComp elt [⟨tg,iter,ifs,0⟩] scope pos) spos) (sn W (Q1t own i map gd di dt de)):=(YE hN hiN hy B hi hsw hfn hs).mono fun E σ H hh=>hh.elim fun pn M b ρ F s l h=>by
 refine ⟨pn,M,b,ρ,_,s.toSta,h,fun items J need H1 hx hp hI hn k1 o1=>?_⟩
 have s1:=s.step k1 o1
 refine IH hG (s1.toSta.capt map) hp hI (fun q hq=>(hn q hq).1) hx.1 hx.2 fun ds acc H' hP r hl k2 o2 q hq=>?_
 have s2:=s1.step k2 o2
 cases own
 · have s3:=(s2.step (Kp.upd (o:=.lst acc) hq) (s2.toHs.okU hq))
   exact l.nx _ _ _ _ _ (s3.of (s3.toSta.set i (GZ s2.toHs r hq)) (SC rfl)) hP
 · exact l.nx _ _ _ _ _ (s2.newOwn i r hq) hP
noncomputable def Q1a (i:Nat)(dA:DA):DS:=fun F ρ=>match ρ[i]? with
 | some (some (.own ys))=>dA ρ fun xs=>(match xs with | [y]=>(plain y&&decide (ys.length<1000))=true/\F.nx (ρ.set i (some (.own (ys++[y]))))|_=>False)
 | _=>False
theorem SD {pn:List (D×V)} {b:Option Addr}{H:Hp}{σ:St}{ρ:Ev}{i:Nat}{ys:List D}(s:Sta W pn M b H σ ρ)(e:ρ[i]?=some (some (.own ys))):∃ a vs,σ[i]?=some (some (.ref a))/\b≠some a/\H a=some (.lst vs)/\Reps W.K M H ys vs:=by
 obtain ⟨v,e1,a,us,rfl,m1,m2,m3,m4,hh,r⟩:=s.env i _ e
 exact ⟨a,us,e1,m2,hh,r⟩
theorem Q2d {i:Nat}:∀ E σ H,sn W (Q1a i dA) E σ H->J3u (tBM W.K "list" MI (XV i) (dnA W dA)) E σ H:=fun E σ H hh=>hh.elim fun pn M b ρ F s l h=>by
 unfold Q1a at h
 split at h
 case h_2=>exact h.elim
 case h_1 ys e =>
  obtain ⟨a,vs,ea,nb,hh,r⟩:=SD s.toSta e
  refine ⟨.ref a,ea,.inl ⟨rfl,vs,SqL.of hh⟩,pn,M,b,ρ,_,s.toSta,h,fun xs us H' hx rx k o=>?_⟩
  match xs,hx with
  | [y],hx =>
    obtain ⟨u,rfl,ru⟩:=rx1 rx
    obtain ⟨p1,p2⟩:=(Bool.and_eq_true _ _).mp hx.1
    have p2:=of_decide_eq_true p2
    have s':=s.step k o
    obtain ⟨a',vs',ea',nb',hh',r'⟩:=SD s'.toSta e
    rw [ea] at ea';cases ea'
    refine ⟨a,vs',u,rfl,rfl,hh',by rw [r'.length];have:=DK;omega,l.nx _ _ _ _ _ (s'.setOwn i e ea (Reps.append r' (show Reps W.K M H' [y] [u] from ⟨u,[],rfl,ru.rep p1,rfl⟩))) hx.2⟩
theorem J3a {i:Nat}{x:Str}{e:Expr}{npos apos cpos:Pos}(hK:X.K=W.K)(hN:X.N[i]?=some x)(hv:Vis X.env.scope x)(ha:PA X [e] (dnA W dA))
 (h:PE X (.Call (.Attribute (.Name x npos) "append" apos) [e] [] cpos) (tBM X.K "list" MI (XV i) (dnA W dA))) (hs:swapsWith (.Call (.Attribute (.Name x npos) "append" apos) [e] [] cpos) none pos.line X.env=pure false:=by rfl) :
 PS X (.Expr (.Call (.Attribute (.Name x npos) "append" apos) [e] [] cpos) pos) (sn W (Q1a i dA)):=(RZ (by rw [hK] at h;exact h) hs).mono Q2d
noncomputable def J1h (gd:D->Ev->(Ev->Prop)->Prop)(db:DS)(F:DEnds):List D->Ev->Prop
 | [],ρ=>F.nx ρ
 | x::xs,ρ=>gd x ρ fun ρ1=>db { F with nx:=J1h gd db F xs,ct:=J1h gd db F xs,bk:=F.nx } ρ1
inductive forI (gd:D->Ev->(Ev->Prop)->Prop)(db:DS)(F:DEnds)(items:List D)(ρ:Ev):Prop
 | mk (I:Nat->Ev->Prop) (h0:I 0 ρ) (hs:∀ (i:Nat) x ρ,items[i]?=some x->I i ρ->gd x ρ fun ρ1=>db { F with nx:=I (i+1),ct:=I (i+1),bk:=F.nx } ρ1) (hd:∀ ρ,I items.length ρ->F.nx ρ):forI gd db F items ρ
theorem Q0f {gd:D->Ev->(Ev->Prop)->Prop}{db:DS}{F:DEnds}{items:List D}{ρ:Ev}(h:J1h gd db F items ρ):forI gd db F items ρ:=by
 refine ⟨fun i ρ=>J1h gd db F (items.drop i) ρ,h,fun i x ρ e q=>?_,fun ρ q=>?_⟩
 · obtain ⟨hlt,rfl⟩:=List.getElem?_eq_some_iff.mp e
   try dsimp only at q
   rw [List.drop_eq_getElem_cons hlt] at q
   exact q
 · (try dsimp only at q);rw [List.drop_length] at q;exact q
noncomputable def Q0y (gd:D->Ev->(Ev->Prop)->Prop)(di:DA)(db:DS):DS:=fun F ρ=>di ρ fun items=>forI gd db F items ρ
theorem Sta.pins {pn pn':List (D×V)} {b:Option Addr}{H:Hp}{σ:St}{ρ:Ev}(s:Sta W pn M b H σ ρ)(h:∀ q∈pn',PinR W M b H q.1 q.2):Sta W pn' M b H σ ρ:=⟨s.toHs,s.kp,s.new,s.env,s.len,h⟩
theorem Q2b {g:TG}{gd:D->Ev->(Ev->Prop)->Prop}{db:DS}(hG:GD W g gd):∀ E σ H,sn W (Q0y gd di db) E σ H->Q6g (dnI W true di) g (sn W db) E σ H:=fun E σ H hh=>hh.elim fun pn M b ρ F s l h=>by
 refine ⟨pn,M,b,ρ,_,s.toSta,h,fun items J need H1 hx hp hI hn k1 o1=>?_⟩
 have s1:=s.step k1 o1
 have pins:∀ q∈need++pn,PinR W M b H1 q.1 q.2:=fun q hq=>(List.mem_append.mp hq).elim (fun z=>(hn q z).1.pin ((hn q z).2 rfl)) fun z=>s1.pin q z
 obtain ⟨I,i0,istep,idone⟩:=hx
 refine ⟨fun i m σ H=>m=items.length - i/\i<=items.length/\∃ M b ρ,StS W (need++pn) M b H σ ρ/\I i ρ,⟨items.length,by simp,Nat.zero_le _,M,b,ρ,⟨s1.toSta.pins pins,s1.dj,fun ys a hq=>(List.mem_append.mp hq).elim (fun z=>by have:=(hn _ z).2 rfl;cases this) fun z=>s1.lj ys a z⟩,i0⟩,?_⟩
 rintro i m σ2 H2 ⟨rfl,hi,M2,b2,ρ2,s2,q⟩
 have unp:∀ {M b ρ σ H},StS W (need++pn) M b H σ ρ->StS W pn M b H σ ρ:=fun s=>⟨s.toSta.pins fun q hq=>s.pin q (List.mem_append_right _ hq),s.dj,fun ys a hq=>s.lj ys a (List.mem_append_right _ hq)⟩
 obtain ⟨hgo,hstop⟩:=hI M2 b2 H2 s2.toHs fun q hq=>(s2.pin q (List.mem_append_left _ hq)).x
 by_cases hlt:i<items.length
 · have ei:items[i]?=some items[i]:=List.getElem?_eq_getElem hlt
   replace q:=istep i _ ρ2 ei q
   refine .inr ⟨(hgo i _ ei).1,fun σ' H'=>∃ M b ρ,StS W (need++pn) M b H' σ' ρ/\I (i+1) ρ,fun σ' H' n=>⟨items.length - (i+1),by omega,rfl,hlt,n⟩,fun x H3 y=>?_⟩
   obtain ⟨S3,rx⟩:=(hgo i _ ei).2 x H3 y
   have o3:okB W.B b2 H3:=fun p e=>W.B.st p H2 H3 (s2.ok p e) fun o e'=>S3 p o e'
   have s3:=s2.step (Kp.same S3) o3
   refine hG (need++pn) M2 b2 H3 σ2 ρ2 items[i] x _ _ s3.toSta rx (List.all_eq_true.mp hp _ (List.getElem_mem hlt)) q fun ρ1 σ1 h1 st4 ho=>?_
   exact ⟨need++pn,M2,b2,ρ1,{ F with nx:=I (i+1),ct:=I (i+1),bk:=F.nx },s3.of st4 ho,⟨fun M b ρ σ H s' h'=>⟨M,b,ρ,s',h'⟩,l.rt,fun M b ρ σ H s' h'=>l.nx _ _ _ _ _ (unp s') h',fun M b ρ σ H s' h'=>⟨M,b,ρ,s',h'⟩,l.ro⟩,h1⟩
 · have e:i=items.length:=by omega
   subst e
   exact .inl ⟨hstop _ (Nat.le_refl _),l.nx _ _ _ _ _ (unp s2) (idone _ q)⟩
theorem Q4e {g:TG}{gd:D->Ev->(Ev->Prop)->Prop}{db:DS}{body:List Stmt}(hG:GD W g gd)(hp:PassesOwn (model X.prog X.w) X.A X.env X.xe)(hc:X.calm=true)(hi:PI X tg iter (dnI W true di))(hg:PG X tg g)(hb:PSs X body (sn W db))
 (hs:∀ x,foldedSetIterable iter X.env x=pure x:=by intro _;rfl):PS X (.For tg iter body [] pos) (sn W (Q0y gd di db)):=(J4o hp hc hi hg hb hs).mono (Q2b hG)
noncomputable def J6t (Ed:Addr->Prop)(C:Addr):DS:=fun _ _=>Ed C
theorem J6f {E:XK}{Ed:Addr->Prop}{C:Addr}(hE:HL W E Ed)(h:PS X st (fun _ _ H1=>E (.ref C) none H1)):PS X st (sn W (J6t Ed C)):=h.mono fun E' σ H hh=>hh.elim fun pn M b ρ F s l h=>hE C H h s.kp s.ok0
noncomputable def J6w:DS:=fun _ _=>False
theorem J6g:PS X st (sn W J6w):=J4n.mono fun E σ H hh=>hh.elim fun pn M b ρ F s l h=>h.elim
end
noncomputable def BY (N:List Str)(ds:List D):Ev:=ds.map some++List.replicate (N.length - ds.length) none
theorem RepAs.get {H:Hp}:∀ {ds:List D} {vs:List V} {i:Nat} {d:D},RepAs K M b H ds vs->ds[i]?=some d->∃ v,vs[i]?=some v/\Q5q K M b H d v
 | [],_,_,_,h,e=>by simp at e
 | d::ds,vs,0,_,h,e=>by
   obtain ⟨v,r,rfl,h1,h2⟩:=h
   simp at e;subst e
   exact ⟨v,rfl,h1⟩
 | d::ds,vs,i+1,d',h,e=>by
   obtain ⟨v,r,rfl,h1,h2⟩:=h
   obtain ⟨u,e1,e2⟩:=RepAs.get (i:=i) h2 (by simpa using e)
   exact ⟨u,by simpa using e1,e2⟩
theorem MW {N:List Str}{ds:List D}{i:Nat}{d:D}(h:(BY N ds)[i]?=some (some d)):ds[i]?=some d:=by
 unfold BY at h
 by_cases hi:i<ds.length
 · rw [List.getElem?_append_left (by simpa using hi),List.getElem?_map] at h
   simpa using h
 · rw [List.getElem?_append_right (by simpa using hi)] at h
   have:=List.mem_of_getElem? h
   simp at this
theorem Q1r {B:BagT} {N:List Str}{ds:List D}{vs:List V}{H:Hp}(hr:RepAs K M b H ds vs)(ho:okB B b H)(hb:∀ p,b=some p->M p)(hd:∀ c,M c->∃ o,H c=some o):StS ⟨K,B,H,M,b⟩ [] M b H (EB N vs) (BY N ds):=by
 refine ⟨⟨⟨ho,hb,hd,fun _ m=>m⟩,Kp.refl _ _,.inl rfl,fun i d e=>?_,by simp [EB,BY,hr.length],fun _ hq=>by cases hq⟩,fun i j d e v u c e0 _ _ _ m _=>?_,fun _ _ hq=>by cases hq⟩
 · obtain ⟨v,e1,r⟩:=hr.get (MW e)
   refine ⟨v,?_,?_⟩
   · unfold EB
     rw [List.getElem?_append_left (by simpa using (List.getElem?_eq_some_iff.mp e1).1),List.getElem?_map,e1];rfl
   · cases d<;>first|exact r|exact r.elim
 · obtain ⟨v',e1,r⟩:=hr.get (MW e0)
   cases d<;>first|exact m.elim|exact r.elim
theorem Q7c {B:BagT} {H:Hp}{Q:VK}{P:D->Prop}(hq:∀ d v H',P d->Rep K M H' d v->Kp b H H'->okB B b H'->Q v H'):Link ⟨K,B,H,M,b⟩ [] { nx:=fun _ H'=>Q .non H',rt:=Q } { nx:=fun _=>P .non,rt:=P } :=
 ⟨fun M b ρ σ H s h=>hq _ _ _ h rfl s.kp s.ok0,fun d v H h r k o=>hq d v H h r k o,fun _ _ _ _ _ _ h=>h.elim,fun _ _ _ _ _ _ h=>h.elim,fun _ _ _ _ h=>h.elim⟩
theorem run {B:BagT} {N:List Str}{ds:List D}{vs:List V}{H:Hp}{Q:VK}{P:D->Prop}{d:DS}(hr:RepAs K M b H ds vs)(ho:okB B b H)(hb:∀ p,b=some p->M p)(hd:∀ c,M c->∃ o,H c=some o)(hq:∀ d v H',P d->Rep K M H' d v->Kp b H H'->okB B b H'->Q v H')
 (h:d { nx:=fun _=>P .non,rt:=P } (BY N ds)):sn ⟨K,B,H,M,b⟩ d { nx:=fun _ H'=>Q .non H',rt:=Q } (EB N vs) H :=
 ⟨[],M,b,BY N ds,_,Q1r hr ho hb hd,Q7c hq,h⟩
theorem Q0.len {B:BagT}{S:DSp}{n:Nat}(h:∀ ds P Ed,S ds P Ed->ds.length=n):∀ vs H Q E,Q0 K B S vs H Q E->vs.length=n:=fun vs H Q E ⟨M,b,ds,P,Ed,hS,hr,_⟩=>by rw [hr.length];exact h _ _ _ hS
section
variable {X:Cx}{W:Wd}{e a b c l:Expr}{es:List Expr}{pos p:Pos}{d dl de:DE}{dA:DA}{st:Stmt}
noncomputable abbrev DO:=Ev->(Option Int->Prop)->Prop
noncomputable def dnO (W:Wd)(d:DO):TO:=fun σ H Q=>∃ pn M b ρ P,Sta W pn M b H σ ρ/\d ρ P/\∀ x H',P x->Kp b H H'->okB W.B b H'->Q x H'
theorem dnO.elim {W:Wd}{d:DO}{σ:St}{H:Hp}{Q:Option Int->Hp->Prop}{R:Prop}(h:dnO W d σ H Q)(f:∀ pn M b ρ P,Sta W pn M b H σ ρ->d ρ P->(∀ x H',P x->Kp b H H'->okB W.B b H'->Q x H')->R):R:=by
 obtain ⟨pn,M,b,ρ,P,st,h,k⟩:=h
 exact f pn M b ρ P st h k
noncomputable def oNo:DO:=fun _ P=>P none
noncomputable def oPt (de:DE):DO:=fun ρ P=>de ρ fun x=>match x with|.int i=>P (some i)|_=>False
theorem Q0n:PO X none (dnO W oNo):=fun pins s σ H Q I hh=>hh.elim fun pn M b ρ P st h k=>J8z pins s σ H Q I (k _ H h (Kp.refl _ _) st.ok)
theorem Q0m (h:PE X e (dn W de)):PO X (some e) (dnO W (oPt de)):=fun pins s σ H Q I hh=>hh.elim fun pn M b ρ P st q k=>J8y h pins s σ H Q I (by
 refine ⟨pn,M,b,ρ,_,st,q,fun x v H1 hx rx k1 o1=>?_⟩
 cases x<;>first|exact hx.elim|skip
 cases (show _=_ from rx)
 exact ⟨_,rfl,k _ H1 hx k1 o1⟩)
noncomputable def J7d (xs:List D)(lo hi:Option Int):List D:=(xs.drop (HT.sIx xs.length 0 lo)).take (HT.sIx xs.length xs.length hi - HT.sIx xs.length 0 lo)
theorem Reps.cut {H:Hp}{ds:List D}{vs:List V}(h:Reps K M H ds vs)(lo hi:Option Int):Reps K M H (J7d ds lo hi) (WS vs lo hi):=by
 unfold J7d WS
 rw [h.length]
 exact Reps.take _ (Reps.drop _ h)
noncomputable def oSl (x:D)(lo hi:Option Int)(P:D->Prop):Prop:=match x with
 | .tup xs=>¬ (HT.sIx xs.length 0 lo=0/\HT.sIx xs.length xs.length hi=xs.length)/\P (.tup (J7d xs lo hi))
 | .lst xs=>P (.lst (J7d xs lo hi))
 | .own xs=>P (.lst (J7d xs lo hi))
 | _=>False
noncomputable def dSl (de:DE)(dl dh:DO):DE:=fun ρ P=>de ρ fun x=>dl ρ fun lo=>dh ρ fun hi=>oSl x lo hi P
theorem J8o (K:Fg)(h:X.K=K):SlR X (J4i K):=by subst h;exact Q2r
theorem Q2s (K:Fg)(h:X.K=K):SlR X (fun x lo hi H Q=>J4i K x lo hi H Q\/J4j K x lo hi H Q):=(J8o K h).or (J2c K h)
theorem J6n {lo hi:Option Expr}{dl dh:DO}{p2:Pos}(hr:SlR X (fun x lo hi H Q=>J4i W.K x lo hi H Q\/J4j W.K x lo hi H Q))(he:PE X e (dn W de))(hl:PO X lo (dnO W dl))(hu:PO X hi (dnO W dh)):PE X (.Subscript e (.Slice lo hi none p2) pos) (dn W (dSl de dl dh)):=(J4s hr he hl hu).mono fun σ H Q hh=>hh.elim fun pn M b ρ P st h k=>by
 refine ⟨pn,M,b,ρ,_,st,h,fun x v H1 hx rx k1 o1=>?_⟩
 refine ⟨pn,M,b,ρ,_,st.step k1 o1,hx,fun lo H2 hy k2 o2=>?_⟩
 refine ⟨pn,M,b,ρ,_,(st.step k1 o1).step k2 o2,hy,fun hi H3 hz k3 o3=>?_⟩
 have s3:=((st.step k1 o1).step k2 o2).step k3 o3
 have rx:=(rx.step st.bagM k2).step st.bagM k3
 have kk:=(k1.trans k2).trans k3
 cases x<;>first|exact hz.elim|skip
 case tup xs =>
  obtain ⟨a,vs,rfl,hh,r⟩:=rx
  refine .inl ⟨a,vs,rfl,hh.sq,by rw [r.length];exact hz.1,fun p hp=>k _ _ _ hz.2 (IW s3.toHs (r.cut lo hi) hp) (kk.trans (Kp.upd hp)) (s3.okU hp)⟩
 case lst xs =>
  obtain ⟨a,vs,rfl,hh,r⟩:=rx
  refine .inr ⟨a,vs,rfl,SqL.of hh.2,fun p hp=>k _ _ _ hz (GZ s3.toHs (r.cut lo hi) hp) (kk.trans (Kp.upd hp)) (s3.okU hp)⟩
 case own xs =>
  obtain ⟨a,vs,rfl,_,_,_,_,hh,r⟩:=rx
  refine .inr ⟨a,vs,rfl,SqL.of hh,fun p hp=>k _ _ _ hz (GZ s3.toHs (r.cut lo hi) hp) (kk.trans (Kp.upd hp)) (s3.okU hp)⟩
noncomputable def Q6z:D->D->(D->Prop)->Prop:=fun x y P=>match asL x,asL y with
 | some xs,some ys=>xs.length+ys.length<=1000/\P (.lst (xs++ys))
 | _,_=>False
theorem Q3k:OpD W Q6p Q6z:=by
 intro M b H x y v u P Q hs rx ry ho k
 unfold Q6z at ho
 split at ho
 case h_2=>exact ho.elim
 case h_1 xs ys e1 e2 =>
  obtain ⟨a1,vs,rfl,h1,r1⟩:=asL.rep rx e1
  obtain ⟨a2,us,rfl,h2,r2⟩:=asL.rep ry e2
  exact ⟨a1,a2,vs,us,rfl,rfl,h1,h2,by rw [r1.length,r2.length];exact Nat.le_trans ho.1 DK,fun p hp=>k _ _ _ ho.2 (GZ hs (Reps.append r1 r2) hp) (Kp.upd hp) (hs.okU hp)⟩
noncomputable def XH (K:Fg)(B:BagT)(pre:List D->Prop):Sp:=fun vs H Q _=>∃ (M:Addr->Prop) (b:Option Addr) (ds:List D),RepAs K M b H ds vs/\pre ds/\∀ p H1,H p=none->Same H H1->B.ok p H1->Q (.ref p) H1
noncomputable def WP (ρ:Ev):Ev:=ρ.map fun o=>match o with|some .bag=>none|o=>o
noncomputable def Q8d (i:Nat)(pre:List D->Prop)(dA:DA):DS:=fun F ρ=>dA ρ fun ds=>ds.all AO=true/\pre ds/\F.nx ((WP ρ).set i (some .bag))
theorem QU {ρ:Ev}{i:Nat}{d:D}(h:(WP ρ)[i]?=some (some d)):ρ[i]?=some (some d)/\d≠.bag:=by
 unfold WP at h
 rw [List.getElem?_map] at h
 cases q:ρ[i]? with
 | none=>rw [q] at h;cases h
 | some o =>
   rw [q] at h
   cases o with
   | none=>cases h
   | some d'=>cases d'<;>simp at h<;>subst h<;>exact ⟨rfl,by intro z;cases z⟩
theorem Q4f {spos:Pos}{x f:Str}{k:Nat}{ps:List Str}{pre:List D->Prop}{i:Nat}{pos':Pos}(hb0:W.b0=none)(hN:X.N.Nodup)(hi:X.N[i]?=some x)(hx:Loc X.env.scope x)(G:Callee X.prog X.w X.K X.mg X.base CX0 f k ps (XH W.K W.B pre))(hr:Room k X.A)(hg:Gl X f)(ha:PA X (e::es) (dnA W dA))
 (hdb:(f==("__debug__" : Str))=false:=by decide) (he:starEach (e::es) X.env=(false,eval e X.env)::starEach es X.env:=by rfl) (hpl:(backTo pos (starEach es X.env)).any (·.1)=false:=by rfl)
 (hs:swapsWith (.Call (.Name f p) (e::es) [] pos) (some (.Name x pos')) spos.line X.env=pure false:=by rfl) (hf:X.fn x=true\/X.env.scope.names.lookup x=some .local:=by first|exact .inl rfl|exact .inr rfl|assumption) :
 PS X (.Assign [.Name x pos'] (.Call (.Name f p) (e::es) [] pos) spos) (sn W (Q8d i pre dA)):=(EW hN hi hx (NK G hr hg ha hdb he hpl) hs hf).mono fun E σ H hh=>hh.elim fun pn M b ρ F s l h=>by
 refine ⟨pn,M,b,ρ,_,s.toSta,h,fun ds vs H' hx rx k o=>?_⟩
 have s1:=s.step k o
 refine ⟨M,b,ds,by rw [List.append_nil];exact rx.args _ _ hx.1,hx.2.1,fun q H1 hq S ok=>?_⟩
 have rep:∀ d v,Rep W.K M H' d v->Rep W.K (fun c=>M c\/c=q) H1 d v:=fun d v r=>Rep.keep (fun c o _ e=>S c o e) _ _ (Rep.avoid (fun c hc=>hc.imp id fun z=>by rw [z];exact hq) _ _ r)
 have reps:∀ d v,Reps W.K M H' d v->Reps W.K (fun c=>M c\/c=q) H1 d v:=fun d v r=>Reps.keep (fun c o _ e=>S c o e) _ _ (Reps.avoid (fun c hc=>hc.imp id fun z=>by rw [z];exact hq) _ _ r)
 have h0:W.H0 q=none:=by
  cases z:W.H0 q with
  | none=>rfl
  | some o =>
    have:=s1.kp q o (by rw [hb0];intro y;cases y) z
    rw [hq] at this;cases this
 have st1:Sta W pn (fun c=>M c\/c=q) (some q) H1 σ (WP ρ):=by
  refine ⟨⟨fun p e=>by cases e;exact ok,fun p e=>by cases e;exact .inr rfl,fun c hc=>?_,fun c m=>.inl (s1.m0 c m)⟩,fun c o n e=>S c o (s1.kp c o n e),.inr ⟨hb0,fun p e=>by cases e;exact h0⟩,fun j d e=>?_,by simp [WP,s.len],fun q' hq'=>(s1.pin q' hq').to rep reps fun xs a vs _ _ m n hh=>⟨.inl m,(fun z=>by cases z;rw [hq] at hh;cases hh),S _ _ hh⟩⟩
  · rcases hc with hc|hc
    · obtain ⟨o,e⟩:=s1.dom c hc;exact ⟨o,S c o e⟩
    · rw [hc];exact W.B.dm q H1 ok
  · obtain ⟨e1,nb⟩:=QU e
    obtain ⟨v,e2,r⟩:=s1.env j d e1
    refine ⟨v,e2,?_⟩
    cases d
    case own xs =>
     obtain ⟨a,us,rfl,m1,m2,m3,m4,hh,r'⟩:=r
     have nq:some q≠some a:=fun z=>by
      cases z
      rw [hq] at hh
      cases hh
     exact ⟨a,us,rfl,.inl m1,nq,m3,m4,S _ _ hh,reps _ _ r'⟩
    case bag=>exact absurd rfl nb
    case frg f _=>exact RepX.move r (fun c _ m n=>⟨.inl m,fun z=>by cases z;exact s1.toHs.new hq m⟩) (fun c o _ e=>S c o e) fun c hc=>hc.imp id fun z=>by rw [z];exact hq
    all_goals exact rep _ _ r
 refine l.nx _ _ _ _ _ (s1.of (st1.set (x:=.bag) (v:=.ref q) i ⟨q,rfl,rfl⟩) fun j xs hm e=>?_) hx.2.2
 by_cases z:i=j
 · subst z
   rw [List.getElem?_set] at e
   simp at e
   rw [<- e.2] at hm;cases hm
 · rw [List.getElem?_set_ne z] at e
   exact ⟨(QU e).1,by rw [List.getElem?_set_ne z]⟩
end
end L2
namespace K
open PySem L2
theorem _root_.L2.Room.m {k n:Nat}{A:Around}(h:Room n A)(e:k<=n:=by decide):Room k A:=h.mono e
theorem Q7m {a b:Int}(hb:b≠0):(a.fmod b).natAbs<b.natAbs:=by
 by_cases h:0<b
 · rw [Int.fmod_eq_emod_of_nonneg a (by omega)]
   have:=Int.emod_nonneg a hb
   have:=Int.emod_lt_of_pos a h
   omega
 · have e:a.fmod b = -((-a).fmod (-b)):=by grind [Int.neg_fmod_neg]
   rw [e,Int.fmod_eq_emod_of_nonneg (-a) (show 0<=-b by omega)]
   have:=Int.emod_nonneg (-a) (show -b≠0 by omega)
   have:=Int.emod_lt_of_pos (-a) (show 0 < -b by omega)
   omega
theorem J6a {a b:Int}:Int.gcd b (a.fmod b)=Int.gcd a b:=by
 rw [Int.gcd_comm a b,Int.fmod_def]
 apply Nat.dvd_antisymm
 · apply Int.dvd_gcd
   · exact Int.gcd_dvd_left ..
   · have h1:((Int.gcd b (a - b*a.fdiv b):Nat):Int) ∣ b:=Int.gcd_dvd_left ..
     have h2:((Int.gcd b (a - b*a.fdiv b):Nat):Int) ∣ a - b*a.fdiv b:=Int.gcd_dvd_right ..
     have h3:=Int.dvd_add h2 (Int.dvd_trans h1 (Int.dvd_mul_right b (a.fdiv b)))
     have e3:a - b*a.fdiv b+b*a.fdiv b=a:=by omega
     rw [e3] at h3
     exact h3
 · apply Int.dvd_gcd
   · exact Int.gcd_dvd_left ..
   · have h1:((Int.gcd b a:Nat):Int) ∣ b:=Int.gcd_dvd_left ..
     have h2:((Int.gcd b a:Nat):Int) ∣ a:=Int.gcd_dvd_right ..
     exact Int.dvd_sub h2 (Int.dvd_trans h1 (Int.dvd_mul_right b (a.fdiv b)))
noncomputable def GQ (ns:List Int):Int:=ns.foldl (fun g n=>((Int.gcd g n:Nat):Int)) 0
theorem LJ (ns:List Int)(n:Int):GQ (ns++[n])=((Int.gcd (GQ ns) n:Nat):Int):=by unfold GQ;rw [List.foldl_append];rfl
theorem DR {ns:List Int}{n:Int}(h:n≠0):0<GQ (ns++[n])/\GQ (ns++[n])<=n.natAbs:=by
 rw [LJ]
 have h1:0<Int.gcd (GQ ns) n:=Int.gcd_pos_of_ne_zero_right _ h
 have h2:Int.gcd (GQ ns) n ∣ n.natAbs:=Int.gcd_dvd_natAbs_right ..
 have h3:=Nat.le_of_dvd (by omega) h2
 omega
noncomputable def low (ns:List Int)(last:Int):Int:=if last<0 then -GQ (ns++[last]) else GQ (ns++[last])
theorem YT {ns:List Int}{n:Int}(h:n≠0):low ns n≠0:=by
 have:=DR (ns:=ns) h
 unfold low
 split<;>omega
theorem Q3n {ns:List Int}{n:Int}(h:n≠0):(low ns n).natAbs<=n.natAbs:=by
 have:=DR (ns:=ns) h
 unfold low
 split<;>omega
theorem J5h {top bottom:Int}(h:bottom≠0):∃ x y,top.fdiv (low [top] bottom)=x/\bottom.fdiv (low [top] bottom)=y/\0<y/\Int.gcd x y=1/\x*bottom=top*y/\x.natAbs<=top.natAbs/\y.natAbs<=bottom.natAbs:=by
 have eg:GQ ([top]++[bottom])=((Int.gcd top bottom:Nat):Int):=by
  rw [LJ]
  unfold GQ
  show ((Int.gcd ((Int.gcd 0 top:Nat):Int) bottom:Nat):Int)=_
  rw [Int.gcd_zero_left]
  congr 1
 have hne:=YT (ns:=[top]) h
 have habs:(low [top] bottom).natAbs=Int.gcd top bottom:=by unfold low;split<;>rw [eg]<;>omega
 have d1:low [top] bottom ∣ top:=by rw [<- Int.natAbs_dvd,habs];exact Int.gcd_dvd_left ..
 have d2:low [top] bottom ∣ bottom:=by rw [<- Int.natAbs_dvd,habs];exact Int.gcd_dvd_right ..
 have e1:=Int.fdiv_mul_cancel d1
 have e2:=Int.fdiv_mul_cancel d2
 refine ⟨_,_,rfl,rfl,?_,?_,?_,?_,?_⟩
 · by_cases hb:bottom<0
   · have hl:low [top] bottom<0:=by
      have:=DR (ns:=[top]) h
      unfold low;rw [if_pos hb];omega
     by_cases hy:0<bottom.fdiv (low [top] bottom)
     · exact hy
     · have:=Int.mul_nonneg_of_nonpos_of_nonpos (show bottom.fdiv (low [top] bottom)<=0 by omega) (Int.le_of_lt hl)
       omega
   · have hl:0<low [top] bottom:=by
      have:=DR (ns:=[top]) h
      unfold low;rw [if_neg hb];omega
     by_cases hy:0<bottom.fdiv (low [top] bottom)
     · exact hy
     · have:=Int.mul_nonpos_of_nonpos_of_nonneg (show bottom.fdiv (low [top] bottom)<=0 by omega) (Int.le_of_lt hl)
       omega
 · have q:Int.gcd (top.fdiv (low [top] bottom)*low [top] bottom) (bottom.fdiv (low [top] bottom)*low [top] bottom)=Int.gcd (top.fdiv (low [top] bottom)) (bottom.fdiv (low [top] bottom))*(low [top] bottom).natAbs:=Int.gcd_mul_right ..
   rw [e1,e2,habs] at q
   have hp:0<Int.gcd top bottom:=Int.gcd_pos_of_ne_zero_right _ h
   exact Nat.eq_of_mul_eq_mul_right hp (by omega)
 · have:=e1
   have:=e2
   grind
 · have q:=congrArg Int.natAbs e1
   rw [Int.natAbs_mul] at q
   have hp:1<=(low [top] bottom).natAbs:=by omega
   have:=Nat.mul_le_mul_left (top.fdiv (low [top] bottom)).natAbs hp
   omega
 · have q:=congrArg Int.natAbs e2
   rw [Int.natAbs_mul] at q
   have hp:1<=(low [top] bottom).natAbs:=by omega
   have:=Nat.mul_le_mul_left (bottom.fdiv (low [top] bottom)).natAbs hp
   omega
theorem Q7h (x y z w:Int):GQ ([x,y,z]++[w])=((Nat.gcd (Int.gcd x y) (Int.gcd z w):Nat):Int):=by
 unfold GQ Int.gcd
 show ((Nat.gcd (Int.natAbs ((Nat.gcd (Int.natAbs ((Nat.gcd (Int.natAbs ((Nat.gcd (Int.natAbs 0) x.natAbs:Nat):Int)) y.natAbs:Nat):Int)) z.natAbs:Nat):Int)) w.natAbs:Nat):Int)=_
 simp only [Int.natAbs_natCast,Int.natAbs_zero,Nat.gcd_zero_left,Nat.gcd_assoc]
theorem J5i (x y z w:Int):(low [x,y,z] w).natAbs=Nat.gcd (Int.gcd x y) (Int.gcd z w):=by
 unfold low
 split<;>rw [Q7h]<;>omega
theorem J9s {ns:List Int}{n:Int}(h:n≠0):(n<0->low ns n<0)/\(0<n->0<low ns n):=by
 have:=DR (ns:=ns) h
 unfold low
 refine ⟨fun h1=>?_,fun h1=>?_⟩
 · rw [if_pos h1];omega
 · rw [if_neg (by omega)];omega
theorem J5g {x y z w:Int}(h:w≠0):∃ a b c d,x.fdiv (low [x,y,z] w)=a/\y.fdiv (low [x,y,z] w)=b/\z.fdiv (low [x,y,z] w)=c/\w.fdiv (low [x,y,z] w)=d/\0<d/\Nat.gcd (Int.gcd a b) (Int.gcd c d)=1/\(a*w=x*d/\b*w=y*d/\c*w=z*d) /\
 (a.natAbs<=x.natAbs/\b.natAbs<=y.natAbs/\c.natAbs<=z.natAbs/\d.natAbs<=w.natAbs):=by
 have hne:=YT (ns:=[x,y,z]) h
 have habs:=J5i x y z w
 obtain ⟨s1,s2⟩:=J9s (ns:=[x,y,z]) h
 generalize low [x,y,z] w=L at *
 have g1:Nat.gcd (Int.gcd x y) (Int.gcd z w) ∣ Int.gcd x y:=Nat.gcd_dvd_left ..
 have g2:Nat.gcd (Int.gcd x y) (Int.gcd z w) ∣ Int.gcd z w:=Nat.gcd_dvd_right ..
 have dv:∀ n:Int,L.natAbs ∣ n.natAbs->L ∣ n:=fun n h=>Int.natAbs_dvd_natAbs.mp h
 have d1:L ∣ x:=dv x (by rw [habs];exact Nat.dvd_trans g1 (Nat.gcd_dvd_left ..))
 have d2:L ∣ y:=dv y (by rw [habs];exact Nat.dvd_trans g1 (Nat.gcd_dvd_right ..))
 have d3:L ∣ z:=dv z (by rw [habs];exact Nat.dvd_trans g2 (Nat.gcd_dvd_left ..))
 have d4:L ∣ w:=dv w (by rw [habs];exact Nat.dvd_trans g2 (Nat.gcd_dvd_right ..))
 have e1:=Int.fdiv_mul_cancel d1
 have e2:=Int.fdiv_mul_cancel d2
 have e3:=Int.fdiv_mul_cancel d3
 have e4:=Int.fdiv_mul_cancel d4
 generalize x.fdiv L=a at *
 generalize y.fdiv L=b at *
 generalize z.fdiv L=c at *
 generalize w.fdiv L=d at *
 have bnd:∀ n m:Int,n*L=m->n.natAbs<=m.natAbs:=fun n m e=>by
  rw [<- e,Int.natAbs_mul]
  exact Nat.le_mul_of_pos_right _ (by omega)
 refine ⟨a,b,c,d,rfl,rfl,rfl,rfl,?_,?_,⟨?_,?_,?_⟩,⟨bnd _ _ e1,bnd _ _ e2,bnd _ _ e3,bnd _ _ e4⟩⟩
 · by_cases hd:0<d
   · exact hd
   · rcases Int.lt_or_gt_of_ne h with hw|hw
     · have:=Int.mul_nonneg_of_nonpos_of_nonpos (show d<=0 by omega) (Int.le_of_lt (s1 hw));omega
     · have:=Int.mul_nonpos_of_nonpos_of_nonneg (show d<=0 by omega) (Int.le_of_lt (s2 hw));omega
 · have q1:Int.gcd (a*L) (b*L)=Int.gcd a b*L.natAbs:=Int.gcd_mul_right ..
   have q2:Int.gcd (c*L) (d*L)=Int.gcd c d*L.natAbs:=Int.gcd_mul_right ..
   rw [<- e1,<- e2,<- e3,<- e4,q1,q2,Nat.gcd_mul_right] at habs
   have hp:0<L.natAbs:=by omega
   have:1*L.natAbs=Nat.gcd (Int.gcd a b) (Int.gcd c d)*L.natAbs:=by rw [Nat.one_mul];exact habs
   exact (Nat.eq_of_mul_eq_mul_right hp this).symm
 · rw [<- e1,<- e4];grind
 · rw [<- e2,<- e4];grind
 · rw [<- e3,<- e4];grind
noncomputable def dot (r s:List Int):Int:=(List.zipWith (· * ·) r s).sum
end K
namespace L2
open PySem PySem.Spec PyProof.Rows
theorem J9m {xs:List D}{i:Int}{P:D->Prop}(h0:0<=i)(h1:i<xs.length)(h:∀ d∈xs,P d):oIx (.lst xs) (.int i) P:=by
 obtain ⟨j,rfl⟩:∃ j:Nat,i=j:=⟨i.toNat,by omega⟩
 have hj:j<xs.length:=by omega
 have e:atI xs (j:Int)=some xs[j]:=KC (List.getElem?_eq_getElem hj)
 simp only [oIx,e]
 exact h _ (List.getElem_mem hj)
theorem ixm {xs:List D}{i:Int}{P:D->Prop}(h0:0<=i)(h1:i<xs.length)(h:∀ d∈xs,P d):(atI xs i).elim False P:=J9m (P:=P) h0 h1 h
theorem AU {lo:Int}{n i:Nat}{d:D}(h:(BI lo n)[i]?=some d):d=.int (lo+i)/\i<n:=by
 have hi:i<n:=by
  have:=(List.getElem?_eq_some_iff.mp h).1
  simpa [BI] using this
 simp [BI,hi] at h
 exact ⟨h.symm,hi⟩
theorem rangeD_len (lo:Int)(n:Nat):(BI lo n).length=n:=by simp [BI]
noncomputable abbrev sp4 (x y z w:Int):D:=.tup [.int x,.int y,.int z,.int w]
noncomputable abbrev t3 (x y z:Int):D:=.tup [.int x,.int y,.int z]
noncomputable abbrev t2 (x y:Int):D:=.tup [.int x,.int y]
theorem WY {gd:D->Ev->(Ev->Prop)->Prop}{de:DE}{ρc:Ev}{items:List D}{P:List D->Prop}(Pv:Nat->D->Prop)
 (hs:∀ (i:Nat) x (Q:D->Prop),items[i]?=some x->(∀ y,Pv i y->Q y)->gd x ρc fun ρ1=>de ρ1 Q) (hp:∀ i y,Pv i y->plain y=true)
 (hd:∀ acc:List D,acc.length=items.length->(∀ i y,acc[i]?=some y->Pv i y)->P acc):compI gd OF de ρc items P:=by
 refine ⟨fun i acc=>acc.length=i/\∀ j y,acc[j]?=some y->Pv j y,⟨rfl,fun j y e=>by simp at e⟩,fun i x acc e ⟨hl,ha⟩=>?_,fun acc ⟨hl,ha⟩=>hd acc hl ha⟩
 have:=hs i x (fun y=>plain y=true/\((acc++[y]).length=i+1/\∀ j z,(acc++[y])[j]?=some z->Pv j z)) e fun y hy=>⟨hp i y hy,by simp [hl],fun j z ez=>?_⟩
 · simpa only [OF,XQ] using this
 · by_cases hj:j<acc.length
   · rw [List.getElem?_append_left hj] at ez
     exact ha j z ez
   · rw [List.getElem?_append_right (by omega)] at ez
     have:j - acc.length=0:=by
      cases q:j - acc.length with
      | zero=>rfl
      | succ m=>rw [q] at ez;simp at ez
     rw [this] at ez
     simp at ez
     subst ez
     have:j=i:=by omega
     subst this
     exact hy
theorem GT {gd:D->Ev->(Ev->Prop)->Prop}{de:DE}{ρc:Ev}{items:List D}{P:List D->Prop}(f:D->D)
 (hs:∀ x (Q:D->Prop),x∈items->Q (f x)->gd x ρc fun ρ1=>de ρ1 Q) (hp:∀ x∈items,plain (f x)=true) (hd:P (items.map f)):compI gd OF de ρc items P:=by
 refine WY (fun i y=>∃ x,items[i]?=some x/\y=f x) (fun i x Q e h=>hs x Q (List.mem_of_getElem? e) (h _ ⟨x,e,rfl⟩)) (fun i y ⟨x,e,h⟩=>by rw [h];exact hp x (List.mem_of_getElem? e)) fun acc hl ha=>?_
 have:acc=items.map f:=by
  apply List.ext_getElem?
  intro i
  rw [List.getElem?_map]
  cases q:acc[i]? with
  | none =>
    have:items.length<=i:=by rw [<- hl];exact List.getElem?_eq_none_iff.mp q
    rw [List.getElem?_eq_none_iff.mpr this];rfl
  | some y =>
    obtain ⟨x,e,rfl⟩:=ha i y q
    rw [e];rfl
 rw [this];exact hd
theorem Q1f {α:Type}{l:List α}{x:α}:atI (l++[x]) (-1)=some x:=by
 have e:ixN (l++[x]).length (-1)=some l.length:=by
  unfold ixN
  rw [if_neg (by decide),if_pos (by simp;omega)]
  congr 1
  simp
  omega
 unfold atI
 rw [e]
 simp
structure JE (X:Cx)(W:Wd)(e:Expr)(d:DE):Prop where
 h:PE X e (dn W d)
structure JT (X:Cx)(W:Wd)(e:Expr)(d:DT):Prop where
 h:PT X e (dnT W d)
structure JW (X:Cx)(W:Wd)(e:Expr)(d:DT):Prop where
 h:PW X e (dnT W d)
structure JA (X:Cx)(W:Wd)(es:List Expr)(d:DA):Prop where
 h:PA X es (dnA W d)
structure JO (X:Cx)(W:Wd)(e:Option Expr)(d:DO):Prop where
 h:PO X e (dnO W d)
structure JIf (X:Cx)(W:Wd)(es:List Expr)(d:DT):Prop where
 h:PIf X es (dnT W d)
structure JI (X:Cx)(W:Wd)(fz:Bool)(tg l:Expr)(d:DA):Prop where
 h:PI X tg l (dnI W fz d)
structure JS (X:Cx)(W:Wd)(st:Stmt)(d:DS):Prop where
 h:PS X st (sn W d)
structure JSs (X:Cx)(W:Wd)(st:List Stmt)(d:DS):Prop where
 h:PSs X st (sn W d)
section
variable {X:Cx}{W:Wd}{e a b c:Expr}{es:List Expr}{pos:Pos}{da db dc:DE}{dA:DA}{t:TE}
theorem jdv (i:Nat) {x:Str} {pos:Pos} (hN:X.N[i]?=some x:=by rfl) (hv:Vis X.env.scope x:=by first|exact Or.inl rfl|exact Or.inr (Or.inl rfl)|exact Or.inr (Or.inr rfl)) (hd:(x==("__debug__" : Str))=false:=by decide)
 (hcd:(x==("__classdict__" : Str))=false:=by decide):JE X W (.Name x pos) (J3f i):=⟨dv i hN hv hd hcd⟩
theorem J4 {i j pos}:JE X W (.Constant (.int i) j pos) (dC (.int i)):=⟨Q4q ⟩
theorem SW {i j pos}:JE X W (.Constant (.bool i) j pos) (dC (.bl i)):=⟨Q7t ⟩
theorem J2s {x:Str}{n:Int}{pos:Pos}(hg:Gl X x)(hm:∃ t,X.mg x=some (.int n t))(hd:(x==("__debug__" : Str))=false:=by decide):JE X W (.Name x pos) (dC (.int n)):=⟨J6o hg hm hd⟩
theorem NX {x:Str}{T:String}{pos:Pos}(hg:Gl X x)(hm:X.mg x=none)(hv:bootBuiltins x=some (.type T))(hn:x≠"__name__":=by decide) (hd:(x==("__debug__" : Str))=false:=by decide):JE X W (.Name x pos) (dC (.ty T)):=⟨Q0t hg hm hv hn hd⟩
theorem Q5 {op:Operator}{r:R2}{o:D->D->(D->Prop)->Prop}(ho:OpR X (binaryOp op) r)(hd:OpD W r o)(ha:JE X W a da)(hb:JE X W b db):JE X W (.BinOp a op b pos) (dOp o da db):=⟨Q7r ho hd ha.h hb.h⟩
theorem EM {op:CmpOp}{r:R2}{o:D->D->(D->Prop)->Prop}(ho:OpR X (compareOp op) r)(hd:OpD W r o)(ha:JE X W a da)(hb:JE X W b db)(hm:behindInMarks op b=false):JE X W (.Compare a [op] [b] pos) (dOp o da db):=⟨Q4r ho hd ha.h hb.h hm⟩
theorem Q6 {r:R2}{o:D->D->(D->Prop)->Prop}(hr:IxR X r)(hd:OpD W r o)(ha:JE X W a da)(hb:JE X W b db)(hs:UI b):JE X W (.Subscript a b pos) (dOp o da db):=⟨Q7s hr hd ha.h hb.h hs⟩
theorem JD (ha:JE X W a da):JE X W (.UnaryOp .USub a pos) (dUn Q3l da):=⟨Q4o ha.h⟩
variable {rest:List Expr}
theorem MJ {op}(h:JE X W a da):JE X W (.BoolOp op [a] pos) da:=⟨Q4m h.h⟩
theorem HA (ha:JE X W a da)(hb:JE X W (.BoolOp .And (b::rest) pos) db):JE X W (.BoolOp .And (a::b::rest) pos) (Q8e da db):=⟨Q4s ha.h hb.h⟩
theorem J9w (ha:JE X W a da):JE X W (.UnaryOp .Not a pos) (Q8b da):=⟨Q4n ha.h⟩
theorem AD {op:CmpOp}{r:R2}{o:D->D->(D->Prop)->Prop}(ho:OpR X (compareOp op) r)(hd:OpD W r o)(ha:JE X W a da)(hb:JE X W b db)(hm:behindInMarks op b=false):JT X W (.Compare a [op] [b] pos) (J6r (dOp o da db)):=⟨Q4b ho hd ha.h hb.h hm⟩
theorem CY (hK:X.K=W.K)(ha:JE X W a da)(he:∀ whole,isTrue a X.env whole=(do let v <- whole;standAt a.pos;holding [v] (truthy v))):JT X W a (Q7v da):=⟨J6d hK ha.h he⟩
variable {ta:DT}
theorem J0j (ha:JT X W a ta):JW X W (.BoolOp .Or [a] pos) ta:=⟨Q3z ha.h⟩
theorem JB (ha:JT X W a ta):JT X W (.UnaryOp .Not a pos) (Q1s ta):=⟨Q4a ha.h⟩
theorem J2t {op op':CmpOp}{r r':R2}{o o':D->D->(D->Prop)->Prop}(ho:OpR X (compareOp op) r)(ho':OpR X (compareOp op') r')(hd:OpD W r o)(hd':OpD W r' o')(ha:JE X W a da)(hb:JE X W b db)(hc:JE X W c dc)
 (hm:lastMarks [op,op'] [b,c]=false:=by with_unfolding_all rfl):JE X W (.Compare a [op,op'] [b,c] pos) (J6y o o' da db dc):=⟨J6p ho ho' hd hd' ha.h hb.h hc.h hm⟩
theorem J3:JA X W [] Q5n:=⟨Q4u ⟩
theorem J0 {dr:DA}(ha:JE X W e da)(hr:JA X W es dr)(hs:starEach (e::es) X.env=(false,eval e X.env)::starEach es X.env:=by rfl):JA X W (e::es) (J7m da dr):=⟨Q0v ha.h hr.h hs⟩
theorem Y1 {x1}(h:JA X W es dA):JE X W (.Tuple es x1 pos) (Q7u dA):=⟨Q4k h.h⟩
theorem FV (h:JA X W es dA):JE X W (.List es pos) (Q8c dA):=⟨Q4p h.h⟩
end
section
variable {X:Cx}{W:Wd}{e:Expr}{es:List Expr}{pos p:Pos}{dA:DA}{x:Str}{k:Nat}{ps:List Str}{S:DSp}
theorem Q3 (G:Callee X.prog X.w X.K X.mg X.base CX0 x k ps (Q0 W.K W.B S))(hr:Room k X.A)(hg:Gl X x)(ha:JA X W (e::es) dA)(hdb:(x==("__debug__" : Str))=false:=by decide) (he:starEach (e::es) X.env=(false,eval e X.env)::starEach es X.env:=by rfl) (hpl:(backTo pos (starEach es X.env)).any (·.1)=false:=by rfl) :
 JE X W (.Call (.Name x p) (e::es) [] pos) (QX S (fun _=>False) dA):=⟨Q4l G hr hg ha.h hdb he hpl⟩
theorem CN {CX:CXT}{E:XK}{Ed:Addr->Prop}(hE:HL W E Ed)(hp:FZ CX X E)(G:Callee X.prog X.w X.K X.mg X.base CX x k ps (Q0 W.K W.B S))(hr:Room k X.A)(hg:Gl X x)(ha:JA X W (e::es) dA)(hdb:(x==("__debug__" : Str))=false:=by decide) (he:starEach (e::es) X.env=(false,eval e X.env)::starEach es X.env:=by rfl) (hpl:(backTo pos (starEach es X.env)).any (·.1)=false:=by rfl) :
 JE X W (.Call (.Name x p) (e::es) [] pos) (QX S Ed dA):=⟨Q0q hE hp G hr hg ha.h hdb he hpl⟩
variable {r:List V->Hp->VK->Prop}{o:List D->(D->Prop)->Prop}{id T:String}
theorem Z7 (hc:CS X (.builtin id) r)(hd:GC W r o)(hg:Gl X x)(hm:X.mg x=none)(hv:bootBuiltins x=some (.builtin id))(ha:JA X W (e::es) dA)(hn:x≠"__name__":=by decide) (hdb:(x==("__debug__" : Str))=false:=by decide)
 (he:starEach (e::es) X.env=(false,eval e X.env)::starEach es X.env:=by rfl) (hpl:(backTo pos (starEach es X.env)).any (·.1)=false:=by rfl):JE X W (.Call (.Name x p) (e::es) [] pos) (dCB o dA):=⟨J6q hc hd hg hm hv ha.h hn hdb he hpl⟩
theorem NW (hc:CS X (.type T) r)(hd:GC W r o)(hg:Gl X x)(hm:X.mg x=none)(hv:bootBuiltins x=some (.type T))(ha:JA X W (e::es) dA)(hn:x≠"__name__":=by decide) (hdb:(x==("__debug__" : Str))=false:=by decide)
 (he:starEach (e::es) X.env=(false,eval e X.env)::starEach es X.env:=by rfl) (hpl:(backTo pos (starEach es X.env)).any (·.1)=false:=by rfl):JE X W (.Call (.Name x p) (e::es) [] pos) (dCB o dA):=⟨J3e hc hd hg hm hv ha.h hn hdb he hpl⟩
end
section
variable {X:Cx}{W:Wd}{tg l a b:Expr}{pos p:Pos}{dl:DE}{dA:DA}{fz:Bool}
theorem AL (hK:X.K=W.K)(hl:JE X W l dl):JI X W fz tg l (Q3w fz dl):=⟨Q4j hK hl.h⟩
theorem CZ (hg:Gl X "range") (hm:X.mg "range" = none) (ha:JA X W [a] dA) (hs:starEach [a] X.env=[(false,eval a X.env)]:=by rfl):JI X W fz tg (.Call (.Name "range" p) [a] [] pos) (J0n dA):=⟨J3d hg hm ha.h hs⟩
theorem IF (hg:Gl X "range") (hm:X.mg "range" = none) (ha:JA X W [a,b] dA) (hs:starEach [a,b] X.env=[(false,eval a X.env),(false,eval b X.env)]:=by rfl) (hs2:starEach [b] X.env=[(false,eval b X.env)]:=by rfl):JI X W fz tg (.Call (.Name "range" p) [a,b] [] pos) (J0m dA):=⟨J3c hg hm ha.h hs hs2⟩
theorem J0k {elts:List Expr}{c1}{tpos:Pos}(hK:X.K=W.K)(t1 t2:Bool)(hg:Gl X "zip") (hm:X.mg "zip" = none) (ha:JA X W [a,b] dA)
 (h:PI X (.Tuple elts c1 tpos) (.Call (.Name "zip" p) [a,b] [] pos) (J5u W.K t1 t2 (dnA W dA))):JI X W fz (.Tuple elts c1 tpos) (.Call (.Name "zip" p) [a,b] [] pos) (Q1n fz t1 t2 dA):=⟨Q4i hK t1 t2 hg hm ha.h h⟩
end
section
variable {X:Cx}{W:Wd}{elt iter tg:Expr}{ifs:List Expr}{scope:Scope}{pos:Pos}{N':List Str}{map:List (Option Nat)}{g:TG}{gd:D->Ev->(Ev->Prop)->Prop}{di:DA}{dt:DT}{de:DE}
theorem BK (hG:GD W g gd)(B:Blk X N' scope map tg elt ifs g (dnT W dt) (dn W de))(hi:JI X W false tg iter di)(hs:∀ x,foldedSetIterable iter X.env x=pure x:=by intro _;rfl):JE X W (.ListComp elt [⟨tg,iter,ifs,0⟩] scope pos) (J6x map gd di dt de):=⟨Q0r hG B hi.h hs⟩
theorem AS:JIf X W [] OF:=⟨Q0p ⟩
theorem J5s {c:Expr}(hc:JT X W c dt):JIf X W [c] dt:=⟨Q0o hc.h⟩
end
section
variable {X:Cx}{W:Wd}{e c tg iter:Expr}{es:List Expr}{pos:Pos}{db de:DE}{dA di:DA}{dt:DT}{st:Stmt}{rest:List Stmt}{d1 d2:DS}
theorem Y3:JSs X W [] J6v:=⟨Q0i ⟩
theorem J8 (h:JS X W st d1):JSs X W [st] d1:=⟨Q0h h.h⟩
theorem J6 (h1:JS X W st d1)(h2:JSs X W rest d2):JSs X W (st::rest) (Q4w d1 d2):=⟨J6e h1.h h2.h⟩
theorem V3 (he:JE X W e de):JS X W (.Return (some e) pos) (Q4x de):=⟨Q4d he.h⟩
theorem JC (he:JE X W e de)(hs:swapsWith e none pos.line X.env=pure false:=by rfl):JS X W (.Expr e pos) (Q1v de):=⟨Q0l he.h hs⟩
theorem AG {s1 s2:List Stmt}(hc:JT X W c dt)(ha:JSs X W s1 d1)(hb:JSs X W s2 d2):JS X W (.If c s1 s2 pos) (Q4z dt d1 d2):=⟨Q7p hc.h ha.h hb.h⟩
theorem V2 {i:Nat} {x:Str} {pos':Pos} (hN:X.N.Nodup) (hi:X.N[i]?=some x) (hx:Loc X.env.scope x) (he:JE X W e de) (hs:swapsWith e (some (.Name x pos')) pos.line X.env=pure false:=by rfl) (hf:X.fn x=true\/X.env.scope.names.lookup x=some .local:=by first|exact .inl rfl|exact .inr rfl|assumption) :
 JS X W (.Assign [.Name x pos'] e pos) (J3g de (gdN i)):=⟨Q4c hN hi hx he.h hs hf⟩
theorem DD {g:TG}{gd:D->Ev->(Ev->Prop)->Prop}(hG:GD W g gd)(he:JE X W e de)(hg:PG X tg g)(hs:swapsWithSole [tg] e pos.line X.env=pure false:=by rfl)(hw:swappedStores [tg] e X.env=pure none:=by rfl)
 (h1:(assignEach [tg] X.env).map (·.2)=[assign tg X.env]:=by rfl):JS X W (.Assign [tg] e pos) (J3g de gd):=⟨Q4g hG he.h hg hs hw h1⟩
theorem GN {i:Nat} {x:Str} {pos' lpos:Pos} (hN:X.N.Nodup) (hi:X.N[i]?=some x) (hx:Loc X.env.scope x) (ha:JA X W es dA) (hs:swapsWith (.List es lpos) (some (.Name x pos')) pos.line X.env=pure false:=by rfl) (hf:X.fn x=true\/X.env.scope.names.lookup x=some .local:=by first|exact .inl rfl|exact .inr rfl|assumption) :
 JS X W (.Assign [.Name x pos'] (.List es lpos) pos) (Q1u i dA):=⟨Q0k hN hi hx ha.h hs hf⟩
theorem WG {elt iter tg:Expr}{ifs:List Expr}{scope:Scope}{N':List Str}{map:List (Option Nat)}{g:TG}{gd:D->Ev->(Ev->Prop)->Prop}(own:Bool){i:Nat}{y:Str}{py spos:Pos}(hN:X.N.Nodup)(hiN:X.N[i]?=some y)(hy:Loc X.env.scope y)(hG:GD W g gd)(B:Blk X N' scope map tg elt ifs g (dnT W dt) (dn W de))(hi:JI X W false tg iter di)
 (hsw:swapsWith (.ListComp elt [⟨tg,iter,ifs,0⟩] scope pos) (some (.Name y py)) spos.line X.env=pure true:=by rfl) (hfn:X.fn y=true\/X.env.scope.names.lookup y=some .local:=by first|exact .inl rfl|exact .inr rfl)
 (hs:∀ x,foldedSetIterable iter X.env x=pure x:=by intro _;rfl):JS X W (.Assign [.Name y py] (.ListComp elt [⟨tg,iter,ifs,0⟩] scope pos) spos) (Q1t own i map gd di dt de):=⟨Q0j own hN hiN hy hG B hi.h hsw hfn hs⟩
theorem IE {i:Nat}{x:Str}{e:Expr}{npos apos cpos:Pos}(hK:X.K=W.K)(hN:X.N[i]?=some x)(hv:Vis X.env.scope x)(ha:JA X W [e] dA)
 (h:PE X (.Call (.Attribute (.Name x npos) "append" apos) [e] [] cpos) (tBM X.K "list" MI (XV i) (dnA W dA))) (hs:swapsWith (.Call (.Attribute (.Name x npos) "append" apos) [e] [] cpos) none pos.line X.env=pure false:=by rfl) :
 JS X W (.Expr (.Call (.Attribute (.Name x npos) "append" apos) [e] [] cpos) pos) (Q1a i dA):=⟨J3a hK hN hv ha.h h hs⟩
theorem BW {g:TG}{gd:D->Ev->(Ev->Prop)->Prop}{db:DS}{body:List Stmt}(hG:GD W g gd)(hp:PassesOwn (model X.prog X.w) X.A X.env X.xe)(hc:X.calm=true)(hi:JI X W true tg iter di)(hg:PG X tg g)(hb:JSs X W body db)
 (hs:∀ x,foldedSetIterable iter X.env x=pure x:=by intro _;rfl):JS X W (.For tg iter body [] pos) (Q0y gd di db):=⟨Q4e hG hp hc hi.h hg hb.h hs⟩
theorem LG {E:XK}{Ed:Addr->Prop}{C:Addr}(hE:HL W E Ed)(h:PS X st (fun _ _ H1=>E (.ref C) none H1)):JS X W st (J6t Ed C):=⟨J6f hE h⟩
theorem J2q:JS X W st J6w:=⟨J6g ⟩
end
section
variable {X:Cx}{W:Wd}{e:Expr}{es:List Expr}{pos p:Pos}{dl de:DE}{dA:DA}
theorem J5r:JO X W none oNo:=⟨Q0n ⟩
theorem J5q (h:JE X W e de):JO X W (some e) (oPt de):=⟨Q0m h.h⟩
theorem J2r {lo hi:Option Expr}{dl dh:DO}{p2:Pos}(hr:SlR X (fun x lo hi H Q=>J4i W.K x lo hi H Q\/J4j W.K x lo hi H Q))(he:JE X W e de)(hl:JO X W lo dl)(hu:JO X W hi dh):JE X W (.Subscript e (.Slice lo hi none p2) pos) (dSl de dl dh):=⟨J6n hr he.h hl.h hu.h⟩
theorem J9v {spos:Pos}{x f:Str}{k:Nat}{ps:List Str}{pre:List D->Prop}{i:Nat}{pos':Pos}(hb0:W.b0=none)(hN:X.N.Nodup)(hi:X.N[i]?=some x)(hx:Loc X.env.scope x)(G:Callee X.prog X.w X.K X.mg X.base CX0 f k ps (XH W.K W.B pre))(hr:Room k X.A)(hg:Gl X f)(ha:JA X W (e::es) dA)
 (hdb:(f==("__debug__" : Str))=false:=by decide) (he:starEach (e::es) X.env=(false,eval e X.env)::starEach es X.env:=by rfl) (hpl:(backTo pos (starEach es X.env)).any (·.1)=false:=by rfl)
 (hs:swapsWith (.Call (.Name f p) (e::es) [] pos) (some (.Name x pos')) spos.line X.env=pure false:=by rfl) (hf:X.fn x=true\/X.env.scope.names.lookup x=some .local:=by first|exact .inl rfl|exact .inr rfl|assumption) :
 JS X W (.Assign [.Name x pos'] (.Call (.Name f p) (e::es) [] pos) spos) (Q8d i pre dA):=⟨Q4f hb0 hN hi hx G hr hg ha.h hdb he hpl hs hf⟩
end
section
variable {X:Cx}{W:Wd}{a b:Expr}{rest:List Expr}{pos:Pos}{ta tb:DT}
theorem J5m (ha:JT X W a ta)(hb:JW X W (.BoolOp .Or (b::rest) pos) tb):JT X W (.BoolOp .Or (a::b::rest) pos) (Q4v ta tb):=⟨(Q7o ha.h hb.h).pt⟩
end
theorem QR {es:List Expr}{k}{pos:Pos}{env:Env}:∀ x,foldedSetIterable (.Tuple es k pos) env x=pure x:=fun _=>rfl
theorem KB {X:Cx} {W:Wd} {N':List Str} {scope:Scope} {map:List (Option Nat)} {tg elt:Expr} {ifs:List Expr} {g:TG} {dt:DT} {de:DE} (calm:X.calm=true) (kind:scope.kind=.function) (loc:∀ x∈scope.names,x.2=.local->scope.names.lookup x.1=some .local) (free:(scope.names.all fun p=>!(p.2==NameKind.free)||(X.env.kindOf p.1==some .cell||X.env.kindOf p.1==some .free))=true) (cap:CapOk X scope map N') (keep:HK g map)
 (run:∀ cells C fp s H,PG (Q9 X N' scope cells C fp s H) tg g/\JIf (Q9 X N' scope cells C fp s H) W ifs dt/\JE (Q9 X N' scope cells C fp s H) W elt de):Blk X N' scope map tg elt ifs g (dnT W dt) (dn W de) :=
 ⟨calm,kind,loc,free,cap,keep,fun cells C fp s H _=>⟨(run cells C fp s H).1,(run cells C fp s H).2.1.h,(run cells C fp s H).2.2.h⟩⟩
theorem Fun.okD {P:Program}{w:World} {mg:Str->Option Value}{base:Heap}{x qual:Str}{st:Stmt}{f:Addr} {N ps:List Str}{k:Nat}{B:BagT}{Sd:DSp}(F:Fun K x qual st f fd)(S:FnScope N ps (J7 st))(len:∀ ds PP Ed,Sd ds PP Ed->ds.length=ps.length)
 (hbody:∀ (cdv:Value) (A:Around) (outer:List Env) (s:Shared) (H:Hp) (E:XK) (M:Addr->Prop) (bg:Option Addr) (ds:List D) (PP:D->Prop) (Ed:Addr->Prop),Room k (A.deeper (envOfC qual (J7 st) s.heap.objs.size f cdv))->Sd ds PP Ed ->
  ∃ d,JSs (BO CX0 P w K mg base N qual (J7 st) f cdv A outer s H E).nox ⟨K,B,H,M,bg⟩ (BX st) d/\d { nx:=fun _=>PP .non,rt:=PP } (BY N ds)):FnOk P w K mg base CX0 (k+1) f fd ps (Q0 K B Sd) :=
 F.ok S (Q0.len len) fun cdv A outer s H vs Q E hr h=>by
  obtain ⟨M,bg,ds,PP,Ed,hS,hR,ho,hb,hd,hq,hx⟩:=h
  obtain ⟨d,J,q⟩:=hbody cdv A outer s H E M bg ds PP Ed hr hS
  exact ⟨_,J.h,run hR ho hb hd hq q⟩
theorem Fun.okDX {P:Program}{w:World} {mg:Str->Option Value}{base:Heap}{CX:CXT}{x qual:Str}{st:Stmt}{f:Addr} {N ps:List Str}{k:Nat}{B:BagT}{Sd:DSp}(F:Fun K x qual st f fd)(S:FnScope N ps (J7 st))(len:∀ ds PP Ed,Sd ds PP Ed->ds.length=ps.length)
 (hbody:∀ (cdv:Value) (A:Around) (outer:List Env) (s:Shared) (H:Hp) (E:XK) (M:Addr->Prop) (bg:Option Addr) (ds:List D) (PP:D->Prop) (Ed:Addr->Prop),Room k (A.deeper (envOfC qual (J7 st) s.heap.objs.size f cdv))->HL ⟨K,B,H,M,bg⟩ E Ed->Sd ds PP Ed ->
  ∃ d,JSs (BO CX P w K mg base N qual (J7 st) f cdv A outer s H E) ⟨K,B,H,M,bg⟩ (BX st) d/\d { nx:=fun _=>PP .non,rt:=PP } (BY N ds)):FnOk P w K mg base CX (k+1) f fd ps (Q0 K B Sd) :=
 F.okX S (Q0.len len) fun cdv A outer s H vs Q E hr h=>by
  obtain ⟨M,bg,ds,PP,Ed,hS,hR,ho,hb,hd,hq,hx⟩:=h
  obtain ⟨d,J,q⟩:=hbody cdv A outer s H E M bg ds PP Ed hr (fun C H' e k o=>hx C H' e k o) hS
  exact ⟨_,J.h,run hR ho hb hd hq q⟩
theorem Fun.okL {P:Program}{w:World} {mg:Str->Option Value}{base:Heap}{x qual:Str}{st:Stmt}{f:Addr} {N:List Str}{p:Str}{k:Nat}(B:BagT)(F:Fun K x qual st f fd)(S:FnScope N [p] (J7 st))
 (hbody:∀ (cdv:Value) (A:Around) (outer:List Env) (s:Shared) (H:Hp) (E:XK) (ns:List Int),Room k (A.deeper (envOfC qual (J7 st) s.heap.objs.size f cdv))->ns.length<=63 ->
  ∃ d,JSs (BO CX0 P w K mg base N qual (J7 st) f cdv A outer s H E).nox ⟨K,B,H,fun _=>False,none⟩ (BX st) d/\d { nx:=fun _=>D.non=.bl true,rt:=fun d=>d=.bl true } (BY N [.scr ns])) :
 FnOk P w K mg base CX0 (k+1) f fd [p] (fun vs H Q _=>∃ (a:Addr) (ns:List Int),vs=[.ref a]/\SqL K H a (ns.map V.int)/\ns.length<=63/\∀ H',Q (.bl true) H') :=
 F.ok S (fun vs H Q E h=>by obtain ⟨a,ns,rfl,_⟩:=h;rfl) fun cdv A outer s H vs Q E hr h=>by
  obtain ⟨a,ns,rfl,hS,hlen,k⟩:=h
  have hR:RepAs K (fun _=>False) none H [.scr ns] [.ref a]:=⟨.ref a,[],rfl,⟨a,rfl,hS.imp (fun q=>⟨id,q⟩) id⟩,rfl⟩
  obtain ⟨d,J,q⟩:=hbody cdv A outer s H E ns hr hlen
  exact ⟨_,J.h,run (P:=fun d=>d=.bl true) hR (fun p e=>by cases e) (fun p e=>by cases e) (fun c m=>m.elim) (fun d v H' hd r _ _=>by cases hd;cases (show _=_ from r);exact k H') q⟩
mutual
noncomputable def AN:D->Option PyData
 | .non=>some .none
 | .bl b=>some (.bool b)
 | .int i=>some (.int i)
 | .str x=>if PyData.strOk x then some (.str x) else none
 | .tup xs=>(DW xs).map .tuple
 | .lst xs=>(DW xs).map .list
 | .own xs=>(DW xs).map .list
 | .ty _=>none
 | .adr _=>none
 | .bag=>none
 | .frg _ d=>AN d
 | .scr _=>none
 | .dct _ _ _=>none
noncomputable def DW:List D->Option (List PyData)
 | []=>some []
 | d::ds=>(AN d).bind fun p=>(DW ds).map (p::·)
end
mutual
theorem AN.lay:∀ (d:D) (p:PyData),AN d=some p->p.canLay0=true
 | .non,p,h=>by cases h;rfl
 | .bl b,p,h=>by cases h;rfl
 | .int i,p,h=>by cases h;rfl
 | .str x,p,h=>by
   unfold AN at h
   split at h
   · cases h;unfold PyData.canLay0;assumption
   · cases h
 | .tup xs,p,h=>by
   unfold AN at h
   obtain ⟨ps,e,rfl⟩:=Option.map_eq_some_iff.mp h
   unfold PyData.canLay0
   exact DW.lay xs ps e
 | .lst xs,p,h=>by
   unfold AN at h
   obtain ⟨ps,e,rfl⟩:=Option.map_eq_some_iff.mp h
   unfold PyData.canLay0
   exact DW.lay xs ps e
 | .own xs,p,h=>by
   unfold AN at h
   obtain ⟨ps,e,rfl⟩:=Option.map_eq_some_iff.mp h
   unfold PyData.canLay0
   exact DW.lay xs ps e
 | .ty _,p,h=>by unfold AN at h;cases h
 | .adr _,p,h=>by unfold AN at h;cases h
 | .bag,p,h=>by unfold AN at h;cases h
 | .frg _ d,p,h=>by unfold AN at h;exact AN.lay d p h
 | .scr _,p,h=>by unfold AN at h;cases h
 | .dct _ _ _,p,h=>by unfold AN at h;cases h
theorem DW.lay:∀ (ds:List D) (ps:List PyData),DW ds=some ps->PyData.canLayAll0 ps=true
 | [],ps,h=>by cases h;rfl
 | d::ds,ps,h=>by
   unfold DW at h
   obtain ⟨p,e1,h⟩:=Option.bind_eq_some_iff.mp h
   obtain ⟨qs,e2,rfl⟩:=Option.map_eq_some_iff.mp h
   unfold PyData.canLayAll0
   rw [AN.lay d p e1,DW.lay ds qs e2];rfl
end
section
variable {X:Cx}{pins:List (Addr×Obj)}{σ:St}{H:Hp}{s:Shared}{M:Addr->Prop}
mutual
theorem KZ (I:Inv X pins σ H s):∀ (d:D) (v:V) (u:Value) (p:PyData),Rep X.K M H d v->RelV v u->AN d=some p->∃ as,Reads s.heap u p as
 | .non,v,u,p,r,q,h=>by cases h;cases (show _=_ from r);cases (show u=Value.none from q);exact ⟨_,.none⟩
 | .bl b,v,u,p,r,q,h=>by cases h;cases (show _=_ from r);cases (show u=Value.bool b from q);exact ⟨_,.bool _⟩
 | .int i,v,u,p,r,q,h=>by
   cases h;cases (show _=_ from r)
   obtain ⟨t,rfl⟩:=(show ∃ t,u=Value.int i t from q)
   exact ⟨_,.int _ _⟩
 | .str x,v,u,p,r,q,h=>by
   unfold AN at h
   split at h
   · cases h;cases (show _=_ from r)
     obtain ⟨t,rfl⟩:=(show ∃ t,u=Value.str x t from q)
     exact ⟨_,.str _ _⟩
   · cases h
 | .tup xs,v,u,p,r,q,h=>by
   unfold AN at h
   obtain ⟨ps,e,rfl⟩:=Option.map_eq_some_iff.mp h
   obtain ⟨a,vs,rfl,z,rs⟩:=r
   cases (show u=Value.ref a from q)
   obtain ⟨its,r1,⟨o,h1,h2,n,h3⟩,_⟩:=I.tuple z.sq
   obtain ⟨as,ra⟩:=FP I xs vs its ps rs r1 e
   exact ⟨as,.tuple h1 h2 h3 (by simpa using ra)⟩
 | .lst xs,v,u,p,r,q,h=>by
   unfold AN at h
   obtain ⟨ps,e,rfl⟩:=Option.map_eq_some_iff.mp h
   obtain ⟨a,vs,rfl,z,rs⟩:=r
   cases (show u=Value.ref a from q)
   obtain ⟨its,r1,⟨o,n,h1,h2,_,h3⟩,_⟩:=I.list (SqL.of z.2)
   obtain ⟨as,ra⟩:=FP I xs vs its ps rs r1 e
   exact ⟨a::as,.list h1 h2 h3 (by simpa using ra)⟩
 | .own xs,v,u,p,r,q,h=>r.elim
 | .ty _,_,_,p,_,_,h=>by unfold AN at h;cases h
 | .adr _,_,_,p,_,_,h=>by unfold AN at h;cases h
 | .bag,_,_,p,_,_,h=>by unfold AN at h;cases h
 | .frg _ _,_,_,p,r,_,h=>r.elim
 | .scr _,_,_,p,_,_,h=>by unfold AN at h;cases h
 | .dct _ _ _,_,_,p,_,_,h=>by unfold AN at h;cases h
theorem FP (I:Inv X pins σ H s):∀ (ds:List D) (vs:List V) (us:List Value) (ps:List PyData),Reps X.K M H ds vs->Vals vs us->DW ds=some ps->∃ as,ReadsAll s.heap us ps as
 | [],vs,us,ps,r,q,h=>by
   cases h
   cases (show vs=[] from r)
   cases q
   exact ⟨[],.nil⟩
 | d::ds,vs,us,ps,r,q,h=>by
   unfold DW at h
   obtain ⟨p,e1,h⟩:=Option.bind_eq_some_iff.mp h
   obtain ⟨qs,e2,rfl⟩:=Option.map_eq_some_iff.mp h
   obtain ⟨v,rv,rfl,r1,r2⟩:=r
   cases q with
   | cons q1 q2 =>
     obtain ⟨as,a1⟩:=KZ I d v _ p r1 q1 e1
     obtain ⟨bs,a2⟩:=FP I ds rv _ qs r2 q2 e2
     exact ⟨as++bs,.cons a1 a2⟩
end
end
noncomputable def Q1h (K:Fg)(M:Addr->Prop)(H:Hp):D->V->Prop
 | .own xs,v=>∃ a vs,v=.ref a/\H a=some (.lst vs)/\Reps K M H xs vs
 | .frg _ d,v=>∃ M',Rep K M' H d v
 | d,v=>Rep K M H d v
theorem RepX.g {W:Wd} {H:Hp}{d:D}{v:V}{p:PyData}(h:RepX W M b H d v)(e:AN d=some p):Q1h W.K M H d v:=by
 cases d
 case own xs=>obtain ⟨a,vs,rfl,_,_,_,_,hh,r⟩:=h;exact ⟨a,vs,rfl,hh,r⟩
 case bag=>unfold AN at e;cases e
 case frg f d=>exact ⟨_,h.2.2⟩
 all_goals exact h
theorem FQ {X:Cx}{pins:List (Addr×Obj)}{σ:St}{H:Hp}{s:Shared} (I:Inv X pins σ H s){d:D}{v:V}{u:Value}{p:PyData}(r:Q1h X.K M H d v)(q:RelV v u)(h:AN d=some p):∃ as,Reads s.heap u p as:=by
 cases d
 case own xs =>
  obtain ⟨a,vs,rfl,hh,r⟩:=r
  unfold AN at h
  obtain ⟨ps,e,rfl⟩:=Option.map_eq_some_iff.mp h
  cases (show u=Value.ref a from q)
  obtain ⟨its,r1,⟨o,n,h1,h2,_,h3⟩,_⟩:=I.list (SqL.of hh)
  obtain ⟨as,ra⟩:=FP I xs vs its ps r r1 e
  exact ⟨a::as,.list h1 h2 h3 (by simpa using ra)⟩
 case frg f d =>
  obtain ⟨M',r⟩:=r
  exact KZ (M:=M') I d _ _ _ r q (by unfold AN at h;exact h)
 all_goals exact KZ I _ _ _ _ r q h
noncomputable def Q2w (K:Fg)(neg:Bool):R2:=fun x y H Q=>∃ M dx dy p q,Q1h K M H dx x/\Q1h K M H dy y/\AN dx=some p/\AN dy=some q/\min p.depth q.depth<=60/\Q (.bl (PyData.eqv p q != neg)) H
theorem YI {X:Cx}(K:Fg)(hK:X.K=K)(hu:X.A.units+64<cLine):OpR X (compareOp .Eq) (Q2w K false):=by
 subst hK
 intro pins s σ H x y v u Q I rx ry h
 obtain ⟨M,dx,dy,p,q,r1,r2,e1,e2,hd,hq⟩:=h
 obtain ⟨as,a1⟩:=FQ I r1 rx e1
 obtain ⟨bs,a2⟩:=FQ I r2 ry e2
 refine SeqAt.compareEq_reads a1 a2 (AN.lay _ _ e1) (AN.lay _ _ e2) (by omega) ?_
 exact ⟨.bl _,H,I,rfl,by simpa using hq⟩
theorem SE {X:Cx}(K:Fg)(hK:X.K=K)(hu:X.A.units+64<cLine):OpR X (compareOp .NotEq) (Q2w K true):=by
 subst hK
 intro pins s σ H x y v u Q I rx ry h
 obtain ⟨M,dx,dy,p,q,r1,r2,e1,e2,hd,hq⟩:=h
 obtain ⟨as,a1⟩:=FQ I r1 rx e1
 obtain ⟨bs,a2⟩:=FQ I r2 ry e2
 refine SeqAt.compareNe_reads a1 a2 (AN.lay _ _ e1) (AN.lay _ _ e2) (by omega) ?_
 exact ⟨.bl _,H,I,rfl,by simpa using hq⟩
inductive EqG (neg:Bool)(x y:D)(P:D->Prop):Prop
 | mk (p q:PyData) (e1:AN x=some p) (e2:AN y=some q) (hd:min p.depth q.depth<=60) (h:P (.bl (PyData.eqv p q != neg))):EqG neg x y P
noncomputable def Q8v (neg:Bool):D->D->(D->Prop)->Prop:=fun x y P=>EqG neg x y P
theorem IA {W:Wd}{neg:Bool}:OpD W (Q2w W.K neg) (Q8v neg):=by
 intro M b H x y v u P Q hs rx ry ho k
 obtain ⟨p,q,e1,e2,hd,hp⟩:=ho
 exact ⟨M,x,y,p,q,rx.g e1,ry.g e2,e1,e2,hd,k _ _ H hp (show _=_ from rfl) (Kp.refl _ _) hs.ok⟩
mutual
noncomputable def BS:Nat->D->Bool
 | _,.non=>true
 | _,.bl _=>true
 | _,.int _=>true
 | _,.str x=>PyData.strOk x
 | n+1,.tup xs=>FW n xs
 | n+1,.lst xs=>FW n xs
 | n+1,.own xs=>FW n xs
 | n,.frg _ d=>BS n d
 | _,_=>false
noncomputable def FW:Nat->List D->Bool
 | _,[]=>true
 | n,d::ds=>BS n d&&FW n ds
end
mutual
theorem SZ:∀ (n:Nat) (d:D),BS n d=true->∃ p,AN d=some p/\p.depth<=n/\PyData.eqv p p=true
 | n,.non,h=>⟨_,rfl,Nat.zero_le _,rfl⟩
 | n,.bl b,h=>⟨_,rfl,Nat.zero_le _,by simp [PyData.eqv]⟩
 | n,.int i,h=>⟨_,rfl,Nat.zero_le _,by simp [PyData.eqv]⟩
 | n,.str x,h=>by
   have h:PyData.strOk x=true:=by cases n<;>simpa [BS] using h
   exact ⟨.str x,by unfold AN;rw [if_pos h],Nat.zero_le _,by simp [PyData.eqv]⟩
 | 0,.tup xs,h=>by simp [BS] at h
 | 0,.lst xs,h=>by simp [BS] at h
 | 0,.own xs,h=>by simp [BS] at h
 | n+1,.tup xs,h=>by
   obtain ⟨ps,e,hd,hq⟩:=JK n xs (by simpa [BS] using h)
   exact ⟨.tuple ps,by unfold AN;rw [e];rfl,by unfold PyData.depth;omega,by unfold PyData.eqv;exact hq⟩
 | n+1,.lst xs,h=>by
   obtain ⟨ps,e,hd,hq⟩:=JK n xs (by simpa [BS] using h)
   exact ⟨.list ps,by unfold AN;rw [e];rfl,by unfold PyData.depth;omega,by unfold PyData.eqv;exact hq⟩
 | n+1,.own xs,h=>by
   obtain ⟨ps,e,hd,hq⟩:=JK n xs (by simpa [BS] using h)
   exact ⟨.list ps,by unfold AN;rw [e];rfl,by unfold PyData.depth;omega,by unfold PyData.eqv;exact hq⟩
 | n,.ty _,h=>by cases n<;>simp [BS] at h
 | n,.adr _,h=>by cases n<;>simp [BS] at h
 | n,.bag,h=>by cases n<;>simp [BS] at h
 | n,.frg _ d,h=>by
   obtain ⟨p,e,h1,h2⟩:=SZ n d (by cases n<;>simpa [BS] using h)
   exact ⟨p,by unfold AN;exact e,h1,h2⟩
 | n,.scr _,h=>by cases n<;>simp [BS] at h
 | n,.dct _ _ _,h=>by cases n<;>simp [BS] at h
theorem JK:∀ (n:Nat) (ds:List D),FW n ds=true->∃ ps,DW ds=some ps/\PyData.depthAll ps<=n/\PyData.eqvAll ps ps=true
 | n,[],h=>⟨[],rfl,Nat.zero_le _,rfl⟩
 | n,d::ds,h=>by
   unfold FW at h
   obtain ⟨h1,h2⟩:=(Bool.and_eq_true _ _).mp h
   obtain ⟨p,e1,d1,q1⟩:=SZ n d h1
   obtain ⟨ps,e2,d2,q2⟩:=JK n ds h2
   exact ⟨p::ps,by unfold DW;rw [e1,e2];rfl,by unfold PyData.depthAll;omega,by unfold PyData.eqvAll;rw [q1,q2];rfl⟩
end
theorem JL {x y:D}{neg:Bool}{P:D->Prop}(n:Nat)(h:BS n x=true)(e:AN y=AN x)(hn:n<=60)(hp:P (.bl (!neg))):EqG neg x y P:=by
 obtain ⟨p,e1,d1,q1⟩:=SZ n x h
 refine ⟨p,p,e1,e.trans e1,by omega,?_⟩
 rw [q1]
 simpa using hp
section
variable {d:DE}
noncomputable def bor:D->D
 | .own xs=>.lst xs
 | .frg _ d=>d
 | d=>d
noncomputable def EO:D->Bool
 | .non=>true
 | .bl _=>true
 | .int _=>true
 | .str _=>true
 | _=>false
end
noncomputable abbrev DSO:=List D->(List D->Prop)->(Addr->Prop)->Prop
noncomputable def Y7 (K:Fg)(B:BagT)(S:DSO):Sp:=fun vs H Q E=>∃ (M:Addr->Prop) (b:Option Addr) (ds:List D) (P:List D->Prop) (Ed:Addr->Prop),S ds P Ed/\RepAs K M b H ds vs/\okB B b H/\(∀ p,b=some p->M p)/\(∀ c,M c->∃ o,H c=some o) /\
 (∀ xs a us H',P xs->H a=none->H' a=some (.lst us)->Reps K (fun c=>M c\/c=a) H' xs us->Kp b H H'->okB B b H'->Q (.ref a) H')/\∀ C H',Ed C->Kp b H H'->okB B b H'->E (.ref C) none H'
theorem Y7.len {B:BagT}{S:DSO}{n:Nat}(h:∀ ds P Ed,S ds P Ed->ds.length=n):∀ vs H Q E,Y7 K B S vs H Q E->vs.length=n:=fun vs H Q E ⟨M,b,ds,P,Ed,hS,hr,_⟩=>by rw [hr.length];exact h _ _ _ hS
theorem Q6m {B:BagT} {N:List Str}{ds:List D}{vs:List V}{H:Hp}{Q:VK}{P:List D->Prop}{d:DS}(hr:RepAs K M b H ds vs)(ho:okB B b H)(hb:∀ p,b=some p->M p)(hd:∀ c,M c->∃ o,H c=some o)(hq:∀ xs a us H',P xs->H a=none->H' a=some (.lst us)->Reps K (fun c=>M c\/c=a) H' xs us->Kp b H H'->okB B b H'->Q (.ref a) H')
 (h:d { nx:=fun _=>False,rt:=fun _=>False,ro:=P } (BY N ds)):sn ⟨K,B,H,M,b⟩ d { nx:=fun _ H'=>Q .non H',rt:=Q } (EB N vs) H :=
 ⟨[],M,b,BY N ds,{ nx:=fun _=>False,rt:=fun _=>False,ro:=P },Q1r hr ho hb hd,⟨fun _ _ _ _ _ _ h=>h.elim,fun _ _ _ h=>h.elim,fun _ _ _ _ _ _ h=>h.elim,fun _ _ _ _ _ _ h=>h.elim,fun xs a us H' hp h0 _ hh r k o=>hq xs a us H' hp h0 hh r k o⟩,h⟩
theorem Fun.okDO {P:Program}{w:World} {mg:Str->Option Value}{base:Heap}{x qual:Str}{st:Stmt}{f:Addr} {N ps:List Str}{k:Nat}{B:BagT}{Sd:DSO}(F:Fun K x qual st f fd)(S:FnScope N ps (J7 st))(len:∀ ds PP Ed,Sd ds PP Ed->ds.length=ps.length)
 (hbody:∀ (cdv:Value) (A:Around) (outer:List Env) (s:Shared) (H:Hp) (E:XK) (M:Addr->Prop) (bg:Option Addr) (ds:List D) (PP:List D->Prop) (Ed:Addr->Prop),Room k (A.deeper (envOfC qual (J7 st) s.heap.objs.size f cdv))->Sd ds PP Ed ->
  ∃ d,JSs (BO CX0 P w K mg base N qual (J7 st) f cdv A outer s H E).nox ⟨K,B,H,M,bg⟩ (BX st) d/\d { nx:=fun _=>False,rt:=fun _=>False,ro:=PP } (BY N ds)):FnOk P w K mg base CX0 (k+1) f fd ps (Y7 K B Sd) :=
 F.ok S (Y7.len len) fun cdv A outer s H vs Q E hr h=>by
  obtain ⟨M,bg,ds,PP,Ed,hS,hR,ho,hb,hd,hq,hx⟩:=h
  obtain ⟨d,J,q⟩:=hbody cdv A outer s H E M bg ds PP Ed hr hS
  exact ⟨_,J.h,Q6m hR ho hb hd hq q⟩
section
variable {X:Cx}{W:Wd}{e a b c tg iter l:Expr}{es:List Expr}{pos p:Pos}{d de:DE}{dA di:DA}{dt:DT}{x:Str}{k:Nat}{ps:List Str}{S:DSO}
theorem Sta.fresh0 {pn:List (D×V)} {b:Option Addr}{H:Hp}{σ:St}{ρ:Ev}{p:Addr}(s:Sta W pn M b H σ ρ)(h:H p=none):W.H0 p=none/\¬ W.M0 p:=by
 have hbp:b≠some p:=fun z=>by
  obtain ⟨o,e⟩:=W.B.dm p H (s.ok p z)
  rw [h] at e;cases e
 refine ⟨?_,fun z=>s.toHs.new h (s.m0 p z)⟩
 cases q:W.H0 p with
 | none=>rfl
 | some o =>
   by_cases z:W.b0=some p
   · rcases s.new with y|⟨y,_⟩
     · exact absurd (y.trans z) hbp
     · rw [y] at z;cases z
   · have:=s.kp p o z q
     rw [h] at this;cases this
noncomputable def Q7x (de:DE):DS:=fun F ρ=>de ρ fun x=>match x with|.own xs=>F.ro xs|_=>False
theorem NV (he:JE X W e de):JS X W (.Return (some e) pos) (Q7x de):=⟨(CK he.h).mono fun E σ H hh=>hh.elim fun pn M b ρ F s l h=>by
 refine ⟨pn,M,b,ρ,_,s.toSta,h,fun x v H' hx rx k o=>?_⟩
 have s':=s.toSta.step k o
 cases x<;>first|exact hx.elim|skip
 case own xs =>
  obtain ⟨a,vs,rfl,m,n,n0,m0,hh,r⟩:=rx
  exact l.ro _ _ _ H' hx n0 m0 hh (Reps.avoid (fun c z=>.inl (z.elim (s'.m0 c) fun y=>by rw [y];exact m)) _ _ r) s'.kp s'.ok0⟩
theorem RX {pn:List (D×V)} {b:Option Addr}{H:Hp}{σ:St}{ρ:Ev}{p:Addr}{E:Ends}{F:DEnds}{xs:List D}{vs:List V}(s:Sta W pn M b H σ ρ)(l:Link W pn E F)(h:H p=none)(r:Reps W.K M H xs vs)(hx:F.ro xs):E.rt (.ref p) (upd H p (.lst vs)):=by
 obtain ⟨h0,m0⟩:=s.fresh0 h
 have s':=s.step (Kp.upd (o:=HO.lst vs) h) (s.toHs.okU h)
 exact l.ro xs p vs _ hx h0 m0 AC (Reps.keep (fun c o _ e=>Same.upd h c o e) _ _ (Reps.avoid (fun c z=>z.elim (fun y=>.inl (s.m0 c y)) fun y=>.inr (by rw [y];exact h)) _ _ r)) s'.kp s'.ok0
noncomputable def Q8a (map:List (Option Nat))(gd:D->Ev->(Ev->Prop)->Prop)(di:DA)(dt:DT)(de:DE):DS:=fun F ρ=>di ρ fun items=>items.length<=1000/\compI gd dt de (HJ ρ map) items fun acc=>F.ro acc
theorem J5p {elt iter tg:Expr}{ifs:List Expr}{scope:Scope}{N':List Str}{map:List (Option Nat)}{g:TG}{gd:D->Ev->(Ev->Prop)->Prop}{cpos:Pos}(hG:GD W g gd)(B:Blk X N' scope map tg elt ifs g (dnT W dt) (dn W de))(hi:JI X W false tg iter di)
 (hs:∀ x,foldedSetIterable iter X.env x=pure x:=by intro _;rfl):JS X W (.Return (some (.ListComp elt [⟨tg,iter,ifs,0⟩] scope cpos)) pos) (Q8a map gd di dt de):=⟨(CK (J0e B hi.h hs)).mono fun E σ H hh=>hh.elim fun pn M b ρ F s l h=>by
 refine ⟨pn,M,b,ρ,_,s.toSta,h,fun items J need H1 hx hp hI hn k1 o1=>?_⟩
 have s1:=s.step k1 o1
 refine IH hG (s1.toSta.capt map) hp hI (fun q hq=>(hn q hq).1) hx.1 hx.2 fun ds acc H' hP r hl k2 o2 q hq=>?_
 exact RX (s1.step k2 o2).toSta l hq r hP⟩
mutual
noncomputable def noL:D->Bool
 | .tup xs=>EZ xs
 | .lst _=>false
 | .own _=>false
 | .bag=>false
 | .frg _ _=>false
 | .scr _=>false
 | .dct _ _ _=>false
 | .non=>true
 | .bl _=>true
 | .int _=>true
 | .str _=>true
 | .ty _=>true
 | .adr _=>true
noncomputable def EZ:List D->Bool
 | []=>true
 | d::ds=>noL d&&EZ ds
end
section
variable {K:Fg}{M M':Addr->Prop}{H:Hp}
mutual
theorem Rep.unbor (k:∀ c,M c->M' c\/∃ o,H c=some o/\∀ vs,o≠.tup vs):∀ (d:D) (v:V),noL d=true->Rep K M' H d v->Rep K M H d v
 | .non,_,_,h=>h
 | .bl _,_,_,h=>h
 | .int _,_,_,h=>h
 | .str _,_,_,h=>h
 | .ty _,_,_,h=>h
 | .adr _,_,_,h=>h
 | .tup xs,v,n,h=>by
   obtain ⟨a,vs,e,z,r⟩:=h
   refine ⟨a,vs,e,z.imp (fun q=>⟨fun m=>?_,q.2⟩) id,Reps.unbor k xs vs (by unfold noL at n;exact n) r⟩
   rcases k a m with y|⟨us,y,nt⟩
   · exact q.1 y
   · rw [q.2] at y;cases y;exact nt _ rfl
 | .lst _,_,n,_=>by unfold noL at n;cases n
 | .own _,_,n,_=>by unfold noL at n;cases n
 | .bag,_,n,_=>by unfold noL at n;cases n
 | .frg _ _,_,n,_=>by unfold noL at n;cases n
 | .scr _,_,n,_=>by unfold noL at n;cases n
 | .dct _ _ _,_,n,_=>by unfold noL at n;cases n
theorem Reps.unbor (k:∀ c,M c->M' c\/∃ o,H c=some o/\∀ vs,o≠.tup vs):∀ (ds:List D) (vs:List V),EZ ds=true->Reps K M' H ds vs->Reps K M H ds vs
 | [],_,_,h=>h
 | d::ds,vs,n,h=>by
   obtain ⟨v,r,e,h1,h2⟩:=h
   unfold EZ at n
   obtain ⟨n1,n2⟩:=(Bool.and_eq_true _ _).mp n
   exact ⟨v,r,e,Rep.unbor k d v n1 h1,Reps.unbor k ds r n2 h2⟩
end
end
noncomputable def BorAt:List D->List V->Addr->Prop
 | .own _::ds,v::vs,c=>v=.ref c\/BorAt ds vs c
 | .frg f _::ds,_::vs,c=>c∈f.ads\/BorAt ds vs c
 | _::ds,_::vs,c=>BorAt ds vs c
 | _,_,_=>False
theorem BorAt.lst {b:Option Addr}{H:Hp}{c:Addr}:∀ (ds:List D) (vs:List V),RepXs W M b H ds vs->BorAt ds vs c->b≠some c/\∃ o,H c=some o/\∀ vs,o≠.tup vs
 | [],vs,h,q=>by cases (show vs=[] from h);exact q.elim
 | d::ds,vs,h,q=>by
   obtain ⟨v,r,rfl,h1,h2⟩:=h
   cases d
   case own xs =>
    rcases q with z|z
    · obtain ⟨a,us,e,m1,m2,m3,m4,hh,r'⟩:=h1
      rw [z] at e;cases e
      exact ⟨m2,_,hh,fun _ y=>by cases y⟩
    · exact BorAt.lst ds r h2 z
   case frg f d =>
    rcases q with z|z
    · exact ⟨(h1.1 c z).2.1,f.nt _ _ _ h1.2.1 c z⟩
    · exact BorAt.lst ds r h2 z
   all_goals exact BorAt.lst ds r h2 q
theorem RepXs.bor2 {M M':Addr->Prop}{b:Option Addr}{H:Hp}(sub:∀ c,M' c->M c):∀ (ds:List D) (vs:List V),(∀ c,BorAt ds vs c->¬ M' c)->RepXs W M b H ds vs->RepAs W.K M' b H (ds.map L2.bor) vs
 | [],_,_,h=>h
 | d::ds,vs,nb,h=>by
   obtain ⟨v,r,rfl,h1,h2⟩:=h
   have av:∀ c,M' c->M c\/H c=none:=fun c hc=>.inl (sub c hc)
   have nb2:∀ c,BorAt ds r c->¬ M' c:=fun c hc=>nb c (by cases d<;>first|exact hc|exact .inr hc)
   refine ⟨v,r,rfl,?_,RepXs.bor2 sub ds r nb2 h2⟩
   cases d
   case own xs =>
    obtain ⟨a,us,rfl,m1,m2,m3,m4,hh,r'⟩:=h1
    exact ⟨a,us,rfl,⟨nb a (.inl rfl),hh⟩,Reps.avoid av _ _ r'⟩
   case bag=>exact h1
   case frg f d =>
    have r:=Rep.avoid (M':=M') (fun c hc=>.inl ⟨sub c hc,fun m=>nb c (.inl m) hc⟩) _ _ h1.2.2
    show Q5q W.K _ b H d v
    cases d<;>first|exact r|exact r.elim
   all_goals exact Rep.avoid av _ _ h1
theorem J7h {pn:List (D×V)} {b:Option Addr}{H1:Hp}{σ:St}{ρ:Ev}{xs:List D}{vs:List V}{P:List D->Prop}{Q:VK}(st1:Sta W pn M b H1 σ ρ)(rx:RepXs W M b H1 xs vs)(hS:S (xs.map bor) (fun ys=>EZ ys=true/\P ys) (fun _=>False))
 (k:∀ ys a us H',P ys->H1 a=none->H' a=some (.lst us)->Reps W.K M H' ys us->Kp b H1 H'->okB W.B b H'->Q (.ref a) H'):Y7 W.K W.B S vs H1 Q E0:=by
 refine ⟨fun c=>M c/\¬ BorAt xs vs c,b,xs.map bor,_,fun _=>False,hS,RepXs.bor2 (fun c h=>h.1) _ _ (fun c h z=>z.2 h) rx,st1.ok,fun p h=>⟨st1.bagM p h,fun z=>(BorAt.lst xs vs rx z).1 h⟩,fun c hc=>st1.dom c hc.1,fun ys a us H' hp h0 hh r k2 o2=>?_,fun C H' hC=>hC.elim⟩
 refine k ys a us H' hp.2 h0 hh (Reps.unbor (fun c m=>?_) _ _ hp.1 (Reps.avoid (fun c m=>.inl (.inl m)) _ _ r)) k2 o2
 by_cases z:BorAt xs vs c
 · obtain ⟨nb,us',e,nt⟩:=BorAt.lst xs vs rx z
   exact .inr ⟨us',k2 c _ nb e,nt⟩
 · exact .inl ⟨m,z⟩
noncomputable def Q5b (S:DSO)(dA:DA):DE:=fun ρ P=>dA ρ fun ds=>S (ds.map bor) (fun ys=>EZ ys=true/\P (.lst ys)) (fun _=>False)
theorem DY (G:Callee X.prog X.w X.K X.mg X.base CX0 x k ps (Y7 W.K W.B S))(hr:Room k X.A)(hg:Gl X x)(ha:JA X W (e::es) dA)(hdb:(x==("__debug__" : Str))=false:=by decide) (he:starEach (e::es) X.env=(false,eval e X.env)::starEach es X.env:=by rfl) (hpl:(backTo pos (starEach es X.env)).any (·.1)=false:=by rfl) :
 JE X W (.Call (.Name x p) (e::es) [] pos) (Q5b S dA):=⟨(NK G hr hg ha.h hdb he hpl).mono fun σ H Q hh=>hh.elim fun pn M b ρ P st h k=>by
 refine ⟨pn,M,b,ρ,_,st,h,fun xs vs H1 hx rx k1 o1=>?_⟩
 have st1:=st.step k1 o1
 show Y7 W.K W.B S (vs++[]) H1 Q E0
 rw [List.append_nil]
 exact J7h (P:=fun ys=>P (.lst ys)) st1 rx hx fun ys a us H' hp h0 hh r k2 o2=>k _ _ H' hp ⟨a,us,rfl,⟨st1.toHs.new h0,hh⟩,r⟩ (k1.trans k2) o2⟩
end
theorem Fun.okDXO {P:Program}{w:World} {mg:Str->Option Value}{base:Heap}{CX:CXT}{x qual:Str}{st:Stmt}{f:Addr} {N ps:List Str}{k:Nat}{B:BagT}{Sd:DSO}(F:Fun K x qual st f fd)(S:FnScope N ps (J7 st))(len:∀ ds PP Ed,Sd ds PP Ed->ds.length=ps.length)
 (hbody:∀ (cdv:Value) (A:Around) (outer:List Env) (s:Shared) (H:Hp) (E:XK) (M:Addr->Prop) (bg:Option Addr) (ds:List D) (PP:List D->Prop) (Ed:Addr->Prop),Room k (A.deeper (envOfC qual (J7 st) s.heap.objs.size f cdv))->HL ⟨K,B,H,M,bg⟩ E Ed->Sd ds PP Ed ->
  ∃ d,JSs (BO CX P w K mg base N qual (J7 st) f cdv A outer s H E) ⟨K,B,H,M,bg⟩ (BX st) d/\d { nx:=fun _=>False,rt:=fun _=>False,ro:=PP } (BY N ds)):FnOk P w K mg base CX (k+1) f fd ps (Y7 K B Sd) :=
 F.okX S (Y7.len len) fun cdv A outer s H vs Q E hr h=>by
  obtain ⟨M,bg,ds,PP,Ed,hS,hR,ho,hb,hd,hq,hx⟩:=h
  obtain ⟨d,J,q⟩:=hbody cdv A outer s H E M bg ds PP Ed hr (fun C H' e k o=>hx C H' e k o) hS
  exact ⟨_,J.h,Q6m hR ho hb hd hq q⟩
section
variable {X:Cx}{W:Wd}{e a b c l:Expr}{es:List Expr}{pos p:Pos}{dA:DA}{x:Str}{k:Nat}{ps:List Str}{S:DSO}
noncomputable def Q7y (dA:DA):DS:=fun F ρ=>dA ρ fun xs=>GE xs=true/\F.ro xs
theorem J5o {lpos:Pos}(h:JA X W es dA):JS X W (.Return (some (.List es lpos)) pos) (Q7y dA):=⟨(CK (SB h.h)).mono fun E σ H hh=>hh.elim fun pn M b ρ F s l h=>by
 refine ⟨pn,M,b,ρ,_,s.toSta,h,fun xs vs H1 hx rx k1 o1=>?_⟩
 have rr:=rx.reps _ _ (GE.pl hx.1)
 exact ⟨by rw [rr.length];exact GE.len hx.1,fun p hp=>RX (s.toSta.step k1 o1) l hp rr hx.2⟩⟩
theorem J3k {pn:List (D×V)} {b:Option Addr}{H1:Hp}{σ:St}{ρ:Ev}{xs:List D}{vs:List V}{P:List D->Prop}{Q:VK}{E:XK}{Ed:Addr->Prop}(hE:HL W E Ed)(st1:Sta W pn M b H1 σ ρ)(rx:RepXs W M b H1 xs vs)(hS:S (xs.map bor) (fun ys=>EZ ys=true/\P ys) Ed)
 (k:∀ ys a us H',P ys->H1 a=none->H' a=some (.lst us)->Reps W.K M H' ys us->Kp b H1 H'->okB W.B b H'->Q (.ref a) H'):Y7 W.K W.B S vs H1 Q E:=by
 refine ⟨fun c=>M c/\¬ BorAt xs vs c,b,xs.map bor,_,Ed,hS,RepXs.bor2 (fun c h=>h.1) _ _ (fun c h z=>z.2 h) rx,st1.ok,fun p h=>⟨st1.bagM p h,fun z=>(BorAt.lst xs vs rx z).1 h⟩,fun c hc=>st1.dom c hc.1,fun ys a us H' hp h0 hh r k2 o2=>?_,fun C H' hC k2 o2=>?_⟩
 · refine k ys a us H' hp.2 h0 hh (Reps.unbor (fun c m=>?_) _ _ hp.1 (Reps.avoid (fun c m=>.inl (.inl m)) _ _ r)) k2 o2
   by_cases z:BorAt xs vs c
   · obtain ⟨nb,us',e,nt⟩:=BorAt.lst xs vs rx z
     exact .inr ⟨us',k2 c _ nb e,nt⟩
   · exact .inl ⟨m,z⟩
 · have st2:=st1.step k2 o2
   exact hE C H' hC st2.kp st2.ok0
noncomputable def Q0z (S:DSO)(Ed:Addr->Prop)(dA:DA):DE:=fun ρ P=>dA ρ fun ds=>S (ds.map bor) (fun ys=>EZ ys=true/\P (.lst ys)) Ed
theorem FA {CX:CXT}{E:XK}{Ed:Addr->Prop}(hE:HL W E Ed)(hp:FZ CX X E)(G:Callee X.prog X.w X.K X.mg X.base CX x k ps (Y7 W.K W.B S))(hr:Room k X.A)(hg:Gl X x)(ha:JA X W (e::es) dA)(hdb:(x==("__debug__" : Str))=false:=by decide) (he:starEach (e::es) X.env=(false,eval e X.env)::starEach es X.env:=by rfl) (hpl:(backTo pos (starEach es X.env)).any (·.1)=false:=by rfl) :
 JE X W (.Call (.Name x p) (e::es) [] pos) (Q0z S Ed dA):=⟨(J0d hp G hr hg ha.h hdb he hpl).mono fun σ H Q hh=>hh.elim fun pn M b ρ P st h k=>by
 refine ⟨pn,M,b,ρ,_,st,h,fun xs vs H1 hx rx k1 o1=>?_⟩
 have st1:=st.step k1 o1
 show Y7 W.K W.B S (vs++[]) H1 Q E
 rw [List.append_nil]
 exact J3k (P:=fun ys=>P (.lst ys)) hE st1 rx hx fun ys a us H' hp h0 hh r k2 o2=>k _ _ H' hp ⟨a,us,rfl,⟨st1.toHs.new h0,hh⟩,r⟩ (k1.trans k2) o2⟩
end
section
variable {X:Cx}{W:Wd}{pos:Pos}{dA:DA}
noncomputable def Q5a (i:Nat)(dA:DA):DS:=fun F ρ=>match ρ[i]? with
 | some (some (.own ys))=>dA ρ fun xs=>(match xs with | [.lst zs]=>ys.length+zs.length<=1000/\F.nx (ρ.set i (some (.own (ys++zs))))|_=>False)
 | _=>False
theorem Q2c {i:Nat}:∀ E σ H,sn W (Q5a i dA) E σ H->J3u (tBM W.K "list" RY (XV i) (dnA W dA)) E σ H:=fun E σ H hh=>hh.elim fun pn M b ρ F s l h=>by
 unfold Q5a at h
 split at h
 case h_2=>exact h.elim
 case h_1 ys e =>
  obtain ⟨a,vs,ea,nb,hh,r⟩:=SD s.toSta e
  refine ⟨.ref a,ea,.inl ⟨rfl,vs,SqL.of hh⟩,pn,M,b,ρ,_,s.toSta,h,fun xs us H' hx rx k o=>?_⟩
  match xs,hx with
  | [.lst zs],hx =>
    obtain ⟨u,rfl,ru⟩:=rx1 rx
    obtain ⟨a2,ws,rfl,⟨n2,h2⟩,r2⟩:=(show ∃ a vs,u=.ref a/\(¬ M a/\H' a=some (.lst vs))/\Reps W.K M H' zs vs from ru)
    have s':=s.step k o
    obtain ⟨a',vs',ea',nb',hh',r'⟩:=SD s'.toSta e
    rw [ea] at ea';cases ea'
    exact ⟨a,a2,vs',ws,rfl,rfl,hh',h2,by rw [r'.length,r2.length];exact Nat.le_trans hx.1 DK,l.nx _ _ _ _ _ (s'.setOwn i e ea (Reps.append r' r2)) hx.2⟩
theorem IC {i:Nat}{x:Str}{e:Expr}{npos apos cpos:Pos}(hK:X.K=W.K)(ha:JA X W [e] dA)
 (h:PE X (.Call (.Attribute (.Name x npos) "extend" apos) [e] [] cpos) (tBM X.K "list" RY (XV i) (dnA W dA))) (hs:swapsWith (.Call (.Attribute (.Name x npos) "extend" apos) [e] [] cpos) none pos.line X.env=pure false:=by rfl) :
 JS X W (.Expr (.Call (.Attribute (.Name x npos) "extend" apos) [e] [] cpos) pos) (Q5a i dA):=⟨(RZ (by rw [hK] at h;exact h) hs).mono Q2c⟩
end
section
variable {κ:Type} [DecidableEq κ]
end
structure M2 (X:Cx)(o:Expr)(m:Str)(apos:Pos)(e f:Expr)(cpos:Pos):Prop where
 base:attributeBase o m X.env (eval o X.env)=eval o X.env
 few:((backTo cpos (starEach [e,f] X.env)).all (fun x=>!x.1)&&(backToKw cpos (keywordEach [] X.env)).all (fun x=>x.1.isSome)
  && decide (([e,f]:List Expr).length+([]:List Keyword).length+(if ([]:List Keyword).isEmpty then 0 else 1)<30))=true
 line:(apos.endLine==cpos.line)=true
 trees:backTo cpos (starEach [e,f] X.env)=[(false,eval e X.env),(false,eval f X.env)]
theorem WZ (elt:Expr)(g1:Comprehension)(target iter:Expr)(ifs:List Expr)(scope:Scope)(pos:Pos)(it acc:Value)(env:Env) :
 compTurn (.ListComp elt [g1,⟨target,iter,ifs,0⟩] scope pos) 1 it acc env=(do
  standAt iter.pos
  match <- pyNext it with
  | none=>pure (.done .next)
  | some v =>
    letOwnedTupleGo target it v
    assign target env v
    let mut ok:=true
    for c in ifs do
     if ok then ok <- isTrue c env (eval c env)
    if ok then
     (do let _ <- call (.builtin "list.append") [acc,<- eval elt env])
    again (.compLoop (.ListComp elt [g1,⟨target,iter,ifs,0⟩] scope pos) 1 it acc env)):=by rfl
theorem TH (elt target iter target' iter':Expr)(ifs:List Expr)(scope:Scope)(pos:Pos)(it acc:Value)(env:Env) :
 compTurn (.ListComp elt [⟨target,iter,[],0⟩,⟨target',iter',ifs,0⟩] scope pos) 0 it acc env=(do
  standAt iter.pos
  match <- pyNext it with
  | none=>pure (.done .next)
  | some v =>
    letOwnedTupleGo target it v
    assign target env v
    let mut ok:=true
    for c in ([]:List Expr) do
     if ok then ok <- isTrue c env (eval c env)
    if ok then
     let x <- eval iter' env
     standAt iter'.pos
     let x <- foldedSetIterable iter' env x
     let _ <- runOwn (.compStart (.ListComp elt [⟨target,iter,[],0⟩,⟨target',iter',ifs,0⟩] scope pos) 1 (<- holding [x] (pyIter x)) acc env) env
    again (.compLoop (.ListComp elt [⟨target,iter,[],0⟩,⟨target',iter',ifs,0⟩] scope pos) 0 it acc env)):=by rfl
theorem XA {prog:Program}{w:World}{A:Around}{R:Result->Shared->Prop}{s:Shared}{elt target iter:Expr}{g1:Comprehension}{ifs:List Expr}{scope:Scope}{pos:Pos}{it acc:Value}{env:Env}(J:Nat->Shared->Prop)
 (turn:∀ n s,J n s->wpAny (model prog w) A (pyNext it) (fun r s₁=>match r with
  | none=>R (.ok .next) s₁
  | some v=>wpAny (model prog w) A (letOwnedTupleGo target it v) (fun _ s₁'=>wpAny (model prog w) A (assign target env v) (fun _ s₂=>wpAny (model prog w) A (ZK ifs env) (fun ok s₃ =>
   if ok=true then wpAny (model prog w) A (eval elt env) (fun x s₄=>wpAny (model prog w) A (call (.builtin "list.append") [acc,x]) (fun _ s₅=>∃ m,m<n/\J m s₅) (notedBy (model prog w) A env fun e s'=>R (.error e) s') s₄)
    (notedBy (model prog w) A env fun e s'=>R (.error e) s') s₃
   else ∃ m,m<n/\J m s₃) (notedBy (model prog w) A env fun e s'=>R (.error e) s') s₂) (notedBy (model prog w) A env fun e s'=>R (.error e) s') s₁') (notedBy (model prog w) A env fun e s'=>R (.error e) s') s₁)
   (notedBy (model prog w) A env fun e s'=>R (.error e) s') s) (n:Nat) (h:J n s) :
 codeAny (model prog w) A (.compLoop (.ListComp elt [g1,⟨target,iter,ifs,0⟩] scope pos) 1 it acc env) R s:=by
 refine codeAny_loop rfl J (fun n s hJ=>?_) n h
 show wpAny _ _ (Sem.onRaise (compTurn (.ListComp elt [g1,⟨target,iter,ifs,0⟩] scope pos) 1 it acc env) fun x=>do noteFrame x env;theTreesLotGoes x) _ _ _
 refine wpAny_noted ?_
 rw [WZ]
 refine wpAny_bind (wpAny_standAt (wpAny_bind (thn (turn n s hJ) fun r s₁ h₁=>?_)))
 cases r with
 | none=>exact wpAny_pure h₁
 | some v =>
   refine wpAny_bind (thn h₁ fun _ s₁' h₁'=>wpAny_bind (thn h₁' fun _ s₂ h₂=>wpAny_bind (thn h₂ fun ok s₃ h₃=>?_)))
   cases ok with
   | true=>exact wpAny_bind (wpAny_bind (thn h₃ fun x s₄ h₄=>wpAny_bind (thn h₄ fun _ s₅ h₅=>wpAny_pure (wpAny_pure ⟨rfl,h₅⟩))))
   | false=>exact wpAny_pure ⟨rfl,h₃⟩
theorem TJ {prog:Program}{w:World}{A:Around}{R:Result->Shared->Prop}{s:Shared}{elt target iter:Expr}{g1:Comprehension}{ifs:List Expr}{scope:Scope}{pos:Pos}{it acc:Value}{env:Env}
 (h0:codeAny (model prog w) A (.compLoop (.ListComp elt [g1,⟨target,iter,ifs,0⟩] scope pos) 1 it acc env) R s)
 (h:wpAny (model prog w) A (pyIter it) (fun it' s'=>codeAny (model prog w) A (.compLoop (.ListComp elt [g1,⟨target,iter,ifs,0⟩] scope pos) 1 it' acc env) R s')
  (notedBy (model prog w) A env fun x s'=>R (.error x) s') s) :
 codeAny (model prog w) A (.compStart (.ListComp elt [g1,⟨target,iter,ifs,0⟩] scope pos) 1 it acc env) R s:=by
 refine codeAny_of_tree ?_
 show wpAny _ _ ((compStart (.ListComp elt [g1,⟨target,iter,ifs,0⟩] scope pos) 1 it acc env).onRaise (fun x=>do noteFrame x env;standAt theWindowsPlace)) _ _ s
 refine wpAny_notedAt ?_
 unfold compStart
 show wpAny _ _ (ask >>= _) _ _ s
 refine wpAny_bind (wpAny_askSetting (wpAny_ite ?_))
 split
 · first
    | exact wpAny_bind (wpAny_pure (wpAny_pure (And.intro rfl h0)))
    | exact wpAny_pure (And.intro rfl h0)
 · first
    | exact wpAny_bind (wpAny_rule (wpAny_bind (wpAny_standAt (wpAny_bind (wpAny_mono h (fun it' s' h'=>wpAny_pure (And.intro rfl h')) fun _ _ x=>x)))))
    | (refine wpAny_bind (wpAny_rule ?_);show wpAny _ _ (standAt iter.pos >>= _) _ _ s;exact wpAny_bind (wpAny_standAt (wpAny_bind (wpAny_mono h (fun it' s' h'=>wpAny_pure (And.intro rfl h')) fun _ _ x=>x))))
theorem TK {prog:Program}{w:World}{A:Around}{R:Result->Shared->Prop}{s:Shared}{elt target iter target' iter':Expr}{ifs:List Expr}{scope:Scope}{pos:Pos}{it acc:Value}{env:Env}(J:Nat->Shared->Prop)
 (hs:∀ x,foldedSetIterable iter' env x=pure x)
 (turn:∀ n s,J n s->wpAny (model prog w) A (pyNext it) (fun r s₁=>match r with
  | none=>R (.ok .next) s₁
  | some v=>wpAny (model prog w) A (letOwnedTupleGo target it v) (fun _ s₁'=>wpAny (model prog w) A (assign target env v) (fun _ s₂=>wpAny (model prog w) A (eval iter' env) (fun x s₃=>wpAny (model prog w) A (pyIter x) (fun it' s₄ =>
   codeAny (model prog w) A (.compStart (.ListComp elt [⟨target,iter,[],0⟩,⟨target',iter',ifs,0⟩] scope pos) 1 it' acc env) (fun r s'=>r=.ok .next/\∃ m,m<n/\J m s') s₄)
    (fun _ _=>False) s₃) (fun _ _=>False) s₂) (fun _ _=>False) s₁') (fun _ _=>False) s₁)
   (fun _ _=>False) s) (n:Nat) (h:J n s) :
 codeAny (model prog w) A (.compLoop (.ListComp elt [⟨target,iter,[],0⟩,⟨target',iter',ifs,0⟩] scope pos) 0 it acc env) R s:=by
 refine codeAny_loop rfl J (fun n s hJ=>?_) n h
 show wpAny _ _ (Sem.onRaise (compTurn (.ListComp elt [⟨target,iter,[],0⟩,⟨target',iter',ifs,0⟩] scope pos) 0 it acc env) fun x=>do noteFrame x env;theTreesLotGoes x) _ _ _
 refine wpAny_noted ?_
 rw [TH]
 refine wpAny_bind (wpAny_standAt (wpAny_bind (wpAny_mono (turn n s hJ) (fun r s₁ h₁=>?_) fun _ _ z=>False.elim z)))
 cases r with
 | none=>exact wpAny_pure h₁
 | some v =>
   refine wpAny_bind (wpAny_mono h₁ (fun _ s₁' h₁'=>wpAny_bind (wpAny_mono h₁' (fun _ s₂ h₂=>wpAny_bind (wpAny_tests_nil ?_)) fun _ _ z=>False.elim z)) fun _ _ z=>False.elim z)
   refine wpAny_bind (wpAny_mono h₂ (fun x s₃ h₃=>?_) fun _ _ z=>False.elim z)
   refine wpAny_bind (wpAny_standAt (wpAny_bind (wpAny_of_eq (hs x) (wpAny_bind (wpAny_holding (wpAny_mono h₃ (fun it' s₄ h₄=>?_) fun _ _ z=>False.elim z))))))
   refine wpAny_bind (wpAny_runOwn (codeAny_mono h₄ fun r s' q=>?_))
   obtain ⟨rfl,q⟩:=q
   exact wpAny_pure ⟨rfl,q⟩
noncomputable def QP:Nat->List (Option Nat)->Bool
 | _,[]=>true
 | n,none::m=>QP (n+1) m
 | n,some i::m=>(i==n)&&QP (n+1) m
theorem HB:∀ {m:List (Option Nat)} {n:Nat},QP n m=true->∀ j i:Nat,m[j]?=some (some i)->i=n+j
 | [],_,_,j,i,e=>by simp at e
 | none::m,n,h,0,i,e=>by simp at e
 | none::m,n,h,j+1,i,e=>by
   have:=HB (n:=n+1) h j i (by simpa using e)
   omega
 | some a::m,n,h,j,i,e=>by
   unfold QP at h
   rw [Bool.and_eq_true,beq_iff_eq] at h
   cases j with
   | zero=>simp at e;omega
   | succ j =>
     have:=HB h.2 j i (by simpa using e)
     omega
noncomputable def ER:List (Option Nat)->List (Option Nat)->Bool
 | [],[]=>true
 | none::m,_::n=>ER m n
 | some _::m,some _::n=>ER m n
 | _,_=>false
theorem HM:∀ {m n:List (Option Nat)},ER m n=true->m.length=n.length
 | [],[],_=>rfl
 | none::m,_::n,h=>congrArg Nat.succ (HM (m:=m) (n:=n) (by unfold ER at h;exact h))
 | some _::m,some _::n,h=>congrArg Nat.succ (HM (m:=m) (n:=n) (by unfold ER at h;exact h))
 | [],_::_,h=>by cases h
 | none::_,[],h=>by cases h
 | some _::_,[],h=>by cases h
 | some _::_,none::_,h=>by cases h
theorem HN:∀ {m n:List (Option Nat)},ER m n=true->∀ j i:Nat,m[j]?=some (some i)->∃ i',n[j]?=some (some i')
 | [],[],_,j,i,e=>by simp at e
 | none::m,_::n,h,0,i,e=>by simp at e
 | none::m,_::n,h,j+1,i,e=>by
   obtain ⟨i',q⟩:=HN (m:=m) (n:=n) (by unfold ER at h;exact h) j i (by simpa using e)
   exact ⟨i',by simpa using q⟩
 | some _::m,some b::n,h,0,i,e=>⟨b,rfl⟩
 | some _::m,some _::n,h,j+1,i,e=>by
   obtain ⟨i',q⟩:=HN (m:=m) (n:=n) (by unfold ER at h;exact h) j i (by simpa using e)
   exact ⟨i',by simpa using q⟩
 | [],_::_,h,_,_,_=>by cases h
 | none::_,[],h,_,_,_=>by cases h
 | some _::_,[],h,_,_,_=>by cases h
 | some _::_,none::_,h,_,_,_=>by cases h
theorem OG {σ:St}{map:List (Option Nat)}{j:Nat}{v:V}(e:(capt σ map)[j]?=some (some v)):∃ i,map[j]?=some (some i)/\σ[i]?=some (some v):=by
 unfold capt at e
 rw [List.getElem?_map] at e
 cases hm:map[j]? with
 | none=>rw [hm] at e;cases e
 | some o =>
   rw [hm] at e
   cases o with
   | none=>simp at e
   | some i =>
     refine ⟨i,rfl,?_⟩
     have e':(σ[i]?).join=some v:=by simpa using e
     cases q:σ[i]? with
     | none=>rw [q] at e';cases e'
     | some o'=>rw [q] at e';exact congrArg some e'
theorem Q1d {σ:St}{map:List (Option Nat)}{j i:Nat}{v:V}(hm:map[j]?=some (some i))(e:σ[i]?=some (some v)):(capt σ map)[j]?=some (some v):=by
 unfold capt
 rw [List.getElem?_map,hm]
 simp [e]
structure DOk (X:Cx)(P0:List (Addr×Obj))(D:Addr):Prop where
 loc:D≠X.env.locals
 fs:D∉X.fs
 cell:∀ x c,X.env.cells.lookup x=some c->c≠D
 sz:X.s₀.heap.objs.size<=D
 pn:∀ p∈X.pn++P0,p.1≠D
noncomputable abbrev OX (its:List Value)(k:Nat):Obj:={ cls:=.type "list",data:=.seq (List.toArray its) k }
theorem J2x {X:Cx}{P0:List (Addr×Obj)}{σ:St}{map:List (Option Nat)}{H1:Hp}{s:Shared}{D:Addr}{acc0:List V}{its0:List Value}{k0:Nat}{tg elt iter:Expr}{g1:Comprehension}{ifs:List Expr}{scope:Scope}{pos:Pos}{fp:List Addr}{it:Addr}{tn:Nat->Heap->Prop}{J:It}{g:TG}{tt:TT}{te:TE}{W:Nat->Nat->List V->Hp->Prop}{m0:Nat}{Fin:List V->Hp->Prop}
 (calm:X.calm=true) (d:DOk X P0 D) (I:Inv X P0 (capt σ map) H1 s) (hD:H1 D=none) (oD:s.heap.get? D=some (OX its0 k0)) (rv:Vals acc0 its0)
 (T:Turn X.prog X.w X.K tg J fp it tn) (st:tn 0 s.heap) (hf:∀ b∈fp,GA X P0 H1 b) (nD:∀ b∈fp,b≠D)
 (pg:PG X tg g) (pif:PIf X ifs tt) (pel:PE X elt te) (nx:X.xe=fun _ _=>False) (keep:HK g map) (w0:W 0 m0 acc0 H1) (ht:OL J g tt te (capt σ map) Fin W) :
 codeAny (model X.prog X.w) X.A (.compLoop (.ListComp elt [g1,⟨tg,iter,ifs,0⟩] scope pos) 1 (.ref it) (.ref D) X.env) (fun r s'=>r=.ok .next/\∃ acc its k H',Inv X P0 (capt σ map) H' s'/\H' D=none/\s'.heap.get? D=some (OX its k)/\Vals acc its/\Fin acc H') s:=by
 refine XA (fun n s'=>∃ i acc H' its k,Inv X P0 (capt σ map) H' s'/\tn i s'.heap/\(∀ b∈fp,H' b=none)/\H' D=none/\s'.heap.get? D=some (OX its k)/\Vals acc its/\W i n acc H') ?_ m0 ⟨0,acc0,H1,its0,k0,I,st,fun b hb=>(hf b hb).1,hD,oD,rv,w0⟩
 rintro n s5 ⟨i,acc,H5,its,k,I5,st5,fr5,hD5,oD5,rv5,w5⟩
 have pinD:Inv X ((D,OX its k)::P0) (capt σ map) H5 s5:=I5.pins_of fun p hp=>by
  rcases List.mem_cons.mp hp with e|e
  · subst e;exact ⟨oD5,hD5,d.loc,d.fs,fun v z=>by cases z⟩
  · exact I5.pin p (List.mem_append_right _ e)
 have f4:∀ {H':Hp},(∀ b∈fp,H' b=none)->∀ b∈fp,GA X ((D,OX its k)::P0) H' b:=fun {H'} hn b hb=>by
  obtain ⟨_,f1,f2,f3,f4,f5⟩:=hf b hb
  refine ⟨hn b hb,f1,f2,f3,f4,fun p hp=>?_⟩
  rcases List.mem_append.mp hp with z|z
  · exact f5 p (List.mem_append_left _ z)
  · rcases List.mem_cons.mp z with e|e
    · rw [e];exact (nD b hb).symm
    · exact f5 p (List.mem_append_right _ e)
 have err:∀ {Z:Prop} e s',X.xe e s'->Z:=fun {Z} e s' z=>by rw [nx] at z;exact z.elim
 rcases ht i n acc H5 w5 with ⟨stop,hsz,fin⟩|⟨go,hsz,NN,hNN,step⟩
 · refine thn (T.done X rfl rfl rfl calm i _ s5 (capt σ map) H5 _ pinD (f4 fr5) st5 stop) fun r s6 ⟨hr,I6⟩=>?_
   subst hr
   have pD:=I6.pin (D,OX its k) (List.mem_append_right _ List.mem_cons_self)
   exact ⟨rfl,acc,its,k,H5,I6.pins_of (fun p hp=>I6.pin p (List.mem_append_right _ (List.mem_cons_of_mem _ hp))),pD.2.1,pD.1,rv5,fin⟩
 · refine thn (T.item X rfl rfl rfl calm i _ s5 (capt σ map) H5 _ pinD (f4 fr5) st5 go) fun r s6 ⟨u,hr,h6⟩=>?_
   subst hr
   refine thn h6 fun _ s7 ⟨x,H7,I7,r7,y7,st7,fr7⟩=>?_
   have I7':=I7.pinned (f4 fr7) (T.obj _ _ st7)
   have stp:=keep _ _ _ _ (step x H7 y7)
   refine wpAny_mono (pg _ s7 (capt σ map) H7 x u _ I7' r7 stp) (fun _ s8 ⟨σ8,H8,I8,⟨kl,k8⟩,q8⟩=>?_) fun e s' z=>err e s' z
   refine wpAny_mono (pif _ s8 σ8 H8 _ I8 q8) (fun b s9 ⟨H9,I9,q9⟩=>?_) fun e s' z=>err e s' z
   have wk:∀ {σa:St} {Ha:Hp} {sa:Shared},σa=σ8->Inv X (((D,OX its k)::P0)++FT fp s7.heap) σa Ha sa ->
    Inv X P0 (capt σ map) Ha sa/\tn (i+1) sa.heap/\(∀ b∈fp,Ha b=none)/\Ha D=none/\sa.heap.get? D=some (OX its k):=fun {σa Ha sa} ea Ia=>by
    subst ea
    refine ⟨(Ia.pins_of (pins':=P0) fun p hp=>Ia.pin p (List.mem_append_right _ (List.mem_append_left _ (List.mem_cons_of_mem _ hp)))).weak kl.symm fun j v e=>?_,T.keep _ _ _ st7 fun b hb o e=>(Ia.pin (b,o) (List.mem_append_right _ (List.mem_append_right _ (BJ hb e)))).1,fun b hb=>?_,?_,?_⟩
    · obtain ⟨i',hm,_⟩:=OG e
      rw [k8 j i' hm];exact e
    · obtain ⟨o,e,d⟩:=T.obj _ _ st7 b hb
      exact (Ia.pin (b,o) (List.mem_append_right _ (List.mem_append_right _ (BJ hb e)))).2.1
    · exact (Ia.pin (D,OX its k) (List.mem_append_right _ (List.mem_append_left _ List.mem_cons_self))).2.1
    · exact (Ia.pin (D,OX its k) (List.mem_append_right _ (List.mem_append_left _ List.mem_cons_self))).1
   cases b with
   | false =>
     rw [if_neg Bool.false_ne_true] at q9 ⊢
     obtain ⟨m',hm',w9⟩:=hNN _ _ q9
     obtain ⟨a1,a2,a3,a4,a5⟩:=wk rfl I9
     exact ⟨m',hm',i+1,acc,H9,its,k,a1,a2,a3,a4,a5,rv5,w9⟩
   | true =>
     rw [if_pos rfl] at q9 ⊢
     refine wpAny_mono (pel _ s9 σ8 H9 _ I9 q9) (fun v s10 ⟨y,H10,I10,r10,q10⟩=>?_) fun e s' z=>err e s' z
     obtain ⟨m',hm',w10⟩:=hNN _ _ q10
     obtain ⟨a1,a2,a3,a4,a5⟩:=wk rfl I10
     have hl:=rv5.length
     refine wpAny_list_append_plain (items:=List.toArray its) ⟨k,a5⟩ (fun h11 pl11 sb11=>?_) (by simp only [List.size_toArray];omega)
     obtain ⟨k',e11⟩:=pl11
     refine ⟨m',hm',i+1,acc++[y],H10,its++[v],k',a1.turned (t':=s10.toks) (it:=D) (fun b o hb e=>(sb11.2 b hb).trans e) a4 d.loc (.inr d.sz) d.cell d.pn,T.keep _ _ _ a2 fun b hb o e=>(sb11.2 b (nD b hb)).trans e,a3,a4,?_,rv5.append (.cons r10 .nil),w10⟩
     rw [e11,List.push_toArray]
structure Blk2 (X:Cx)(N':List Str)(scope:Scope)(map mp2:List (Option Nat))(tg tg2 iter2 elt:Expr)(ifs:List Expr)(g:TG)(wi2:TI)(g2:TG)(tt:TT)(te:TE):Prop where
 calm:X.calm=true
 kind:scope.kind=.function
 loc:∀ x∈scope.names,x.2=.local->scope.names.lookup x.1=some .local
 free:(scope.names.all fun p=>!(p.2==NameKind.free)||(X.env.kindOf p.1==some .cell||X.env.kindOf p.1==some .free))=true
 cap:CapOk X scope map N'
 keep:HK g map
 keep2:HK g2 mp2
 ids:QP 0 mp2=true
 sub:ER map mp2=true
 fold:∀ env x,foldedSetIterable iter2 env x=pure x
 run:∀ cells C fp s H,PG (Q9 X N' scope cells C fp s H).nox tg g/\PI (Q9 X N' scope cells C fp s H).nox tg2 iter2 wi2/\PG (Q9 X N' scope cells C fp s H).nox tg2 g2/\PIf (Q9 X N' scope cells C fp s H).nox ifs tt/\PE (Q9 X N' scope cells C fp s H).nox elt te
noncomputable def ZD (J:It)(g:TG)(mp2:List (Option Nat))(wi2:TI)(g2:TG)(tt:TT)(te:TE)(σc:St)(Fin:List V->Hp->Prop)(W:Nat->Nat->List V->Hp->Prop):Prop :=
 ∀ i m acc H2,W i m acc H2->(J.stop i H2/\acc.length<=sizeLine/\Fin acc H2) \/
  (J.go i H2/\∃ N:List V->Hp->Prop,(∀ acc' H',N acc' H'->∃ m',m'<m/\W (i+1) m' acc' H')/\∀ x H3,J.yld i H2 x H3->g x σc H3 fun σ4 H4=>wi2 σ4 H4 fun J2 H5=>∃ W2:Nat->Nat->List V->Hp->Prop,(∃ m,W2 0 m acc H5)/\OL J2 g2 tt te (capt σ4 mp2) N W2)
section
variable {X:Cx}{elt iter tg tg2 iter2:Expr}{ifs:List Expr}{scope:Scope}{pos:Pos}{N':List Str}{map mp2:List (Option Nat)}{wi wi2:TI}{g g2:TG}{tt:TT}{te:TE}
theorem Blk2.one (B:Blk2 X N' scope map mp2 tg tg2 iter2 elt ifs g wi2 g2 tt te):Blk X N' scope map tg elt ifs (fun _ _ _ _=>False) (fun _ _ _=>False) (fun _ _ _=>False) :=
 ⟨B.calm,B.kind,B.loc,B.free,B.cap,fun _ _ _ _ z=>z.elim,fun _ _ _ _ _ _=>⟨fun _ _ _ _ _ _ _ _ _ z=>z.elim,fun _ _ _ _ _ _ z=>z.elim,fun _ _ _ _ _ _ z=>z.elim⟩⟩
theorem J7l {pins:List (Addr×Obj)}{σ:St}{H1:Hp}{s2:Shared}{cl:List (Str×Addr)}{fp:List Addr}{it:Addr}{tn:Nat->Heap->Prop}{J:It}{E:Value->Shared->Prop}(I:Inv X pins σ H1 s2)(B:Blk2 X N' scope map mp2 tg tg2 iter2 elt ifs g wi2 g2 tt te)
 (hsub:∀ x c,cl.lookup x=some c->X.env.cells.lookup x=some c) (hhas:∀ x,(x,NameKind.free)∈scope.names->(cl.lookup x).isSome=true)
 (T:Turn X.prog X.w X.K tg J fp it tn) (st:tn 0 s2.heap) (hf:∀ b∈fp,GA X pins H1 b) {Fin:List V->Hp->Prop} {W:Nat->Nat->List V->Hp->Prop} {m0:Nat} (w0:W 0 m0 [] H1) (ht:ZD J g mp2 wi2 g2 tt te (capt σ map) Fin W)
 {RR:Value->Addr->Result->Shared->Prop}
 (hOk:∀ D C acc H' s' m,Inv X pins σ (upd H' D (.lst acc)) s'->H' D=none->s'.heap.Ns C m->upd H' D (.lst acc) C=none->C≠X.env.locals->X.s₀.heap.objs.size<=C->(∀ x c,X.env.cells.lookup x=some c->c≠C)->(∀ p∈X.pn++pins,p.1≠C)->Fin acc H'->RR (.ref D) C (.ok .next) s') :
 wpAny (model X.prog X.w) X.A (newList []) (fun acc s3=>wpAny (model X.prog X.w) X.A (newFunctionEnv scope X.env.globals cl [] X.env.qual none .none (some X.env)) (fun cenv s4 =>
  codeAny (model X.prog X.w) X.A (.compStart (.ListComp elt [⟨tg,iter,[],0⟩,⟨tg2,iter2,ifs,0⟩] scope pos) 0 (.ref it) acc { cenv with scope:=relabel scope X.env }) (RR acc cenv.locals) s4) E s3) E s2:=by
 have fo:∀ b∈fp,∃ o,s2.heap.get? b=some o:=fun b hb=>by obtain ⟨o,e,_⟩:=T.obj 0 _ st b hb;exact ⟨o,e⟩
 refine wpAny_newObj_type ?_
 generalize hH2:s2.heap.push { cls:=.type "list",dict:=none,data:=.seq ([]:List Value).toArray }=H2
 have szD:H2.objs.size=s2.heap.objs.size+1:=by rw [<- hH2,Heap.size_push]
 have kD:∀ b o,s2.heap.get? b=some o->H2.get? b=some o:=fun b o e=>hH2▸Heap.get?_push_of_some _ e
 simp only [newFunctionEnv,Option.isSome_some,if_true]
 refine wpAny_bind (wpAny_alloc ?_)
 refine wpAny_bind (wpAny_layCells _ (fun name kind cells=>by cases hkc:kind==NameKind.cell<;>simp [hkc]) _ _ _ _ ?_)
 dsimp only
 generalize hH3:H2.push { cls:=.type "dict",dict:=none,data:=.dict #[] }=h3
 have sz3:h3.objs.size=H2.objs.size+1:=by rw [<- hH3,Heap.size_push]
 have kC:∀ b o,H2.get? b=some o->h3.get? b=some o:=fun b o e=>hH3▸Heap.get?_push_of_some _ e
 have nsC:h3.Ns H2.objs.size fun _=>none:=hH3▸Heap.Ns.new H2 (.type "dict")
 refine wpAny_bind (wpAny_pure (wpAny_pure ?_))
 show codeAny _ _ (.compStart (.ListComp elt [⟨tg,iter,[],0⟩,⟨tg2,iter2,ifs,0⟩] scope pos) 0 (.ref it) (.ref s2.heap.objs.size) (compEnvC scope (cellsFrom h3.objs.size scope.names cl) H2.objs.size X.env)) _ _
 generalize hX':(Q9 X N' scope (cellsFrom h3.objs.size scope.names cl) H2.objs.size fp s2 H1).nox=X'
 have I4:Inv X' [] (capt σ map) H1 { s2 with heap:=pushCells h3 scope.names }:=hX'▸(J1m I B.one.m hsub hhas hf fo H2.objs.size h3 (by rw [szD];exact Nat.le_succ _) (fun b o e=>kC b o (kD b o e)) (by rw [sz3];exact Nat.lt_succ_self _) nsC s2.toks).wish _
 obtain ⟨pg,pi2,pg2,pif,pel⟩:=B.run (cellsFrom h3.objs.size scope.names cl) H2.objs.size fp s2 H1
 rw [hX'] at pg pi2 pg2 pif pel
 have eprog:X'.prog=X.prog:=by rw [<- hX'];rfl
 have ew:X'.w=X.w:=by rw [<- hX'];rfl
 have eK:X'.K=X.K:=by rw [<- hX'];rfl
 have eA:X'.A=X.A:=by rw [<- hX'];rfl
 have ecalm:X'.calm=true:=by rw [<- hX'];exact B.calm
 have eenv:X'.env=compEnvC scope (cellsFrom h3.objs.size scope.names cl) H2.objs.size X.env:=by rw [<- hX'];rfl
 have exe:X'.xe=fun _ _=>False:=by rw [<- hX']
 have es0:X'.s₀=s2:=by rw [<- hX'];rfl
 have eH0:X'.H₀=H1:=by rw [<- hX'];rfl
 have eex:X'.ex=fp:=by rw [<- hX'];rfl
 have efs:X'.fs=frs X.stack:=by rw [<- hX'];rfl
 have epn:X'.pn=[]:=by rw [<- hX'];rfl
 have eL:X'.env.locals=H2.objs.size:=by rw [eenv];rfl
 generalize hDd:s2.heap.objs.size=D at *
 have fD:∀ b∈fp,b≠D:=fun b hb=>by obtain ⟨o,e⟩:=fo b hb;exact Nat.ne_of_lt (hDd▸Heap.lt_size e)
 have nfsD:D∉X'.fs:=fun hb=>by
  rw [efs] at hb
  have h1:=I.stkSub D hb
  rcases List.mem_cons.mp h1 with z|z
  · have:=I.lt;rw [hDd,<- z] at this;exact Nat.lt_irrefl _ this
  · exact I.nofs (by rw [hDd];exact Nat.le_refl _) z
 have ncD:∀ x c,X'.env.cells.lookup x=some c->c≠D:=fun x c e z=>by
  rw [eenv] at e
  rcases XC _ _ _ x c e with q|q
  · obtain ⟨v,o,ho,_⟩:=I.cell x c (hsub x c q)
    have:=Heap.lt_size ho
    rw [hDd,z] at this
    exact Nat.lt_irrefl _ this
  · rw [z,sz3,szD] at q
    exact absurd (Nat.lt_of_lt_of_le (Nat.lt_succ_of_lt (Nat.lt_succ_self D)) q) (Nat.lt_irrefl _)
 have f4:∀ {H':Hp} {pl:List (Addr×Obj)},(∀ b∈fp,H' b=none)->(∀ p∈pl,p.1=D)->∀ b∈fp,GA X' pl H' b:=fun {H' pl} hn hpl b hb=>by
  have q:=hf b hb
  refine ⟨hn b hb,?_,?_,.inl (by rw [eex];exact hb),fun x c e=>?_,fun p hp=>?_⟩
  · rw [eL]
    obtain ⟨o,e⟩:=fo b hb
    have:=Heap.lt_size e
    rw [hDd] at this
    intro z
    rw [z,szD] at this
    exact absurd (Nat.lt_of_succ_lt this) (Nat.lt_irrefl _)
  · have:=I4.ok.exfs b (by rw [eex];exact hb)
    exact this
  · exact (I4.ok.exf b (by rw [eex];exact hb)).2 x c e
  · rw [epn] at hp
    have hp:p∈pl:=by simpa using hp
    rw [hpl p hp]
    exact (fD b hb).symm
 have noCell:∀ {its:Array Value} {n:Nat} (v:Option Value),({ cls:=.type "list",data:=.seq its n }:Obj).data≠.cell v:=fun v z=>by cases z
 have hD4:(pushCells h3 scope.names).get? D=some { cls:=.type "list",data:=.seq ([]:List Value).toArray 0 }:=pushCells_keeps _ _ _ _ (kC _ _ (by rw [<- hH2,<- hDd];exact Heap.get?_push_size _ rfl))
 have loop:codeAny (model X.prog X.w) X.A (.compLoop (.ListComp elt [⟨tg,iter,[],0⟩,⟨tg2,iter2,ifs,0⟩] scope pos) 0 (.ref it) (.ref D) (compEnvC scope (cellsFrom h3.objs.size scope.names cl) H2.objs.size X.env)) (RR (.ref D) H2.objs.size) { s2 with heap:=pushCells h3 scope.names }:=by
  refine TK (fun n s'=>∃ i acc H' its k,Inv X' [] (capt σ map) H' s'/\tn i s'.heap/\(∀ b∈fp,H' b=none)/\H' D=none/\s'.heap.get? D=some { cls:=.type "list",data:=.seq (List.toArray its) k }/\Vals acc its/\W i n acc H') (B.fold _) ?_ m0
   ⟨0,[],H1,[],0,I4,T.keep _ _ _ st fun b hb o e=>pushCells_keeps _ _ _ _ (kC _ _ (kD _ _ e)),fun b hb=>(hf b hb).1,I.hok.fresh (by rw [hDd];exact Nat.le_refl _),hD4,.nil,w0⟩
  rintro n s5 ⟨i,acc,H5,its,k,I5,st5,fr5,hD5,oD5,rv5,w5⟩
  have pinD:Inv X' [(D,{ cls:=.type "list",data:=.seq (List.toArray its) k })] (capt σ map) H5 s5:=I5.pins_of fun p hp=>by
   have e:p=(D,{ cls:=.type "list",data:=.seq (List.toArray its) k }):=by simpa using hp
   subst e
   refine ⟨oD5,hD5,?_,nfsD,fun v=>noCell v⟩
   rw [eL,szD]
   exact Nat.ne_of_lt (Nat.lt_succ_self _)
  have plD:∀ p∈[(D,({ cls:=.type "list",data:=.seq (List.toArray its) k }:Obj))],p.1=D:=fun p hp=>by
   have e:p=(D,{ cls:=.type "list",data:=.seq (List.toArray its) k }):=by simpa using hp
   rw [e]
  have err:∀ {Z:Prop} e s',X'.xe e s'->Z:=fun {Z} e s' z=>by rw [exe] at z;exact z.elim
  rcases ht i n acc H5 w5 with ⟨stop,hsz,fin⟩|⟨go,NN,hNN,step⟩
  · have dn:=T.done X' eprog ew eK ecalm i _ s5 (capt σ map) H5 (fun _ _=>False) pinD (f4 fr5 plD) st5 stop
    rw [eA] at dn
    refine thn dn fun r s6 ⟨hr,I6⟩=>?_
    subst hr
    obtain ⟨oD6,hD6,_⟩:=I6.pin (D,_) (by rw [epn];exact List.mem_cons_self)
    obtain ⟨m,nsm,_⟩:=I6.loc
    rw [eL] at nsm
    have un:=I6.base
    rw [efs,eex,eH0,es0] at un
    have hok:=I6.hok
    rw [eprog,ew] at hok
    have os6:=I6.os
    rw [es0] at os6
    have fC:H5 H2.objs.size=none:=by rw [<- eL];exact I6.free
    have nDC:H2.objs.size≠D:=by rw [szD];exact Nat.ne_of_gt (Nat.lt_succ_self _)
    refine hOk D H2.objs.size acc H5 s6 m (I.call' (ch:=fp) os6 ?_ ?_ I6.bare fun b hb=>?_) hD5 nsm (by rw [V9 nDC];exact fC) ?_ ?_ ?_ ?_ fin
    · refine ⟨un.keep,un.slot,fun b o e n hx=>?_,un.there,fun b xs e=>?_,fun b o u e=>?_,fun b ps e=>?_⟩
      · rw [V9 (Nat.ne_of_lt (hDd▸Heap.lt_size e))]
        exact un.free b o e n hx
      · have:=un.tups b xs e
        rw [V9 (V8 this hD5)]
        exact this
      · have:=un.frzs b o u e
        rw [V9 (V8 this hD5)]
        exact this
      · obtain ⟨more,this⟩:=un.tbls b ps e
        exact ⟨more,by rw [V9 (V8 this hD5)];exact this⟩
    · intro b o e
      by_cases hb:b=D
      · subst hb
        rw [AC] at e
        cases e
        exact ⟨hsz,its,k,rv5,oD6⟩
      · rw [V9 hb] at e
        exact (hok b o e).stay (fun _ _ _ q=>q) (fun c q=>by rw [V9 (V8 q hD5)];exact q) fun c xs q=>by rw [V9 (V8 q hD5)];exact q
    · obtain ⟨f0,f1,f2,f3,f4',f5⟩:=hf b hb
      exact ⟨f3,f1,f4',f5⟩
    · have:=I.lt
      rw [hDd] at this
      intro z
      rw [<- z,szD] at this
      exact absurd (Nat.lt_of_succ_lt this) (Nat.lt_irrefl _)
    · have:=I.sz
      rw [hDd] at this
      omega
    · intro x c e z
      obtain ⟨v,o,ho,_⟩:=I.cell x c e
      have:=Heap.lt_size ho
      rw [hDd,z,szD] at this
      exact absurd (Nat.lt_of_succ_lt this) (Nat.lt_irrefl _)
    · intro p hp z
      have:=Heap.lt_size (I.pin p hp).1
      rw [hDd,z,szD] at this
      exact absurd (Nat.lt_of_succ_lt this) (Nat.lt_irrefl _)
  · have im:=T.item X' eprog ew eK ecalm i _ s5 (capt σ map) H5 (fun _ _=>False) pinD (f4 fr5 plD) st5 go
    rw [eA] at im
    refine thn im fun r s6 ⟨u,hr,h6⟩=>?_
    subst hr
    refine thn h6 fun _ s7 ⟨x,H7,I7,r7,y7,st7,fr7⟩=>?_
    have I7':=I7.pinned (f4 fr7 plD) (T.obj _ _ st7)
    have stp:=B.keep _ _ _ _ (step x H7 y7)
    have pgx:=pg _ s7 (capt σ map) H7 x u _ I7' r7 stp
    rw [eprog,ew,eA,eenv] at pgx
    refine wpAny_mono pgx (fun _ s8 ⟨σ8,H8,I8,⟨kl,k8⟩,q8⟩=>?_) fun e s' z=>err e s' z
    have pix:=pi2 _ s8 σ8 H8 _ I8 q8
    rw [eprog,ew,eA,eenv] at pix
    refine wpAny_mono pix (fun v s9 h9=>wpAny_mono h9 (fun itv s10 h10=>?_) fun e s' z=>err e s' z) fun e s' z=>err e s' z
    obtain ⟨it2,fp2,tn2,J2,H10,e,I10,T2,st10,f10,W2,⟨m2,w10⟩,tr2⟩:=h10
    subst e
    have pD10:=I10.pin (D,{ cls:=.type "list",data:=.seq (List.toArray its) k }) (List.mem_append_right _ (List.mem_append_left _ List.mem_cons_self))
    have dk:DOk X' (FT fp s7.heap) D:=⟨by rw [eL,szD];exact Nat.ne_of_lt (Nat.lt_succ_self _),nfsD,ncD,by rw [es0,hDd];exact Nat.le_refl _,fun p hp=>by
     rw [epn] at hp
     exact fD p.1 (QJ (by simpa using hp)).1⟩
    have len8:(capt σ8 mp2).length=σ8.length:=by
     have h1:=HM B.sub
     have h2:(capt σ map).length=map.length:=by unfold capt;rw [List.length_map]
     have h3:(capt σ8 mp2).length=mp2.length:=by unfold capt;rw [List.length_map]
     omega
    have I11:Inv X' (FT fp s7.heap) (capt σ8 mp2) H10 s10:=(I10.pins_of (pins':=FT fp s7.heap) fun p hp=>I10.pin p (List.mem_append_right _ (List.mem_append_right _ hp))).weak len8 fun j v e=>by
     obtain ⟨i',hm,e'⟩:=OG e
     have:i'=j:=by have:=HB B.ids j i' hm;omega
     rw [<- this];exact e'
    have run:=J2x (g1:=⟨tg,iter,[],0⟩) (iter:=iter2) (scope:=scope) (pos:=pos) (X:=X') (σ:=σ8) (map:=mp2) (by rw [ecalm]) dk I11 pD10.2.1 pD10.1 rv5 T2 st10 (fun b hb=>by
     obtain ⟨z0,z1,z2,z3,z4,z5⟩:=f10 b hb
     exact ⟨z0,z1,z2,z3,z4,fun p hp=>(List.mem_append.mp hp).elim (fun q=>z5 p (List.mem_append_left _ q)) fun q=>z5 p (List.mem_append_right _ (List.mem_append_right _ q))⟩) (fun b hb=>by
     obtain ⟨z0,z1,z2,z3,z4,z5⟩:=f10 b hb
     exact (z5 (D,{ cls:=.type "list",data:=.seq (List.toArray its) k }) (List.mem_append_right _ (List.mem_append_left _ List.mem_cons_self))).symm) pg2 pif pel exe B.keep2 w10 tr2
    rw [eprog,ew,eA,eenv] at run
    have run':=codeAny_mono (R':=fun r s'=>r=.ok .next/\∃ m,m<n/\∃ i acc H' its k,Inv X' [] (capt σ map) H' s'/\tn i s'.heap/\(∀ b∈fp,H' b=none)/\H' D=none/\s'.heap.get? D=some { cls:=.type "list",data:=.seq (List.toArray its) k }/\Vals acc its/\W i m acc H') run fun r s' q=>by
     obtain ⟨rfl,acc',its',k',H',I',hD',oD',rv',nn⟩:=q
     obtain ⟨m',hm',w'⟩:=hNN _ _ nn
     refine ⟨rfl,m',hm',i+1,acc',H',its',k',(I'.pins_of (pins':=[]) fun p hp=>absurd hp (by simp)).weak (by rw [len8,kl]) fun j v e=>?_,T.keep _ _ _ st7 fun b hb o e=>(I'.pin (b,o) (List.mem_append_right _ (BJ hb e))).1,fun b hb=>?_,hD',oD',rv',w'⟩
     · obtain ⟨i',hm,_⟩:=OG e
       obtain ⟨i2,hm2⟩:=HN B.sub j i' hm
       have:i2=j:=by have:=HB B.ids j i2 hm2;omega
       subst this
       exact Q1d hm2 (by rw [k8 _ i' hm];exact e)
     · obtain ⟨o,e,d⟩:=T.obj _ _ st7 b hb
       exact (I'.pin (b,o) (List.mem_append_right _ (BJ hb e))).2.1
    have sf:=fun Q E=>T2.self X'.A 0 s10 Q E st10
    rw [eprog,ew,eA] at sf
    exact TJ run' (sf _ _ run')
 exact codeAny_compStart_list loop (T.self _ 0 _ _ _ (T.keep _ _ _ st fun b hb o e=>pushCells_keeps _ _ _ _ (kC _ _ (kD _ _ e))) loop)
theorem Blk2.clos {pins:List (Addr×Obj)}{σ:St}{H:Hp}{s:Shared}(B:Blk2 X N' scope map mp2 tg tg2 iter2 elt ifs g wi2 g2 tt te)(I:Inv X pins σ H s) :
 ∃ cl,closureFor scope X.env=pure cl/\(∀ x c,cl.lookup x=some c->X.env.cells.lookup x=some c)/\∀ x,(x,NameKind.free)∈scope.names->(cl.lookup x).isSome=true:=B.one.clos I
noncomputable def Q2o (wi:TI)(map mp2:List (Option Nat))(g:TG)(wi2:TI)(g2:TG)(tt:TT)(te:TE):TE:=fun σ H Q=>wi σ H fun J H1=>∃ W:Nat->Nat->List V->Hp->Prop,(∃ m,W 0 m [] H1) /\
 ZD J g mp2 wi2 g2 tt te (capt σ map) (fun acc H'=>∀ D,H' D=none->Q (.ref D) (upd H' D (.lst acc))) W
theorem J4u (B:Blk2 X N' scope map mp2 tg tg2 iter2 elt ifs g wi2 g2 tt te)(hi:PI X tg iter wi)(hs:∀ x,foldedSetIterable iter X.env x=pure x:=by intro _;rfl):PE X (.ListComp elt [⟨tg,iter,[],0⟩,⟨tg2,iter2,ifs,0⟩] scope pos) (Q2o wi map mp2 g wi2 g2 tt te):=by
 intro pins s σ H Q I h
 obtain ⟨cl,hcl,hsub,hhas⟩:=B.clos I
 rw [eval_ListComp]
 refine wpAny_comprehension_free (use:=none) rfl hs hcl B.kind B.loc (thn (hi pins s σ H _ I h) fun v s1 h1=>thn h1 fun itv s2 h2=>?_)
 obtain ⟨it,fp,tn,J,H2,e,I2,T,st2,f2,W,⟨m0,w0⟩,turn⟩:=h2
 subst e
 refine J7l (RR:=fun acc C=>compPost (model X.prog X.w) X.A X.xe none (EP X pins σ Q) acc C) I2 B hsub hhas T st2 f2 w0 turn fun D C acc H' s' m I' hD nsm fC c1 c2 c3 c4 fin=>?_
 refine ⟨m,nsm,fun h' sb=>⟨.ref D,_,?_,rfl,fin D hD⟩⟩
 exact I'.turned (t':=s'.toks) (fun b o hb e=>(sb.2 b hb).trans e) fC c1 (.inr c2) c3 c4
end
inductive compG (gd:D->Ev->(Ev->Prop)->Prop)(dt:DT)(de:DE)(ρc:Ev)(items acc0:List D)(P:List D->Prop):Prop
 | mk (I:Nat->List D->Prop) (h0:I 0 acc0) (hs:∀ (i:Nat) x acc,items[i]?=some x->I i acc->gd x ρc fun ρ1=>dt ρ1 fun c=>IfP c (de ρ1 fun y=>plain y=true/\I (i+1) (acc++[y])) (I (i+1) acc)) (hd:∀ acc,I items.length acc->P acc):compG gd dt de ρc items acc0 P
inductive compI2 (gd:D->Ev->(Ev->Prop)->Prop)(mp2:List (Option Nat))(di2:DA)(gd2:D->Ev->(Ev->Prop)->Prop)(dt:DT)(de:DE)(ρc:Ev)(items:List D)(P:List D->Prop):Prop
 | mk (I:Nat->List D->Prop) (h0:I 0 []) (hs:∀ (i:Nat) x acc,items[i]?=some x->I i acc->gd x ρc fun ρ1=>di2 ρ1 fun ys=>ys.length<=1000/\compG gd2 dt de (HJ ρ1 mp2) ys acc (I (i+1))) (hd:∀ acc,I items.length acc->P acc):compI2 gd mp2 di2 gd2 dt de ρc items P
noncomputable def Q0w (map mp2:List (Option Nat))(gd:D->Ev->(Ev->Prop)->Prop)(di:DA)(gd2:D->Ev->(Ev->Prop)->Prop)(di2:DA)(dt:DT)(de:DE):DS:=fun F ρ=>di ρ fun items=>items.length<=1000/\compI2 gd mp2 di2 gd2 dt de (HJ ρ map) items fun acc=>F.ro acc
theorem leM:2000000<=sizeLine:=by rw [sizeLine_eq];decide
theorem WW {W:Wd}{pn:List (D×V)}{M:Addr->Prop}{b:Option Addr}{H:Hp}{σ:St}{ρ:Ev}{J:It}{need:List (D×V)}{items ds0:List D}{acc0:List V}{g:TG}{gd:D->Ev->(Ev->Prop)->Prop}{dt:DT}{de:DE}{P:List D->Prop}{Fin:List V->Hp->Prop}
 (hG:GD W g gd) (st:Sta W pn M b H σ ρ) (hp:items.all plain=true) (hI:UJ W J need items) (hn:∀ q∈need,RepX W M b H q.1 q.2) (r0:Reps W.K M H ds0 acc0) (hl:acc0.length+items.length<=2000000) (h:compG gd dt de ρ items ds0 P)
 (fin:∀ ds acc H',P ds->Reps W.K M H' ds acc->acc.length<=acc0.length+items.length->Kp b H H'->okB W.B b H'->Fin acc H'):∃ Wf:Nat->Nat->List V->Hp->Prop,(∃ m,Wf 0 m acc0 H)/\OL J g (dnT W dt) (dn W de) σ Fin Wf:=by
 obtain ⟨I,i0,istep,idone⟩:=h
 refine ⟨fun i m acc H2=>m=items.length - i/\i<=items.length/\acc.length<=acc0.length+i/\Kp b H H2/\okB W.B b H2/\∃ ds,Reps W.K M H2 ds acc/\I i ds,⟨items.length,by simp,Nat.zero_le _,Nat.le_refl _,Kp.refl _ _,st.ok,ds0,r0,i0⟩,?_⟩
 rintro i m acc H2 ⟨rfl,hi,ha,k2,o2,ds,r,q⟩
 have st2:=st.step k2 o2
 obtain ⟨hgo,hstop⟩:=hI M b H2 st2.toHs fun q hq=>(hn q hq).step st.bagM k2
 by_cases hlt:i<items.length
 · have ei:items[i]?=some items[i]:=List.getElem?_eq_getElem hlt
   replace q:=istep i _ ds ei q
   refine .inr ⟨(hgo i _ ei).1,by have:=leM;omega,fun acc' H'=>acc'.length<=acc0.length+(i+1)/\Kp b H H'/\okB W.B b H'/\∃ ds,Reps W.K M H' ds acc'/\I (i+1) ds,fun acc' H' n=>⟨items.length - (i+1),by omega,rfl,hlt,n⟩,fun x H3 y=>?_⟩
   obtain ⟨S3,rx⟩:=(hgo i _ ei).2 x H3 y
   have o3:okB W.B b H3:=fun p e=>W.B.st p H2 H3 (o2 p e) fun o e'=>S3 p o e'
   have k3:Kp b H2 H3:=Kp.same S3
   have st3:=st2.step k3 o3
   refine hG pn M b H3 σ ρ items[i] x _ _ st3 rx (List.all_eq_true.mp hp _ (List.getElem_mem hlt)) q fun ρ1 σ1 h1 st4 _=>?_
   refine ⟨pn,M,b,ρ1,_,st4,h1,fun c H5 h5 k5 o5=>?_⟩
   cases h5 with
   | t e h5 =>
     rw [if_pos e]
     refine ⟨pn,M,b,ρ1,_,st4.step k5 o5,h5,fun y v H6 h6 ry k6 o6=>?_⟩
     have kk:=((k3.trans k5).trans k6)
     refine ⟨by simp;omega,k2.trans kk,o6,ds++[y],Reps.append (Reps.keep (fun c o n e=>kk c o (fun z=>n (st.bagM c z)) e) _ _ r) ⟨v,[],rfl,ry.rep h6.1,rfl⟩,h6.2⟩
   | f e h5 =>
     rw [if_neg (by rw [e];exact Bool.false_ne_true)]
     have kk:=k3.trans k5
     exact ⟨by omega,k2.trans kk,o5,ds,Reps.keep (fun c o n e=>kk c o (fun z=>n (st.bagM c z)) e) _ _ r,h5⟩
 · have e:i=items.length:=by omega
   subst e
   exact .inl ⟨hstop _ (Nat.le_refl _),by have:=leM;omega,fin ds acc H2 (idone _ q) r ha k2 o2⟩
theorem WX {W:Wd}{pn:List (D×V)}{M:Addr->Prop}{b:Option Addr}{H:Hp}{σ:St}{ρ:Ev}{J:It}{need:List (D×V)}{items:List D}{g g2:TG}{gd gd2:D->Ev->(Ev->Prop)->Prop}{mp2:List (Option Nat)}{di2:DA}{dt:DT}{de:DE}{P:List D->Prop}{Fin:List V->Hp->Prop}
 (hG:GD W g gd) (hG2:GD W g2 gd2) (st:Sta W pn M b H σ ρ) (hp:items.all plain=true) (hI:UJ W J need items) (hn:∀ q∈need,RepX W M b H q.1 q.2) (hl:items.length<=1000) (h:compI2 gd mp2 di2 gd2 dt de ρ items P)
 (fin:∀ ds acc H',P ds->Reps W.K M H' ds acc->acc.length<=sizeLine->Kp b H H'->okB W.B b H'->Fin acc H'):∃ Wf:Nat->Nat->List V->Hp->Prop,(∃ m,Wf 0 m [] H)/\ZD J g mp2 (dnI W false di2) g2 (dnT W dt) (dn W de) σ Fin Wf:=by
 obtain ⟨I,i0,istep,idone⟩:=h
 refine ⟨fun i m acc H2=>m=items.length - i/\i<=items.length/\acc.length<=1000*i/\Kp b H H2/\okB W.B b H2/\∃ ds,Reps W.K M H2 ds acc/\I i ds,⟨items.length,by simp,Nat.zero_le _,Nat.le_refl _,Kp.refl _ _,st.ok,[],rfl,i0⟩,?_⟩
 rintro i m acc H2 ⟨rfl,hi,ha,k2,o2,ds,r,q⟩
 have st2:=st.step k2 o2
 obtain ⟨hgo,hstop⟩:=hI M b H2 st2.toHs fun q hq=>(hn q hq).step st.bagM k2
 by_cases hlt:i<items.length
 · have ei:items[i]?=some items[i]:=List.getElem?_eq_getElem hlt
   replace q:=istep i _ ds ei q
   refine .inr ⟨(hgo i _ ei).1,fun acc' H'=>acc'.length<=1000*(i+1)/\Kp b H H'/\okB W.B b H'/\∃ ds,Reps W.K M H' ds acc'/\I (i+1) ds,fun acc' H' n=>⟨items.length - (i+1),by omega,rfl,hlt,n⟩,fun x H3 y=>?_⟩
   obtain ⟨S3,rx⟩:=(hgo i _ ei).2 x H3 y
   have o3:okB W.B b H3:=fun p e=>W.B.st p H2 H3 (o2 p e) fun o e'=>S3 p o e'
   have k3:Kp b H2 H3:=Kp.same S3
   have st3:=st2.step k3 o3
   refine hG pn M b H3 σ ρ items[i] x _ _ st3 rx (List.all_eq_true.mp hp _ (List.getElem_mem hlt)) q fun ρ1 σ1 h1 st4 _=>?_
   refine ⟨pn,M,b,ρ1,_,st4,h1,fun ys J2 need2 H5 hys hp2 hI2 hn2 k5 o5=>?_⟩
   have st5:=(st4.step k5 o5).capt mp2
   have kk:=k3.trans k5
   have hy:=hys.1
   exact WW hG2 st5 hp2 hI2 (fun q hq=>(hn2 q hq).1) (Reps.keep (fun c o n e=>kk c o (fun z=>n (st.bagM c z)) e) _ _ r) (by omega) hys.2 fun ds acc H' hP r hl' k o=>⟨by omega,(k2.trans kk).trans k,o,ds,r,hP⟩
 · have e:i=items.length:=by omega
   subst e
   exact .inl ⟨hstop _ (Nat.le_refl _),by have:=leM;omega,fin ds acc H2 (idone _ q) r (by have:=leM;omega) k2 o2⟩
section
variable {X:Cx}{W:Wd}{elt iter tg tg2 iter2:Expr}{ifs:List Expr}{scope:Scope}{pos:Pos}{N':List Str}{map mp2:List (Option Nat)}{g g2:TG}{gd gd2:D->Ev->(Ev->Prop)->Prop}{di di2:DA}{dt:DT}{de:DE}
theorem YV {cpos:Pos}(hG:GD W g gd)(hG2:GD W g2 gd2)(B:Blk2 X N' scope map mp2 tg tg2 iter2 elt ifs g (dnI W false di2) g2 (dnT W dt) (dn W de))(hi:JI X W false tg iter di)(hs:∀ x,foldedSetIterable iter X.env x=pure x:=by intro _;rfl):JS X W (.Return (some (.ListComp elt [⟨tg,iter,[],0⟩,⟨tg2,iter2,ifs,0⟩] scope cpos)) pos) (Q0w map mp2 gd di gd2 di2 dt de):=⟨(CK (J4u B hi.h hs)).mono fun E σ H hh=>hh.elim fun pn M b ρ F s l h=>by
 refine ⟨pn,M,b,ρ,_,s.toSta,h,fun items J need H1 hx hp hI hn k1 o1=>?_⟩
 have s1:=s.step k1 o1
 refine WX hG hG2 (s1.toSta.capt map) hp hI (fun q hq=>(hn q hq).1) hx.1 hx.2 fun ds acc H' hP r hl k2 o2 q hq=>?_
 exact RX (s1.step k2 o2).toSta l hq r hP⟩
theorem Q8g (calm:X.calm=true) (kind:scope.kind=.function) (loc:∀ x∈scope.names,x.2=.local->scope.names.lookup x.1=some .local) (free:(scope.names.all fun p=>!(p.2==NameKind.free)||(X.env.kindOf p.1==some .cell||X.env.kindOf p.1==some .free))=true) (cap:CapOk X scope map N') (keep:HK g map) (keep2:HK g2 mp2) (ids:QP 0 mp2=true) (sub:ER map mp2=true)
 (run:∀ cells C fp s H,PG (Q9 X N' scope cells C fp s H).nox tg g/\JI (Q9 X N' scope cells C fp s H).nox W false tg2 iter2 di2/\PG (Q9 X N' scope cells C fp s H).nox tg2 g2/\JIf (Q9 X N' scope cells C fp s H).nox W ifs dt/\JE (Q9 X N' scope cells C fp s H).nox W elt de)
 (fold:∀ env x,foldedSetIterable iter2 env x=pure x:=by intro _ _;rfl):Blk2 X N' scope map mp2 tg tg2 iter2 elt ifs g (dnI W false di2) g2 (dnT W dt) (dn W de) :=
 ⟨calm,kind,loc,free,cap,keep,keep2,ids,sub,fold,fun cells C fp s H=>by
  obtain ⟨a,b,c,d,e⟩:=run cells C fp s H
  exact ⟨a,b.h,c,d.h,e.h⟩⟩
end
theorem KY {H:Hp}:∀ {ns:List Int} {vs:List V},Reps K M H (ns.map D.int) vs->vs=ns.map V.int
 | [],vs,h=>h
 | n::ns,vs,h=>by
   obtain ⟨v,r,rfl,h1,h2⟩:=h
   cases (show _=_ from h1)
   rw [KY h2]
   rfl
noncomputable abbrev Om:=Nat->Prop
noncomputable def Q9f (p:Addr)(H:Hp):Nat:=match H p with|some (.lst [_,_,.int st])=>st.toNat|_=>0
noncomputable def cnt (b:Option Addr)(H:Hp):Nat:=match b with|none=>0|some p=>Q9f p H
noncomputable abbrev DE3:=Ev->(D->Om)->Om
noncomputable def cn (W:Wd)(d:DE3):TE:=fun σ H Q=>∃ pn M b ρ P,Sta W pn M b H σ ρ/\d ρ P (cnt b H)/\∀ x v H',P x (cnt b H')->RepX W M b H' x v->Kp b H H'->okB W.B b H'->Q v H'
structure DEnds3 where
 nx:Ev->Om
 rt:D->Om
 bk:Ev->Om:=fun _ _=>False
 ct:Ev->Om:=fun _ _=>False
 ro:List D->Om:=fun _ _=>False
section
variable {X:Cx}{W:Wd}{k:Nat}
noncomputable def iOr (d1 d2:DA):DA:=fun ρ P=>d1 ρ P\/d2 ρ P
theorem Q3s {fz:Bool}{tg l:Expr}{d1 d2:DA}(h1:JI X W fz tg l d1)(h2:JI X W fz tg l d2):JI X W fz tg l (iOr d1 d2):=⟨fun pins s σ H R I hh=>hh.elim fun pn M b ρ P st h k=>h.elim (fun q=>h1.h pins s σ H R I ⟨pn,M,b,ρ,P,st,q,k⟩) (fun q=>h2.h pins s σ H R I ⟨pn,M,b,ρ,P,st,q,k⟩)⟩
end
section
variable {K:Fg}{M:Addr->Prop}{H:Hp}
end
noncomputable def dnF (W:Wd)(d:DA):TE:=fun σ H Q=>∃ pn M b ρ P,Sta W pn M b H σ ρ/\d ρ P/\∀ xs vs p H',P xs->H p=none->H' p=some (.lst vs)->Reps W.K (fun c=>M c\/c=p) H' xs vs->Kp b H H'->okB W.B b H'->Q (.ref p) H'
structure JF (X:Cx)(W:Wd)(e:Expr)(d:DA):Prop where
 h:PE X e (dnF W d)
theorem J8f {B:BagT} {H H':Hp}{p:Addr}(k:Kp b H H')(o:okB B b H')(h:H' p=none):H p=none:=by
 cases q:H p with
 | none=>rfl
 | some u =>
   by_cases z:b=some p
   · obtain ⟨w,e⟩:=B.dm p H' (o p z)
     rw [h] at e;cases e
   · have:=k p u z q
     rw [h] at this;cases this
noncomputable def dF (K:Fg)(d:D):Frg where
 ads:=[]
 R:=fun M H v=>(∃ a,v=.ref a)/\Rep K M H d v
 keep:=fun M H H' v k h=>⟨h.1,Rep.keep (fun c o n e=>k c o (.inl n) e) _ _ h.2⟩
 avoid:=fun M M' H v k h=>⟨h.1,Rep.avoid k _ _ h.2⟩
 ref:=fun M H v h=>h.1
 nt:=fun M H v h c m=>by cases m
structure Pc where
 (a:Addr) (f:Frg) (d:D)
section
variable {W:Wd}{pn:List (D×V)}{M:Addr->Prop}{b:Option Addr}{H:Hp}{σ:St}{ρ:Ev}{js:List Nat}{ps:List Pc}
end
section
end
theorem PU:∀ {as:List Addr} {us:List Value},Vals (as.map V.ref) us->us=as.map Value.ref
 | [],us,r=>by cases r;rfl
 | a::as,us,r=>by
   cases r with
   | cons r1 r2 =>
     cases r1
     rw [PU r2]
     rfl
theorem QF:∀ as:List Addr,Vals (as.map V.ref) (as.map Value.ref)
 | []=>.nil
 | a::as=>.cons rfl (QF as)
theorem JG:∀ {ns:List Int} {us:List Value},Vals (ns.map V.int) us->IntsAre us ns
 | [],us,r=>by cases r;exact .nil
 | n::ns,us,r=>by
   cases r with
   | cons r1 r2 =>
     obtain ⟨t,rfl⟩:=r1
     exact .cons n t (JG r2)
section
variable {prog:Program}{w:World}{A:Around}{E:Value->Shared->Prop}{s:Shared}
theorem VC {l:Addr}{vs:List Value}{m:Nat}{rows:Value->List Int}{Q:Value->Shared->Prop}(il:s.heap.IsList l vs.toArray)
 (ht:∀ v∈vs,TupZ s.heap v (rows v)) (hm:∀ v∈vs,(rows v).length=m/\∀ z∈rows v,BP z) (m0:0<m) (h128:vs.length<128)
 (h:∀ (out:Array Value) (L:Addr) (e:Nat) h',out.toList.Perm vs->out.toList.Pairwise (fun x y=>CD 0 (rows x)<=CD 0 (rows y))->h'.get? L=some (seqObj "list" out e)->s.heap.objs.size<=L->(∀ b o,s.heap.get? b=some o->h'.get? b=some o)->Q (.ref L) { s with heap:=h' }) :
 wpAny (model prog w) A (call (.builtin "sorted") [.ref l]) Q E s:=by
 refine Calls.call_function_entry kind_sorted plain_sorted entry_sorted (args_sorted1 _) ?_
 unfold Builtin.«sorted»
 refine wpAny_bind (m:=checkCount "sorted" 1 1 _) (wpAny_pure ?_)
 refine wpAny_bind (collect_list il ?_ (by rw [sizeLine_eq];omega))
 refine wpAny_bind (wpAny_newList ?_)
 have z1:((s.heap.push (seqObj "list" #[] 0)).update s.heap.objs.size (Obj.mapSeq (·++vs.toArray))).objs.size=s.heap.objs.size+1:=by
  rw [Heap.size_update,size_push']
 generalize hH:(s.heap.push (seqObj "list" #[] 0)).update s.heap.objs.size (Obj.mapSeq (·++vs.toArray))=H1 at z1
 have k1:∀ b o,s.heap.get? b=some o->H1.get? b=some o:=fun b o e=>by
  have hlt:b<s.heap.objs.size:=Heap.lt_size e
  rw [<- hH,Heap.get?_update_ne _ _ _ _ (Nat.ne_of_lt hlt),Heap.get?_push_ne _ _ _ (Nat.ne_of_lt hlt)]
  exact e
 have g2:(H1.push (seqObj "list" vs.toArray 0)).get? H1.objs.size=some (seqObj "list" vs.toArray 0):=Heap.get?_push_size _ rfl
 have t2:∀ v∈vs,TupZ (H1.push (seqObj "list" vs.toArray 0)) v (rows v):=fun v hv=>by
  obtain ⟨a,o,xs,n,e,g,c,d,i⟩:=ht v hv
  exact ⟨a,o,xs,n,e,Heap.get?_push_of_some _ (k1 a o g),c,d,i⟩
 refine wpAny_bind (wpAny_holding (wpAny_call_entry (s:={ s with heap:=H1.push (seqObj "list" vs.toArray 0) }) slot_list_sort ⟨_,g2,rfl⟩ entry_list_sort (NT g2 t2 hm m0 h128 fun out a1 a2=>⟨_,rfl,?_⟩) (args_list_sort _)))
 refine wpAny_pure ⟨_,rfl,?_⟩
 show Q (.ref H1.objs.size) { s with heap:=sortedHeap (H1.push (seqObj "list" vs.toArray 0)) H1.objs.size vs out }
 unfold sortedHeap
 obtain ⟨e1,q1⟩:∃ e1,((H1.push (seqObj "list" vs.toArray 0)).update H1.objs.size (Obj.mapSeq fun _=>#[])).get? H1.objs.size=some (seqObj "list" #[] e1):=⟨_,get?_update_seq g2 (fun _=>#[])⟩
 have q2:=Heap.get?_push_of_some (seqObj "list" #[] 0) (Heap.get?_push_of_some (seqObj "tuple" vs.toArray 0) q1)
 obtain ⟨e3,q3⟩:∃ e3,(((((H1.push (seqObj "list" vs.toArray 0)).update H1.objs.size (Obj.mapSeq fun _=>#[])).push (seqObj "tuple" vs.toArray 0)).push (seqObj "list" #[] 0)).update H1.objs.size (Obj.mapSeq fun _=>out)).get? H1.objs.size=some (seqObj "list" out e3):=⟨_,get?_update_seq q2 (fun _=>out)⟩
 refine h out H1.objs.size e3 _ a1 a2 q3 (by omega) fun b q e=>?_
 have bl:=Heap.lt_size e
 have nb:b≠H1.objs.size:=by
  intro z
  rw [z,z1] at bl
  exact Nat.lt_irrefl _ (Nat.lt_of_succ_lt bl)
 rw [Heap.get?_update_ne _ _ _ _ nb]
 refine Heap.get?_push_of_some _ (Heap.get?_push_of_some _ ?_)
 rw [Heap.get?_update_ne _ _ _ _ nb]
 exact Heap.get?_push_of_some _ (k1 b q e)
end
section
variable {X:Cx}
theorem TU (K:Fg)(hK:X.K=K)(hc:X.calm=true):CS X (.builtin "sorted") (fun xs H Q=>∃ (D:Addr) (ps:List (Addr×List Int)) (m:Nat),xs=[.ref D]/\SqL K H D (ps.map fun p=>V.ref p.1)/\(∀ p∈ps,SqT K H p.1 (p.2.map V.int)/\p.2.length=m/\∀ z∈p.2,BP z)/\0<m/\ps.length<128 /\
 ∀ (p:Addr) (qs:List (Addr×List Int)),H p=none->qs.Perm ps->qs.Pairwise (fun x y=>CD 0 x.2<=CD 0 y.2)->Q (.ref p) (upd H p (.lst (qs.map fun q=>V.ref q.1)))):=by
 subst hK
 intro pins s σ H xs us Q I r h
 obtain ⟨D,ps,m,rfl,hD,hr,m0,h128,q⟩:=h
 obtain ⟨u,rfl,rx⟩:=PX r
 cases rx
 obtain ⟨its,rv,pl,hz⟩:=I.list hD
 rw [show (ps.map fun p=>V.ref p.1)=(ps.map (·.1)).map V.ref by rw [List.map_map];rfl] at rv
 have e:=PU rv
 subst e
 have hl:=pl.isList
 let row:Addr->List Int:=fun a=>match ps.find? (fun p=>p.1==a) with|some p=>p.2|none=>[]
 have rw_:∀ p∈ps,row p.1=p.2:=fun p hp=>by
  show (match ps.find? (fun q=>q.1==p.1) with|some p=>p.2|none=>[])=p.2
  cases f:ps.find? (fun q=>q.1==p.1) with
  | none=>exact absurd (List.find?_eq_none.mp f p hp) (by simp)
  | some p' =>
    have m1:=List.mem_of_find?_eq_some f
    have m2:p'.1=p.1:=by simpa using List.find?_some f
    have h1:=(hr p' m1).1
    rw [m2] at h1
    have:=I.tuple_inj h1 (hr p hp).1
    exact (List.map_inj_right (fun x y e=>by cases e;rfl)).mp this
 refine VC (rows:=fun v=>match v with|.ref a=>row a|_=>[]) hl (fun v hv=>?_) (fun v hv=>?_) m0 (by rw [List.length_map,List.length_map];exact h128) fun out L ep h' a1 a2 g zL k=>?_
 · obtain ⟨a,ha,rfl⟩:=List.mem_map.mp hv
   obtain ⟨p,hp,rfl⟩:=List.mem_map.mp ha
   obtain ⟨its,rv,⟨o,g,c,n,d⟩,_⟩:=I.tuple (hr p hp).1
   exact ⟨p.1,o,its.toArray,n,rfl,g,c,d,by show IntsAre _ (row p.1);rw [rw_ p hp];exact JG rv⟩
 · obtain ⟨a,ha,rfl⟩:=List.mem_map.mp hv
   obtain ⟨p,hp,rfl⟩:=List.mem_map.mp ha
   show (row p.1).length=m/\∀ z∈row p.1,BP z
   rw [rw_ p hp]
   exact (hr p hp).2
 · obtain ⟨bs,eb⟩:∃ bs:List Addr,out.toList=bs.map Value.ref:=by
    have:∀ l:List Value,(∀ v∈l,∃ a,v=Value.ref a)->∃ bs:List Addr,l=bs.map Value.ref:=by
     intro l
     induction l with
     | nil=>exact fun _=>⟨[],rfl⟩
     | cons v l ih =>
       intro h
       obtain ⟨a,rfl⟩:=h v (List.mem_cons_self ..)
       obtain ⟨bs,rfl⟩:=ih fun v hv=>h v (List.mem_cons_of_mem _ hv)
       exact ⟨a::bs,rfl⟩
    refine this _ fun v hv=>?_
    obtain ⟨a,_,e⟩:=List.mem_map.mp (a1.mem_iff.mp hv)
    exact ⟨a,e.symm⟩
   have pb:bs.Perm (ps.map (·.1)):=by
    have:=a1
    rw [eb] at this
    have:=this.map (fun v=>match v with|Value.ref a=>a|_=>0)
    rw [List.map_map,List.map_map] at this
    simpa [Function.comp_def] using this
   have hL:H L=none:=I.hok.fresh zL
   have eq:(bs.map fun a=>(a,row a)).map (fun q=>V.ref q.1)=bs.map V.ref:=by
    rw [List.map_map];rfl
   have pq:(bs.map fun a=>(a,row a)).Perm ps:=by
    have:=pb.map fun a=>(a,row a)
    rw [List.map_map] at this
    have e:ps.map ((fun a=>(a,row a))∘fun x=>x.1)=ps:=by
     conv=>rhs;rw [<- List.map_id ps]
     exact List.map_congr_left fun p hp=>by show (p.1,row p.1)=p;rw [rw_ p hp]
    rwa [e] at this
   have J:=I.laid (a:=L) (o:=.lst (bs.map V.ref)) (t':=s.toks) (h':=h') k zL ⟨by rw [List.length_map,pb.length_eq,List.length_map,sizeLine_eq];omega,out.toList,ep,by rw [eb];exact QF bs,by simpa using g⟩
   have fin:=q L (bs.map fun a=>(a,row a)) hL pq (by
    rw [eb,List.pairwise_map] at a2
    rw [List.pairwise_map]
    exact a2)
   rw [eq] at fin
   exact ⟨.ref L,_,J,rfl,fin⟩
end
noncomputable def CT (r:List Int):D:=.tup (r.map D.int)
theorem QE {H:Hp}:∀ {rows:List (List Int)} {vs:List V},Reps K M H (rows.map CT) vs->∃ ps:List (Addr×List Int),vs=ps.map (fun p=>V.ref p.1)/\rows=ps.map (·.2)/\∀ p∈ps,Rep K M H (CT p.2) (.ref p.1)
 | [],vs,h=>⟨[],h,rfl,fun p hp=>by simp at hp⟩
 | r::rows,vs,h=>by
   obtain ⟨v,rest,rfl,h1,h2⟩:=h
   obtain ⟨ps,rfl,hl,hr⟩:=QE h2
   obtain ⟨a,us,rfl,h3⟩:=(show ∃ a us,v=V.ref a/\TpA K M H a us/\Reps K M H _ us from h1)
   refine ⟨(a,r)::ps,rfl,by rw [List.map_cons,<- hl],fun p hp=>?_⟩
   rcases List.mem_cons.mp hp with rfl|hp
   · exact h1
   · exact hr p hp
theorem QD {H:Hp}:∀ {qs:List (Addr×List Int)},(∀ q∈qs,Rep K M H (CT q.2) (.ref q.1))->Reps K M H ((qs.map (·.2)).map CT) (qs.map fun q=>V.ref q.1)
 | [],_=>rfl
 | q::qs,h=>⟨.ref q.1,qs.map fun q=>V.ref q.1,rfl,h q (List.mem_cons_self ..),QD fun x hx=>h x (List.mem_cons_of_mem _ hx)⟩
theorem YC {H:Hp}{r:List Int}{a:Addr}(h:Rep K M H (CT r) (.ref a)):SqT K H a (r.map V.int):=by
 obtain ⟨a',us,e,h1,h2⟩:=(show ∃ a' us,V.ref a=V.ref a'/\TpA K M H a' us/\Reps K M H (r.map D.int) us from h)
 cases e
 rw [KY h2] at h1
 exact h1.sq
noncomputable def Q6k (xs:List D)(P:List D->Prop):Prop:=∃ (rows:List (List Int)) (m:Nat),xs=rows.map CT/\0<m/\rows.length<128/\(∀ r∈rows,r.length=m/\∀ z∈r,BP z)/\∀ rows':List (List Int),rows'.Perm rows->rows'.Pairwise (fun x y=>CD 0 x<=CD 0 y)->P (rows'.map CT)
section
variable {X:Cx}{W:Wd}{a e:Expr}{pos:Pos}{dA:DA}
noncomputable def J4h (K:Fg):List V->Hp->VK->Prop:=fun xs H Q=>∃ (D:Addr) (ps:List (Addr×List Int)) (m:Nat),xs=[.ref D]/\SqL K H D (ps.map fun p=>V.ref p.1)/\(∀ p∈ps,SqT K H p.1 (p.2.map V.int)/\p.2.length=m/\∀ z∈p.2,BP z)/\0<m/\ps.length<128 /\
 ∀ (p:Addr) (qs:List (Addr×List Int)),H p=none->qs.Perm ps->qs.Pairwise (fun x y=>CD 0 x.2<=CD 0 y.2)->Q (.ref p) (upd H p (.lst (qs.map fun q=>V.ref q.1)))
theorem OH (K:Fg)(hK:X.K=K)(hc:X.calm=true):CS X (.builtin "sorted") (J4h K):=TU K hK hc
noncomputable def Q7w (da:DA):DA:=fun ρ P=>da ρ fun xs=>match xs with
 | [x]=>(asL x).elim False fun ys=>Q6k ys P
 | _=>False
theorem QO {lpos npos:Pos}(ha:JA X W [a] dA)(h:PE X (.Call (.Name "sorted" npos) [a] [] lpos) (tCB (J4h W.K) (dnA W dA))):JF X W (.Call (.Name "sorted" npos) [a] [] lpos) (Q7w dA):=⟨h.mono fun σ H Q hh=>by
 obtain ⟨pn,M,b,ρ,P,st,h,k⟩:=hh
 refine ⟨pn,M,b,ρ,_,st,h,fun xs vs H1 hx rx k1 o1=>?_⟩
 match xs,hx with
 | [x],hx =>
   obtain ⟨v,rfl,r⟩:=rx1 rx
   cases e1:asL x with
   | none=>simp only [e1] at hx;exact hx.elim
   | some ys =>
     simp only [e1] at hx
     obtain ⟨rows,m,rfl,m0,h128,hb,hP⟩:=hx
     obtain ⟨a1,us,rfl,h1,r1⟩:=asL.rep r e1
     obtain ⟨ps,rfl,rfl,hr⟩:=QE r1
     refine ⟨a1,ps,m,rfl,SqL.of h1,fun p hp=>⟨YC (hr p hp),hb _ (List.mem_map.mpr ⟨p,hp,rfl⟩)⟩,m0,by rw [List.length_map] at h128;exact h128,fun p qs hp pq so=>?_⟩
     have rq:Reps W.K M H1 ((qs.map (·.2)).map CT) (qs.map fun q=>V.ref q.1):=QD fun q hq=>hr q (pq.mem_iff.mp hq)
     exact k _ _ p _ (hP (qs.map (·.2)) (pq.map _) (by rw [List.pairwise_map];exact so)) (J8f k1 o1 hp) AC (Reps.keep (fun c o _ e=>Same.upd hp c o e) _ _ (Reps.avoid (fun c z=>z.imp id fun y=>by rw [y];exact hp) _ _ rq)) (k1.trans (Kp.upd hp)) ((st.step k1 o1).toHs.okU hp)⟩
noncomputable def Q7z (dF:DA):DS:=fun F ρ=>dF ρ fun xs=>F.ro xs
theorem WH (h:JF X W e dA):JS X W (.Return (some e) pos) (Q7z dA):=⟨(CK h.h).mono fun E σ H hh=>hh.elim fun pn M b ρ F s l hd=>by
 refine ⟨pn,M,b,ρ,_,s.toSta,hd,fun xs vs p H' hx n1 e1 r1 k1 o1=>?_⟩
 have s':=s.toSta.step k1 o1
 obtain ⟨h0,m0⟩:=s.toSta.fresh0 n1
 exact l.ro _ _ _ H' hx h0 m0 e1 (Reps.avoid (fun c z=>z.elim (fun y=>.inl (.inl (s'.m0 c y))) fun y=>.inl (.inr y)) _ _ r1) s'.kp s'.ok0⟩
end
end L2
namespace K
open PySem PySem.Spec PyProof.Rows L2
local macro_rules | `(tactic| walk_at "o") => `(tactic| first | exact Or.inl rfl | exact Or.inr rfl)
local macro_rules | `(tactic| walk_at "v") => `(tactic| first | exact Or.inl rfl | exact Or.inr (Or.inl rfl) | exact Or.inr (Or.inr rfl))
local macro_rules | `(tactic| walk_at "bg") => `(tactic| first | assumption | exact Bag.same (by walk_at "bg") (Same.upd (by assumption)) | exact Bag.same (by walk_at "bg") (by assumption))
local macro_rules | `(tactic| walk_at "hp") => `(tactic| first | assumption | exact AC | (refine Same.get (Same.upd (by assumption)) ?_; walk_at "hp") | (refine Same.get (by assumption) ?_; walk_at "hp") | (refine Keep.tup (by assumption) (by walk_at "bg") ?_; (walk_at "hp")))
local macro_rules | `(tactic| walk_at "sm") => `(tactic| first | exact Same.refl _ | assumption | (refine Same.trans ?_ (Same.upd (by assumption)); walk_at "sm") | (refine Same.trans ?_ (by assumption); walk_at "sm"))
local macro_rules | `(tactic| walk_at "kp") => `(tactic| first | exact Keep.refl _ _ | assumption | (refine Keep.trans ?_ (Same.keep (Same.upd (by assumption))); walk_at "kp") | (refine Keep.trans ?_ (by assumption); walk_at "kp") | (refine Keep.trans ?_ (Same.keep (by assumption)); walk_at "kp"))
local macro_rules | `(tactic| walk_at "bd") => `(tactic| first | assumption | exact Bd.mul (by walk_at "bd") (by walk_at "bd") | exact Bd.add (by walk_at "bd") (by walk_at "bd") | exact Bd.sub (by walk_at "bd") (by walk_at "bd") | exact Bd.neg (by walk_at "bd") | exact Bd.num _ (by decide))
local macro_rules | `(tactic| walk_at "rd1") => `(tactic| first | refine ⟨_,_,rfl,rfl,?_⟩ | refine ⟨_,rfl,?_⟩ | (refine' ⟨_,?xs,_,?vv,rfl,rfl,SqT.of ?ia,?ib,?_⟩; (case ia => walk_at "hp"); (case ib => rfl)) | refine And.intro (CMulB.right (Bd.num _ (by decide))) ?_ | (refine' rd_mul ?m1 ?m2 ?m3 ?_; (case m1 => walk_at "bd"); (case m2 => walk_at "bd"); (case m3 => first | decide | omega)) | refine ⟨rfl,?_⟩)
local macro_rules | `(tactic| walk_at "rd") => `(tactic| repeat (walk_at "rd1"))
local macro_rules | `(tactic| walk_at "al") => `(tactic| (refine ⟨(Nat.le_trans (Nat.le_of_ble_eq_true rfl) DK),?_⟩; intro p en))
local macro_rules | `(tactic| walk_at "w") => `(tactic| (conv => whnf))
local macro_rules | `(tactic| walk_at "go1") => `(tactic| first | refine And.intro (by exact rfl) ?_ | refine IfP.t (by exact rfl) ?_ | refine IfP.f (by exact rfl) ?_ | refine And.intro (by exact Nat.le_of_ble_eq_true rfl) ?_ | refine And.intro (by decide) ?_ | refine And.intro (by dsimp only; decide) ?_ | refine And.intro (CMulB.right (Bd.num _ (by decide))) ?_ | refine And.intro (Or.inl ⟨_,_,by walk_at "bd",by walk_at "bd",by first | decide | omega⟩) ?_| refine And.intro ⟨by decide,by decide⟩ ?_)
local macro_rules | `(tactic| walk_at "g") => `(tactic| ((conv => whnf); repeat (walk_at "go1"; (conv => whnf))))
local macro_rules | `(tactic| walk_at "nz") => `(tactic| simp only [BY,List.map_cons,List.map_nil,List.length_cons,List.length_nil,List.replicate,List.cons_append,List.nil_append,List.set_cons_succ,List.set_cons_zero,HJ,List.getElem?_cons_succ,List.getElem?_cons_zero,Option.bind_some,Option.bind_none,Option.join_some,Option.join_none,ND,Nat.reduceAdd,Nat.reduceSub,Int.reduceAdd,Nat.zero_add])
local macro_rules | `(tactic| walk_at "gr") => `(tactic| ((try walk_at "nz"); refine Q0f ?_; walk_at "g"))
local macro_rules | `(tactic| walk_at "gc") => `(tactic| ((try walk_at "nz"); refine J7e ?_; walk_at "g"))
local macro_rules | `(tactic| walk_at "sp") => `(tactic| (refine IfP.of (fun h => ?_) (fun h => ?_) <;> (try simp only [decide_eq_true_eq,Bool.bne_false,Bool.bne_true,Bool.not_eq_true',decide_eq_false_iff_not,Bool.not_true,Bool.not_false,Bool.not_eq_false',bne_iff_ne,ne_eq,Bool.not_not] at h)))
noncomputable def top (i:Nat):Stmt:=PySem.Challenge.pw_onceshade_k90_whole_cut_and_painted.main.body.getD i (.Pass ⟨0,0,0,0⟩)
structure Bi (mg:Str->Option Value):Prop where
 abs_:mg "abs" = none
 len_:mg "len" = none
 max_:mg "max" = none
 min_:mg "min" = none
 range_:mg "range" = none
 isinstance_:mg "isinstance" = none
 int_:mg "int" = none
 bool_:mg "bool" = none
 tuple_:mg "tuple" = none
 zip_:mg "zip" = none
 sum_:mg "sum" = none
 list_:mg "list" = none
 all_:mg "all" = none
 sorted_:mg "sorted" = none
 LONGEST_:∃ t,mg "LONGEST" = some (.int 16 t)
structure Cs where
 ShadeError:Addr
 NoFraction:Addr
 NoFlat:Addr
 NoFace:Addr
 NoBoard:Addr
structure Ex (K:Fg)(mg:Str->Option Value)(base:Heap)(c:Cs):Prop where
 g_ShadeError:mg "ShadeError" = some (.ref c.ShadeError)
 g_NoFraction:mg "NoFraction" = some (.ref c.NoFraction)
 g_NoFlat:mg "NoFlat" = some (.ref c.NoFlat)
 g_NoFace:mg "NoFace" = some (.ref c.NoFace)
 g_NoBoard:mg "NoBoard" = some (.ref c.NoBoard)
 o_NoBoard:OwnCls "NoBoard" c.NoBoard bmV "ValueError.__new__" mg base
 x_NoBoard:XCls K c.NoBoard
 v_NoBoard:PySem.W.subIn K (.ref c.NoBoard) (.type "ValueError")=some true
 s_NoBoard:PySem.W.subIn K (.ref c.NoBoard) (.ref c.ShadeError)=some true
 n_NoBoard_NoFraction:PySem.W.kin_not K c.NoBoard c.NoFraction=true
 n_NoBoard_NoFlat:PySem.W.kin_not K c.NoBoard c.NoFlat=true
 n_NoBoard_NoFace:PySem.W.kin_not K c.NoBoard c.NoFace=true
 o_NoFace:OwnCls "NoFace" c.NoFace bmV "ValueError.__new__" mg base
 x_NoFace:XCls K c.NoFace
 v_NoFace:PySem.W.subIn K (.ref c.NoFace) (.type "ValueError")=some true
 s_NoFace:PySem.W.subIn K (.ref c.NoFace) (.ref c.ShadeError)=some true
 n_NoFace_NoFraction:PySem.W.kin_not K c.NoFace c.NoFraction=true
 n_NoFace_NoFlat:PySem.W.kin_not K c.NoFace c.NoFlat=true
 n_NoFace_NoBoard:PySem.W.kin_not K c.NoFace c.NoBoard=true
 o_NoFlat:OwnCls "NoFlat" c.NoFlat bmV "ValueError.__new__" mg base
 x_NoFlat:XCls K c.NoFlat
 v_NoFlat:PySem.W.subIn K (.ref c.NoFlat) (.type "ValueError")=some true
 s_NoFlat:PySem.W.subIn K (.ref c.NoFlat) (.ref c.ShadeError)=some true
 n_NoFlat_NoFraction:PySem.W.kin_not K c.NoFlat c.NoFraction=true
 n_NoFlat_NoFace:PySem.W.kin_not K c.NoFlat c.NoFace=true
 n_NoFlat_NoBoard:PySem.W.kin_not K c.NoFlat c.NoBoard=true
 sh:XBase K c.ShadeError
noncomputable abbrev EL:Stmt:=top 46
noncomputable abbrev xl1:List Str:=["_law_script","_law_k"]
theorem RU:FnScope xl1 xl1 (J7 EL):=⟨rfl,rfl,rfl,by decide +kernel,rfl,by decide +kernel,by decide +kernel⟩
noncomputable def ZW (K:Fg):Sp:=fun vs H Q _=>∃ (a:Addr) (ns:List Int) (i:Nat),vs=[.ref a,.int i]/\SqL K H a (ns.map V.int)/\∀ n,Q (.int n) H
theorem OV {f:Addr} (F:Fun K "_law_cell" "_law_cell" EL f fd) (Z:Bi mg) {c:Cs} (Y:Ex K mg base c):FnOk P w K mg base CX0 1 f fd xl1 (ZW K):=by
 refine F.ok RU (fun vs H Q E h=>?_) (fun cdv A outer s H vs Q E hr h=>?_)
 · obtain ⟨a,ns,i,rfl,hS,k⟩:=h
   rfl
 · obtain ⟨a,ns,i,rfl,hS,k⟩:=h
   refine ⟨_,(AI (VT (FS QI (pv 1) (DH (DF K (by rfl)) rfl Z.len_ TW (AW (pv 0) CW)) (Z0 _)) (BD (CK (NL (DZ K (by rfl)) (pv 0) (pv 1) (fun _ _=>rfl)))) IS)
    (BD (CK Z5))),?_⟩
   walk_at "rd"
   refine ⟨_,_,rfl,.inl hS,?_⟩
   walk_at "rd"
   refine J2u (fun h=>?_) (fun h=>?_)
   · have h:(i:Int)<((ns.map V.int).length:Nat):=J6l h
     have hi:i<ns.length:=by rw [List.length_map] at h;omega
     walk_at "rd"
     refine ⟨_,_,_,_,rfl,rfl,hS,KC (v:=V.int ns[i]) ?_,k _⟩
     rw [List.getElem?_map,List.getElem?_eq_getElem hi]
     rfl
   · exact k _
noncomputable abbrev FN:Stmt:=top 47
noncomputable abbrev xl2:List Str:=["_law_cell_here","_law_place"]
theorem GH:FnScope ["_law_cell_here","_law_place","_law_far"] xl2 (J7 FN):=⟨rfl,rfl,rfl,by decide +kernel,rfl,by decide +kernel,by decide +kernel⟩
noncomputable def J3x:Sp:=fun vs H Q _=>∃ (c:Int) (i:Nat),vs=[.int c,.int i]/\i<=1000/\∀ p H',H p=none->Same H H'->Bag H' p->Q (.ref p) H'
theorem SM {f:Addr} (F:Fun K "_law_bag" "_law_bag" FN f fd) (Z:Bi mg) {c:Cs} (Y:Ex K mg base c):FnOk P w K mg base CX0 1 f fd xl2 J3x:=by
 refine F.ok GH (fun vs H Q E h=>?_) (fun cdv A outer s H vs Q E hr h=>?_)
 · obtain ⟨c,i,rfl,hi,k⟩:=h
   rfl
 · obtain ⟨c,i,rfl,hi,k⟩:=h
   refine ⟨_,(AI (EW (i:=2) GH.nd rfl (by walk_at "o") (DH GV rfl Z.abs_ OJ (AW (pv 0) CW)))
    (AI (VT (FS QI (pv 2) (BR YH Z5 Z5) (Z0 _)) (BD (EW (i:=2) GH.nd rfl (by walk_at "o") Z5)) IS)
    (BD (CK (SB (AW (pv 2) (AW (BR HX (BR YH (BR AX (BR AX (BR HX (pv 0) Z5) (BR V1 Z5 (pv 1))) Z5) Z5) Z5) CW))))))),?_⟩
   have fin:∀ f:Int,0<=f->∀ p,H p=none->Q (.ref p) (upd H p (.lst [.int f,.int ((c % 2147483647+7919*(i:Int)+13) ^ (5:Int).toNat % 2147483629)])):=fun f hf p hp =>
    k p _ hp (Same.upd hp) (Bag.mk' hf (Int.emod_nonneg _ (by decide)) (Int.lt_trans (Int.emod_lt_of_pos _ (by decide)) (by decide)))
   have hb:c % 2147483647+7919*(i:Int)+13<18446744073709551616/\0<=c % 2147483647+7919*(i:Int)+13:=by
    have h1:=Int.emod_nonneg c (show (2147483647:Int)≠0 by decide)
    have h2:=Int.emod_lt_of_pos c (show (0:Int)<2147483647 by decide)
    omega
   have hab:0<=(if c<0 then -c else c):=by split<;>omega
   have bi:Bd 64 (i:Int):=Bd.of (by omega) (by omega)
   walk_at "rd"
   refine ⟨⟨by decide,by decide,by decide⟩,?_⟩
   walk_at "rd"
   refine J2u (fun h=>?_) (fun h=>?_)
   all_goals
    walk_at "rd"
    refine ⟨(by show (0:Int)<2147483647;decide),?_⟩
    walk_at "rd"
    refine ⟨⟨by decide,by decide,?_⟩,?_⟩
    · show (c % 2147483647+7919*(i:Int)+13).natAbs<2 ^ 64
      omega
    walk_at "rd"
    refine ⟨(by show (0:Int)<2147483629;decide),?_⟩
    refine ⟨(Nat.le_trans (Nat.le_of_ble_eq_true rfl) DK),?_⟩
   · exact fin 0 (by decide)
   · exact fin _ hab
noncomputable abbrev FM:Stmt:=top 48
theorem OQ:FnScope ["_law_bag_here"] ["_law_bag_here"] (J7 FM):=⟨rfl,rfl,rfl,by decide +kernel,rfl,by decide +kernel,by decide +kernel⟩
noncomputable def MX:Sp:=fun vs H Q _=>∃ (p:Addr) (f m:Int),vs=[.ref p]/\H p=some (.lst [.int f,.int m])/\0<=m/\∀ r m':Int,0<=r->0<=m'->m'<2147483647->Q (.int r) (upd H p (.lst [.int f,.int m']))
theorem OT {f:Addr} (F:Fun K "_law_mixed" "_law_mixed" FM f fd) (Z:Bi mg) {c:Cs} (Y:Ex K mg base c):FnOk P w K mg base CX0 1 f fd ["_law_bag_here"] MX:=by
 refine F.ok OQ (fun vs H Q E h=>?_) (fun cdv A outer s H vs Q E hr h=>?_)
 · obtain ⟨p,f,m,rfl,hp,hm,k⟩:=h
   rfl
 · obtain ⟨p,f,m,rfl,hp,hm,k⟩:=h
   refine ⟨_,(AI (YF (BR HX (BR AX (BR V1 (NL (DZ K (by rfl)) (pv 0) Z5 (fun _ _=>rfl)) Z5) Z5) Z5) (J4q (pv 0) Z5 VG))
    (BD (CK (BR CL (BR HX (BR V1 (NL (DZ K (by rfl)) (pv 0) Z5 (fun _ _=>rfl)) Z5) Z5) Z5)))),?_⟩
   walk_at "rd"
   refine ⟨_,_,_,_,rfl,rfl,SqL.of hp,rfl,?_⟩
   walk_at "rd"
   refine ⟨(by show (0:Int)<2147483647;decide),?_⟩
   walk_at "rd"
   refine ⟨_,_,_,1,rfl,rfl,hp,rfl,?_⟩
   walk_at "rd"
   refine ⟨_,_,_,_,rfl,rfl,SqL.of AC,rfl,?_⟩
   walk_at "rd"
   refine ⟨(by show (0:Int)<2147483629;decide),?_⟩
   walk_at "rd"
   refine ⟨⟨by decide,64,Bd.num _ (by decide),by decide⟩,?_⟩
   exact k _ _ (Int.ediv_nonneg (Int.emod_nonneg _ (by decide)) (by decide)) (Int.emod_nonneg _ (by decide)) (Int.emod_lt_of_pos _ (by decide))
noncomputable abbrev DN:Stmt:=top 49
noncomputable abbrev xl3:List Str:=["_law_bag_here","_law_many"]
theorem BQ:FnScope ["_law_bag_here","_law_many","_law_found","_law_k"] xl3 (J7 DN):=⟨rfl,rfl,rfl,by decide +kernel,rfl,by decide +kernel,by decide +kernel⟩
noncomputable def VA:Sp:=fun vs H Q _=>∃ (p:Addr) (many:Int) (n:Nat),vs=[.ref p,.int many]/\Bag H p/\0<many/\Bd n many/\n<=9000/\J7v p many H Q
theorem NS {f:Addr} (F:Fun K "_law_digit" "_law_digit" DN f fd) (Z:Bi mg) {c:Cs} (Y:Ex K mg base c) (zg0:Callee P w K mg base CX0 "_law_mixed" 1 ["_law_bag_here"] MX):FnOk P w K mg base CX0 2 f fd xl3 VA:=by
 refine F.ok BQ (fun vs H Q E h=>?_) (fun cdv A outer s H vs Q E hr h=>?_)
 · obtain ⟨p,many,n,rfl,⟨f,m,hp,hf,hm,hm2⟩,h0,hb,hn,k⟩:=h
   rfl
 · obtain ⟨p,many,n,rfl,⟨f,m,hp,hf,hm,hm2⟩,h0,hb,hn,k⟩:=h
   refine ⟨_,(AI (VT (FS VU (NL (DZ K (by rfl)) (pv 0) Z5 (fun _ _=>rfl)) Z5 (Z0 _)) (AI (EW (i:=2) BQ.nd rfl (by walk_at "o") (BR HX (NL (DZ K (by rfl)) (pv 0) Z5 (fun _ _=>rfl)) (pv 1)))
    (AI (YF (BR CL (NL (DZ K (by rfl)) (pv 0) Z5 (fun _ _=>rfl)) (pv 1)) (J4q (pv 0) Z5 VG))
    (BD (CK (pv 2))))) IS)
    (AI (EW (i:=2) BQ.nd rfl (by walk_at "o") (NK zg0 hr.m rfl (AW (pv 0) CW)))
    (AI (VT (FS VU (pv 1) Z5 (Z0 _)) (BD (J4o PassesOwn.never rfl (QG rfl Z.range_ (AW Z5 CW)) (pg_name (i:=3) BQ.nd rfl (by walk_at "o")) (BD (EW (i:=2) BQ.nd rfl (by walk_at "o") (BR AX (BR V1 (pv 2) Z5) (NK zg0 hr.m rfl (AW (pv 0) CW))))))) IS)
    (BD (CK (BR HX (pv 2) (pv 1))))))),?_⟩
   have md:∀ x:Int,0<=x % many/\x % many<many:=fun x=>⟨Int.emod_nonneg _ (by omega),Int.emod_lt_of_pos _ h0⟩
   walk_at "rd"
   refine ⟨_,_,_,_,rfl,rfl,SqL.of hp,rfl,?_⟩
   walk_at "rd"
   refine J2u (fun h=>?_) (fun h=>?_)
   · have h:0<f:=J6l h
     walk_at "rd"
     refine ⟨_,_,_,_,rfl,rfl,SqL.of hp,rfl,?_⟩
     walk_at "rd"
     refine ⟨h0,?_⟩
     walk_at "rd"
     refine ⟨_,_,_,_,rfl,rfl,SqL.of hp,rfl,?_⟩
     walk_at "rd"
     refine ⟨⟨h0,n,hb,hn⟩,?_⟩
     walk_at "rd"
     refine ⟨_,_,_,0,rfl,rfl,hp,rfl,?_⟩
     walk_at "rd"
     exact k _ _ (md f).1 (md f).2 (Bag.mk' (Int.ediv_nonneg hf (by omega)) hm hm2) Keep.upd
   · walk_at "rd"
     refine ⟨p,f,m,rfl,hp,hm,fun r m1 hr0 h1 h1'=>?_⟩
     walk_at "rd"
     refine J2u (fun h=>?_) (fun h=>?_)
     · refine ⟨7,rfl,by decide,by decide,J2z (n:=7) (fun i σ H2=>∃ (x:Int) (m2:Int) (v:Option V),σ=[some (.ref p),some (.int many),some (.int x),v]/\0<=m2/\m2<2147483647/\H2=upd H p (.lst [.int f,.int m2])) ⟨r,m1,none,rfl,h1,h1',rfl⟩ ?_ ?_⟩
       · rintro i σ H2 hi ⟨x,m2,v,rfl,g1,g2,rfl⟩
         walk_at "rd"
         refine ⟨p,f,m2,rfl,AC,g1,fun r' m3 hr' h3 h3'=>?_⟩
         walk_at "rd"
         exact ⟨_,_,_,rfl,h3,h3',J8i⟩
       · rintro σ H2 ⟨x,m2,v,rfl,g1,g2,rfl⟩
         walk_at "rd"
         refine ⟨h0,?_⟩
         exact k _ _ (md x).1 (md x).2 (Bag.mk' hf g1 g2) Keep.upd
     · walk_at "rd"
       refine ⟨h0,?_⟩
       exact k _ _ (md r).1 (md r).2 (Bag.mk' hf h1 h1') Keep.upd
noncomputable def BT:BagT:=⟨fun p H=>Bag H p,fun p H H' b k=>by
 obtain ⟨f,m,e,q⟩:=b
 exact ⟨f,m,k _ e,q⟩,fun p H b=>by
 obtain ⟨f,m,e,q⟩:=b
 exact ⟨_,e⟩⟩
theorem J9u {p:Addr}{H H':Hp}(k:Keep p H H'):Kp (some p) H H':=fun c o n e=>k c o (fun z=>n (by rw [z])) e
noncomputable def ZH:DSp:=fun ds P _=>∃ (ns:List Int) (i:Nat),ds=[.scr ns,.int i]/\∀ n,P (.int n)
theorem RO:∀ vs H Q E,(Q0 K BT ZH) vs H Q E->(ZW K) vs H Q E:=by
 rintro vs H Q E ⟨M,b,ds,P,Ed,⟨ns,i,rfl,hP⟩,⟨v,r,rfl,⟨a,rfl,hS⟩,u,r',rfl,h2,h3⟩,ho,hb,hd,hq,hx⟩
 cases (show _=_ from h2)
 cases (show _=_ from h3)
 exact ⟨a,ns,i,rfl,hS.imp (·.2) id,fun n=>hq _ _ H (hP n) rfl (Kp.refl _ _) ho⟩
theorem SL {f:Addr} (F:Fun K "_law_cell" "_law_cell" EL f fd) (Z:Bi mg) {c:Cs} (Y:Ex K mg base c):FnOk P w K mg base CX0 1 f fd xl1 (Q0 K BT ZH):=FnOk.imp (OV F Z Y) RO
noncomputable def SA:List D->Prop:=fun ds=>∃ (c:Int) (i:Nat),ds=[.int c,.int i]/\i<=1000
theorem UT:∀ vs H Q E,(XH K BT SA) vs H Q E->J3x vs H Q E:=by
 rintro vs H Q E ⟨M,b,ds,hr,⟨c,i,rfl,hi⟩,k⟩
 · obtain ⟨v,r,rfl,h1,u,r',rfl,h2,h3⟩:=hr
   cases (show _=_ from h1)
   cases (show _=_ from h2)
   cases (show _=_ from h3)
   exact ⟨c,i,rfl,hi,k⟩
theorem WD {f:Addr} (F:Fun K "_law_bag" "_law_bag" FN f fd) (Z:Bi mg) {c:Cs} (Y:Ex K mg base c):FnOk P w K mg base CX0 1 f fd xl2 (XH K BT SA):=FnOk.imp (SM F Z Y) UT
noncomputable def HD:DSp:=fun ds P _=>∃ (many:Int) (n:Nat),ds=[.bag,.int many]/\0<many/\Bd n many/\n<=9000/\∀ r,0<=r->r<many->P (.int r)
theorem ON:∀ vs H Q E,(Q0 K BT HD) vs H Q E->VA vs H Q E:=by
 rintro vs H Q E ⟨M,b,ds,P,Ed,⟨many,n,rfl,h0,hbd,hn,hP⟩,⟨v,r,rfl,⟨p,rfl,rfl⟩,u,r',rfl,h2,h3⟩,ho,hb,hd,hq,hx⟩
 cases (show _=_ from h2)
 cases (show _=_ from h3)
 exact ⟨p,many,n,rfl,ho p rfl,h0,hbd,hn,fun r H' r0 r1 b' k=>hq _ _ H' (hP r r0 r1) rfl (J9u k) fun q e=>by cases e;exact b'⟩
theorem OU {f:Addr} (F:Fun K "_law_digit" "_law_digit" DN f fd) (Z:Bi mg) {c:Cs} (Y:Ex K mg base c) (zg0:Callee P w K mg base CX0 "_law_mixed" 1 ["_law_bag_here"] MX):FnOk P w K mg base CX0 2 f fd xl3 (Q0 K BT HD):=FnOk.imp (NS F Z Y zg0) ON
noncomputable def RJ:DSp:=fun ds P _=>∃ a b:Int,ds=[.int a,.int b]/\P (.int (Int.gcd a b))
noncomputable abbrev BN:Stmt:=top 10
noncomputable abbrev xl4:List Str:=["one","other"]
theorem EH:FnScope xl4 xl4 (J7 BN):=⟨rfl,rfl,rfl,by decide +kernel,rfl,by decide +kernel,by decide +kernel⟩
noncomputable def EC:Sp:=fun vs H Q _=>∃ a b:Int,vs=[.int a,.int b]/\Q (.int (Int.gcd a b)) H
theorem HZ {f:Addr} (F:Fun K "common_divisor" "common_divisor" BN f fd) (Z:Bi mg) {c:Cs} (Y:Ex K mg base c):FnOk P w K mg base CX0 1 f fd xl4 EC:=by
 refine F.ok EH (fun vs H Q E h=>?_) (fun cdv A outer s H vs Q E hr h=>?_)
 · obtain ⟨a,b,rfl,k⟩:=h
   rfl
 · obtain ⟨a,b,rfl,k⟩:=h
   refine ⟨_,(AI (VS PassesOwn.never (FS Q1j (pv 1) Z5 (Z0 _)) (BD (J4m (i:=0) (j:=1) rfl EH.nd rfl rfl (by decide) rfl rfl (AW (pv 1) (AW (BR J9f (pv 0) (pv 1)) CW)) rfl)))
    (BD (CK (DH GV rfl Z.abs_ OJ (AW (pv 0) CW))))),?_⟩
   have ab:∀ x:Int,(if x<0 then -x else x)=(x.natAbs:Int):=fun x=>by split<;>omega
   refine UR (fun σ H'=>H'=H/\∃ x y:Int,σ=[some (.int x),some (.int y)]/\Int.gcd x y=Int.gcd a b) (fun σ _=>match σ with | [_,some (.int y)]=>y.natAbs|_=>0) ⟨rfl,_,_,rfl,rfl⟩ ?_ ?_
   · rintro σ H' ⟨rfl,x,y,rfl,hg⟩
     walk_at "rd"
     refine J2u (fun h=>?_) (fun h=>?_)
     · have h:y≠0:=J9n h
       walk_at "rd"
       refine ⟨h,?_⟩
       refine ⟨_,_,rfl,⟨rfl,_,_,rfl,by rw [J6a];exact hg⟩,?_⟩
       show (x.fmod y).natAbs<y.natAbs
       exact Q7m h
     · have h:y=0:=J9o h
       walk_at "rd"
       subst h
       have e:((Int.gcd a b:Nat):Int)=(if x<0 then -x else x):=by rw [<- hg,Int.gcd_zero_right,ab]
       rw [e] at k
       exact k
   · rintro σ H' Q1 Q2 hq ⟨v,e1,e2,k',e4,q⟩
     exact ⟨v,e1,e2,k',e4,hq _ _ q⟩
theorem IJ:∀ vs H Q E,(Q0 K BT RJ) vs H Q E->EC vs H Q E:=by
 rintro vs H Q E ⟨M,b,ds,P,Ed,⟨x,y,rfl,hP⟩,⟨v,r,rfl,h1,u,r',rfl,h2,h3⟩,ho,hb,hd,hq,hx⟩
 cases (show _=_ from h1)
 cases (show _=_ from h2)
 cases (show _=_ from h3)
 exact ⟨x,y,rfl,hq _ _ H hP rfl (Kp.refl _ _) ho⟩
theorem IV {f:Addr} (F:Fun K "common_divisor" "common_divisor" BN f fd) (Z:Bi mg) {c:Cs} (Y:Ex K mg base c):FnOk P w K mg base CX0 1 f fd xl4 (Q0 K BT RJ):=FnOk.imp (HZ F Z Y) IJ
noncomputable abbrev DC:Stmt:=top 50
noncomputable abbrev xl5:List Str:=["_law_one","_law_other"]
theorem CH:FnScope xl5 xl5 (J7 DC):=⟨rfl,rfl,rfl,by decide +kernel,rfl,by decide +kernel,by decide +kernel⟩
noncomputable def QB:Sp:=fun vs H Q _=>∃ a b:Int,vs=[.int a,.int b]/\Q (.int (Int.gcd a b)) H
theorem LZ {f:Addr} (F:Fun K "_law_common" "_law_common" DC f fd) (Z:Bi mg) {c:Cs} (Y:Ex K mg base c):FnOk P w K mg base CX0 1 f fd xl5 QB:=by
 refine F.ok CH (fun vs H Q E h=>?_) (fun cdv A outer s H vs Q E hr h=>?_)
 · obtain ⟨a,b,rfl,k⟩:=h
   rfl
 · obtain ⟨a,b,rfl,k⟩:=h
   refine ⟨_,(AI (EW (i:=0) CH.nd rfl (by walk_at "o") (DH GV rfl Z.abs_ OJ (AW (pv 0) CW)))
    (AI (EW (i:=1) CH.nd rfl (by walk_at "o") (DH GV rfl Z.abs_ OJ (AW (pv 1) CW)))
    (AI (VS PassesOwn.never (FS VU (pv 1) Z5 (Z0 _)) (BD (J4m (i:=0) (j:=1) rfl CH.nd rfl rfl (by decide) rfl rfl (AW (pv 1) (AW (BR HX (pv 0) (pv 1)) CW)) rfl)))
    (BD (CK (pv 0)))))),?_⟩
   have ab:∀ x:Int,(if x<0 then -x else x)=(x.natAbs:Int):=fun x=>by split<;>omega
   walk_at "rd"
   refine UR (fun σ H'=>H'=H/\∃ x y:Int,σ=[some (.int x),some (.int y)]/\0<=x/\0<=y/\Int.gcd x y=Int.gcd a b) (fun σ _=>match σ with | [_,some (.int y)]=>y.toNat|_=>0) ⟨rfl,_,_,rfl,by rw [ab];omega,by rw [ab];omega,by rw [ab,ab];rfl⟩ ?_ ?_
   · rintro σ H' ⟨rfl,x,y,rfl,hx,hy,hg⟩
     walk_at "rd"
     refine J2u (fun h=>?_) (fun h=>?_)
     · have h:0<y:=J6l h
       walk_at "rd"
       refine ⟨h,?_⟩
       refine ⟨_,_,rfl,⟨rfl,_,_,rfl,hy,Int.emod_nonneg _ (by omega),by rw [J5z hx h];exact hg⟩,?_⟩
       have:=Int.emod_lt_of_pos x h
       have:=Int.emod_nonneg x (show y≠0 by omega)
       show (x % y).toNat<y.toNat
       omega
     · have h:¬ 0<y:=Q7q h
       walk_at "rd"
       have hy0:y=0:=by omega
       subst hy0
       have e:((Int.gcd a b:Nat):Int)=x:=by rw [<- hg,Int.gcd_zero_right];omega
       rw [e] at k
       exact k
   · rintro σ H' Q1 Q2 hq ⟨v,e1,i,j,e2,e3,k',e4,q⟩
     exact ⟨v,e1,i,j,e2,e3,k',e4,hq _ _ q⟩
theorem MT:∀ vs H Q E,(Q0 K BT RJ) vs H Q E->QB vs H Q E:=by
 rintro vs H Q E ⟨M,b,ds,P,Ed,⟨x,y,rfl,hP⟩,⟨v,r,rfl,h1,u,r',rfl,h2,h3⟩,ho,hb,hd,hq,hx⟩
 cases (show _=_ from h1)
 cases (show _=_ from h2)
 cases (show _=_ from h3)
 exact ⟨x,y,rfl,hq _ _ H hP rfl (Kp.refl _ _) ho⟩
theorem NR {f:Addr} (F:Fun K "_law_common" "_law_common" DC f fd) (Z:Bi mg) {c:Cs} (Y:Ex K mg base c):FnOk P w K mg base CX0 1 f fd xl5 (Q0 K BT RJ):=FnOk.imp (LZ F Z Y) MT
noncomputable abbrev XZ:Stmt:=top 9
noncomputable abbrev xl6:List Str:=["number"]
theorem J8r:FnScope xl6 xl6 (J7 XZ):=⟨rfl,rfl,rfl,by decide +kernel,rfl,by decide +kernel,by decide +kernel⟩
noncomputable def sgn (n:Int):Int:=if 0<n then 1 else if n<0 then -1 else 0
noncomputable def UD:DSp:=fun ds P _=>∃ n:Int,ds=[.int n]/\P (.int (sgn n))
theorem J9i {f:Addr} (F:Fun K "sign" "sign" XZ f fd) (Z:Bi mg) {c:Cs} (Y:Ex K mg base c):FnOk P w K mg base CX0 1 f fd xl6 (Q0 K BT UD):=by
 refine F.okD J8r (fun ds PP Ed h=>?_) (fun cdv A outer s H E M bg ds PP Ed hr hS_=>?_)
 · obtain ⟨n,rfl,hP⟩:=h
   rfl
 · obtain ⟨n,rfl,hP⟩:=hS_
   refine ⟨_,(J6 (AG (AD VU HG (jdv 0) J4 (Z0 _)) (J8 (V3 J4)) Y3)
    (J6 (AG (AD QI HG (jdv 0) J4 (Z0 _)) (J8 (V3 (JD J4))) Y3)
    (J8 (V3 J4)))),?_⟩
   unfold sgn at hP
   walk_at "g"
   walk_at "sp"
   · rename_i h;rw [if_pos h] at hP;exact hP
   · rename_i h
     rw [if_neg h] at hP
     walk_at "g"
     walk_at "sp"
     · rename_i h';rw [if_pos h'] at hP;exact hP
     · rename_i h';rw [if_neg h'] at hP;exact hP
noncomputable abbrev EU:Stmt:=top 13
theorem NF:FnScope ["a","b","c"] ["a","b","c"] (J7 EU):=⟨rfl,rfl,rfl,by decide +kernel,rfl,by decide +kernel,by decide +kernel⟩
noncomputable def det (a0 a1 a2 b0 b1 b2 c0 c1 c2:Int):Int:=a0*(b1*c2 - b2*c1) - a1*(b0*c2 - b2*c0)+a2*(b0*c1 - b1*c0)
noncomputable def J7s:DSp:=fun ds P _=>∃ (a0 a1 a2 b0 b1 b2 c0 c1 c2:Int),ds=[t3 a0 a1 a2,t3 b0 b1 b2,t3 c0 c1 c2]/\(Bd 2000 a0/\Bd 2000 a1/\Bd 2000 a2)/\(Bd 2000 b0/\Bd 2000 b1/\Bd 2000 b2)/\(Bd 2000 c0/\Bd 2000 c1/\Bd 2000 c2)/\P (.int (det a0 a1 a2 b0 b1 b2 c0 c1 c2))
theorem NO {f:Addr} (F:Fun K "determinant" "determinant" EU f fd) (Z:Bi mg) {c:Cs} (Y:Ex K mg base c):FnOk P w K mg base CX0 1 f fd ["a","b","c"] (Q0 K BT J7s):=by
 refine F.okD NF (fun ds PP Ed h=>?_) (fun cdv A outer s H E M bg ds PP Ed hr hS_=>?_)
 · obtain ⟨a0,a1,a2,b0,b1,b2,c0,c1,c2,rfl,⟨p0,p1,p2⟩,⟨q0,q1,q2⟩,⟨r0,r1,r2⟩,hP⟩:=h
   rfl
 · obtain ⟨a0,a1,a2,b0,b1,b2,c0,c1,c2,rfl,⟨p0,p1,p2⟩,⟨q0,q1,q2⟩,⟨r0,r1,r2⟩,hP⟩:=hS_
   refine ⟨_,(J8 (V3 (Q5 AX Z6 (Q5 AJ Z6 (Q5 V1 AH (Q6 (Q7 K (by rfl)) Q8 (jdv 0) J4 (fun _ _=>rfl)) (Q5 AJ Z6 (Q5 V1 AH (Q6 (Q7 K (by rfl)) Q8 (jdv 1) J4 (fun _ _=>rfl)) (Q6 (Q7 K (by rfl)) Q8 (jdv 2) J4 (fun _ _=>rfl))) (Q5 V1 AH (Q6 (Q7 K (by rfl)) Q8 (jdv 1) J4 (fun _ _=>rfl)) (Q6 (Q7 K (by rfl)) Q8 (jdv 2) J4 (fun _ _=>rfl))))) (Q5 V1 AH (Q6 (Q7 K (by rfl)) Q8 (jdv 0) J4 (fun _ _=>rfl)) (Q5 AJ Z6 (Q5 V1 AH (Q6 (Q7 K (by rfl)) Q8 (jdv 1) J4 (fun _ _=>rfl)) (Q6 (Q7 K (by rfl)) Q8 (jdv 2) J4 (fun _ _=>rfl))) (Q5 V1 AH (Q6 (Q7 K (by rfl)) Q8 (jdv 1) J4 (fun _ _=>rfl)) (Q6 (Q7 K (by rfl)) Q8 (jdv 2) J4 (fun _ _=>rfl)))))) (Q5 V1 AH (Q6 (Q7 K (by rfl)) Q8 (jdv 0) J4 (fun _ _=>rfl)) (Q5 AJ Z6 (Q5 V1 AH (Q6 (Q7 K (by rfl)) Q8 (jdv 1) J4 (fun _ _=>rfl)) (Q6 (Q7 K (by rfl)) Q8 (jdv 2) J4 (fun _ _=>rfl))) (Q5 V1 AH (Q6 (Q7 K (by rfl)) Q8 (jdv 1) J4 (fun _ _=>rfl)) (Q6 (Q7 K (by rfl)) Q8 (jdv 2) J4 (fun _ _=>rfl)))))))),?_⟩
   walk_at "g"
   exact hP
noncomputable abbrev HR:Stmt:=top 17
theorem VJ:FnScope ["a"] ["a"] (J7 HR):=⟨rfl,rfl,rfl,by decide +kernel,rfl,by decide +kernel,by decide +kernel⟩
noncomputable def II:DSp:=fun ds P _=>∃ (x y z w:Int),ds=[sp4 x y z w]/\P (t3 x y w)
theorem VX {f:Addr} (F:Fun K "on_board" "on_board" HR f fd) (Z:Bi mg) {c:Cs} (Y:Ex K mg base c):FnOk P w K mg base CX0 1 f fd ["a"] (Q0 K BT II):=by
 refine F.okD VJ (fun ds PP Ed h=>?_) (fun cdv A outer s H E M bg ds PP Ed hr hS_=>?_)
 · obtain ⟨x,y,z,w,rfl,hP⟩:=h
   rfl
 · obtain ⟨x,y,z,w,rfl,hP⟩:=hS_
   refine ⟨_,(J8 (V3 (Y1 (J0 (Q6 (Q7 K (by rfl)) Q8 (jdv 0) J4 (fun _ _=>rfl)) (J0 (Q6 (Q7 K (by rfl)) Q8 (jdv 0) J4 (fun _ _=>rfl)) (J0 (Q6 (Q7 K (by rfl)) Q8 (jdv 0) J4 (fun _ _=>rfl)) J3)))))),?_⟩
   walk_at "g"
   exact hP
noncomputable abbrev CI:Stmt:=top 11
theorem BB:FnScope ["numbers","shared","number"] ["numbers"] (J7 CI):=⟨rfl,rfl,rfl,by decide +kernel,rfl,by decide +kernel,by decide +kernel⟩
noncomputable def fdD (s:Int):D->D
 | .int x=>.int (x.fdiv s)
 | d=>d
noncomputable def J7p:DSp:=fun ds P _=>∃ (ns:List Int) (last:Int) (n:Nat),ds=[.tup (ns.map D.int++[.int last])]/\last≠0/\Bd n (low ns last)/\n<=9000/\ns.length<=10/\P (.tup ((ns.map fun x=>.int (x.fdiv (low ns last)))++[.int (last.fdiv (low ns last))]))
noncomputable abbrev xc1 (P:Program) (w:World) (K:Fg) (mg:Str → Option Value) (base:Heap) (f:Addr) (cdv:Value) (A:Around) (outer:List Env) (s:Shared) (H:Hp) (E:XK):Cx:=BO CX0 P w K mg base ["numbers","shared","number"] "lowest_terms" (J7 CI) f cdv A outer s H E
theorem LX {f:Addr} (F:Fun K "lowest_terms" "lowest_terms" CI f fd) (Z:Bi mg) {c:Cs} (Y:Ex K mg base c) (zg0:Callee P w K mg base CX0 "common_divisor" 1 xl4 (Q0 K BT RJ)):FnOk P w K mg base CX0 2 f fd ["numbers"] (Q0 K BT J7p):=by
 refine F.okD BB (fun ds PP Ed h=>?_) (fun cdv A outer s H E M bg ds PP Ed hr hS_=>?_)
 · obtain ⟨ns,last,n,rfl,h0,hbd,hn,hl,hP⟩:=h
   rfl
 · obtain ⟨ns,last,n,rfl,h0,hbd,hn,hl,hP⟩:=hS_
   refine ⟨_,(J6 (V2 (i:=1) BB.nd rfl (by walk_at "o") J4)
    (J6 (BW (Z2 2) PassesOwn.never rfl (AL (by rfl) (jdv 0)) (pg_name (i:=2) BB.nd rfl (by walk_at "o")) (J8 (V2 (i:=1) BB.nd rfl (by walk_at "o") (Q3 zg0 hr.m rfl (J0 (jdv 1) (J0 (jdv 2) J3))))))
    (J6 (AG (AD QI HG (Q6 (Q7 K (by rfl)) Q8 (jdv 0) (JD J4) (fun _ _=>rfl)) J4 (Z0 _)) (J8 (V2 (i:=1) BB.nd rfl (by walk_at "o") (JD (jdv 1)))) Y3)
    (J8 (V3 (NW (GU K (by rfl)) XE rfl Z.tuple_ OI (J0 (BK (X:=(xc1 P w K mg base f cdv A outer s H E).nox) (Z2 0) (KB (X:=(xc1 P w K mg base f cdv A outer s H E).nox) (N':=["number","shared"]) (map:=[none,some 1]) (by rfl) (by rfl) (by decide +kernel) (by rfl) ⟨⟨rfl,rfl,rfl,by walk_at "o"⟩,True.intro⟩ (gkeep_name rfl) fun cl0 C0 fp0 s0 H0=>⟨(pg_name (X:=(Q9 (xc1 P w K mg base f cdv A outer s H E).nox ["number","shared"] _ cl0 C0 fp0 s0 H0)) (i:=0) (BA ["number","shared"] (by decide +kernel)) rfl (by walk_at "o")),AS,(Q5 (X:=(Q9 (xc1 P w K mg base f cdv A outer s H E).nox ["number","shared"] _ cl0 C0 fp0 s0 H0)) J4y AH (jdv 0) (jdv 1))⟩) (AL (by rfl) (jdv 0))) J3))))))),?_⟩
   have getL:∀ (i:Nat) x,(ns.map D.int++[.int last])[i]?=some x->∃ m,x=.int m/\(ns++[last])[i]?=some m:=fun i x e=>by
    have e':(ns.map D.int++[.int last])=(ns++[last]).map D.int:=by simp
    rw [e',List.getElem?_map] at e
    cases q:(ns++[last])[i]? with
    | none=>rw [q] at e;cases e
    | some m=>rw [q] at e;exact ⟨m,(Option.some.inj e).symm,rfl⟩
   walk_at "g"
   refine ⟨fun i ρ=>∃ v,ρ=[some (.tup (ns.map D.int++[.int last])),some (.int (GQ ((ns++[last]).take i))),v],⟨none,rfl⟩,fun i x ρ e ⟨v,q⟩=>?_,fun ρ ⟨v,q⟩=>?_⟩
   · obtain ⟨m,rfl,em⟩:=getL i x e
     subst q
     walk_at "g"
     refine ⟨_,_,rfl,?_⟩
     walk_at "g"
     refine ⟨some (.int m),?_⟩
     rw [List.take_add_one,em,Option.toList_some,LJ]
     rfl
   · subst q
     have et:(ns++[last]).take (ns.map D.int++[D.int last]).length=ns++[last]:=List.take_of_length_le (by simp)
     rw [et]
     have hg:=DR (ns:=ns) h0
     have hlow:∀ s:Int,s=low ns last->compI (gdN 0) OF (dOp (oI (fun _ j=>j≠0/\∃ n,Bd n j/\n<=9000) Int.fdiv) (J3f 0) (J3f 1)) [none,some (.int s)] (ns.map D.int++[.int last]) (fun acc=>PP (.tup acc)):=fun s es=>by
      refine GT (fdD s) (fun x Q hx q=>?_) (fun x hx=>?_) ?_
      · obtain ⟨i,ei⟩:=List.getElem?_of_mem hx
        obtain ⟨m,rfl,_⟩:=getL i x ei
        walk_at "w"
        refine ⟨⟨by rw [es];exact YT h0,n,?_,hn⟩,q⟩
        rw [es]
        exact hbd
      · obtain ⟨i,ei⟩:=List.getElem?_of_mem hx
        obtain ⟨m,rfl,_⟩:=getL i x ei
        rfl
      · rw [List.map_append,List.map_map,es]
        exact hP
     have hlen:(ns.map D.int++[D.int last]).length<=1000:=by simp;omega
     simp only [XQ,J3m,Q4w,J6v,Q4x,Q4z,J3g,gdN,dOp,J3f,dC,dUn,Q3l,J6r,Q5n,J7m,QX,dCB,Q0y,J6x,Q3w,oI,oB0,oIx,J5a,HJ,List.map_cons,List.map_nil,BY,List.length_cons,List.length_nil,List.replicate,List.cons_append,List.nil_append,Nat.reduceAdd,Nat.reduceSub,Nat.zero_add,List.append_nil,Option.bind_some,Option.bind_none,Option.join_some,Option.join_none,List.getElem?_cons_succ,List.getElem?_cons_zero,List.set_cons_succ,List.set_cons_zero,List.all_cons,List.all_nil,AO,L2.plain,Bool.and_true,Bool.true_and,true_and,Q1f,Option.elim_some]
     walk_at "sp"
     · rename_i hlt
       refine ⟨hlen,hlow _ ?_⟩
       unfold low;rw [if_pos hlt]
     · rename_i hlt
       refine ⟨hlen,hlow _ ?_⟩
       unfold low;rw [if_neg hlt]
noncomputable abbrev HV:Stmt:=top 14
noncomputable abbrev xl7:List Str:=["top","bottom"]
theorem VM:FnScope xl7 xl7 (J7 HV):=⟨rfl,rfl,rfl,by decide +kernel,rfl,by decide +kernel,by decide +kernel⟩
noncomputable def UG:DSp:=fun ds P _=>∃ (top bottom:Int) (n:Nat),ds=[.int top,.int bottom]/\bottom≠0/\Bd n (low [top] bottom)/\n<=9000/\P (t2 (top.fdiv (low [top] bottom)) (bottom.fdiv (low [top] bottom)))
theorem WA {f:Addr} (F:Fun K "fraction" "fraction" HV f fd) (Z:Bi mg) {c:Cs} (Y:Ex K mg base c) (zg0:Callee P w K mg base CX0 "lowest_terms" 2 ["numbers"] (Q0 K BT J7p)):FnOk P w K mg base CX0 3 f fd xl7 (Q0 K BT UG):=by
 refine F.okD VM (fun ds PP Ed h=>?_) (fun cdv A outer s H E M bg ds PP Ed hr hS_=>?_)
 · obtain ⟨top,bottom,n,rfl,h0,hbd,hn,hP⟩:=h
   rfl
 · obtain ⟨top,bottom,n,rfl,h0,hbd,hn,hP⟩:=hS_
   refine ⟨_,(J6 (AG (AD GB DJ (jdv 1) J4 (Z0 _)) (J8 J2q) Y3)
    (J8 (V3 (Q3 zg0 hr.m rfl (J0 (Y1 (J0 (jdv 0) (J0 (jdv 1) J3))) J3))))),?_⟩
   walk_at "g"
   refine IfP.f (by simp [h0]) ?_
   walk_at "g"
   exact ⟨[top],bottom,n,rfl,h0,hbd,hn,by simp,hP⟩
structure T3 where
 ax:Int
 ay:Int
 az:Int
 aw:Int
 bx:Int
 b_y:Int
 bz:Int
 bw:Int
 cx:Int
 cy:Int
 cz:Int
 cw:Int
structure T3.ok (t:T3)(n:Nat):Prop where
 ax:Bd n t.ax
 ay:Bd n t.ay
 az:Bd n t.az
 aw:Bd n t.aw
 bx:Bd n t.bx
 b_y:Bd n t.b_y
 bz:Bd n t.bz
 bw:Bd n t.bw
 cx:Bd n t.cx
 cy:Bd n t.cy
 cz:Bd n t.cz
 cw:Bd n t.cw
noncomputable abbrev T3.d (t:T3):D:=.tup [sp4 t.ax t.ay t.az t.aw,sp4 t.bx t.b_y t.bz t.bw,sp4 t.cx t.cy t.cz t.cw]
noncomputable def T3.tn (t:T3):Int:=det t.ax t.ay t.aw t.bx t.b_y t.bw t.cx t.cy t.cw
noncomputable def T3.wA (t:T3)(px py:Int):Int:=det t.bx t.b_y t.bw t.cx t.cy t.cw px py 1
noncomputable def T3.wB (t:T3)(px py:Int):Int:=det t.cx t.cy t.cw t.ax t.ay t.aw px py 1
noncomputable def T3.wC (t:T3)(px py:Int):Int:=det t.ax t.ay t.aw t.bx t.b_y t.bw px py 1
noncomputable def T3.top (t:T3)(px py:Int):Int:=t.wA px py*t.az+t.wB px py*t.bz+t.wC px py*t.cz
theorem LM {n:Nat}{a0 a1 a2 b0 b1 b2 c0 c1 c2:Int}(h0:Bd n a0)(h1:Bd n a1)(h2:Bd n a2)(h3:Bd n b0)(h4:Bd n b1)(h5:Bd n b2)(h6:Bd n c0)(h7:Bd n c1)(h8:Bd n c2):Bd (3*n+5) (det a0 a1 a2 b0 b1 b2 c0 c1 c2):=by
 unfold det
 have e1:=Bd.mul h0 (Bd.sub (Bd.mul h4 h8) (Bd.mul h5 h7))
 have e2:=Bd.mul h1 (Bd.sub (Bd.mul h3 h8) (Bd.mul h5 h6))
 have e3:=Bd.mul h2 (Bd.sub (Bd.mul h3 h7) (Bd.mul h4 h6))
 exact (Bd.add (Bd.sub e1 e2) e3).mono (by omega)
theorem bd1 {n:Nat}(h:3<=n):Bd n 1:=(Bd.of (by decide) (by decide):Bd 3 1).mono h
noncomputable abbrev ET:Stmt:=top 18
noncomputable abbrev xl8:List Str:=["a","b","dot"]
theorem NE:FnScope xl8 xl8 (J7 ET):=⟨rfl,rfl,rfl,by decide +kernel,rfl,by decide +kernel,by decide +kernel⟩
noncomputable def MP:DSp:=fun ds P _=>∃ (ax ay az aw bx b_y bz bw px py:Int),ds=[sp4 ax ay az aw,sp4 bx b_y bz bw,t2 px py]/\(Bd 2000 ax/\Bd 2000 ay/\Bd 2000 aw)/\(Bd 2000 bx/\Bd 2000 b_y/\Bd 2000 bw)/\(Bd 2000 px/\Bd 2000 py)/\P (.int (det ax ay aw bx b_y bw px py 1))
theorem NM {f:Addr} (F:Fun K "side_number" "side_number" ET f fd) (Z:Bi mg) {c:Cs} (Y:Ex K mg base c) (zg0:Callee P w K mg base CX0 "determinant" 1 ["a","b","c"] (Q0 K BT J7s)) (zg1:Callee P w K mg base CX0 "on_board" 1 ["a"] (Q0 K BT II)):FnOk P w K mg base CX0 2 f fd xl8 (Q0 K BT MP):=by
 refine F.okD NE (fun ds PP Ed h=>?_) (fun cdv A outer s H E M bg ds PP Ed hr hS_=>?_)
 · obtain ⟨ax,ay,az,aw,bx,b_y,bz,bw,px,py,rfl,h1,h2,⟨h3,h4⟩,hP⟩:=h
   rfl
 · obtain ⟨ax,ay,az,aw,bx,b_y,bz,bw,px,py,rfl,h1,h2,⟨h3,h4⟩,hP⟩:=hS_
   refine ⟨_,(J8 (V3 (Q3 zg0 hr.m rfl (J0 (Q3 zg1 hr.m rfl (J0 (jdv 0) J3)) (J0 (Q3 zg1 hr.m rfl (J0 (jdv 1) J3)) (J0 (Y1 (J0 (Q6 (Q7 K (by rfl)) Q8 (jdv 2) J4 (fun _ _=>rfl)) (J0 (Q6 (Q7 K (by rfl)) Q8 (jdv 2) J4 (fun _ _=>rfl)) (J0 J4 J3)))) J3)))))),?_⟩
   walk_at "g"
   refine ⟨_,_,_,_,rfl,?_⟩
   walk_at "g"
   refine ⟨_,_,_,_,rfl,?_⟩
   walk_at "g"
   exact ⟨_,_,_,_,_,_,_,_,_,rfl,h1,h2,⟨h3,h4,bd1 (by decide)⟩,hP⟩
noncomputable abbrev XY:Stmt:=top 22
theorem FH:FnScope ["face","a","b","c"] ["face"] (J7 XY):=⟨rfl,rfl,rfl,by decide +kernel,rfl,by decide +kernel,by decide +kernel⟩
noncomputable def UC:DSp:=fun ds P _=>∃ (t:T3) (n:Nat),ds=[t.d]/\t.ok n/\n<=2000/\P (.int t.tn)
theorem J9h {f:Addr} (F:Fun K "turn" "turn" XY f fd) (Z:Bi mg) {c:Cs} (Y:Ex K mg base c) (zg0:Callee P w K mg base CX0 "determinant" 1 ["a","b","c"] (Q0 K BT J7s)) (zg1:Callee P w K mg base CX0 "on_board" 1 ["a"] (Q0 K BT II)):FnOk P w K mg base CX0 2 f fd ["face"] (Q0 K BT UC):=by
 refine F.okD FH (fun ds PP Ed h=>?_) (fun cdv A outer s H E M bg ds PP Ed hr hS_=>?_)
 · obtain ⟨t,n,rfl,ok,hn,hP⟩:=h
   rfl
 · obtain ⟨t,n,rfl,ok,hn,hP⟩:=hS_
   refine ⟨_,(J6 (DD (CO [1,2,3]) (jdv 0) (PG.or (BE (n:=3) K (by rfl) (by rfl) (J9 (pg_name (i:=1) FH.nd rfl (by walk_at "o")) (J9 (pg_name (i:=2) FH.nd rfl (by walk_at "o")) (J9 (pg_name (i:=3) FH.nd rfl (by walk_at "o")) Y6)))) (BF (n:=3) K (by rfl) (by rfl) (J9 (pg_name (i:=1) FH.nd rfl (by walk_at "o")) (J9 (pg_name (i:=2) FH.nd rfl (by walk_at "o")) (J9 (pg_name (i:=3) FH.nd rfl (by walk_at "o")) Y6))))))
    (J8 (V3 (Q3 zg0 hr.m rfl (J0 (Q3 zg1 hr.m rfl (J0 (jdv 1) J3)) (J0 (Q3 zg1 hr.m rfl (J0 (jdv 2) J3)) (J0 (Q3 zg1 hr.m rfl (J0 (jdv 3) J3)) J3))))))),?_⟩
   walk_at "g"
   refine ⟨_,_,_,_,rfl,?_⟩
   walk_at "g"
   refine ⟨_,_,_,_,rfl,?_⟩
   walk_at "g"
   refine ⟨_,_,_,_,rfl,?_⟩
   walk_at "g"
   exact ⟨_,_,_,_,_,_,_,_,_,rfl,⟨ok.ax.mono hn,ok.ay.mono hn,ok.aw.mono hn⟩,⟨ok.bx.mono hn,ok.b_y.mono hn,ok.bw.mono hn⟩,⟨ok.cx.mono hn,ok.cy.mono hn,ok.cw.mono hn⟩,hP⟩
noncomputable abbrev KQ:Stmt:=top 39
noncomputable abbrev xl9:List Str:=["face","dot"]
theorem BZ:FnScope ["face","dot","a","b","c"] xl9 (J7 KQ):=⟨rfl,rfl,rfl,by decide +kernel,rfl,by decide +kernel,by decide +kernel⟩
noncomputable def RI:DSp:=fun ds P _=>∃ (t:T3) (px py:Int) (n:Nat),ds=[t.d,t2 px py]/\t.ok n/\Bd n px/\Bd n py/\n<=2000/\P (t3 (t.wA px py) (t.wB px py) (t.wC px py))
theorem YJ {f:Addr} (F:Fun K "weights" "weights" KQ f fd) (Z:Bi mg) {c:Cs} (Y:Ex K mg base c) (zg0:Callee P w K mg base CX0 "side_number" 2 xl8 (Q0 K BT MP)):FnOk P w K mg base CX0 3 f fd xl9 (Q0 K BT RI):=by
 refine F.okD BZ (fun ds PP Ed h=>?_) (fun cdv A outer s H E M bg ds PP Ed hr hS_=>?_)
 · obtain ⟨t,px,py,n,rfl,ok,hx,hy,hn,hP⟩:=h
   rfl
 · obtain ⟨t,px,py,n,rfl,ok,hx,hy,hn,hP⟩:=hS_
   refine ⟨_,(J6 (DD (CO [2,3,4]) (jdv 0) (PG.or (BE (n:=3) K (by rfl) (by rfl) (J9 (pg_name (i:=2) BZ.nd rfl (by walk_at "o")) (J9 (pg_name (i:=3) BZ.nd rfl (by walk_at "o")) (J9 (pg_name (i:=4) BZ.nd rfl (by walk_at "o")) Y6)))) (BF (n:=3) K (by rfl) (by rfl) (J9 (pg_name (i:=2) BZ.nd rfl (by walk_at "o")) (J9 (pg_name (i:=3) BZ.nd rfl (by walk_at "o")) (J9 (pg_name (i:=4) BZ.nd rfl (by walk_at "o")) Y6))))))
    (J8 (V3 (Y1 (J0 (Q3 zg0 hr.m rfl (J0 (jdv 3) (J0 (jdv 4) (J0 (jdv 1) J3)))) (J0 (Q3 zg0 hr.m rfl (J0 (jdv 4) (J0 (jdv 2) (J0 (jdv 1) J3)))) (J0 (Q3 zg0 hr.m rfl (J0 (jdv 2) (J0 (jdv 3) (J0 (jdv 1) J3)))) J3))))))),?_⟩
   walk_at "g"
   refine ⟨_,_,_,_,_,_,_,_,_,_,rfl,⟨ok.bx.mono hn,ok.b_y.mono hn,ok.bw.mono hn⟩,⟨ok.cx.mono hn,ok.cy.mono hn,ok.cw.mono hn⟩,⟨hx.mono hn,hy.mono hn⟩,?_⟩
   walk_at "g"
   refine ⟨_,_,_,_,_,_,_,_,_,_,rfl,⟨ok.cx.mono hn,ok.cy.mono hn,ok.cw.mono hn⟩,⟨ok.ax.mono hn,ok.ay.mono hn,ok.aw.mono hn⟩,⟨hx.mono hn,hy.mono hn⟩,?_⟩
   walk_at "g"
   refine ⟨_,_,_,_,_,_,_,_,_,_,rfl,⟨ok.ax.mono hn,ok.ay.mono hn,ok.aw.mono hn⟩,⟨ok.bx.mono hn,ok.b_y.mono hn,ok.bw.mono hn⟩,⟨hx.mono hn,hy.mono hn⟩,?_⟩
   walk_at "g"
   exact hP
theorem Q3m {ns:List Int}{last:Int}{n:Nat}(h0:last≠0)(h:Bd n last):Bd n (low ns last):=Nat.lt_of_le_of_lt (Q3n h0) h
noncomputable abbrev NH:Stmt:=top 19
theorem J2e:FnScope ["a","b"] ["a","b"] (J7 NH):=⟨rfl,rfl,rfl,by decide +kernel,rfl,by decide +kernel,by decide +kernel⟩
noncomputable def OM:DSp:=fun ds P _=>∃ (ax ay az aw bx b_y bz bw:Int),ds=[sp4 ax ay az aw,sp4 bx b_y bz bw]/\(Bd 2000 ay/\Bd 2000 aw)/\(Bd 2000 b_y/\Bd 2000 bw)/\P (.int (ay*bw - aw*b_y))
theorem J2k {f:Addr} (F:Fun K "growth" "growth" NH f fd) (Z:Bi mg) {c:Cs} (Y:Ex K mg base c):FnOk P w K mg base CX0 1 f fd ["a","b"] (Q0 K BT OM):=by
 refine F.okD J2e (fun ds PP Ed h=>?_) (fun cdv A outer s H E M bg ds PP Ed hr hS_=>?_)
 · obtain ⟨ax,ay,az,aw,bx,b_y,bz,bw,rfl,⟨h1,h2⟩,⟨h3,h4⟩,hP⟩:=h
   rfl
 · obtain ⟨ax,ay,az,aw,bx,b_y,bz,bw,rfl,⟨h1,h2⟩,⟨h3,h4⟩,hP⟩:=hS_
   refine ⟨_,(J8 (V3 (Q5 AJ Z6 (Q5 V1 AH (Q6 (Q7 K (by rfl)) Q8 (jdv 0) J4 (fun _ _=>rfl)) (Q6 (Q7 K (by rfl)) Q8 (jdv 1) J4 (fun _ _=>rfl))) (Q5 V1 AH (Q6 (Q7 K (by rfl)) Q8 (jdv 0) J4 (fun _ _=>rfl)) (Q6 (Q7 K (by rfl)) Q8 (jdv 1) J4 (fun _ _=>rfl)))))),?_⟩
   walk_at "g"
   exact hP
noncomputable abbrev DV:Stmt:=top 20
theorem BU:FnScope ["a","b","dot","number"] xl8 (J7 DV):=⟨rfl,rfl,rfl,by decide +kernel,rfl,by decide +kernel,by decide +kernel⟩
noncomputable def shd (ax ay aw bx b_y bw px py:Int):Int:=if det ax ay aw bx b_y bw px py 1=0 then (if ay*bw - aw*b_y=0 then aw*bx - ax*bw else ay*bw - aw*b_y) else det ax ay aw bx b_y bw px py 1
noncomputable def J7n:DSp:=fun ds P _=>∃ (ax ay az aw bx b_y bz bw px py:Int),ds=[sp4 ax ay az aw,sp4 bx b_y bz bw,t2 px py]/\(Bd 2000 ax/\Bd 2000 ay/\Bd 2000 aw)/\(Bd 2000 bx/\Bd 2000 b_y/\Bd 2000 bw)/\(Bd 2000 px/\Bd 2000 py)/\P (.int (sgn (shd ax ay aw bx b_y bw px py)))
theorem LW {f:Addr} (F:Fun K "shifted_side" "shifted_side" DV f fd) (Z:Bi mg) {c:Cs} (Y:Ex K mg base c) (zg0:Callee P w K mg base CX0 "side_number" 2 xl8 (Q0 K BT MP)) (zg1:Callee P w K mg base CX0 "sign" 1 xl6 (Q0 K BT UD)) (zg2:Callee P w K mg base CX0 "growth" 1 ["a","b"] (Q0 K BT OM)):FnOk P w K mg base CX0 3 f fd xl8 (Q0 K BT J7n):=by
 refine F.okD BU (fun ds PP Ed h=>?_) (fun cdv A outer s H E M bg ds PP Ed hr hS_=>?_)
 · obtain ⟨ax,ay,az,aw,bx,b_y,bz,bw,px,py,rfl,⟨a1,a2,a3⟩,⟨b1,b2,b3⟩,⟨h3,h4⟩,hP⟩:=h
   rfl
 · obtain ⟨ax,ay,az,aw,bx,b_y,bz,bw,px,py,rfl,⟨a1,a2,a3⟩,⟨b1,b2,b3⟩,⟨h3,h4⟩,hP⟩:=hS_
   refine ⟨_,(J6 (V2 (i:=3) BU.nd rfl (by walk_at "o") (Q3 zg0 hr.m rfl (J0 (jdv 0) (J0 (jdv 1) (J0 (jdv 2) J3)))))
    (J6 (AG (AD GB DJ (jdv 3) J4 (Z0 _)) (J8 (V2 (i:=3) BU.nd rfl (by walk_at "o") (Q3 zg2 hr.m rfl (J0 (jdv 0) (J0 (jdv 1) J3))))) Y3)
    (J6 (AG (AD GB DJ (jdv 3) J4 (Z0 _)) (J8 (V2 (i:=3) BU.nd rfl (by walk_at "o") (Q5 AJ Z6 (Q5 V1 AH (Q6 (Q7 K (by rfl)) Q8 (jdv 0) J4 (fun _ _=>rfl)) (Q6 (Q7 K (by rfl)) Q8 (jdv 1) J4 (fun _ _=>rfl))) (Q5 V1 AH (Q6 (Q7 K (by rfl)) Q8 (jdv 0) J4 (fun _ _=>rfl)) (Q6 (Q7 K (by rfl)) Q8 (jdv 1) J4 (fun _ _=>rfl)))))) Y3)
    (J8 (V3 (Q3 zg1 hr.m rfl (J0 (jdv 3) J3))))))),?_⟩
   walk_at "g"
   refine ⟨ax,ay,az,aw,bx,b_y,bz,bw,px,py,rfl,⟨a1,a2,a3⟩,⟨b1,b2,b3⟩,⟨h3,h4⟩,?_⟩
   walk_at "g"
   walk_at "sp"
   · rename_i z
     walk_at "g"
     refine ⟨ax,ay,az,aw,bx,b_y,bz,bw,rfl,⟨a2,a3⟩,⟨b2,b3⟩,?_⟩
     walk_at "g"
     walk_at "sp"
     · rename_i z2
       walk_at "g"
       refine ⟨_,rfl,?_⟩
       have e:shd ax ay aw bx b_y bw px py=aw*bx - ax*bw:=by unfold shd;rw [if_pos z,if_pos z2]
       rw [e] at hP
       exact hP
     · rename_i z2
       walk_at "g"
       refine ⟨_,rfl,?_⟩
       have e:shd ax ay aw bx b_y bw px py=ay*bw - aw*b_y:=by unfold shd;rw [if_pos z,if_neg z2]
       rw [e] at hP
       exact hP
   · rename_i z
     walk_at "g"
     refine IfP.f (by simp [z]) ?_
     walk_at "g"
     refine ⟨_,rfl,?_⟩
     have e:shd ax ay aw bx b_y bw px py=det ax ay aw bx b_y bw px py 1:=by unfold shd;rw [if_neg z]
     rw [e] at hP
     exact hP
noncomputable abbrev KS:Stmt:=top 36
theorem BH:FnScope ["face","dot","a","b","c","first"] xl9 (J7 KS):=⟨rfl,rfl,rfl,by decide +kernel,rfl,by decide +kernel,by decide +kernel⟩
noncomputable def T3.s1 (t:T3)(px py:Int):Int:=sgn (shd t.ax t.ay t.aw t.bx t.b_y t.bw px py)
noncomputable def T3.s2 (t:T3)(px py:Int):Int:=sgn (shd t.bx t.b_y t.bw t.cx t.cy t.cw px py)
noncomputable def T3.s3 (t:T3)(px py:Int):Int:=sgn (shd t.cx t.cy t.cw t.ax t.ay t.aw px py)
noncomputable def T3.has (t:T3)(px py:Int):Prop:=t.s1 px py≠0/\t.s2 px py=t.s1 px py/\t.s3 px py=t.s1 px py
noncomputable instance (t:T3) (px py:Int):Decidable (t.has px py):=inferInstanceAs (Decidable (_/\_/\_))
noncomputable def XM:DSp:=fun ds P _=>∃ (t:T3) (px py:Int) (n:Nat),ds=[t.d,t2 px py]/\t.ok n/\Bd n px/\Bd n py/\n<=2000/\P (.bl (decide (t.has px py)))
theorem YL {f:Addr} (F:Fun K "has_dot" "has_dot" KS f fd) (Z:Bi mg) {c:Cs} (Y:Ex K mg base c) (zg0:Callee P w K mg base CX0 "shifted_side" 3 xl8 (Q0 K BT J7n)):FnOk P w K mg base CX0 4 f fd xl9 (Q0 K BT XM):=by
 refine F.okD BH (fun ds PP Ed h=>?_) (fun cdv A outer s H E M bg ds PP Ed hr hS_=>?_)
 · obtain ⟨t,px,py,n,rfl,ok,hx,hy,hn,hP⟩:=h
   rfl
 · obtain ⟨t,px,py,n,rfl,ok,hx,hy,hn,hP⟩:=hS_
   refine ⟨_,(J6 (DD (CO [2,3,4]) (jdv 0) (PG.or (BE (n:=3) K (by rfl) (by rfl) (J9 (pg_name (i:=2) BH.nd rfl (by walk_at "o")) (J9 (pg_name (i:=3) BH.nd rfl (by walk_at "o")) (J9 (pg_name (i:=4) BH.nd rfl (by walk_at "o")) Y6)))) (BF (n:=3) K (by rfl) (by rfl) (J9 (pg_name (i:=2) BH.nd rfl (by walk_at "o")) (J9 (pg_name (i:=3) BH.nd rfl (by walk_at "o")) (J9 (pg_name (i:=4) BH.nd rfl (by walk_at "o")) Y6))))))
    (J6 (V2 (i:=5) BH.nd rfl (by walk_at "o") (Q3 zg0 hr.m rfl (J0 (jdv 2) (J0 (jdv 3) (J0 (jdv 1) J3)))))
    (J8 (V3 (HA (EM Q1j Q3j (jdv 5) J4 (Z0 _)) (HA (EM GB DJ (Q3 zg0 hr.m rfl (J0 (jdv 3) (J0 (jdv 4) (J0 (jdv 1) J3)))) (jdv 5) (Z0 _)) (MJ (EM GB DJ (Q3 zg0 hr.m rfl (J0 (jdv 4) (J0 (jdv 2) (J0 (jdv 1) J3)))) (jdv 5) (Z0 _))))))))),?_⟩
   walk_at "g"
   refine ⟨_,_,_,_,_,_,_,_,_,_,rfl,⟨ok.ax.mono hn,ok.ay.mono hn,ok.aw.mono hn⟩,⟨ok.bx.mono hn,ok.b_y.mono hn,ok.bw.mono hn⟩,⟨hx.mono hn,hy.mono hn⟩,?_⟩
   walk_at "g"
   have key:∀ b:Bool,(b=true↔t.has px py)->PP (.bl b):=fun b h=>by
    rw [show b=decide (t.has px py) from by rw [Bool.eq_iff_iff,h];simp]
    exact hP
   unfold T3.has T3.s1 T3.s2 T3.s3 at key
   walk_at "sp"
   · rename_i h1
     walk_at "g"
     refine ⟨_,_,_,_,_,_,_,_,_,_,rfl,⟨ok.bx.mono hn,ok.b_y.mono hn,ok.bw.mono hn⟩,⟨ok.cx.mono hn,ok.cy.mono hn,ok.cw.mono hn⟩,⟨hx.mono hn,hy.mono hn⟩,?_⟩
     walk_at "g"
     walk_at "sp"
     · rename_i h2
       walk_at "g"
       refine ⟨_,_,_,_,_,_,_,_,_,_,rfl,⟨ok.cx.mono hn,ok.cy.mono hn,ok.cw.mono hn⟩,⟨ok.ax.mono hn,ok.ay.mono hn,ok.aw.mono hn⟩,⟨hx.mono hn,hy.mono hn⟩,?_⟩
       walk_at "g"
       refine key _ ?_
       simp [h1,h2]
     · rename_i h2
       walk_at "g"
       refine key _ ?_
       simp [h2]
   · rename_i h1
     walk_at "g"
     refine key _ ?_
     simp [h1]
theorem ED {n:Int}(h:0<n):sgn n=1:=by unfold sgn;rw [if_pos h]
theorem EE {n:Int}(h:n<0):sgn n = -1:=by unfold sgn;rw [if_neg (by omega),if_pos h]
theorem IL:sgn 0=0:=by decide
theorem NC (n:Int):sgn (-n)=0 - sgn n:=by
 unfold sgn
 by_cases h1:0<n
 · rw [if_pos h1,if_neg (by omega),if_pos (by omega)];decide
 · by_cases h2:n<0
   · rw [if_neg h1,if_pos h2,if_pos (by omega)];decide
   · rw [if_neg h1,if_neg h2,if_neg (by omega),if_neg (by omega)];decide
theorem EG {n:Int}:sgn n=0↔n=0:=by
 unfold sgn
 by_cases h1:0<n
 · rw [if_pos h1];omega
 · by_cases h2:n<0
   · rw [if_neg h1,if_pos h2];omega
   · rw [if_neg h1,if_neg h2];omega
theorem EF {a:Int}(n:Int)(h:0<a):sgn (a*n)=sgn n:=by
 by_cases h1:0<n
 · rw [ED h1,ED (Int.mul_pos h h1)]
 · by_cases h2:n<0
   · rw [EE h2,EE (Int.mul_neg_of_pos_of_neg h h2)]
   · have:n=0:=by omega
     subst this
     rw [Int.mul_zero]
theorem J9p {a b M:Int}(h1:(a.natAbs:Int)<=M)(h2:(b.natAbs:Int)<=M) : -(M*M)<=a*b/\a*b<=M*M:=by
 have h3:a.natAbs*b.natAbs<=M.toNat*M.toNat:=Nat.mul_le_mul (by omega) (by omega)
 have h4:(a*b).natAbs=a.natAbs*b.natAbs:=Int.natAbs_mul a b
 have h5:((M.toNat*M.toNat:Nat):Int)=M*M:=by rw [Int.natCast_mul];have:(M.toNat:Int)=M:=(by omega);rw [this]
 omega
theorem J3y {A B C T F:Int}(hT:0<=T)(hF:F=10+8*T)(b1 : -(2*T)<=B)(b2:B<=2*T)(c1 : -(2*T)<=C)(c2:C<=2*T) :
 sgn (F*F*A+F*B+C)=sgn (if A=0 then (if B=0 then C else B) else A):=by
 have F0:0<F:=by omega
 have e1:F*(10+6*T)=F*F - F*(2*T):=by rw [hF];grind
 have e2:10*(10+6*T)<=F*(10+6*T):=Int.mul_le_mul_of_nonneg_right (by omega) (by omega)
 have fb1:F * -(2*T)<=F*B:=Int.mul_le_mul_of_nonneg_left b1 (by omega)
 have fb2:F*B<=F*(2*T):=Int.mul_le_mul_of_nonneg_left b2 (by omega)
 have e3:F * -(2*T) = -(F*(2*T)):=Int.mul_neg _ _
 have FF:0<F*F:=Int.mul_pos F0 F0
 by_cases hA:A=0
 · rw [if_pos hA,hA,Int.mul_zero]
   by_cases hB:B=0
   · rw [if_pos hB,hB,Int.mul_zero]
     congr 1
     omega
   · rw [if_neg hB]
     by_cases hp:0<B
     · have:F*1<=F*B:=Int.mul_le_mul_of_nonneg_left (by omega) (by omega)
       rw [ED hp,ED (by omega)]
     · have:F*B<=F * -1:=Int.mul_le_mul_of_nonneg_left (by omega) (by omega)
       have e4:F * -1 = -F:=by omega
       rw [EE (show B<0 by omega),EE (by omega)]
 · rw [if_neg hA]
   by_cases hp:0<A
   · have:F*F*1<=F*F*A:=Int.mul_le_mul_of_nonneg_left (by omega) (by omega)
     rw [ED hp,ED (by omega)]
   · have:F*F*A<=F*F * -1:=Int.mul_le_mul_of_nonneg_left (by omega) (by omega)
     rw [EE (show A<0 by omega),EE (by omega)]
theorem QM (ax ay aw bx b_y bw px py pw:Int):(bx*aw - ax*bw)*(py*aw - ay*pw) - (b_y*aw - ay*bw)*(px*aw - ax*pw)=aw*det ax ay aw bx b_y bw px py pw:=by unfold det;grind
theorem J5f (ax ay aw bx b_y bw px py F:Int):det ax ay aw bx b_y bw (px*F*F+F) (py*F*F+1) (F*F)=F*F*det ax ay aw bx b_y bw px py 1+F*(ay*bw - aw*b_y)+(aw*bx - ax*bw):=by unfold det;grind
theorem YD {ax ay az aw bx b_y bz bw px py M:Int}(hw:0<aw)(hM:1<=M)(h:∀ n∈[ax,ay,az,aw,bx,b_y,bz,bw],(n.natAbs:Int)<=M) :
 sgn ((bx*aw - ax*bw)*((py*(10+8*M*M)*(10+8*M*M)+1)*aw - ay*((10+8*M*M)*(10+8*M*M))) - (b_y*aw - ay*bw)*((px*(10+8*M*M)*(10+8*M*M)+(10+8*M*M))*aw - ax*((10+8*M*M)*(10+8*M*M))))=sgn (shd ax ay aw bx b_y bw px py):=by
 rw [QM,EF _ hw,J5f]
 have m1:=J9p (h ay (by simp)) (h bw (by simp))
 have m2:=J9p (h aw (by simp)) (h b_y (by simp))
 have m3:=J9p (h aw (by simp)) (h bx (by simp))
 have m4:=J9p (h ax (by simp)) (h bw (by simp))
 have hT:0<=M*M:=Int.mul_nonneg (by omega) (by omega)
 exact J3y (T:=M*M) hT (by rw [Int.mul_assoc]) (by omega) (by omega) (by omega) (by omega)
theorem Y9 (n:Int):(0<n/\sgn n=1)\/(n=0/\sgn n=0)\/(n<0/\sgn n = -1):=by
 by_cases h:0<n
 · exact .inl ⟨h,ED h⟩
 · by_cases h':n<0
   · exact .inr (.inr ⟨h',EE h'⟩)
   · have:n=0:=by omega
     subst this
     exact .inr (.inl ⟨rfl,IL⟩)
structure T3.pos (t:T3):Prop where
 a:0<t.aw
 b:0<t.bw
 c:0<t.cw
noncomputable def T3.nums (t:T3):List Int:=[t.ax,t.ay,t.az,t.aw,t.bx,t.b_y,t.bz,t.bw,t.cx,t.cy,t.cz,t.cw]
noncomputable def T3.in (t:T3)(M:Int):Prop:=∀ n∈t.nums,(n.natAbs:Int)<=M
noncomputable def nX (px M:Int):Int:=px*(10+8*M*M)*(10+8*M*M)+(10+8*M*M)
noncomputable def nY (py M:Int):Int:=py*(10+8*M*M)*(10+8*M*M)+1
noncomputable def nW (M:Int):Int:=(10+8*M*M)*(10+8*M*M)
theorem DP {ax ay az aw bx b_y bz bw px py M:Int}(hw:0<aw)(hM:1<=M)(h:∀ n∈[ax,ay,az,aw,bx,b_y,bz,bw],(n.natAbs:Int)<=M):sgn (det ax ay aw bx b_y bw (nX px M) (nY py M) (nW M))=sgn (shd ax ay aw bx b_y bw px py):=by
 have e:=YD (px:=px) (py:=py) hw hM h
 rw [QM,EF _ hw] at e
 exact e
theorem T3.near {t:T3}{px py M:Int}(hp:t.pos)(hM:1<=M)(h:t.in M) :
 sgn (det t.ax t.ay t.aw t.bx t.b_y t.bw (nX px M) (nY py M) (nW M))=t.s1 px py/\sgn (det t.bx t.b_y t.bw t.cx t.cy t.cw (nX px M) (nY py M) (nW M))=t.s2 px py/\sgn (det t.cx t.cy t.cw t.ax t.ay t.aw (nX px M) (nY py M) (nW M))=t.s3 px py:=by
 unfold T3.in T3.nums at h
 refine ⟨DP (az:=t.az) (bz:=t.bz) hp.a hM fun n hn=>h n ?_,DP (az:=t.bz) (bz:=t.cz) hp.b hM fun n hn=>h n ?_,DP (az:=t.cz) (bz:=t.az) hp.c hM fun n hn=>h n ?_⟩
 all_goals
  simp only [List.mem_cons,List.not_mem_nil,or_false] at hn ⊢
  rcases hn with e|e|e|e|e|e|e|e<;>simp [e]
theorem T3.sum_det (t:T3)(x y w:Int):t.cw*det t.ax t.ay t.aw t.bx t.b_y t.bw x y w+t.aw*det t.bx t.b_y t.bw t.cx t.cy t.cw x y w+t.bw*det t.cx t.cy t.cw t.ax t.ay t.aw x y w=t.tn*w:=by
 unfold T3.tn det
 grind
theorem T3.has_tn {t:T3}{px py:Int}(hp:t.pos)(h:t.has px py):t.tn≠0:=by
 intro z
 obtain ⟨f,hf⟩:∃ f:Int->Nat,∀ n,f n=n.natAbs:=⟨Int.natAbs,fun _=>rfl⟩
 obtain ⟨M,hM,hin⟩:∃ M:Int,1<=M/\t.in M:=by
  refine ⟨1+f t.ax+f t.ay+f t.az+f t.aw+f t.bx+f t.b_y+f t.bz+f t.bw+f t.cx+f t.cy+f t.cz+f t.cw,by omega,fun n hn=>?_⟩
  unfold T3.nums at hn
  rw [<- hf]
  clear hf z h
  simp only [List.mem_cons,List.not_mem_nil,or_false] at hn
  rcases hn with e|e|e|e|e|e|e|e|e|e|e|e<;>rw [e]<;>omega
 obtain ⟨e1,e2,e3⟩:=T3.near (px:=px) (py:=py) hp hM hin
 have s:=t.sum_det (nX px M) (nY py M) (nW M)
 rw [z,Int.zero_mul] at s
 obtain ⟨h1,h2,h3⟩:=h
 rw [<- e1] at h1 h2 h3
 rw [<- e2] at h2
 rw [<- e3] at h3
 have pa:=hp.a
 have pb:=hp.b
 have pc:=hp.c
 generalize det t.ax t.ay t.aw t.bx t.b_y t.bw (nX px M) (nY py M) (nW M)=d1 at *
 generalize det t.bx t.b_y t.bw t.cx t.cy t.cw (nX px M) (nY py M) (nW M)=d2 at *
 generalize det t.cx t.cy t.cw t.ax t.ay t.aw (nX px M) (nY py M) (nW M)=d3 at *
 have c1:=Y9 d1
 have c2:=Y9 d2
 have c3:=Y9 d3
 rcases c1 with ⟨c1,q⟩|⟨c1,q⟩|⟨c1,q⟩
 · have k2:0<d2:=by omega
   have k3:0<d3:=by omega
   have m1:=Int.mul_pos pc c1
   have m2:=Int.mul_pos pa k2
   have m3:=Int.mul_pos pb k3
   omega
 · omega
 · have k2:d2<0:=by omega
   have k3:d3<0:=by omega
   have m1:=Int.mul_neg_of_pos_of_neg pc c1
   have m2:=Int.mul_neg_of_pos_of_neg pa k2
   have m3:=Int.mul_neg_of_pos_of_neg pb k3
   omega
structure R4 where
 x:Int
 y:Int
 z:Int
 w:Int
noncomputable abbrev R4.d (r:R4):D:=sp4 r.x r.y r.z r.w
structure R4.ok (r:R4)(n:Nat):Prop where
 x:Bd n r.x
 y:Bd n r.y
 z:Bd n r.z
 w:Bd n r.w
theorem R4.ok.mono {r:R4}{m n:Nat}(h:r.ok m)(k:m<=n):r.ok n:=⟨h.x.mono k,h.y.mono k,h.z.mono k,h.w.mono k⟩
structure M4 where
 a:R4
 b:R4
 c:R4
 e:R4
structure M4.ok (m:M4)(n:Nat):Prop where
 a:m.a.ok n
 b:m.b.ok n
 c:m.c.ok n
 e:m.e.ok n
noncomputable def dot4 (r s:R4):Int:=r.x*s.x+r.y*s.y+r.z*s.z+r.w*s.w
theorem JV {r s:R4}{m n:Nat}(h:r.ok m)(k:s.ok n):Bd (m+n+3) (dot4 r s) :=
 (Bd.add (Bd.add (Bd.add (Bd.mul h.x k.x) (Bd.mul h.y k.y)) (Bd.mul h.z k.z)) (Bd.mul h.w k.w)).mono (by omega)
structure Scal (r r':R4):Prop where
 x:r'.x*r.w=r.x*r'.w
 y:r'.y*r.w=r.y*r'.w
 z:r'.z*r.w=r.z*r'.w
 w:0<r'.w
noncomputable def l3 (a b c:Int):D:=.lst [.int a,.int b,.int c]
noncomputable abbrev BL:Stmt:=top 12
theorem IM:FnScope xl4 xl4 (J7 BL):=⟨rfl,rfl,rfl,by decide +kernel,rfl,by decide +kernel,by decide +kernel⟩
noncomputable def UE:DSp:=fun ds P _=>(∃ (a b c x y z:Int),ds=[t3 a b c,l3 x y z]/\(Bd 7000 a/\Bd 7000 b/\Bd 7000 c)/\(Bd 7000 x/\Bd 7000 y/\Bd 7000 z)/\P (.int (a*x+b*y+c*z)))\/∃ (r s:R4) (n:Nat),ds=[r.d,s.d]/\r.ok n/\s.ok n/\n<=4000/\P (.int (dot4 r s))
noncomputable abbrev xc2 (P:Program) (w:World) (K:Fg) (mg:Str → Option Value) (base:Heap) (f:Addr) (cdv:Value) (A:Around) (outer:List Env) (s:Shared) (H:Hp) (E:XK):Cx:=BO CX0 P w K mg base xl4 "products_added" (J7 BL) f cdv A outer s H E
noncomputable abbrev J1x:List Str:=["first","second"]
theorem IT {f:Addr} (F:Fun K "products_added" "products_added" BL f fd) (Z:Bi mg) {c:Cs} (Y:Ex K mg base c):FnOk P w K mg base CX0 1 f fd xl4 (Q0 K BT UE):=by
 refine F.okD IM (fun ds PP Ed h=>?_) (fun cdv A outer s H E M bg ds PP Ed hr hS_=>?_)
 · rcases h with ⟨a,b,c',x,y,z,rfl,_⟩|⟨r,t,n,rfl,_⟩<;>rfl
 · have hS0x:=hS_
   refine ⟨_,(J8 (V3 (Z7 (J3j K (by rfl) (by rfl)) Q5f rfl Z.sum_ Q5i (J0 (BK (X:=(xc2 P w K mg base f cdv A outer s H E).nox) (CO [0,1]) (KB (X:=(xc2 P w K mg base f cdv A outer s H E).nox) (N':=J1x) (map:=[none,none]) (by rfl) (by rfl) (by decide +kernel) (by rfl) True.intro (gkeep_seq (js:=[0,1]) (by decide)) fun cl0 C0 fp0 s0 H0=>⟨(PG.or (BE (n:=2) K (by rfl) (by rfl) (J9 (pg_name (i:=0) (BA J1x (by decide +kernel)) rfl (by walk_at "o")) (J9 (pg_name (i:=1) (BA J1x (by decide +kernel)) rfl (by walk_at "o")) Y6))) (BF (n:=2) K (by rfl) (by rfl) (J9 (pg_name (i:=0) (BA J1x (by decide +kernel)) rfl (by walk_at "o")) (J9 (pg_name (i:=1) (BA J1x (by decide +kernel)) rfl (by walk_at "o")) Y6)))),AS,(Q5 (X:=(Q9 (xc2 P w K mg base f cdv A outer s H E).nox J1x _ cl0 C0 fp0 s0 H0)) V1 AH (jdv 0) (jdv 1))⟩) (Q3s (J0k (by rfl) true false rfl Z.zip_ (J0 (jdv 0) (J0 (jdv 1) J3)) (J0c K (by rfl) true false rfl Z.zip_ (JA.h (J0 (jdv 0) (J0 (jdv 1) J3))))) (J0k (by rfl) true true rfl Z.zip_ (J0 (jdv 0) (J0 (jdv 1) J3)) (J0c K (by rfl) true true rfl Z.zip_ (JA.h (J0 (jdv 0) (J0 (jdv 1) J3))))))) J3)))),?_⟩
   rcases hS0x with ⟨a,b,c,x,y,z,rfl,⟨h1,h2,h3⟩,⟨k1,k2,k3⟩,hP⟩|⟨r,t,n,rfl,⟨h1,h2,h3,h4⟩,⟨k1,k2,k3,k4⟩,hn,hP⟩
   · have e:[a*x,b*y,c*z].sum=a*x+b*y+c*z:=by simp only [List.sum_cons,List.sum_nil];omega
     rw [<- e] at hP
     walk_at "g"
     refine Or.inl ?_
     walk_at "g"
     walk_at "gc"
     exact hP
   · have e:[r.x*t.x,r.y*t.y,r.z*t.z,r.w*t.w].sum=dot4 r t:=by simp only [List.sum_cons,List.sum_nil,dot4];omega
     rw [<- e] at hP
     walk_at "g"
     refine Or.inr ?_
     walk_at "g"
     walk_at "gc"
     exact hP
theorem T3.tn_bd {t:T3}{n:Nat}(ok:t.ok n):Bd (3*n+5) t.tn:=LM ok.ax ok.ay ok.aw ok.bx ok.b_y ok.bw ok.cx ok.cy ok.cw
theorem T3.wA_bd {t:T3}{n:Nat}{px py:Int}(ok:t.ok n)(hx:Bd n px)(hy:Bd n py)(h3:3<=n):Bd (3*n+5) (t.wA px py):=LM ok.bx ok.b_y ok.bw ok.cx ok.cy ok.cw hx hy (bd1 h3)
theorem T3.wB_bd {t:T3}{n:Nat}{px py:Int}(ok:t.ok n)(hx:Bd n px)(hy:Bd n py)(h3:3<=n):Bd (3*n+5) (t.wB px py):=LM ok.cx ok.cy ok.cw ok.ax ok.ay ok.aw hx hy (bd1 h3)
theorem T3.wC_bd {t:T3}{n:Nat}{px py:Int}(ok:t.ok n)(hx:Bd n px)(hy:Bd n py)(h3:3<=n):Bd (3*n+5) (t.wC px py):=LM ok.ax ok.ay ok.aw ok.bx ok.b_y ok.bw hx hy (bd1 h3)
theorem T3.top_bd {t:T3}{n:Nat}{px py:Int}(ok:t.ok n)(hx:Bd n px)(hy:Bd n py)(h3:3<=n):Bd (4*n+8) (t.top px py) :=
 (Bd.add (Bd.add (Bd.mul (T3.wA_bd ok hx hy h3) ok.az) (Bd.mul (T3.wB_bd ok hx hy h3) ok.bz)) (Bd.mul (T3.wC_bd ok hx hy h3) ok.cz)).mono (by omega)
theorem sgn_bd (n:Int):Bd 3 (sgn n):=by
 unfold sgn
 split
 · exact Bd.of (by decide) (by decide)
 · split<;>exact Bd.of (by decide) (by decide)
noncomputable abbrev absI (i:Int):Int:=if i<0 then -i else i
theorem UA {n:Nat}{i:Int}(h:Bd n i):Bd n (absI i):=by
 unfold absI
 split
 · exact h.neg
 · exact h
theorem MO {i:Int}(h:i≠0):absI i≠0:=by unfold absI;split<;>omega
noncomputable abbrev BC:Stmt:=top 40
theorem CA:FnScope ["face","dot","whole","top"] xl9 (J7 BC):=⟨rfl,rfl,rfl,by decide +kernel,rfl,by decide +kernel,by decide +kernel⟩
noncomputable def Q8h (c:Cs):DSp:=fun ds P Ed=>∃ (t:T3) (px py:Int) (n:Nat),ds=[t.d,t2 px py]/\t.ok n/\Bd n px/\Bd n py/\3<=n/\n<=1420/\(t.tn=0->Ed c.NoFace)/\(t.tn≠0->P (t2 (t.top px py*sgn t.tn) (absI t.tn)))
noncomputable abbrev xc3 (P:Program) (w:World) (K:Fg) (mg:Str → Option Value) (base:Heap) (f:Addr) (cdv:Value) (A:Around) (outer:List Env) (s:Shared) (H:Hp) (E:XK):Cx:=BO (CX1 P w base) P w K mg base ["face","dot","whole","top"] "unreduced_depth" (J7 BC) f cdv A outer s H E
theorem HY {f:Addr} (F:Fun K "unreduced_depth" "unreduced_depth" BC f fd) (Z:Bi mg) {c:Cs} (Y:Ex K mg base c) (zg0:Callee P w K mg base CX0 "turn" 2 ["face"] (Q0 K BT UC)) (zg1:Callee P w K mg base CX0 "products_added" 1 xl4 (Q0 K BT UE)) (zg2:Callee P w K mg base CX0 "weights" 3 xl9 (Q0 K BT RI)) (zg3:Callee P w K mg base CX0 "sign" 1 xl6 (Q0 K BT UD)):FnOk P w K mg base (CX1 P w base) 4 f fd xl9 (Q0 K BT (Q8h c)):=by
 refine F.okDX CA (fun ds PP Ed h=>?_) (fun cdv A outer s H E M bg ds PP Ed hr hE hS_=>?_)
 · obtain ⟨t,px,py,n,rfl,ok,hx,hy,h3,hn,h0,h1⟩:=h
   rfl
 · obtain ⟨t,px,py,n,rfl,ok,hx,hy,h3,hn,h0,h1⟩:=hS_
   refine ⟨_,(J6 (V2 (i:=2) CA.nd rfl (by walk_at "o") (Q3 zg0 hr.m rfl (J0 (jdv 0) J3)))
    (J6 (AG (AD GB DJ (jdv 2) J4 (Z0 _)) (J8 (LG hE (LA Y.o_NoFace rfl))) Y3)
    (J6 (V2 (i:=3) CA.nd rfl (by walk_at "o") (Q3 zg1 hr.m rfl (J0 (Q3 zg2 hr.m rfl (J0 (jdv 0) (J0 (jdv 1) J3))) (J0 (BK (X:=(xc3 P w K mg base f cdv A outer s H E)) (Z2 0) (KB (X:=(xc3 P w K mg base f cdv A outer s H E)) (N':=["corner"]) (map:=[none]) (by rfl) (by rfl) (by decide +kernel) (by rfl) True.intro (gkeep_name rfl) fun cl0 C0 fp0 s0 H0=>⟨(pg_name (X:=(Q9 (xc3 P w K mg base f cdv A outer s H E) ["corner"] _ cl0 C0 fp0 s0 H0)) (i:=0) (BA ["corner"] (by decide +kernel)) rfl (by walk_at "o")),AS,(Q6 (X:=(Q9 (xc3 P w K mg base f cdv A outer s H E) ["corner"] _ cl0 C0 fp0 s0 H0)) (Q7 K (by rfl)) Q8 (jdv 0) J4 (fun _ _=>rfl))⟩) (AL (by rfl) (jdv 0))) J3))))
    (J8 (V3 (Y1 (J0 (Q5 V1 AH (jdv 3) (Q3 zg3 hr.m rfl (J0 (jdv 2) J3))) (J0 (Z7 GV Q5g rfl Z.abs_ OJ (J0 (jdv 2) J3)) J3)))))))),?_⟩
   walk_at "g"
   refine ⟨t,n,rfl,ok,by omega,?_⟩
   walk_at "g"
   walk_at "sp"
   · rename_i z
     exact h0 z
   · rename_i z
     walk_at "g"
     refine ⟨t,px,py,n,rfl,ok,hx,hy,by omega,?_⟩
     walk_at "g"
     walk_at "gc"
     have m:=Nat.le_trans (show 3*n+5<=4265 by omega) (by decide:4265<=7000)
     refine Or.inl ⟨_,_,_,_,_,_,rfl,⟨(T3.wA_bd ok hx hy h3).mono m,(T3.wB_bd ok hx hy h3).mono m,(T3.wC_bd ok hx hy h3).mono m⟩,⟨ok.az.mono (by omega),ok.bz.mono (by omega),ok.cz.mono (by omega)⟩,?_⟩
     walk_at "g"
     refine ⟨_,rfl,?_⟩
     walk_at "g"
     refine And.intro (Or.inl ⟨_,_,T3.top_bd ok hx hy h3,sgn_bd _,by omega⟩) ?_
     walk_at "g"
     exact h1 z
noncomputable abbrev HW:Stmt:=top 41
theorem DG:FnScope ["face","dot","top","bottom"] xl9 (J7 HW):=⟨rfl,rfl,rfl,by decide +kernel,rfl,by decide +kernel,by decide +kernel⟩
noncomputable def Q8i (c:Cs):DSp:=fun ds P Ed=>∃ (t:T3) (px py:Int) (n:Nat),ds=[t.d,t2 px py]/\t.ok n/\Bd n px/\Bd n py/\3<=n/\n<=1420/\(t.tn=0->Ed c.NoFace)/\(t.tn≠0->P (t2 ((t.top px py*sgn t.tn).fdiv (low [t.top px py*sgn t.tn] (absI t.tn))) ((absI t.tn).fdiv (low [t.top px py*sgn t.tn] (absI t.tn)))))
theorem WB {f:Addr} (F:Fun K "depth_at" "depth_at" HW f fd) (Z:Bi mg) {c:Cs} (Y:Ex K mg base c) (zg0:Callee P w K mg base (CX1 P w base) "unreduced_depth" 4 xl9 (Q0 K BT (Q8h c))) (zg1:Callee P w K mg base CX0 "fraction" 3 xl7 (Q0 K BT UG)):FnOk P w K mg base (CX1 P w base) 5 f fd xl9 (Q0 K BT (Q8i c)):=by
 refine F.okDX DG (fun ds PP Ed h=>?_) (fun cdv A outer s H E M bg ds PP Ed hr hE hS_=>?_)
 · obtain ⟨t,px,py,n,rfl,ok,hx,hy,h3,hn,h0,h1⟩:=h
   rfl
 · obtain ⟨t,px,py,n,rfl,ok,hx,hy,h3,hn,h0,h1⟩:=hS_
   refine ⟨_,(J6 (DD (CO [2,3]) (CN hE MC zg0 hr.m rfl (J0 (jdv 0) (J0 (jdv 1) J3))) (PG.or (BE (n:=2) K (by rfl) (by rfl) (J9 (pg_name (i:=2) DG.nd rfl (by walk_at "o")) (J9 (pg_name (i:=3) DG.nd rfl (by walk_at "o")) Y6))) (BF (n:=2) K (by rfl) (by rfl) (J9 (pg_name (i:=2) DG.nd rfl (by walk_at "o")) (J9 (pg_name (i:=3) DG.nd rfl (by walk_at "o")) Y6)))))
    (J8 (V3 (Q3 zg1 hr.m rfl (J0 (jdv 2) (J0 (jdv 3) J3)))))),?_⟩
   walk_at "g"
   refine ⟨t,px,py,n,rfl,ok,hx,hy,h3,hn,h0,fun z=>?_⟩
   walk_at "g"
   refine ⟨_,_,_,rfl,MO z,Q3m (MO z) (UA (T3.tn_bd ok)),by omega,?_⟩
   exact h1 z
noncomputable abbrev HU:Stmt:=top 7
noncomputable abbrev FE:List Str:=["thing"]
theorem VL:FnScope FE FE (J7 HU):=⟨rfl,rfl,rfl,by decide +kernel,rfl,by decide +kernel,by decide +kernel⟩
noncomputable def whD:D->Bool
 | .int _=>true
 | _=>false
noncomputable def J7r:DSp:=fun ds P _=>∃ d,ds=[d]/\(KM d).isSome=true/\AO d=true/\P (.bl (whD d))
theorem VZ {f:Addr} (F:Fun K "is_whole" "is_whole" HU f fd) (Z:Bi mg) {c:Cs} (Y:Ex K mg base c):FnOk P w K mg base CX0 1 f fd FE (Q0 K BT J7r):=by
 refine F.okD VL (fun ds PP Ed h=>?_) (fun cdv A outer s H E M bg ds PP Ed hr hS_=>?_)
 · obtain ⟨d,rfl,hd,hno,hP⟩:=h
   rfl
 · obtain ⟨d,rfl,hd,hno,hP⟩:=hS_
   refine ⟨_,(J8 (V3 (HA (Z7 (FX K (by rfl)) LP rfl Z.isinstance_ EY (J0 (jdv 0) (J0 (NX rfl Z.int_ Q5j) J3))) (MJ (J9w (Z7 (FX K (by rfl)) LP rfl Z.isinstance_ EY (J0 (jdv 0) (J0 (NX rfl Z.bool_ Q1e) J3)))))))),?_⟩
   cases d<;>(try (simp [KM] at hd;done))<;>(try (simp [AO] at hno;done))
   all_goals first
    | (walk_at "g";refine ⟨false,by rfl,?_⟩;walk_at "g";exact hP)
    | (walk_at "g";refine ⟨true,by rfl,?_⟩;walk_at "g";refine ⟨true,by rfl,?_⟩;walk_at "g";exact hP)
    | (walk_at "g";refine ⟨true,by rfl,?_⟩;walk_at "g";refine ⟨false,by rfl,?_⟩;walk_at "g";exact hP)
noncomputable abbrev BM:Stmt:=top 8
noncomputable abbrev J1w:List Str:=["thing","many"]
theorem IN:FnScope J1w J1w (J7 BM):=⟨rfl,rfl,rfl,by decide +kernel,rfl,by decide +kernel,by decide +kernel⟩
noncomputable def tkD:D->Bool
 | .tup xs=>decide (xs.length<=100)&&xs.all fun d=>(KM d).isSome&&AO d
 | d=>(KM d).isSome&&AO d
noncomputable def wtD (n:Nat):D->Bool
 | .tup xs=>decide (xs.length=n)&&xs.all whD
 | _=>false
noncomputable def ZE:DSp:=fun ds P _=>∃ (d:D) (n:Nat),ds=[d,.int n]/\tkD d=true/\P (.bl (wtD n d))
noncomputable abbrev xc4 (P:Program) (w:World) (K:Fg) (mg:Str → Option Value) (base:Heap) (f:Addr) (cdv:Value) (A:Around) (outer:List Env) (s:Shared) (H:Hp) (E:XK):Cx:=BO CX0 P w K mg base J1w "is_whole_tuple" (J7 BM) f cdv A outer s H E
theorem IU {f:Addr} (F:Fun K "is_whole_tuple" "is_whole_tuple" BM f fd) (Z:Bi mg) {c:Cs} (Y:Ex K mg base c) (zg0:Callee P w K mg base CX0 "is_whole" 1 FE (Q0 K BT J7r)):FnOk P w K mg base CX0 2 f fd J1w (Q0 K BT ZE):=by
 refine F.okD IN (fun ds PP Ed h=>?_) (fun cdv A outer s H E M bg ds PP Ed hr hS_=>?_)
 · obtain ⟨d,n,rfl,hd,hP⟩:=h
   rfl
 · obtain ⟨d,n,rfl,hd,hP⟩:=hS_
   refine ⟨_,(J8 (V3 (HA (Z7 (FX K (by rfl)) LP rfl Z.isinstance_ EY (J0 (jdv 0) (J0 (NX rfl Z.tuple_ OI) J3))) (HA (EM GB DJ (Z7 (DF K (by rfl)) ZB rfl Z.len_ TW (J0 (jdv 0) J3)) (jdv 1) (Z0 _)) (MJ (Z7 (HC K (by rfl) (by rfl)) TR rfl Z.all_ TX (J0 (BK (X:=(xc4 P w K mg base f cdv A outer s H E).nox) (Z2 0) (KB (X:=(xc4 P w K mg base f cdv A outer s H E).nox) (N':=["part"]) (map:=[none]) (by rfl) (by rfl) (by decide +kernel) (by rfl) True.intro (gkeep_name rfl) fun cl0 C0 fp0 s0 H0=>⟨(pg_name (X:=(Q9 (xc4 P w K mg base f cdv A outer s H E).nox ["part"] _ cl0 C0 fp0 s0 H0)) (i:=0) (BA ["part"] (by decide +kernel)) rfl (by walk_at "o")),AS,(Q3 (X:=(Q9 (xc4 P w K mg base f cdv A outer s H E).nox ["part"] _ cl0 C0 fp0 s0 H0)) zg0 hr.m rfl (J0 (jdv 0) J3))⟩) (AL (by rfl) (jdv 0))) J3))))))),?_⟩
   by_cases ht:∃ xs,d=.tup xs
   · obtain ⟨xs,rfl⟩:=ht
     obtain ⟨hl,ha⟩:=(Bool.and_eq_true _ _).mp hd
     have hl:=of_decide_eq_true hl
     have key:∀ b:Bool,b=wtD n (.tup xs)->PP (.bl b):=fun b h=>by rw [h];exact hP
     walk_at "g"
     refine ⟨true,by rfl,?_⟩
     walk_at "g"
     walk_at "sp"
     · rename_i hn
       walk_at "g"
       refine And.intro (by omega) ?_
       refine GT (fun x=>.bl (whD x)) (fun x Q hx q=>?_) (fun _ _=>rfl) ?_
       · have:=List.all_eq_true.mp ha x hx
         obtain ⟨t1,t2⟩:=(Bool.and_eq_true _ _).mp this
         walk_at "g"
         exact ⟨by show (AO x&&true)=true;rw [t2];rfl,x,rfl,t1,t2,q⟩
       · have eb:GW (xs.map fun x=>D.bl (whD x))=some (xs.map whD):=by
          have:=LQ (xs.map whD)
          rw [List.map_map] at this
          exact this
         walk_at "g"
         rw [eb]
         walk_at "g"
         refine key _ ?_
         show _=(decide (xs.length=n)&&xs.all whD)
         rw [decide_eq_true (by omega)]
         simp [List.all_map]
     · rename_i hn
       walk_at "g"
       refine key _ ?_
       show _=(decide (xs.length=n)&&xs.all whD)
       rw [decide_eq_false (by omega)]
       simp
   · have ew:wtD n d=false:=by
      cases d<;>first|rfl|exact absurd ⟨_,rfl⟩ ht
     rw [ew] at hP
     cases d<;>(try (exact absurd ⟨_,rfl⟩ ht))<;>(try (simp [tkD,KM,AO] at hd;done))
     all_goals
      walk_at "g"
      refine ⟨false,by rfl,?_⟩
      walk_at "g"
      exact hP
noncomputable abbrev GI:Stmt:=top 33
theorem RT:FnScope xl6 xl6 (J7 GI):=⟨rfl,rfl,rfl,by decide +kernel,rfl,by decide +kernel,by decide +kernel⟩
noncomputable def HI (n:Int):Bool:=decide (1<=n)&&decide (n<=16)
noncomputable def J1r:DSp:=fun ds P _=>∃ n:Int,ds=[.int n]/\P (.bl (HI n))
theorem SF {f:Addr} (F:Fun K "is_length" "is_length" GI f fd) (Z:Bi mg) {c:Cs} (Y:Ex K mg base c):FnOk P w K mg base CX0 1 f fd xl6 (Q0 K BT J1r):=by
 refine F.okD RT (fun ds PP Ed h=>?_) (fun cdv A outer s H E M bg ds PP Ed hr hS_=>?_)
 · obtain ⟨n,rfl,hP⟩:=h
   rfl
 · obtain ⟨n,rfl,hP⟩:=hS_
   refine ⟨_,(J8 (V3 (J2t J4x J4x HG HG J4 (jdv 0) (J2s rfl Z.LONGEST_)))),?_⟩
   unfold HI at hP
   walk_at "g"
   by_cases h:1<=n
   · refine IfP.t (by simp [h]) ?_
     walk_at "g"
     simp [h] at hP
     exact hP
   · refine IfP.f (by simp [h]) ?_
     walk_at "g"
     simp [h] at hP
     exact hP
noncomputable def FY:D->Bool
 | .tup [.int x,.int y]=>HI x&&HI y
 | _=>false
theorem wt2 {d:D}(h:wtD 2 d=true):∃ x y:Int,d=t2 x y:=by
 cases d<;>try (simp [wtD] at h;done)
 rename_i xs
 obtain ⟨h1,h2⟩:=(Bool.and_eq_true _ _).mp h
 have h1:=of_decide_eq_true h1
 have hw:∀ d∈xs,∃ i:Int,d=.int i:=fun d hd=>by
  have:=List.all_eq_true.mp h2 d hd
  cases d<;>first|cases this|skip
  exact ⟨_,rfl⟩
 match xs,h1 with
 | [a,b],_ =>
   obtain ⟨x,rfl⟩:=hw a (by simp)
   obtain ⟨y,rfl⟩:=hw b (by simp)
   exact ⟨x,y,rfl⟩
theorem J7k {d:D}(h:wtD 2 d=false):FY d=false:=by
 unfold FY
 split
 · cases h
 · rfl
noncomputable abbrev DB:Stmt:=top 34
theorem NG:FnScope FE FE (J7 DB):=⟨rfl,rfl,rfl,by decide +kernel,rfl,by decide +kernel,by decide +kernel⟩
noncomputable def ZG (c:Cs):DSp:=fun ds P Ed=>∃ d:D,ds=[d]/\tkD d=true/\AO d=true/\(FY d=false->Ed c.NoBoard)/\(FY d=true->P .non)
noncomputable abbrev xc5 (P:Program) (w:World) (K:Fg) (mg:Str → Option Value) (base:Heap) (f:Addr) (cdv:Value) (A:Around) (outer:List Env) (s:Shared) (H:Hp) (E:XK):Cx:=BO (CX1 P w base) P w K mg base FE "check_board" (J7 DB) f cdv A outer s H E
theorem NP {f:Addr} (F:Fun K "check_board" "check_board" DB f fd) (Z:Bi mg) {c:Cs} (Y:Ex K mg base c) (zg0:Callee P w K mg base CX0 "is_whole_tuple" 2 J1w (Q0 K BT ZE)) (zg1:Callee P w K mg base CX0 "is_length" 1 xl6 (Q0 K BT J1r)):FnOk P w K mg base (CX1 P w base) 3 f fd FE (Q0 K BT (ZG c)):=by
 refine F.okDX NG (fun ds PP Ed h=>?_) (fun cdv A outer s H E M bg ds PP Ed hr hE hS_=>?_)
 · obtain ⟨d,rfl,hd,hno,h0,h1⟩:=h
   rfl
 · obtain ⟨d,rfl,hd,hno,h0,h1⟩:=hS_
   refine ⟨_,(J8 (AG (J5m (JB (CY (by rfl) (Q3 zg0 hr.m rfl (J0 (jdv 0) (J0 J4 J3))) (fun _=>rfl))) (J0j (JB (CY (by rfl) (Z7 (HC K (by rfl) (by rfl)) TR rfl Z.all_ TX (J0 (BK (X:=(xc5 P w K mg base f cdv A outer s H E)) (Z2 0) (KB (X:=(xc5 P w K mg base f cdv A outer s H E)) (N':=xl6) (map:=[none]) (by rfl) (by rfl) (by decide +kernel) (by rfl) True.intro (gkeep_name rfl) fun cl0 C0 fp0 s0 H0=>⟨(pg_name (X:=(Q9 (xc5 P w K mg base f cdv A outer s H E) xl6 _ cl0 C0 fp0 s0 H0)) (i:=0) (BA xl6 (by decide +kernel)) rfl (by walk_at "o")),AS,(Q3 (X:=(Q9 (xc5 P w K mg base f cdv A outer s H E) xl6 _ cl0 C0 fp0 s0 H0)) zg1 hr.m rfl (J0 (jdv 0) J3))⟩) (AL (by rfl) (jdv 0))) J3)) (fun _=>rfl))))) (J8 (LG hE (LA Y.o_NoBoard rfl))) Y3)),?_⟩
   walk_at "g"
   refine ⟨by show (AO d&&true)=true;rw [hno];rfl,d,2,rfl,hd,?_⟩
   cases hw:wtD 2 d
   · walk_at "g"
     exact h0 (J7k hw)
   · obtain ⟨x,y,rfl⟩:=wt2 hw
     walk_at "g"
     walk_at "gc"
     refine ⟨x,rfl,?_⟩
     walk_at "g"
     refine ⟨y,rfl,?_⟩
     walk_at "g"
     have e:FY (t2 x y)=(HI x&&HI y):=rfl
     rw [e] at h0 h1
     cases hx:HI x<;>cases hy:HI y<;>rw [hx,hy] at h0 h1<;>walk_at "g"
     · exact h0 rfl
     · exact h0 rfl
     · exact h0 rfl
     · exact h1 rfl
noncomputable def XB (t:T3)(x:Int):Nat->List D
 | 0=>[]
 | y+1=>XB t x y++if t.has x y then [t2 x y] else []
noncomputable def QV (t:T3)(h:Nat):Nat->List D
 | 0=>[]
 | x+1=>QV t h x++XB t x h
noncomputable abbrev GY:Stmt:=top 37
noncomputable abbrev UN:List Str:=["face","board"]
theorem DU:FnScope ["face","board","wide","high"] UN (J7 GY):=⟨rfl,rfl,rfl,by decide +kernel,rfl,by decide +kernel,by decide +kernel⟩
noncomputable def UH (c:Cs):DSO:=fun ds P Ed=>∃ (t:T3) (d:D),ds=[t.d,d]/\t.ok 1404/\tkD d=true/\AO d=true/\(FY d=false->Ed c.NoBoard)/\∀ w h:Nat,d=t2 w h->(1<=w/\w<=16/\1<=h/\h<=16)->P (QV t h w)
noncomputable abbrev xc6 (P:Program) (w:World) (K:Fg) (mg:Str → Option Value) (base:Heap) (f:Addr) (cdv:Value) (A:Around) (outer:List Env) (s:Shared) (H:Hp) (E:XK):Cx:=BO (CX1 P w base) P w K mg base ["face","board","wide","high"] "dots_of" (J7 GY) f cdv A outer s H E
noncomputable abbrev XR:List Str:=["x","y","high","face"]
theorem YM {f:Addr} (F:Fun K "dots_of" "dots_of" GY f fd) (Z:Bi mg) {c:Cs} (Y:Ex K mg base c) (zg0:Callee P w K mg base (CX1 P w base) "check_board" 3 FE (Q0 K BT (ZG c))) (zg1:Callee P w K mg base CX0 "has_dot" 4 xl9 (Q0 K BT XM)):FnOk P w K mg base (CX1 P w base) 5 f fd UN (Y7 K BT (UH c)):=by
 refine F.okDXO DU (fun ds PP Ed h=>?_) (fun cdv A outer s H E M bg ds PP Ed hr hE hS_=>?_)
 · obtain ⟨t,d,rfl,ok,hd,hno,h0,hP⟩:=h
   rfl
 · obtain ⟨t,d,rfl,ok,hd,hno,h0,hP⟩:=hS_
   refine ⟨_,(J6 (JC (CN hE MC zg0 hr.m rfl (J0 (jdv 1) J3)))
    (J6 (DD (CO [2,3]) (jdv 1) (PG.or (BE (n:=2) K (by rfl) (by rfl) (J9 (pg_name (i:=2) DU.nd rfl (by walk_at "o")) (J9 (pg_name (i:=3) DU.nd rfl (by walk_at "o")) Y6))) (BF (n:=2) K (by rfl) (by rfl) (J9 (pg_name (i:=2) DU.nd rfl (by walk_at "o")) (J9 (pg_name (i:=3) DU.nd rfl (by walk_at "o")) Y6)))))
    (J8 (YV (X:=(xc6 P w K mg base f cdv A outer s H E)) (Z2 0) (Z2 1) (Q8g (X:=(xc6 P w K mg base f cdv A outer s H E)) (N':=XR) (map:=[none,none,some 3,some 0]) (mp2:=[some 0,none,some 2,some 3]) (by rfl) (by rfl) (by decide +kernel) (by rfl) ⟨⟨rfl,rfl,rfl,by walk_at "o"⟩,⟨⟨rfl,rfl,rfl,by walk_at "o"⟩,True.intro⟩⟩ (gkeep_name rfl) (gkeep_name rfl) rfl rfl fun cl0 C0 fp0 s0 H0=>⟨(pg_name (X:=(Q9 (xc6 P w K mg base f cdv A outer s H E) XR _ cl0 C0 fp0 s0 H0).nox) (i:=0) (BA XR (by decide +kernel)) rfl (by walk_at "o")),(CZ (X:=(Q9 (xc6 P w K mg base f cdv A outer s H E) XR _ cl0 C0 fp0 s0 H0).nox) rfl Z.range_ (J0 (jdv 2) J3)),(pg_name (X:=(Q9 (xc6 P w K mg base f cdv A outer s H E) XR _ cl0 C0 fp0 s0 H0).nox) (i:=1) (BA XR (by decide +kernel)) rfl (by walk_at "o")),(J5s (CY (by rfl) (Q3 zg1 hr.m rfl (J0 (jdv 3) (J0 (Y1 (J0 (jdv 0) (J0 (jdv 1) J3))) J3))) (fun _=>rfl))),(Y1 (X:=(Q9 (xc6 P w K mg base f cdv A outer s H E) XR _ cl0 C0 fp0 s0 H0).nox) (J0 (jdv 0) (J0 (jdv 1) J3)))⟩) (CZ rfl Z.range_ (J0 (jdv 2) J3)))))),?_⟩
   walk_at "g"
   refine ⟨by show (AO d&&true)=true;rw [hno];rfl,d,rfl,hd,hno,h0,fun hb=>?_⟩
   obtain ⟨w,h,rfl,h1,h2,h3,h4⟩:∃ w h:Nat,d=t2 w h/\1<=w/\w<=16/\1<=h/\h<=16:=by
    unfold FY at hb
    split at hb
    · rename_i x y
      simp only [HI,Bool.and_eq_true,decide_eq_true_eq] at hb
      exact ⟨x.toNat,y.toNat,by rw [Int.toNat_of_nonneg (by omega),Int.toNat_of_nonneg (by omega)],by omega,by omega,by omega,by omega⟩
    · cases hb
   replace hP:=hP w h rfl ⟨h1,h2,h3,h4⟩
   walk_at "g"
   refine And.intro ⟨by omega,by omega⟩ ?_
   refine And.intro (by rw [rangeD_len];omega) ?_
   refine ⟨fun i acc=>acc=QV t h i,rfl,?_,?_⟩
   · rintro i x acc e rfl
     obtain ⟨rfl,hi⟩:=AU e
     clear e
     rw [Int.zero_add]
     walk_at "g"
     refine And.intro ⟨by omega,by omega⟩ ?_
     refine And.intro (by rw [rangeD_len];omega) ?_
     refine ⟨fun j acc=>acc=QV t h i++XB t i j,by rw [show XB t i 0=[] from rfl,List.append_nil],?_,?_⟩
     · rintro j x acc e rfl
       obtain ⟨rfl,hj⟩:=AU e
       clear e
       rw [Int.zero_add]
       walk_at "g"
       refine ⟨t,i,j,1404,rfl,ok,Bd.of (by omega) (by omega),Bd.of (by omega) (by omega),by decide,?_⟩
       have es:XB t i (j+1)=XB t i j++if t.has i j then [t2 i j] else []:=rfl
       rw [es]
       by_cases z:t.has i j
       · refine IfP.t (by simp [z]) ?_
         rw [if_pos z,<- List.append_assoc]
         walk_at "g"
       · refine IfP.f (by simp [z]) ?_
         rw [if_neg z,List.append_nil]
     · rintro acc rfl
       rw [rangeD_len,Int.toNat_natCast]
       rfl
   · rintro acc rfl
     rw [rangeD_len,Int.toNat_natCast]
     exact hP
theorem T3.has_sgn {t:T3}{px py:Int}(hp:t.pos)(h:t.has px py):sgn t.tn=t.s1 px py:=by
 obtain ⟨f,hf⟩:∃ f:Int->Nat,∀ n,f n=n.natAbs:=⟨Int.natAbs,fun _=>rfl⟩
 obtain ⟨M,hM,hin⟩:∃ M:Int,1<=M/\t.in M:=by
  refine ⟨1+f t.ax+f t.ay+f t.az+f t.aw+f t.bx+f t.b_y+f t.bz+f t.bw+f t.cx+f t.cy+f t.cz+f t.cw,by omega,fun n hn=>?_⟩
  unfold T3.nums at hn
  rw [<- hf]
  clear hf h
  simp only [List.mem_cons,List.not_mem_nil,or_false] at hn
  rcases hn with e|e|e|e|e|e|e|e|e|e|e|e<;>rw [e]<;>omega
 obtain ⟨e1,e2,e3⟩:=T3.near (px:=px) (py:=py) hp hM hin
 have s:=t.sum_det (nX px M) (nY py M) (nW M)
 have w0:0<nW M:=by
  unfold nW
  have:0<=8*M*M:=Int.mul_nonneg (by omega) (by omega)
  exact Int.mul_pos (by omega) (by omega)
 obtain ⟨h1,h2,h3⟩:=h
 rw [<- e1] at h1 h2 h3
 rw [<- e1]
 rw [<- e2] at h2
 rw [<- e3] at h3
 have pa:=hp.a
 have pb:=hp.b
 have pc:=hp.c
 generalize det t.ax t.ay t.aw t.bx t.b_y t.bw (nX px M) (nY py M) (nW M)=d1 at *
 generalize det t.bx t.b_y t.bw t.cx t.cy t.cw (nX px M) (nY py M) (nW M)=d2 at *
 generalize det t.cx t.cy t.cw t.ax t.ay t.aw (nX px M) (nY py M) (nW M)=d3 at *
 generalize nW M=w at *
 have c1:=Y9 d1
 have c2:=Y9 d2
 have c3:=Y9 d3
 rcases c1 with ⟨c1,q⟩|⟨c1,q⟩|⟨c1,q⟩
 · have k2:0<d2:=by omega
   have k3:0<d3:=by omega
   have m1:=Int.mul_pos pc c1
   have m2:=Int.mul_pos pa k2
   have m3:=Int.mul_pos pb k3
   have:0<t.tn:=by
    apply Decidable.byContradiction
    intro n
    have:=Int.mul_nonpos_of_nonpos_of_nonneg (show t.tn<=0 by omega) (show 0<=w by omega)
    omega
   rw [ED this,q]
 · omega
 · have k2:d2<0:=by omega
   have k3:d3<0:=by omega
   have m1:=Int.mul_neg_of_pos_of_neg pc c1
   have m2:=Int.mul_neg_of_pos_of_neg pa k2
   have m3:=Int.mul_neg_of_pos_of_neg pb k3
   have:t.tn<0:=by
    apply Decidable.byContradiction
    intro n
    have:=Int.mul_nonneg (show 0<=t.tn by omega) (show 0<=w by omega)
    omega
   rw [EE this,q]
theorem T3.has_way {t:T3}{px py:Int}(hp:t.pos)(hz:sgn t.tn≠0):t.has px py↔(t.s1 px py=sgn t.tn/\t.s2 px py=sgn t.tn/\t.s3 px py=sgn t.tn):=by
 constructor
 · intro h
   have e:=T3.has_sgn hp h
   rw [e]
   exact ⟨rfl,h.2.1,h.2.2⟩
 · rintro ⟨h1,h2,h3⟩
   exact ⟨by rw [h1];exact hz,by rw [h1,h2],by rw [h1,h3]⟩
theorem ZZ {n way:Int}(h:way=1\/way = -1):sgn n=way↔0<way*n:=by
 have:=Y9 n
 rcases h with rfl|rfl<;>omega
theorem J6h (ax ay aw bx b_y bw x y:Int):det ax ay aw bx b_y bw x y 1=det ax ay aw bx b_y bw 0 y 1+x*(ay*bw - aw*b_y):=by unfold det;grind
theorem RN (way ax ay aw bx b_y bw x y:Int):way*det ax ay aw bx b_y bw x y 1=way*det ax ay aw bx b_y bw 0 y 1+x*(way*(ay*bw - aw*b_y)):=by rw [J6h];grind
theorem VD {ax ay aw bx b_y bw x y way:Int}(h:way=1\/way = -1)(hs:0<way*(ay*bw - aw*b_y)):sgn (shd ax ay aw bx b_y bw x y)=way↔0<=way*det ax ay aw bx b_y bw x y 1:=by
 rw [ZZ h]
 unfold shd
 generalize ay*bw - aw*b_y=G at *
 generalize det ax ay aw bx b_y bw x y 1=d
 have gz:G≠0:=fun z=>by rw [z,Int.mul_zero] at hs;omega
 rw [if_neg gz]
 split
 · rename_i e
   rw [e,Int.mul_zero]
   simp [hs]
 · rename_i e
   rcases h with rfl|rfl<;>omega
theorem VE {ax ay aw bx b_y bw x y way:Int}(h:way=1\/way = -1)(hs:way*(ay*bw - aw*b_y)<0):sgn (shd ax ay aw bx b_y bw x y)=way↔0<way*det ax ay aw bx b_y bw x y 1:=by
 rw [ZZ h]
 unfold shd
 generalize ay*bw - aw*b_y=G at *
 generalize det ax ay aw bx b_y bw x y 1=d
 have gz:G≠0:=fun z=>by rw [z,Int.mul_zero] at hs;omega
 rw [if_neg gz]
 split
 · rename_i e
   rw [e,Int.mul_zero]
   omega
 · rfl
theorem NA {ax ay aw bx b_y bw x y way:Int}(h:way=1\/way = -1)(hs:way*(ay*bw - aw*b_y)=0):shd ax ay aw bx b_y bw x y=shd ax ay aw bx b_y bw 0 y:=by
 have:ay*bw - aw*b_y=0:=by rcases h with rfl|rfl<;>omega
 unfold shd
 rw [J6h,this,Int.mul_zero,Int.add_zero]
noncomputable def Nrw (y first last way:Int)(ax ay aw bx b_y bw f l:Int):Prop:=∀ x,(f<=x/\x<=l)↔(first<=x/\x<=last/\sgn (shd ax ay aw bx b_y bw x y)=way)
noncomputable abbrev HS:Stmt:=top 43
theorem AQ:FnScope ["span","a","b","way","y","first","last","step","start"] ["span","a","b","way"] (J7 HS):=⟨rfl,rfl,rfl,by decide +kernel,rfl,by decide +kernel,by decide +kernel⟩
noncomputable def XJ:DSp:=fun ds P _=>∃ (y first last ax ay az aw bx b_y bz bw way:Int),ds=[t3 y first last,sp4 ax ay az aw,sp4 bx b_y bz bw,.int way]/\(way=1\/way = -1)/\(Bd 1404 ax/\Bd 1404 ay/\Bd 1404 aw)/\(Bd 1404 bx/\Bd 1404 b_y/\Bd 1404 bw)/\Bd 1404 y/\∀ f l,Nrw y first last way ax ay aw bx b_y bw f l->P (t3 y f l)
theorem VY {f:Addr} (F:Fun K "narrowed" "narrowed" HS f fd) (Z:Bi mg) {c:Cs} (Y:Ex K mg base c) (zg0:Callee P w K mg base CX0 "growth" 1 ["a","b"] (Q0 K BT OM)) (zg1:Callee P w K mg base CX0 "side_number" 2 xl8 (Q0 K BT MP)) (zg2:Callee P w K mg base CX0 "shifted_side" 3 xl8 (Q0 K BT J7n)):FnOk P w K mg base CX0 4 f fd ["span","a","b","way"] (Q0 K BT XJ):=by
 refine F.okD AQ (fun ds PP Ed h=>?_) (fun cdv A outer s H E M bg ds PP Ed hr hS_=>?_)
 · obtain ⟨y,first,last,ax,ay,az,aw,bx,b_y,bz,bw,way,rfl,hw,⟨a1,a2,a3⟩,⟨b1,b2,b3⟩,hy,hP⟩:=h
   rfl
 · obtain ⟨y,first,last,ax,ay,az,aw,bx,b_y,bz,bw,way,rfl,hw,⟨a1,a2,a3⟩,⟨b1,b2,b3⟩,hy,hP⟩:=hS_
   refine ⟨_,(J6 (DD (CO [4,5,6]) (jdv 0) (PG.or (BE (n:=3) K (by rfl) (by rfl) (J9 (pg_name (i:=4) AQ.nd rfl (by walk_at "o")) (J9 (pg_name (i:=5) AQ.nd rfl (by walk_at "o")) (J9 (pg_name (i:=6) AQ.nd rfl (by walk_at "o")) Y6)))) (BF (n:=3) K (by rfl) (by rfl) (J9 (pg_name (i:=4) AQ.nd rfl (by walk_at "o")) (J9 (pg_name (i:=5) AQ.nd rfl (by walk_at "o")) (J9 (pg_name (i:=6) AQ.nd rfl (by walk_at "o")) Y6))))))
    (J6 (V2 (i:=7) AQ.nd rfl (by walk_at "o") (Q5 V1 AH (jdv 3) (Q3 zg0 hr.m rfl (J0 (jdv 1) (J0 (jdv 2) J3)))))
    (J6 (V2 (i:=8) AQ.nd rfl (by walk_at "o") (Q5 V1 AH (jdv 3) (Q3 zg1 hr.m rfl (J0 (jdv 1) (J0 (jdv 2) (J0 (Y1 (J0 J4 (J0 (jdv 4) J3))) J3))))))
    (J6 (AG (AD VU HG (jdv 7) J4 (Z0 _)) (J8 (V3 (Y1 (J0 (jdv 4) (J0 (Z7 (RA (by rfl)) J1k rfl Z.max_ J7j (J0 (jdv 5) (J0 (JD (Q5 CL AH (jdv 8) (jdv 7))) J3))) (J0 (jdv 6) J3)))))) Y3)
    (J6 (AG (AD QI HG (jdv 7) J4 (Z0 _)) (J8 (V3 (Y1 (J0 (jdv 4) (J0 (jdv 5) (J0 (Z7 (QZ (by rfl)) J1k rfl Z.min_ J7i (J0 (jdv 6) (J0 (Q5 CL AH (Q5 AJ Z6 (jdv 8) J4) (JD (jdv 7))) J3))) J3)))))) Y3)
    (J6 (AG (AD GB DJ (Q3 zg2 hr.m rfl (J0 (jdv 1) (J0 (jdv 2) (J0 (Y1 (J0 J4 (J0 (jdv 4) J3))) J3)))) (jdv 3) (Z0 _)) (J8 (V3 (jdv 0))) Y3)
    (J8 (V3 (Y1 (J0 (jdv 4) (J0 (jdv 5) (J0 (Q5 AJ Z6 (jdv 5) J4) J3)))))))))))),?_⟩
   have bw1:Bd 3 way:=by rcases hw with rfl|rfl<;>exact Bd.of (by decide) (by decide)
   have bG:Bd 2820 (ay*bw - aw*b_y):=(Bd.sub (Bd.mul a2 b3) (Bd.mul a3 b2)).mono (by decide)
   have bD:Bd 4230 (det ax ay aw bx b_y bw 0 y 1):=(LM (n:=1404) a1 a2 a3 b1 b2 b3 (Bd.of (by decide) (by decide)) hy (Bd.of (by decide) (by decide))).mono (by decide)
   have wd:=fun x=>RN way ax ay aw bx b_y bw x y
   walk_at "g"
   refine ⟨_,_,_,_,_,_,_,_,rfl,⟨a2.mono (by decide),a3.mono (by decide)⟩,⟨b2.mono (by decide),b3.mono (by decide)⟩,?_⟩
   have bS:Bd 2830 (way*(ay*bw - aw*b_y)):=(Bd.mul bw1 bG).mono (by decide)
   walk_at "g"
   refine ⟨_,_,_,_,_,_,_,_,_,_,rfl,⟨a1.mono (by decide),a2.mono (by decide),a3.mono (by decide)⟩,⟨b1.mono (by decide),b2.mono (by decide),b3.mono (by decide)⟩,⟨Bd.of (by decide) (by decide),hy.mono (by decide)⟩,?_⟩
   walk_at "g"
   have pos:=fun x=>VD (ax:=ax) (ay:=ay) (aw:=aw) (bx:=bx) (b_y:=b_y) (bw:=bw) (x:=x) (y:=y) hw
   have neg:=fun x=>VE (ax:=ax) (ay:=ay) (aw:=aw) (bx:=bx) (b_y:=b_y) (bw:=bw) (x:=x) (y:=y) hw
   have lev:=fun x=>NA (ax:=ax) (ay:=ay) (aw:=aw) (bx:=bx) (b_y:=b_y) (bw:=bw) (x:=x) (y:=y) hw
   walk_at "sp"
   · rename_i h
     walk_at "g"
     refine And.intro ⟨h,2830,bS,by decide⟩ ?_
     walk_at "g"
     refine hP _ _ fun x=>?_
     rw [pos x h,wd x]
     generalize way*(ay*bw - aw*b_y)=G at *
     generalize way*det ax ay aw bx b_y bw 0 y 1=D0
     have k : -(D0 / G)<=x↔0<=D0+x*G:=by
      have:=@Int.le_ediv_iff_mul_le (-x) D0 G h
      rw [Int.neg_mul] at this
      omega
     constructor
     · rintro ⟨h1,h2⟩
       have h1:(if -(D0 / G)>first then -(D0 / G) else first)<=x:=h1
       split at h1<;>omega
     · rintro ⟨h1,h2,h3⟩
       refine ⟨?_,h2⟩
       show (if -(D0 / G)>first then -(D0 / G) else first)<=x
       split<;>omega
   · rename_i h
     walk_at "g"
     walk_at "sp"
     · rename_i h'
       walk_at "g"
       refine And.intro ⟨by omega,2830,bS.neg,by decide⟩ ?_
       walk_at "g"
       refine hP _ _ fun x=>?_
       rw [neg x h',wd x]
       generalize way*(ay*bw - aw*b_y)=G at *
       generalize way*det ax ay aw bx b_y bw 0 y 1=D0
       have k:x<=(D0 - 1) / -G↔0<D0+x*G:=by
        have:=@Int.le_ediv_iff_mul_le x (D0 - 1) (-G) (by omega)
        rw [Int.mul_neg] at this
        omega
       constructor
       · rintro ⟨h1,h2⟩
         have h2:x<=(if (D0 - 1) / -G<last then (D0 - 1) / -G else last):=h2
         split at h2<;>omega
       · rintro ⟨h1,h2,h3⟩
         refine ⟨h1,?_⟩
         show x<=(if (D0 - 1) / -G<last then (D0 - 1) / -G else last)
         split<;>omega
     · rename_i h'
       walk_at "g"
       refine ⟨_,_,_,_,_,_,_,_,_,_,rfl,⟨a1.mono (by decide),a2.mono (by decide),a3.mono (by decide)⟩,⟨b1.mono (by decide),b2.mono (by decide),b3.mono (by decide)⟩,⟨Bd.of (by decide) (by decide),hy.mono (by decide)⟩,?_⟩
       walk_at "g"
       walk_at "sp"
       · rename_i h2
         walk_at "g"
         refine hP _ _ fun x=>?_
         rw [lev x (by omega),h2]
         simp
       · rename_i h2
         walk_at "g"
         refine hP _ _ fun x=>?_
         rw [lev x (by omega)]
         constructor
         · rintro ⟨h3,h4⟩
           have:x<=first - 1:=h4
           omega
         · rintro ⟨_,_,z⟩
           exact absurd z h2
noncomputable def hasL (t:T3)(w:Nat)(y:Int):List Int:=((List.range w).map fun (n:Nat)=>(n:Int)).filter fun x=>decide (t.has x y)
theorem GM {t:T3}{w:Nat}{x y:Int}:x∈hasL t w y↔0<=x/\x<w/\t.has x y:=by
 unfold hasL
 simp only [List.mem_filter,List.mem_map,List.mem_range,decide_eq_true_eq]
 constructor
 · rintro ⟨⟨n,hn,rfl⟩,h⟩
   exact ⟨by omega,by omega,h⟩
 · rintro ⟨h1,h2,h3⟩
   exact ⟨⟨x.toNat,by omega,by omega⟩,h3⟩
theorem GP (t:T3)(w:Nat)(y:Int):(hasL t w y).Pairwise (· < ·):=by
 unfold hasL
 refine List.Pairwise.filter _ ?_
 rw [List.pairwise_map]
 exact List.pairwise_lt_range.imp fun h=>by omega
theorem J0o {x a:Int}{xs:List Int}(h:(x::xs).Pairwise (· < ·))(m:a∈x::xs):x<=a:=by
 rcases List.mem_cons.mp m with e|e
 · omega
 · have:=(List.pairwise_cons.mp h).1 a e
   omega
theorem IZ:∀ {xs:List Int} {a:Int} (h:xs.Pairwise (· < ·)) (n:xs≠[]),a∈xs->a<=xs.getLast n
 | [x],a,_,_,m=>by
   simp at m
   simp [m]
 | x::y::r,a,h,_,m=>by
   have h':=List.pairwise_cons.mp h
   rw [List.getLast_cons (by simp)]
   rcases List.mem_cons.mp m with e|e
   · have:=h'.1 _ (List.getLast_mem (by simp:y::r≠[]))
     omega
   · exact IZ h'.2 (by simp) e
noncomputable def RW (y:Int):List Int->List D
 | []=>[]
 | x::xs=>[t3 y x ((x::xs).getLast (by simp))]
noncomputable def spN (t:T3)(w:Nat):Nat->List D
 | 0=>[]
 | y+1=>spN t w y++RW y (hasL t w y)
theorem YC {t:T3}{w:Nat}{y f l:Int}(h:∀ x,(f<=x/\x<=l)↔(0<=x/\x<=(w:Int) - 1/\t.has x y)):RW y (hasL t w y)=if f<=l then [t3 y f l] else []:=by
 have hm:∀ x,x∈hasL t w y↔(f<=x/\x<=l):=fun x=>by
  rw [GM,h x]
  constructor<;>rintro ⟨h1,h2,h3⟩<;>exact ⟨h1,by omega,h3⟩
 have hs:=GP t w y
 generalize hasL t w y=L at *
 cases L with
 | nil =>
   rw [if_neg]
   · rfl
   · intro q
     have:=(hm f).mpr ⟨by omega,q⟩
     cases this
 | cons x xs =>
   have q1:=(hm x).mp (List.mem_cons_self ..)
   have q2:=J0o hs ((hm f).mpr ⟨by omega,by omega⟩)
   have q3:=(hm _).mp (List.getLast_mem (by simp:x::xs≠[]))
   have q4:=IZ hs (by simp) ((hm l).mpr ⟨by omega,by omega⟩)
   rw [if_pos (by omega)]
   show [t3 y x _]=_
   rw [show x=f by omega] at q3 q4 ⊢
   rw [show (f::xs).getLast (by simp)=l by omega]
theorem J4e {y:Int}{L:List Int}{d:D}(h:d∈RW y L):∃ a b c:Int,d=t3 a b c:=by
 cases L with
 | nil=>cases h
 | cons x xs=>simp [RW] at h;exact ⟨_,_,_,h⟩
theorem J4f (y:Int)(L:List Int):(RW y L).length<=1:=by cases L<;>simp [RW]
theorem ZX {t:T3}{w:Nat}{d:D}:∀ {n:Nat},d∈spN t w n->∃ a b c:Int,d=t3 a b c
 | 0,h=>by cases h
 | n+1,h=>by
   rcases List.mem_append.mp h with h|h
   · exact ZX h
   · exact J4e h
theorem ZY (t:T3)(w:Nat):∀ n:Nat,(spN t w n).length<=n
 | 0=>by simp [spN]
 | n+1=>by
   have:=ZY t w n
   have:=J4f n (hasL t w n)
   simp only [spN,List.length_append]
   omega
theorem J0g:∀ {xs:List D},(∀ d∈xs,∃ a b c:Int,d=t3 a b c)->EZ xs=true
 | [],_=>rfl
 | x::xs,h=>by
   obtain ⟨a,b,c,rfl⟩:=h x (List.mem_cons_self ..)
   unfold EZ
   rw [J0g fun d hd=>h d (List.mem_cons_of_mem _ hd)]
   rfl
noncomputable abbrev HQ:Stmt:=top 44
theorem V5:FnScope ["face","board","a","b","c","way","wide","high","spans","y","span","one","other"] UN (J7 HQ):=⟨rfl,rfl,rfl,by decide +kernel,rfl,by decide +kernel,by decide +kernel⟩
noncomputable def J1o (c:Cs):DSO:=fun ds P Ed=>∃ (t:T3) (d:D),ds=[t.d,d]/\t.ok 1404/\t.pos/\tkD d=true/\AO d=true/\(FY d=false->Ed c.NoBoard)/\∀ w h:Nat,d=t2 w h->(1<=w/\w<=16/\1<=h/\h<=16)->P (spN t w h)
theorem VW {f:Addr} (F:Fun K "spans_of" "spans_of" HQ f fd) (Z:Bi mg) {c:Cs} (Y:Ex K mg base c) (zg0:Callee P w K mg base (CX1 P w base) "check_board" 3 FE (Q0 K BT (ZG c))) (zg1:Callee P w K mg base CX0 "sign" 1 xl6 (Q0 K BT UD)) (zg2:Callee P w K mg base CX0 "turn" 2 ["face"] (Q0 K BT UC)) (zg3:Callee P w K mg base CX0 "narrowed" 4 ["span","a","b","way"] (Q0 K BT XJ)):FnOk P w K mg base (CX1 P w base) 5 f fd UN (Y7 K BT (J1o c)):=by
 refine F.okDXO V5 (fun ds PP Ed h=>?_) (fun cdv A outer s H E M bg ds PP Ed hr hE hS_=>?_)
 · obtain ⟨t,d,rfl,ok,pos,hd,hno,h0,hP⟩:=h
   rfl
 · obtain ⟨t,d,rfl,ok,pos,hd,hno,h0,hP⟩:=hS_
   refine ⟨_,(J6 (JC (CN hE MC zg0 hr.m rfl (J0 (jdv 1) J3)))
    (J6 (DD (CO [2,3,4]) (jdv 0) (PG.or (BE (n:=3) K (by rfl) (by rfl) (J9 (pg_name (i:=2) V5.nd rfl (by walk_at "o")) (J9 (pg_name (i:=3) V5.nd rfl (by walk_at "o")) (J9 (pg_name (i:=4) V5.nd rfl (by walk_at "o")) Y6)))) (BF (n:=3) K (by rfl) (by rfl) (J9 (pg_name (i:=2) V5.nd rfl (by walk_at "o")) (J9 (pg_name (i:=3) V5.nd rfl (by walk_at "o")) (J9 (pg_name (i:=4) V5.nd rfl (by walk_at "o")) Y6))))))
    (J6 (V2 (i:=5) V5.nd rfl (by walk_at "o") (Q3 zg1 hr.m rfl (J0 (Q3 zg2 hr.m rfl (J0 (jdv 0) J3)) J3)))
    (J6 (AG (AD GB DJ (jdv 5) J4 (Z0 _)) (J8 (J5o J3)) Y3)
    (J6 (DD (CO [6,7]) (jdv 1) (PG.or (BE (n:=2) K (by rfl) (by rfl) (J9 (pg_name (i:=6) V5.nd rfl (by walk_at "o")) (J9 (pg_name (i:=7) V5.nd rfl (by walk_at "o")) Y6))) (BF (n:=2) K (by rfl) (by rfl) (J9 (pg_name (i:=6) V5.nd rfl (by walk_at "o")) (J9 (pg_name (i:=7) V5.nd rfl (by walk_at "o")) Y6)))))
    (J6 (GN (i:=8) V5.nd rfl (by walk_at "o") J3)
    (J6 (BW (Z2 9) PassesOwn.leaving rfl (CZ rfl Z.range_ (J0 (jdv 7) J3)) (pg_name (i:=9) V5.nd rfl (by walk_at "o")) (J6 (V2 (i:=10) V5.nd rfl (by walk_at "o") (Y1 (J0 (jdv 9) (J0 J4 (J0 (Q5 AJ Z6 (jdv 6) J4) J3)))))
    (J6 (BW (CO [11,12]) PassesOwn.leaving rfl (AL (by rfl) (Y1 (J0 (Y1 (J0 (jdv 2) (J0 (jdv 3) J3))) (J0 (Y1 (J0 (jdv 3) (J0 (jdv 4) J3))) (J0 (Y1 (J0 (jdv 4) (J0 (jdv 2) J3))) J3))))) (PG.or (BE (n:=2) K (by rfl) (by rfl) (J9 (pg_name (i:=11) V5.nd rfl (by walk_at "o")) (J9 (pg_name (i:=12) V5.nd rfl (by walk_at "o")) Y6))) (BF (n:=2) K (by rfl) (by rfl) (J9 (pg_name (i:=11) V5.nd rfl (by walk_at "o")) (J9 (pg_name (i:=12) V5.nd rfl (by walk_at "o")) Y6)))) (J8 (V2 (i:=10) V5.nd rfl (by walk_at "o") (Q3 zg3 hr.m rfl (J0 (jdv 10) (J0 (jdv 11) (J0 (jdv 12) (J0 (jdv 5) J3))))))) QR)
    (J8 (AG (AD J4x HG (Q6 (Q7 K (by rfl)) Q8 (jdv 10) J4 (fun _ _=>rfl)) (Q6 (Q7 K (by rfl)) Q8 (jdv 10) J4 (fun _ _=>rfl)) (Z0 _)) (J8 (IE (i:=8) (by rfl) rfl (by walk_at "v") (J0 (jdv 10) J3) (QH PySem.F.plainAttrs_list PySem.F.slot_list_append PySem.F.type_list_append LC (pv 8) (JA.h (J0 (jdv 10) J3))))) Y3)))))
    (J8 (NV (jdv 8)))))))))),?_⟩
   walk_at "g"
   refine ⟨by show (AO d&&true)=true;rw [hno];rfl,d,rfl,hd,hno,h0,fun hb=>?_⟩
   obtain ⟨w,h,rfl,h1,h2,h3,h4⟩:∃ w h:Nat,d=t2 w h/\1<=w/\w<=16/\1<=h/\h<=16:=by
    unfold FY at hb
    split at hb
    · rename_i x y
      simp only [HI,Bool.and_eq_true,decide_eq_true_eq] at hb
      exact ⟨x.toNat,y.toNat,by rw [Int.toNat_of_nonneg (by omega),Int.toNat_of_nonneg (by omega)],by omega,by omega,by omega,by omega⟩
    · cases hb
   replace hP:=hP w h rfl ⟨h1,h2,h3,h4⟩
   walk_at "g"
   refine ⟨t,1404,rfl,ok,by decide,?_⟩
   walk_at "g"
   refine ⟨_,rfl,?_⟩
   walk_at "g"
   have nil:sgn t.tn=0->∀ n,spN t w n=[]:=fun z n=>by
    induction n with
    | zero=>rfl
    | succ n ih =>
      have:hasL t w n=[]:=by
       cases e:hasL t w n with
       | nil=>rfl
       | cons x xs =>
         have:=(GM (t:=t) (w:=w) (y:=n)).mp (e▸List.mem_cons_self ..)
         exact absurd (EG.mp z) (T3.has_tn pos this.2.2)
      show spN t w n++RW n (hasL t w n)=[]
      rw [ih,this]
      rfl
   walk_at "sp"
   · rename_i z
     walk_at "g"
     rw [nil z h] at hP
     exact hP
   · rename_i z
     have hw:sgn t.tn=1\/sgn t.tn = -1:=by have:=Y9 t.tn;omega
     have hway:=fun x y=>T3.has_way (px:=x) (py:=y) pos z
     generalize ew:sgn t.tn=way at *
     walk_at "g"
     refine And.intro ⟨by omega,by omega⟩ ?_
     refine ⟨fun i ρ=>∃ v9 v10 v11 v12,ρ=[some t.d,some (t2 w h),some (sp4 t.ax t.ay t.az t.aw),some (sp4 t.bx t.b_y t.bz t.bw),some (sp4 t.cx t.cy t.cz t.cw),some (.int way),some (.int w),some (.int h),some (.own (spN t w i)),v9,v10,v11,v12],⟨_,_,_,_,rfl⟩,?_,?_⟩
     · rintro i x ρ e ⟨v9,v10,v11,v12,rfl⟩
       obtain ⟨rfl,hi⟩:=AU e
       clear e
       have hy:Bd 1404 ((0:Int)+i):=Bd.of (by omega) (by omega)
       walk_at "g"
       walk_at "gr"
       refine ⟨_,_,_,_,_,_,_,_,_,_,_,_,rfl,hw,⟨ok.ax,ok.ay,ok.aw⟩,⟨ok.bx,ok.b_y,ok.bw⟩,hy,fun f1 l1 n1=>?_⟩
       walk_at "g"
       refine ⟨_,_,_,_,_,_,_,_,_,_,_,_,rfl,hw,⟨ok.bx,ok.b_y,ok.bw⟩,⟨ok.cx,ok.cy,ok.cw⟩,hy,fun f2 l2 n2=>?_⟩
       walk_at "g"
       refine ⟨_,_,_,_,_,_,_,_,_,_,_,_,rfl,hw,⟨ok.cx,ok.cy,ok.cw⟩,⟨ok.ax,ok.ay,ok.aw⟩,hy,fun f3 l3 n3=>?_⟩
       rw [Int.zero_add] at n1 n2 n3
       have hr:=YC (t:=t) (w:=w) (y:=i) (f:=f3) (l:=l3) fun x=>by
        rw [hway x i,n3 x]
        constructor
        · rintro ⟨q1,q2,q3⟩
          obtain ⟨q1,q2,q4⟩:=(n2 x).mp ⟨q1,q2⟩
          obtain ⟨q1,q2,q5⟩:=(n1 x).mp ⟨q1,q2⟩
          exact ⟨q1,q2,q5,q4,q3⟩
        · rintro ⟨q1,q2,q5,q4,q3⟩
          obtain ⟨q1,q2⟩:=(n1 x).mpr ⟨q1,q2,q5⟩
          obtain ⟨q1,q2⟩:=(n2 x).mpr ⟨q1,q2,q4⟩
          exact ⟨q1,q2,q3⟩
       have es:spN t w (i+1)=spN t w i++RW i (hasL t w i):=rfl
       rw [es,hr]
       walk_at "g"
       walk_at "sp"
       · rename_i hle
         rw [if_pos hle]
         have hl:=ZY t w i
         walk_at "g"
         refine And.intro (by simp [L2.plain];omega) ?_
         walk_at "g"
         rw [Int.zero_add]
         exact ⟨_,_,_,_,rfl⟩
       · rename_i hle
         rw [if_neg hle,List.append_nil]
         walk_at "g"
         exact ⟨_,_,_,_,rfl⟩
     · rintro ρ ⟨v9,v10,v11,v12,rfl⟩
       rw [rangeD_len]
       walk_at "g"
       simpa using hP
structure Prim (r:R4):Prop where
 w:0<r.w
 g:Nat.gcd (Int.gcd r.x r.y) (Int.gcd r.z r.w)=1
noncomputable def OW (r:R4):R4:=⟨r.x.fdiv (low [r.x,r.y,r.z] r.w),r.y.fdiv (low [r.x,r.y,r.z] r.w),r.z.fdiv (low [r.x,r.y,r.z] r.w),r.w.fdiv (low [r.x,r.y,r.z] r.w)⟩
theorem SR {r:R4}(h:0<r.w):Prim (OW r)/\Scal r (OW r)/\∀ n,r.ok n->(OW r).ok n:=by
 obtain ⟨a1,a2,a3,a4,e1,e2,e3,e4,p4,pg,⟨q1,q2,q3⟩,⟨l1,l2,l3,l4⟩⟩:=J5g (x:=r.x) (y:=r.y) (z:=r.z) (w:=r.w) (by omega)
 have:OW r=⟨a1,a2,a3,a4⟩:=by unfold OW;rw [e1,e2,e3,e4]
 rw [this]
 exact ⟨⟨p4,pg⟩,⟨q1,q2,q3,p4⟩,fun n ro=>⟨Nat.lt_of_le_of_lt l1 ro.x,Nat.lt_of_le_of_lt l2 ro.y,Nat.lt_of_le_of_lt l3 ro.z,Nat.lt_of_le_of_lt l4 ro.w⟩⟩
structure Pw (r:R4):Prop where
 w:0<r.w
structure F3 where
 a:R4
 b:R4
 c:R4
noncomputable abbrev F3.d (f:F3):D:=.tup [f.a.d,f.b.d,f.c.d]
structure F3.ok (f:F3)(n:Nat):Prop where
 a:f.a.ok n
 b:f.b.ok n
 c:f.c.ok n
theorem F3.ok.mono {f:F3}{m n:Nat}(h:f.ok m)(k:m<=n):f.ok n:=⟨h.a.mono k,h.b.mono k,h.c.mono k⟩
structure F3.pr (f:F3):Prop where
 a:Pw f.a
 b:Pw f.b
 c:Pw f.c
noncomputable def EN (r:R4):Bool:=!(decide (r.x=0)&&(decide (r.y=0)&&decide (r.z=0)))
noncomputable def EO:D->Bool
 | .tup [.int a,.int b,.int c,.int e]=>EN ⟨a,b,c,e⟩
 | _=>false
theorem wt4 {d:D}(h:wtD 4 d=true):∃ x y z w:Int,d=sp4 x y z w:=by
 cases d<;>try (simp [wtD] at h;done)
 rename_i xs
 obtain ⟨h1,h2⟩:=(Bool.and_eq_true _ _).mp h
 have h1:=of_decide_eq_true h1
 have hw:∀ d∈xs,∃ i:Int,d=.int i:=fun d hd=>by
  have:=List.all_eq_true.mp h2 d hd
  cases d<;>first|cases this|skip
  exact ⟨_,rfl⟩
 match xs,h1 with
 | [a,b,c,e],_ =>
   obtain ⟨x,rfl⟩:=hw a (by simp)
   obtain ⟨y,rfl⟩:=hw b (by simp)
   obtain ⟨z,rfl⟩:=hw c (by simp)
   obtain ⟨w,rfl⟩:=hw e (by simp)
   exact ⟨x,y,z,w,rfl⟩
theorem Q0g {d:D}(h:wtD 4 d=false):EO d=false:=by
 unfold EO
 split
 · cases h
 · rfl
noncomputable abbrev KR:Stmt:=top 24
theorem XW:FnScope FE FE (J7 KR):=⟨rfl,rfl,rfl,by decide +kernel,rfl,by decide +kernel,by decide +kernel⟩
noncomputable def XL:DSp:=fun ds P _=>∃ d:D,ds=[d]/\tkD d=true/\AO d=true/\P (.bl (EO d))
theorem YK {f:Addr} (F:Fun K "is_flat" "is_flat" KR f fd) (Z:Bi mg) {c:Cs} (Y:Ex K mg base c) (zg0:Callee P w K mg base CX0 "is_whole_tuple" 2 J1w (Q0 K BT ZE)):FnOk P w K mg base CX0 3 f fd FE (Q0 K BT XL):=by
 refine F.okD XW (fun ds PP Ed h=>?_) (fun cdv A outer s H E M bg ds PP Ed hr hS_=>?_)
 · obtain ⟨d,rfl,hd,hno,hP⟩:=h
   rfl
 · obtain ⟨d,rfl,hd,hno,hP⟩:=hS_
   refine ⟨_,(J8 (V3 (HA (Q3 zg0 hr.m rfl (J0 (jdv 0) (J0 J4 J3))) (MJ (EM (SE K (by rfl) hr.units) IA (J2r (Q2s K (by rfl)) (jdv 0) J5r (J5q J4)) (Y1 (J0 J4 (J0 J4 (J0 J4 J3)))) (Z0 _)))))),?_⟩
   walk_at "g"
   refine ⟨by show (AO d&&true)=true;rw [hno];rfl,d,4,rfl,hd,?_⟩
   cases hw:wtD 4 d
   · rw [Q0g hw] at hP
     walk_at "g"
     exact hP
   · obtain ⟨x,y,z,w',rfl⟩:=wt4 hw
     walk_at "g"
     repeat (refine And.intro (by intro h;simp [HT.sIx] at h;done) ?_;walk_at "g")
     refine ⟨.tuple [.int x,.int y,.int z],.tuple [.int 0,.int 0,.int 0],rfl,rfl,Nat.le_trans (Nat.min_le_right _ _) (by decide),?_⟩
     have e:PyData.eqv (.tuple [.int x,.int y,.int z]) (.tuple [.int 0,.int 0,.int 0]) = !EO (sp4 x y z w'):=by
      by_cases h1:x=0<;>by_cases h2:y=0<;>by_cases h3:z=0<;>simp [PyData.eqv,PyData.eqvAll,EO,EN,h1,h2,h3]
     rw [e]
     cases hl:EO (sp4 x y z w')<;>rw [hl] at hP<;>exact hP
noncomputable abbrev FL:Stmt:=top 25
theorem OP:FnScope FE FE (J7 FL):=⟨rfl,rfl,rfl,by decide +kernel,rfl,by decide +kernel,by decide +kernel⟩
noncomputable def ZF (c:Cs):DSp:=fun ds P Ed=>∃ d:D,ds=[d]/\tkD d=true/\AO d=true/\(EO d=false->Ed c.NoFlat)/\(EO d=true->P .non)
theorem OS {f:Addr} (F:Fun K "check_flat" "check_flat" FL f fd) (Z:Bi mg) {c:Cs} (Y:Ex K mg base c) (zg0:Callee P w K mg base CX0 "is_flat" 3 FE (Q0 K BT XL)):FnOk P w K mg base (CX1 P w base) 4 f fd FE (Q0 K BT (ZF c)):=by
 refine F.okDX OP (fun ds PP Ed h=>?_) (fun cdv A outer s H E M bg ds PP Ed hr hE hS_=>?_)
 · obtain ⟨d,rfl,hd,hno,h0,h1⟩:=h
   rfl
 · obtain ⟨d,rfl,hd,hno,h0,h1⟩:=hS_
   refine ⟨_,(J8 (AG (JB (CY (by rfl) (Q3 zg0 hr.m rfl (J0 (jdv 0) J3)) (fun _=>rfl))) (J8 (LG hE (LA Y.o_NoFlat rfl))) Y3)),?_⟩
   walk_at "g"
   refine ⟨by show (AO d&&true)=true;rw [hno];rfl,d,rfl,hd,hno,?_⟩
   cases hl:EO d
   · walk_at "g"
     exact h0 hl
   · walk_at "g"
     exact h1 hl
noncomputable abbrev RV:Stmt:=top 26
theorem J4b:FnScope ["flat","spot"] ["flat","spot"] (J7 RV):=⟨rfl,rfl,rfl,by decide +kernel,rfl,by decide +kernel,by decide +kernel⟩
noncomputable def UB (c:Cs):DSp:=fun ds P Ed=>∃ (d:D) (s:R4) (n:Nat),ds=[d,s.d]/\tkD d=true/\AO d=true/\(EO d=false->Ed c.NoFlat)/\(EO d=true->∃ fl:R4,d=fl.d/\fl.ok n/\s.ok n/\n<=4000/\P (.int (dot4 fl s)))
theorem J4z {f:Addr} (F:Fun K "worth" "worth" RV f fd) (Z:Bi mg) {c:Cs} (Y:Ex K mg base c) (zg0:Callee P w K mg base (CX1 P w base) "check_flat" 4 FE (Q0 K BT (ZF c))) (zg1:Callee P w K mg base CX0 "products_added" 1 xl4 (Q0 K BT UE)):FnOk P w K mg base (CX1 P w base) 5 f fd ["flat","spot"] (Q0 K BT (UB c)):=by
 refine F.okDX J4b (fun ds PP Ed h=>?_) (fun cdv A outer s H E M bg ds PP Ed hr hE hS_=>?_)
 · obtain ⟨d,t,n,rfl,hd,hno,h0,h1⟩:=h
   rfl
 · obtain ⟨d,t,n,rfl,hd,hno,h0,h1⟩:=hS_
   refine ⟨_,(J6 (JC (CN hE MC zg0 hr.m rfl (J0 (jdv 0) J3)))
    (J8 (V3 (Q3 zg1 hr.m rfl (J0 (jdv 0) (J0 (jdv 1) J3)))))),?_⟩
   walk_at "g"
   refine ⟨by show (AO d&&true)=true;rw [hno];rfl,d,rfl,hd,hno,h0,fun hl=>?_⟩
   obtain ⟨fl,rfl,fo,so,hn,hP⟩:=h1 hl
   walk_at "g"
   exact Or.inr ⟨fl,t,n,rfl,fo,so,hn,hP⟩
noncomputable def MB (a b:R4)(wa wb:Int):R4:=⟨b.x*wa - a.x*wb,b.y*wa - a.y*wb,b.z*wa - a.z*wb,b.w*wa - a.w*wb⟩
noncomputable def crs (a b:R4)(wa wb:Int):R4:=OW (MB a b wa wb)
theorem Q1c {a b:R4}{wa wb:Int}{m n:Nat}(ao:a.ok m)(bo:b.ok m)(h1:Bd n wa)(h2:Bd n wb):(MB a b wa wb).ok (m+n+1):=by
 refine ⟨?_,?_,?_,?_⟩
 · exact (Bd.sub (Bd.mul bo.x h1) (Bd.mul ao.x h2)).mono (by omega)
 · exact (Bd.sub (Bd.mul bo.y h1) (Bd.mul ao.y h2)).mono (by omega)
 · exact (Bd.sub (Bd.mul bo.z h1) (Bd.mul ao.z h2)).mono (by omega)
 · exact (Bd.sub (Bd.mul bo.w h1) (Bd.mul ao.w h2)).mono (by omega)
noncomputable abbrev FK:Stmt:=top 27
noncomputable abbrev J3p:List Str:=["one","one_worth","other","other_worth"]
theorem VN:FnScope J3p J3p (J7 FK):=⟨rfl,rfl,rfl,by decide +kernel,rfl,by decide +kernel,by decide +kernel⟩
noncomputable def J1s:DSp:=fun ds P _=>∃ (a b:R4) (wa wb:Int) (m n:Nat),ds=[a.d,.int wa,b.d,.int wb]/\a.ok m/\b.ok m/\Bd n wa/\Bd n wb/\m+n<=4000/\(MB a b wa wb).w≠0/\P (crs a b wa wb).d
noncomputable abbrev xc7 (P:Program) (w:World) (K:Fg) (mg:Str → Option Value) (base:Heap) (f:Addr) (cdv:Value) (A:Around) (outer:List Env) (s:Shared) (H:Hp) (E:XK):Cx:=BO CX0 P w K mg base J3p "crossing" (J7 FK) f cdv A outer s H E
noncomputable abbrev J8b:List Str:=["at","other","one_worth","one","other_worth"]
theorem WC {f:Addr} (F:Fun K "crossing" "crossing" FK f fd) (Z:Bi mg) {c:Cs} (Y:Ex K mg base c) (zg0:Callee P w K mg base CX0 "lowest_terms" 2 ["numbers"] (Q0 K BT J7p)):FnOk P w K mg base CX0 3 f fd J3p (Q0 K BT J1s):=by
 refine F.okD VN (fun ds PP Ed h=>?_) (fun cdv A outer s H E M bg ds PP Ed hr hS_=>?_)
 · obtain ⟨a,b,wa,wb,m,n,rfl,ao,bo,h1,h2,hn,h0,hP⟩:=h
   rfl
 · obtain ⟨a,b,wa,wb,m,n,rfl,ao,bo,h1,h2,hn,h0,hP⟩:=hS_
   refine ⟨_,(J8 (V3 (Q3 zg0 hr.m rfl (J0 (NW (GU K (by rfl)) XE rfl Z.tuple_ OI (J0 (BK (X:=(xc7 P w K mg base f cdv A outer s H E).nox) (Z2 0) (KB (X:=(xc7 P w K mg base f cdv A outer s H E).nox) (N':=J8b) (map:=[none,some 2,some 1,some 0,some 3]) (by rfl) (by rfl) (by decide +kernel) (by rfl) ⟨⟨rfl,rfl,rfl,by walk_at "o"⟩,⟨⟨rfl,rfl,rfl,by walk_at "o"⟩,⟨⟨rfl,rfl,rfl,by walk_at "o"⟩,⟨⟨rfl,rfl,rfl,by walk_at "o"⟩,True.intro⟩⟩⟩⟩ (gkeep_name rfl) fun cl0 C0 fp0 s0 H0=>⟨(pg_name (X:=(Q9 (xc7 P w K mg base f cdv A outer s H E).nox J8b _ cl0 C0 fp0 s0 H0)) (i:=0) (BA J8b (by decide +kernel)) rfl (by walk_at "o")),AS,(Q5 (X:=(Q9 (xc7 P w K mg base f cdv A outer s H E).nox J8b _ cl0 C0 fp0 s0 H0)) AJ Z6 (Q5 V1 AH (Q6 (Q7 K (by rfl)) Q8 (jdv 1) (jdv 0) (fun _ _=>rfl)) (jdv 2)) (Q5 V1 AH (Q6 (Q7 K (by rfl)) Q8 (jdv 3) (jdv 0) (fun _ _=>rfl)) (jdv 4)))⟩) (CZ rfl Z.range_ (J0 J4 J3))) J3)) J3)))),?_⟩
   have co:=Q1c ao bo h1 h2
   obtain ⟨a1,a2,a3,a4⟩:=ao
   obtain ⟨b1,b2,b3,b4⟩:=bo
   walk_at "g"
   repeat (walk_at "gc")
   exact ⟨[(MB a b wa wb).x,(MB a b wa wb).y,(MB a b wa wb).z],(MB a b wa wb).w,m+n+1,rfl,h0,Q3m h0 co.w,by omega,Nat.le_of_ble_eq_true rfl,hP⟩
noncomputable def J1 (a b:R4)(wa wb:Int):List R4:=(if 0<=wa then [a] else [])++(if wa*wb<0 then [crs a b wa wb] else [])
noncomputable def keptN (f:F3)(fl:R4):Nat->List R4
 | 0=>[]
 | 1=>J1 f.a f.b (dot4 fl f.a) (dot4 fl f.b)
 | 2=>J1 f.a f.b (dot4 fl f.a) (dot4 fl f.b)++J1 f.b f.c (dot4 fl f.b) (dot4 fl f.c)
 | _=>J1 f.a f.b (dot4 fl f.a) (dot4 fl f.b)++J1 f.b f.c (dot4 fl f.b) (dot4 fl f.c)++J1 f.c f.a (dot4 fl f.c) (dot4 fl f.a)
noncomputable abbrev keptL (f:F3)(fl:R4):List R4:=keptN f fl 3
theorem KP (a b:R4)(wa wb:Int):(J1 a b wa wb).length<=2:=by
 unfold J1
 split<;>split<;>simp
theorem DQ (f:F3)(fl:R4)(n:Nat):(keptN f fl n).length<=6:=by
 have h1:=KP f.a f.b (dot4 fl f.a) (dot4 fl f.b)
 have h2:=KP f.b f.c (dot4 fl f.b) (dot4 fl f.c)
 have h3:=KP f.c f.a (dot4 fl f.c) (dot4 fl f.a)
 unfold keptN
 split<;>(try simp only [List.length_append,List.length_nil])<;>omega
theorem LO {a b:R4}{wa wb:Int}(ha:0<a.w)(hb:0<b.w)(h:wa*wb<0):(MB a b wa wb).w≠0:=by
 show b.w*wa - a.w*wb≠0
 rcases Int.lt_trichotomy wa 0 with q|q|q
 · have wp:0<wb:=by
    apply Decidable.byContradiction
    intro n
    have:=Int.mul_nonneg_of_nonpos_of_nonpos (show wa<=0 by omega) (show wb<=0 by omega)
    omega
   have e1:=Int.mul_neg_of_pos_of_neg hb q
   have e2:=Int.mul_pos ha wp
   omega
 · rw [q,Int.zero_mul] at h;omega
 · have wp:wb<0:=by
    apply Decidable.byContradiction
    intro n
    have:=Int.mul_nonneg (show 0<=wa by omega) (show 0<=wb by omega)
    omega
   have e1:=Int.mul_pos hb q
   have e2:=Int.mul_neg_of_pos_of_neg ha wp
   omega
theorem J0i:∀ ks:List R4,EZ (ks.map R4.d)=true
 | []=>rfl
 | k::ks=>by
   rw [List.map_cons]
   unfold EZ
   rw [J0i ks]
   rfl
noncomputable abbrev DM:Stmt:=top 28
theorem AT:FnScope ["face","flat","worths","kept","here","there"] ["face","flat"] (J7 DM):=⟨rfl,rfl,rfl,by decide +kernel,rfl,by decide +kernel,by decide +kernel⟩
noncomputable def J7q:DSO:=fun ds P _=>∃ (f:F3) (fl:R4),ds=[f.d,fl.d]/\f.ok 640/\f.pr/\fl.ok 640/\EN fl=true/\P ((keptL f fl).map R4.d)
noncomputable abbrev xc8 (P:Program) (w:World) (K:Fg) (mg:Str → Option Value) (base:Heap) (f:Addr) (cdv:Value) (A:Around) (outer:List Env) (s:Shared) (H:Hp) (E:XK):Cx:=BO CX0 P w K mg base ["face","flat","worths","kept","here","there"] "kept_spots" (J7 DM) f cdv A outer s H E
theorem OR {f:Addr} (F:Fun K "kept_spots" "kept_spots" DM f fd) (Z:Bi mg) {c:Cs} (Y:Ex K mg base c) (zg0:Callee P w K mg base (CX1 P w base) "worth" 5 ["flat","spot"] (Q0 K BT (UB c))) (zg1:Callee P w K mg base CX0 "crossing" 3 J3p (Q0 K BT J1s)):FnOk P w K mg base CX0 6 f fd ["face","flat"] (Y7 K BT J7q):=by
 refine F.okDO AT (fun ds PP Ed h=>?_) (fun cdv A outer s H E M bg ds PP Ed hr hS_=>?_)
 · obtain ⟨f3,fl,rfl,fo,fp,lo,hf,hP⟩:=h
   rfl
 · obtain ⟨f3,fl,rfl,fo,fp,lo,hf,hP⟩:=hS_
   refine ⟨_,(J6 (WG (X:=(xc8 P w K mg base f cdv A outer s H E).nox) false (i:=2) AT.nd rfl (by walk_at "o") (Z2 0) (KB (X:=(xc8 P w K mg base f cdv A outer s H E).nox) (N':=["corner","flat"]) (map:=[none,some 1]) (by rfl) (by rfl) (by decide +kernel) (by rfl) ⟨⟨rfl,rfl,rfl,by walk_at "o"⟩,True.intro⟩ (gkeep_name rfl) fun cl0 C0 fp0 s0 H0=>⟨(pg_name (X:=(Q9 (xc8 P w K mg base f cdv A outer s H E).nox ["corner","flat"] _ cl0 C0 fp0 s0 H0)) (i:=0) (BA ["corner","flat"] (by decide +kernel)) rfl (by walk_at "o")),AS,(CN (X:=(Q9 (xc8 P w K mg base f cdv A outer s H E).nox ["corner","flat"] _ cl0 C0 fp0 s0 H0)) EA EX zg0 hr.m rfl (J0 (jdv 1) (J0 (jdv 0) J3)))⟩) (AL (by rfl) (jdv 0)))
    (J6 (GN (i:=3) AT.nd rfl (by walk_at "o") J3)
    (J6 (BW (CO [4,5]) PassesOwn.never rfl (AL (by rfl) (Y1 (J0 (Y1 (J0 J4 (J0 J4 J3))) (J0 (Y1 (J0 J4 (J0 J4 J3))) (J0 (Y1 (J0 J4 (J0 J4 J3))) J3))))) (PG.or (BE (n:=2) K (by rfl) (by rfl) (J9 (pg_name (i:=4) AT.nd rfl (by walk_at "o")) (J9 (pg_name (i:=5) AT.nd rfl (by walk_at "o")) Y6))) (BF (n:=2) K (by rfl) (by rfl) (J9 (pg_name (i:=4) AT.nd rfl (by walk_at "o")) (J9 (pg_name (i:=5) AT.nd rfl (by walk_at "o")) Y6)))) (J6 (AG (AD Q6u HG (Q6 (Q7 K (by rfl)) Q8 (jdv 2) (jdv 4) (fun _ _=>rfl)) J4 (Z0 _)) (J8 (IE (i:=3) (by rfl) rfl (by walk_at "v") (J0 (Q6 (Q7 K (by rfl)) Q8 (jdv 0) (jdv 4) (fun _ _=>rfl)) J3) (QH PySem.F.plainAttrs_list PySem.F.slot_list_append PySem.F.type_list_append LC (pv 3) (JA.h (J0 (Q6 (Q7 K (by rfl)) Q8 (jdv 0) (jdv 4) (fun _ _=>rfl)) J3))))) Y3)
    (J8 (AG (AD QI HG (Q5 V1 AH (Q6 (Q7 K (by rfl)) Q8 (jdv 2) (jdv 4) (fun _ _=>rfl)) (Q6 (Q7 K (by rfl)) Q8 (jdv 2) (jdv 5) (fun _ _=>rfl))) J4 (Z0 _)) (J8 (IE (i:=3) (by rfl) rfl (by walk_at "v") (J0 (Q3 zg1 hr.m rfl (J0 (Q6 (Q7 K (by rfl)) Q8 (jdv 0) (jdv 4) (fun _ _=>rfl)) (J0 (Q6 (Q7 K (by rfl)) Q8 (jdv 2) (jdv 4) (fun _ _=>rfl)) (J0 (Q6 (Q7 K (by rfl)) Q8 (jdv 0) (jdv 5) (fun _ _=>rfl)) (J0 (Q6 (Q7 K (by rfl)) Q8 (jdv 2) (jdv 5) (fun _ _=>rfl)) J3))))) J3) (QH PySem.F.plainAttrs_list PySem.F.slot_list_append PySem.F.type_list_append LC (pv 3) (JA.h (J0 (Q3 zg1 hr.m rfl (J0 (Q6 (Q7 K (by rfl)) Q8 (jdv 0) (jdv 4) (fun _ _=>rfl)) (J0 (Q6 (Q7 K (by rfl)) Q8 (jdv 2) (jdv 4) (fun _ _=>rfl)) (J0 (Q6 (Q7 K (by rfl)) Q8 (jdv 0) (jdv 5) (fun _ _=>rfl)) (J0 (Q6 (Q7 K (by rfl)) Q8 (jdv 2) (jdv 5) (fun _ _=>rfl)) J3))))) J3))))) Y3))) QR)
    (J8 (NV (jdv 3)))))),?_⟩
   have tk:tkD fl.d=true:=rfl
   have oa:=fo.a
   have ob:=fo.b
   have oc:=fo.c
   have pa:=fp.a.w
   have pb:=fp.b.w
   have pc:=fp.c.w
   have ba:Bd 1290 (dot4 fl f3.a):=(JV lo oa).mono (by decide)
   have bb:Bd 1290 (dot4 fl f3.b):=(JV lo ob).mono (by decide)
   have bc:Bd 1290 (dot4 fl f3.c):=(JV lo oc).mono (by decide)
   have nf:EO fl.d=false->False:=fun z=>by
    have:EN fl=false:=z
    rw [hf] at this;cases this
   walk_at "g"
   walk_at "gc"
   refine ⟨fl.d,f3.a,640,rfl,rfl,rfl,nf,fun _=>⟨fl,rfl,lo,oa.mono (by decide),by decide,?_⟩⟩
   walk_at "g"
   refine ⟨fl.d,f3.b,640,rfl,rfl,rfl,nf,fun _=>⟨fl,rfl,lo,ob.mono (by decide),by decide,?_⟩⟩
   walk_at "g"
   refine ⟨fl.d,f3.c,640,rfl,rfl,rfl,nf,fun _=>⟨fl,rfl,lo,oc.mono (by decide),by decide,?_⟩⟩
   walk_at "g"
   refine ⟨fun i ρ=>∃ v4 v5,ρ=[some f3.d,some fl.d,some (.lst [.int (dot4 fl f3.a),.int (dot4 fl f3.b),.int (dot4 fl f3.c)]),some (.own ((keptN f3 fl i).map R4.d)),v4,v5],⟨_,_,rfl⟩,?_,?_⟩
   · rintro i x ρ e ⟨v4,v5,rfl⟩
     match i,e with
     | 0,e=>?_
     | 1,e=>?_
     | 2,e=>?_
     all_goals cases e
     · have es:keptN f3 fl 1=keptN f3 fl 0++J1 f3.a f3.b (dot4 fl f3.a) (dot4 fl f3.b):=rfl
       have hk:=DQ f3 fl 0
       generalize keptN f3 fl 0=pre at es hk ⊢
       rw [es]
       walk_at "g"
       by_cases h1:0<=(dot4 fl f3.a)
       · refine IfP.t (by simp [h1]) ?_
         walk_at "g"
         refine And.intro (by simp [L2.plain];omega) ?_
         walk_at "g"
         by_cases h2:(dot4 fl f3.a)*(dot4 fl f3.b)<0
         · refine IfP.t (by simp [h2]) ?_
           walk_at "g"
           refine ⟨f3.a,f3.b,(dot4 fl f3.a),(dot4 fl f3.b),640,1290,rfl,oa,ob,ba,bb,by decide,LO pa pb h2,?_⟩
           walk_at "g"
           refine And.intro (by simp [L2.plain];omega) ?_
           have ek:J1 f3.a f3.b (dot4 fl f3.a) (dot4 fl f3.b)=[f3.a,crs f3.a f3.b (dot4 fl f3.a) (dot4 fl f3.b)]:=by unfold J1;rw [if_pos h1,if_pos h2];rfl
           rw [ek,List.map_append,show List.map R4.d [f3.a,crs f3.a f3.b (dot4 fl f3.a) (dot4 fl f3.b)]=[R4.d f3.a]++[R4.d (crs f3.a f3.b (dot4 fl f3.a) (dot4 fl f3.b))] from rfl,<- List.append_assoc]
           walk_at "g"
           exact ⟨_,_,rfl⟩
         · refine IfP.f (by simp [h2]) ?_
           walk_at "g"
           have ek:J1 f3.a f3.b (dot4 fl f3.a) (dot4 fl f3.b)=[f3.a]:=by unfold J1;rw [if_pos h1,if_neg h2];rfl
           rw [ek,List.map_append]
           exact ⟨_,_,rfl⟩
       · refine IfP.f (by simp [h1]) ?_
         walk_at "g"
         by_cases h2:(dot4 fl f3.a)*(dot4 fl f3.b)<0
         · refine IfP.t (by simp [h2]) ?_
           walk_at "g"
           refine ⟨f3.a,f3.b,(dot4 fl f3.a),(dot4 fl f3.b),640,1290,rfl,oa,ob,ba,bb,by decide,LO pa pb h2,?_⟩
           walk_at "g"
           refine And.intro (by simp [L2.plain];omega) ?_
           have ek:J1 f3.a f3.b (dot4 fl f3.a) (dot4 fl f3.b)=[crs f3.a f3.b (dot4 fl f3.a) (dot4 fl f3.b)]:=by unfold J1;rw [if_neg h1,if_pos h2];rfl
           rw [ek,List.map_append]
           walk_at "g"
           exact ⟨_,_,rfl⟩
         · refine IfP.f (by simp [h2]) ?_
           walk_at "g"
           have ek:J1 f3.a f3.b (dot4 fl f3.a) (dot4 fl f3.b)=[]:=by unfold J1;rw [if_neg h1,if_neg h2];rfl
           rw [ek,List.append_nil]
           exact ⟨_,_,rfl⟩
     · have es:keptN f3 fl 2=keptN f3 fl 1++J1 f3.b f3.c (dot4 fl f3.b) (dot4 fl f3.c):=rfl
       have hk:=DQ f3 fl 1
       generalize keptN f3 fl 1=pre at es hk ⊢
       rw [es]
       walk_at "g"
       by_cases h1:0<=(dot4 fl f3.b)
       · refine IfP.t (by simp [h1]) ?_
         walk_at "g"
         refine And.intro (by simp [L2.plain];omega) ?_
         walk_at "g"
         by_cases h2:(dot4 fl f3.b)*(dot4 fl f3.c)<0
         · refine IfP.t (by simp [h2]) ?_
           walk_at "g"
           refine ⟨f3.b,f3.c,(dot4 fl f3.b),(dot4 fl f3.c),640,1290,rfl,ob,oc,bb,bc,by decide,LO pb pc h2,?_⟩
           walk_at "g"
           refine And.intro (by simp [L2.plain];omega) ?_
           have ek:J1 f3.b f3.c (dot4 fl f3.b) (dot4 fl f3.c)=[f3.b,crs f3.b f3.c (dot4 fl f3.b) (dot4 fl f3.c)]:=by unfold J1;rw [if_pos h1,if_pos h2];rfl
           rw [ek,List.map_append,show List.map R4.d [f3.b,crs f3.b f3.c (dot4 fl f3.b) (dot4 fl f3.c)]=[R4.d f3.b]++[R4.d (crs f3.b f3.c (dot4 fl f3.b) (dot4 fl f3.c))] from rfl,<- List.append_assoc]
           walk_at "g"
           exact ⟨_,_,rfl⟩
         · refine IfP.f (by simp [h2]) ?_
           walk_at "g"
           have ek:J1 f3.b f3.c (dot4 fl f3.b) (dot4 fl f3.c)=[f3.b]:=by unfold J1;rw [if_pos h1,if_neg h2];rfl
           rw [ek,List.map_append]
           exact ⟨_,_,rfl⟩
       · refine IfP.f (by simp [h1]) ?_
         walk_at "g"
         by_cases h2:(dot4 fl f3.b)*(dot4 fl f3.c)<0
         · refine IfP.t (by simp [h2]) ?_
           walk_at "g"
           refine ⟨f3.b,f3.c,(dot4 fl f3.b),(dot4 fl f3.c),640,1290,rfl,ob,oc,bb,bc,by decide,LO pb pc h2,?_⟩
           walk_at "g"
           refine And.intro (by simp [L2.plain];omega) ?_
           have ek:J1 f3.b f3.c (dot4 fl f3.b) (dot4 fl f3.c)=[crs f3.b f3.c (dot4 fl f3.b) (dot4 fl f3.c)]:=by unfold J1;rw [if_neg h1,if_pos h2];rfl
           rw [ek,List.map_append]
           walk_at "g"
           exact ⟨_,_,rfl⟩
         · refine IfP.f (by simp [h2]) ?_
           walk_at "g"
           have ek:J1 f3.b f3.c (dot4 fl f3.b) (dot4 fl f3.c)=[]:=by unfold J1;rw [if_neg h1,if_neg h2];rfl
           rw [ek,List.append_nil]
           exact ⟨_,_,rfl⟩
     · have es:keptN f3 fl 3=keptN f3 fl 2++J1 f3.c f3.a (dot4 fl f3.c) (dot4 fl f3.a):=rfl
       have hk:=DQ f3 fl 2
       generalize keptN f3 fl 2=pre at es hk ⊢
       rw [es]
       walk_at "g"
       by_cases h1:0<=(dot4 fl f3.c)
       · refine IfP.t (by simp [h1]) ?_
         walk_at "g"
         refine And.intro (by simp [L2.plain];omega) ?_
         walk_at "g"
         by_cases h2:(dot4 fl f3.c)*(dot4 fl f3.a)<0
         · refine IfP.t (by simp [h2]) ?_
           walk_at "g"
           refine ⟨f3.c,f3.a,(dot4 fl f3.c),(dot4 fl f3.a),640,1290,rfl,oc,oa,bc,ba,by decide,LO pc pa h2,?_⟩
           walk_at "g"
           refine And.intro (by simp [L2.plain];omega) ?_
           have ek:J1 f3.c f3.a (dot4 fl f3.c) (dot4 fl f3.a)=[f3.c,crs f3.c f3.a (dot4 fl f3.c) (dot4 fl f3.a)]:=by unfold J1;rw [if_pos h1,if_pos h2];rfl
           rw [ek,List.map_append,show List.map R4.d [f3.c,crs f3.c f3.a (dot4 fl f3.c) (dot4 fl f3.a)]=[R4.d f3.c]++[R4.d (crs f3.c f3.a (dot4 fl f3.c) (dot4 fl f3.a))] from rfl,<- List.append_assoc]
           walk_at "g"
           exact ⟨_,_,rfl⟩
         · refine IfP.f (by simp [h2]) ?_
           walk_at "g"
           have ek:J1 f3.c f3.a (dot4 fl f3.c) (dot4 fl f3.a)=[f3.c]:=by unfold J1;rw [if_pos h1,if_neg h2];rfl
           rw [ek,List.map_append]
           exact ⟨_,_,rfl⟩
       · refine IfP.f (by simp [h1]) ?_
         walk_at "g"
         by_cases h2:(dot4 fl f3.c)*(dot4 fl f3.a)<0
         · refine IfP.t (by simp [h2]) ?_
           walk_at "g"
           refine ⟨f3.c,f3.a,(dot4 fl f3.c),(dot4 fl f3.a),640,1290,rfl,oc,oa,bc,ba,by decide,LO pc pa h2,?_⟩
           walk_at "g"
           refine And.intro (by simp [L2.plain];omega) ?_
           have ek:J1 f3.c f3.a (dot4 fl f3.c) (dot4 fl f3.a)=[crs f3.c f3.a (dot4 fl f3.c) (dot4 fl f3.a)]:=by unfold J1;rw [if_neg h1,if_pos h2];rfl
           rw [ek,List.map_append]
           walk_at "g"
           exact ⟨_,_,rfl⟩
         · refine IfP.f (by simp [h2]) ?_
           walk_at "g"
           have ek:J1 f3.c f3.a (dot4 fl f3.c) (dot4 fl f3.a)=[]:=by unfold J1;rw [if_neg h1,if_neg h2];rfl
           rw [ek,List.append_nil]
           exact ⟨_,_,rfl⟩
   · rintro ρ ⟨v4,v5,rfl⟩
     walk_at "g"
     exact hP
noncomputable def trD (ks:List D):D->D
 | .int n=>.tup [(ks[0]?).getD .non,(ks[n.toNat]?).getD .non,(ks[n.toNat+1]?).getD .non]
 | d=>d
noncomputable def WT (ks:List D):List D:=(BI 1 ((ks.length:Int) - 1 - 1).toNat).map (trD ks)
theorem J7a {ks:List D}{x:D}(h:x∈WT ks):∃ a b c,a∈ks/\b∈ks/\c∈ks/\x=.tup [a,b,c]:=by
 unfold WT at h
 obtain ⟨d,hd,rfl⟩:=List.mem_map.mp h
 obtain ⟨i,hi⟩:=List.getElem?_of_mem hd
 obtain ⟨rfl,hlt⟩:=AU hi
 have e:(1+(i:Int)).toNat=1+i:=by omega
 have l0:0<ks.length:=by omega
 have l1:1+i<ks.length:=by omega
 have l2:1+i+1<ks.length:=by omega
 refine ⟨ks[0],ks[1+i],ks[1+i+1],List.getElem_mem _,List.getElem_mem _,List.getElem_mem _,?_⟩
 simp only [trD,e,List.getElem?_eq_getElem l0,List.getElem?_eq_getElem l1,List.getElem?_eq_getElem l2,Option.getD_some]
theorem J7b (ks:List D):(WT ks).length<=ks.length:=by
 unfold WT
 rw [List.length_map,rangeD_len]
 omega
theorem J0h {p:D->Prop}(hp:∀ d,p d->noL d=true):∀ {xs:List D},(∀ d∈xs,p d)->EZ xs=true
 | [],_=>rfl
 | x::xs,h=>by
   unfold EZ
   rw [hp x (h x (List.mem_cons_self ..)),J0h hp fun d hd=>h d (List.mem_cons_of_mem _ hd)]
   rfl
theorem J7c {f:F3}{fl:R4}{x:D}(h:x∈WT ((keptL f fl).map R4.d)):∃ a b c:R4,a∈keptL f fl/\b∈keptL f fl/\c∈keptL f fl/\x=.tup [a.d,b.d,c.d]:=by
 obtain ⟨a,b,c,ha,hb,hc,rfl⟩:=J7a h
 obtain ⟨a',ha',rfl⟩:=List.mem_map.mp ha
 obtain ⟨b',hb',rfl⟩:=List.mem_map.mp hb
 obtain ⟨c',hc',rfl⟩:=List.mem_map.mp hc
 exact ⟨a',b',c',ha',hb',hc',rfl⟩
noncomputable def cutF (fl:R4)(f:F3):List D:=WT ((keptL f fl).map R4.d)
theorem J5c (f:F3)(fl:R4):EZ (cutF fl f)=true:=J0h (p:=fun d=>∃ a b c:R4,d=.tup [a.d,b.d,c.d]) (fun d ⟨a,b,c,e⟩=>by rw [e];rfl) fun d hd=>by
 obtain ⟨a,b,c,_,_,_,e⟩:=J7c hd
 exact ⟨a,b,c,e⟩
theorem WU (f:F3)(fl:R4):(cutF fl f).length<=6:=by
 have h1:=J7b ((keptL f fl).map R4.d)
 have h2:(keptL f fl).length<=6:=DQ f fl 3
 rw [List.length_map] at h1
 unfold cutF
 omega
theorem J7f {ρc:Ev}{ks:List D}{P:List D->Prop}{gd:D->Ev->(Ev->Prop)->Prop}{de:DE}(hlen:ks.length<=150)(hs:∀ (n:Nat) a b c Q,ks[0]?=some a->ks[n]?=some b->ks[n+1]?=some c->Q (.tup [a,b,c])->gd (.int n) ρc fun ρ1=>de ρ1 Q)(hP:P (WT ks)):compI gd OF de ρc (BI 1 ((ks.length:Int) - 1 - 1).toNat) P:=by
 refine GT (trD ks) (fun x Q hx q=>?_) (fun x hx=>?_) hP
 · obtain ⟨i,hi⟩:=List.getElem?_of_mem hx
   obtain ⟨rfl,hlt⟩:=AU hi
   have e:(1+(i:Int)).toNat=1+i:=by omega
   have l0:0<ks.length:=by omega
   have l1:1+i<ks.length:=by omega
   have l2:1+i+1<ks.length:=by omega
   simp only [trD,e,List.getElem?_eq_getElem l0,List.getElem?_eq_getElem l1,List.getElem?_eq_getElem l2,Option.getD_some] at q
   have e2:(1+(i:Int))=((1+i:Nat):Int):=by omega
   rw [e2]
   exact hs (1+i) _ _ _ Q (List.getElem?_eq_getElem l0) (List.getElem?_eq_getElem l1) (List.getElem?_eq_getElem l2) q
 · obtain ⟨i,hi⟩:=List.getElem?_of_mem hx
   obtain ⟨rfl,hlt⟩:=AU hi
   rfl
noncomputable abbrev J0b:Stmt:=top 29
theorem J4c:FnScope ["face","flat","kept"] ["face","flat"] (J7 J0b):=⟨rfl,rfl,rfl,by decide +kernel,rfl,by decide +kernel,by decide +kernel⟩
theorem NJ {ks:List R4}:∀ d∈ks.map R4.d,L2.plain d=true:=fun d hd=>by
 obtain ⟨r,_,rfl⟩:=List.mem_map.mp hd
 rfl
noncomputable def Q1x:DSO:=fun ds P _=>∃ (f:F3) (fl:R4),ds=[f.d,fl.d]/\f.ok 640/\f.pr/\fl.ok 640/\EN fl=true/\P (cutF fl f)
noncomputable abbrev xc9 (P:Program) (w:World) (K:Fg) (mg:Str → Option Value) (base:Heap) (f:Addr) (cdv:Value) (A:Around) (outer:List Env) (s:Shared) (H:Hp) (E:XK):Cx:=BO CX0 P w K mg base ["face","flat","kept"] "cut" (J7 J0b) f cdv A outer s H E
theorem Q3i {f:Addr} (F:Fun K "cut" "cut" J0b f fd) (Z:Bi mg) {c:Cs} (Y:Ex K mg base c) (zg0:Callee P w K mg base CX0 "kept_spots" 6 ["face","flat"] (Y7 K BT J7q)):FnOk P w K mg base CX0 7 f fd ["face","flat"] (Y7 K BT Q1x):=by
 refine F.okDO J4c (fun ds PP Ed h=>?_) (fun cdv A outer s H E M bg ds PP Ed hr hS_=>?_)
 · obtain ⟨f3,fl,rfl,fo,fp,lo,hf,hP⟩:=h
   rfl
 · obtain ⟨f3,fl,rfl,fo,fp,lo,hf,hP⟩:=hS_
   refine ⟨_,(J6 (V2 (i:=2) J4c.nd rfl (by walk_at "o") (DY zg0 hr.m rfl (J0 (jdv 0) (J0 (jdv 1) J3))))
    (J8 (J5p (X:=(xc9 P w K mg base f cdv A outer s H E).nox) (Z2 0) (KB (X:=(xc9 P w K mg base f cdv A outer s H E).nox) (N':=["at","kept"]) (map:=[none,some 2]) (by rfl) (by rfl) (by decide +kernel) (by rfl) ⟨⟨rfl,rfl,rfl,by walk_at "o"⟩,True.intro⟩ (gkeep_name rfl) fun cl0 C0 fp0 s0 H0=>⟨(pg_name (X:=(Q9 (xc9 P w K mg base f cdv A outer s H E).nox ["at","kept"] _ cl0 C0 fp0 s0 H0)) (i:=0) (BA ["at","kept"] (by decide +kernel)) rfl (by walk_at "o")),AS,(Y1 (X:=(Q9 (xc9 P w K mg base f cdv A outer s H E).nox ["at","kept"] _ cl0 C0 fp0 s0 H0)) (J0 (Q6 (Q7 K (by rfl)) Q8 (jdv 1) J4 (fun _ _=>rfl)) (J0 (Q6 (Q7 K (by rfl)) Q8 (jdv 1) (jdv 0) (fun _ _=>rfl)) (J0 (Q6 (Q7 K (by rfl)) Q8 (jdv 1) (Q5 AX Z6 (jdv 0) J4) (fun _ _=>rfl)) J3))))⟩) (IF rfl Z.range_ (J0 J4 (J0 (Q5 AJ Z6 (Z7 (DF K (by rfl)) ZB rfl Z.len_ TW (J0 (jdv 2) J3)) J4) J3)))))),?_⟩
   have hk:(keptL f3 fl).length<=6:=DQ f3 fl 3
   walk_at "g"
   refine ⟨f3,fl,rfl,fo,fp,lo,hf,J0i _,?_⟩
   unfold cutF at hP
   generalize keptL f3 fl=ks at *
   walk_at "g"
   refine And.intro (by rw [List.length_map];omega) ?_
   refine And.intro (by rw [rangeD_len,List.length_map];omega) ?_
   refine J7f (ks:=(ks.map R4.d)) (by simp;omega) (fun n a b c Q e1 e2 e3 q=>?_) ?_
   · have i1:=KC (j:=0) e1
     have i2:=KC e2
     have i3:atI (ks.map R4.d) ((n:Int)+1)=some c:=by rw [show ((n:Int)+1)=((n+1:Nat):Int) by omega];exact KC e3
     have p1:L2.plain a=true:=NJ a (List.mem_of_getElem? e1)
     have p2:L2.plain b=true:=NJ b (List.mem_of_getElem? e2)
     have p3:L2.plain c=true:=NJ c (List.mem_of_getElem? e3)
     walk_at "g"
     rw [show atI (ks.map R4.d) 0=some a from i1]
     walk_at "g"
     rw [i2]
     walk_at "g"
     rw [i3]
     walk_at "g"
     refine And.intro (by show (L2.plain a&&(L2.plain b&&(L2.plain c&&true))&&_)=true;rw [p1,p2,p3];rfl) ?_
     exact q
   exact hP
noncomputable abbrev KU:Stmt:=top 30
theorem HP:FnScope ["faces","flat","pieces","face"] ["faces","flat"] (J7 KU):=⟨rfl,rfl,rfl,by decide +kernel,rfl,by decide +kernel,by decide +kernel⟩
noncomputable def cutA (fl:R4)(fs:List F3):List D:=fs.flatMap (cutF fl)
theorem JZ (fl:R4):∀ fs:List F3,(cutA fl fs).length<=6*fs.length
 | []=>by simp [cutA]
 | f::fs=>by
   have h1:=JZ fl fs
   have h2:=WU f fl
   unfold cutA at h1 ⊢
   rw [List.flatMap_cons,List.length_append,List.length_cons]
   omega
theorem J3h (fl:R4)(fs:List F3)(i:Nat)(f:F3)(h:fs[i]?=some f):cutA fl (fs.take (i+1))=cutA fl (fs.take i)++cutF fl f:=by
 unfold cutA
 rw [List.take_add_one,h,Option.toList_some,List.flatMap_append]
 simp
theorem LI {fs:List F3}{i:Nat}{x:D}(h:(fs.map F3.d)[i]?=some x):∃ f,fs[i]?=some f/\x=f.d:=by
 rw [List.getElem?_map] at h
 cases e:fs[i]? with
 | none=>rw [e] at h;cases h
 | some f=>rw [e] at h;exact ⟨f,rfl,(Option.some.inj h).symm⟩
noncomputable def XO:DSO:=fun ds P _=>∃ (fs:List F3) (fl:R4),ds=[.lst (fs.map F3.d),fl.d]/\(∀ f∈fs,f.ok 640/\f.pr)/\fs.length<=150/\fl.ok 640/\EN fl=true/\P (cutA fl fs)
theorem YN {f:Addr} (F:Fun K "cut_all" "cut_all" KU f fd) (Z:Bi mg) {c:Cs} (Y:Ex K mg base c) (zg0:Callee P w K mg base (CX1 P w base) "check_flat" 4 FE (Q0 K BT (ZF c))) (zg1:Callee P w K mg base CX0 "cut" 7 ["face","flat"] (Y7 K BT Q1x)):FnOk P w K mg base CX0 8 f fd ["faces","flat"] (Y7 K BT XO):=by
 refine F.okDO HP (fun ds PP Ed h=>?_) (fun cdv A outer s H E M bg ds PP Ed hr hS_=>?_)
 · obtain ⟨fs,fl,rfl,hfs,hl,lo,hf,hP⟩:=h
   rfl
 · obtain ⟨fs,fl,rfl,hfs,hl,lo,hf,hP⟩:=hS_
   refine ⟨_,(J6 (JC (CN EA EX zg0 hr.m rfl (J0 (jdv 1) J3)))
    (J6 (GN (i:=2) HP.nd rfl (by walk_at "o") J3)
    (J6 (BW (Z2 3) PassesOwn.never rfl (AL (by rfl) (jdv 0)) (pg_name (i:=3) HP.nd rfl (by walk_at "o")) (J8 (IC (i:=2) (by rfl) (J0 (DY zg1 hr.m rfl (J0 (jdv 3) (J0 (jdv 1) J3))) J3) (QH PySem.F.plainAttrs_list PySem.F.slot_list_extend PySem.F.type_list_extend LB (pv 2) (JA.h (J0 (DY zg1 hr.m rfl (J0 (jdv 3) (J0 (jdv 1) J3))) J3))))))
    (J8 (NV (jdv 2)))))),?_⟩
   have nf:EO fl.d=false->False:=fun z=>by
    have:EN fl=false:=z
    rw [hf] at this;cases this
   walk_at "g"
   refine ⟨fl.d,rfl,rfl,rfl,nf,fun _=>?_⟩
   walk_at "g"
   refine ⟨fun i ρ=>∃ v3,ρ=[some (.lst (fs.map F3.d)),some fl.d,some (.own (cutA fl (fs.take i))),v3],⟨_,rfl⟩,?_,?_⟩
   · rintro i x ρ e ⟨v3,rfl⟩
     obtain ⟨f3,ef,rfl⟩:=LI e
     obtain ⟨fo,fp⟩:=hfs f3 (List.mem_of_getElem? ef)
     have hlen:=JZ fl (fs.take i)
     have htl:(fs.take i).length<=150:=by rw [List.length_take];omega
     have hcl:=WU f3 fl
     have es:=J3h fl fs i f3 ef
     walk_at "g"
     refine ⟨f3,fl,rfl,fo,fp,lo,hf,J5c _ _,?_⟩
     rw [es]
     generalize cutA fl (fs.take i)=pre at *
     generalize cutF fl f3=new at *
     walk_at "g"
     refine And.intro (by omega) ?_
     exact ⟨_,rfl⟩
   · rintro ρ ⟨v3,rfl⟩
     rw [List.length_map,List.take_length]
     walk_at "g"
     exact hP
noncomputable def F3.t (f:F3):T3:=⟨f.a.x,f.a.y,f.a.z,f.a.w,f.b.x,f.b.y,f.b.z,f.b.w,f.c.x,f.c.y,f.c.z,f.c.w⟩
theorem F3.t_ok {f:F3}{n:Nat}(h:f.ok n):f.t.ok n:=⟨h.a.x,h.a.y,h.a.z,h.a.w,h.b.x,h.b.y,h.b.z,h.b.w,h.c.x,h.c.y,h.c.z,h.c.w⟩
noncomputable def F3.top (f:F3):Int:=f.t.tn
noncomputable def F3.bot (f:F3):Int:=f.a.w*f.b.w*f.c.w
theorem F3.top_bd {f:F3}{n:Nat}(h:f.ok n):Bd (3*n+5) f.top:=LM h.a.x h.a.y h.a.w h.b.x h.b.y h.b.w h.c.x h.c.y h.c.w
theorem F3.bot_bd {f:F3}{n:Nat}(h:f.ok n):Bd (3*n) f.bot:=(Bd.mul (Bd.mul h.a.w h.b.w) h.c.w).mono (by omega)
theorem F3.bot_pos {f:F3}(ha:0<f.a.w)(hb:0<f.b.w)(hc:0<f.c.w):0<f.bot:=Int.mul_pos (Int.mul_pos ha hb) hc
noncomputable def frT (t b:Int):Int:=t.fdiv (low [t] b)
noncomputable def frB (t b:Int):Int:=b.fdiv (low [t] b)
noncomputable abbrev frD (t b:Int):D:=t2 (frT t b) (frB t b)
theorem JH {t b:Int}(h:b≠0):0<frB t b/\Int.gcd (frT t b) (frB t b)=1/\frT t b*b=t*frB t b/\(frT t b).natAbs<=t.natAbs/\(frB t b).natAbs<=b.natAbs:=by
 obtain ⟨p,q,e1,e2,q0,hg,he,l1,l2⟩:=J5h (top:=t) h
 unfold frT frB
 rw [e1,e2]
 exact ⟨q0,hg,he,l1,l2⟩
theorem LR {a b c d:Int}(hb:0<b)(hd:0<d)(h1:Int.gcd a b=1)(h2:Int.gcd c d=1)(h:a*d=c*b):a=c/\b=d:=by
 have c1:b.natAbs ∣ d.natAbs:=by
  have e:b.natAbs ∣ a.natAbs*d.natAbs:=⟨c.natAbs,by rw [<- Int.natAbs_mul,h,Int.natAbs_mul,Nat.mul_comm]⟩
  refine Nat.Coprime.dvd_of_dvd_mul_left ?_ e
  rw [Nat.coprime_comm]
  exact h1
 have c2:d.natAbs ∣ b.natAbs:=by
  have e:d.natAbs ∣ c.natAbs*b.natAbs:=⟨a.natAbs,by rw [<- Int.natAbs_mul,<- h,Int.natAbs_mul,Nat.mul_comm]⟩
  refine Nat.Coprime.dvd_of_dvd_mul_left ?_ e
  rw [Nat.coprime_comm]
  exact h2
 have e:=Nat.dvd_antisymm c1 c2
 have eb:b=d:=by omega
 subst eb
 exact ⟨Int.eq_of_mul_eq_mul_right (by omega) h,rfl⟩
theorem J0q {t b t' b':Int}(h:b≠0)(h':b'≠0)(e:t*b'=t'*b):frT t b=frT t' b'/\frB t b=frB t' b':=by
 obtain ⟨q0,hg,he,_⟩:=JH (t:=t) h
 obtain ⟨q0',hg',he',_⟩:=JH (t:=t') h'
 refine LR q0 q0' hg hg' ?_
 generalize frT t b=x at *
 generalize frB t b=y at *
 generalize frT t' b'=x' at *
 generalize frB t' b'=y' at *
 have nz:b*b'≠0:=Int.mul_ne_zero h h'
 refine Int.eq_of_mul_eq_mul_right nz ?_
 grind
theorem WM {t b t' b':Int}(h:b≠0)(h':b'≠0)(e:t*b'=t'*b):frD t b=frD t' b':=by
 obtain ⟨e1,e2⟩:=J0q h h' e
 show t2 _ _=t2 _ _
 rw [e1,e2]
theorem Q0e {p q:Int}(hq:0<q)(hg:Int.gcd p q=1):frT p q=p/\frB p q=q:=by
 obtain ⟨q0,hg',he,_⟩:=JH (t:=p) (b:=q) (by omega)
 exact LR q0 hq hg' hg he
noncomputable abbrev YB:Stmt:=top 23
theorem FI:FnScope ["face","a","b","c"] ["face"] (J7 YB):=⟨rfl,rfl,rfl,by decide +kernel,rfl,by decide +kernel,by decide +kernel⟩
noncomputable def J7u:DSp:=fun ds P _=>∃ (f:F3) (n:Nat),ds=[f.d]/\f.ok n/\n<=1420/\0<f.bot/\P (frD f.top f.bot)
theorem J9k {f:Addr} (F:Fun K "area" "area" YB f fd) (Z:Bi mg) {c:Cs} (Y:Ex K mg base c) (zg0:Callee P w K mg base CX0 "fraction" 3 xl7 (Q0 K BT UG)) (zg1:Callee P w K mg base CX0 "turn" 2 ["face"] (Q0 K BT UC)):FnOk P w K mg base CX0 4 f fd ["face"] (Q0 K BT J7u):=by
 refine F.okD FI (fun ds PP Ed h=>?_) (fun cdv A outer s H E M bg ds PP Ed hr hS_=>?_)
 · obtain ⟨f3,n,rfl,fo,hn,hb,hP⟩:=h
   rfl
 · obtain ⟨f3,n,rfl,fo,hn,hb,hP⟩:=hS_
   refine ⟨_,(J6 (DD (CO [1,2,3]) (jdv 0) (PG.or (BE (n:=3) K (by rfl) (by rfl) (J9 (pg_name (i:=1) FI.nd rfl (by walk_at "o")) (J9 (pg_name (i:=2) FI.nd rfl (by walk_at "o")) (J9 (pg_name (i:=3) FI.nd rfl (by walk_at "o")) Y6)))) (BF (n:=3) K (by rfl) (by rfl) (J9 (pg_name (i:=1) FI.nd rfl (by walk_at "o")) (J9 (pg_name (i:=2) FI.nd rfl (by walk_at "o")) (J9 (pg_name (i:=3) FI.nd rfl (by walk_at "o")) Y6))))))
    (J8 (V3 (Q3 zg0 hr.m rfl (J0 (Q3 zg1 hr.m rfl (J0 (jdv 0) J3)) (J0 (Q5 V1 AH (Q5 V1 AH (Q6 (Q7 K (by rfl)) Q8 (jdv 1) J4 (fun _ _=>rfl)) (Q6 (Q7 K (by rfl)) Q8 (jdv 2) J4 (fun _ _=>rfl))) (Q6 (Q7 K (by rfl)) Q8 (jdv 3) J4 (fun _ _=>rfl))) J3)))))),?_⟩
   have bb:=F3.bot_bd fo
   obtain ⟨a1,a2,a3,a4⟩:=id fo.a
   obtain ⟨b1,b2,b3,b4⟩:=id fo.b
   obtain ⟨c1,c2,c3,c4⟩:=id fo.c
   walk_at "g"
   refine ⟨f3.t,n,rfl,F3.t_ok fo,by omega,?_⟩
   walk_at "g"
   exact ⟨f3.top,f3.bot,3*n,rfl,by omega,Q3m (by omega) bb,by omega,hP⟩
theorem J5j {r:R4}(h:0<r.w):OW ⟨-r.x,-r.y,-r.z,-r.w⟩=OW r:=by
 have e:low [-r.x,-r.y,-r.z] (-r.w) = -low [r.x,r.y,r.z] r.w:=by
  unfold low
  rw [if_pos (by omega),if_neg (by omega)]
  simp [GQ,Int.gcd_neg]
 unfold OW
 simp only [e,Int.neg_fdiv_neg]
noncomputable def IG (a b:R4)(wa wb:Int):R4:=⟨absI wb*a.x+absI wa*b.x,absI wb*a.y+absI wa*b.y,absI wb*a.z+absI wa*b.z,absI wb*a.w+absI wa*b.w⟩
theorem SO {wa wb:Int}(h:wa*wb<0):(0<wa/\wb<0)\/(wa<0/\0<wb):=by
 rcases Int.lt_trichotomy wa 0 with q|q|q
 · right
   refine ⟨q,?_⟩
   apply Decidable.byContradiction
   intro n
   have:=Int.mul_nonneg_of_nonpos_of_nonpos (show wa<=0 by omega) (show wb<=0 by omega)
   omega
 · rw [q,Int.zero_mul] at h;omega
 · left
   refine ⟨q,?_⟩
   apply Decidable.byContradiction
   intro n
   have:=Int.mul_nonneg (show 0<=wa by omega) (show 0<=wb by omega)
   omega
theorem V6 {a b:R4}{wa wb:Int}(ha:0<a.w)(hb:0<b.w)(h:wa*wb<0):0<(IG a b wa wb).w:=by
 show 0<absI wb*a.w+absI wa*b.w
 have h1:0<absI wb:=by unfold absI;rcases SO h with q|q<;>split<;>omega
 have h2:0<absI wa:=by unfold absI;rcases SO h with q|q<;>split<;>omega
 have:=Int.mul_pos h1 ha
 have:=Int.mul_pos h2 hb
 omega
theorem MN {a b:R4}{wa wb:Int}(ha:0<a.w)(hb:0<b.w)(h:wa*wb<0):OW (IG a b wa wb)=crs a b wa wb:=by
 have hw:=V6 ha hb h
 unfold crs
 rcases SO h with ⟨q1,q2⟩|⟨q1,q2⟩
 · have e1:absI wb = -wb:=by unfold absI;rw [if_pos q2]
   have e2:absI wa=wa:=by unfold absI;rw [if_neg (by omega)]
   have:IG a b wa wb=MB a b wa wb:=by
    unfold IG MB
    rw [e1,e2]
    congr 1<;>grind
   rw [this]
 · have e1:absI wb=wb:=by unfold absI;rw [if_neg (by omega)]
   have e2:absI wa = -wa:=by unfold absI;rw [if_pos q1]
   have:MB a b wa wb=⟨-(IG a b wa wb).x,-(IG a b wa wb).y,-(IG a b wa wb).z,-(IG a b wa wb).w⟩:=by
    unfold IG MB
    simp only [e1,e2]
    congr 1<;>grind
   rw [this,J5j hw]
theorem Q1b {a b:R4}{wa wb:Int}{m n:Nat}(ao:a.ok m)(bo:b.ok m)(h1:Bd n wa)(h2:Bd n wb):(IG a b wa wb).ok (m+n+1):=by
 have k1:=UA h1
 have k2:=UA h2
 refine ⟨?_,?_,?_,?_⟩
 · exact (Bd.add (Bd.mul k2 ao.x) (Bd.mul k1 bo.x)).mono (by omega)
 · exact (Bd.add (Bd.mul k2 ao.y) (Bd.mul k1 bo.y)).mono (by omega)
 · exact (Bd.add (Bd.mul k2 ao.z) (Bd.mul k1 bo.z)).mono (by omega)
 · exact (Bd.add (Bd.mul k2 ao.w) (Bd.mul k1 bo.w)).mono (by omega)
theorem Q5e {a b:R4}{wa wb:Int}{m n:Nat}(ao:a.ok m)(bo:b.ok m)(h1:Bd n wa)(h2:Bd n wb)(ha:0<a.w)(hb:0<b.w)(h:wa*wb<0):(crs a b wa wb).ok (m+n+1)/\Prim (crs a b wa wb):=by
 rw [<- MN ha hb h]
 have hw:=V6 ha hb h
 exact ⟨(SR hw).2.2 _ (Q1b ao bo h1 h2),(SR hw).1⟩
noncomputable def GL (r:R4):R4:=⟨0 - r.x,0 - r.y,0 - r.z,0 - r.w⟩
theorem VI {a b c a' b' c':R4}(ha:Scal a a')(hb:Scal b b')(hc:Scal c c'):F3.top ⟨a',b',c'⟩*F3.bot ⟨a,b,c⟩=F3.top ⟨a,b,c⟩*F3.bot ⟨a',b',c'⟩:=by
 have hm:∀ (k x0 x1 x2 y0 y1 y2 z0 z1 z2:Int),k*det x0 x1 x2 y0 y1 y2 z0 z1 z2=det (x0*k) (x1*k) (x2*k) y0 y1 y2 z0 z1 z2:=by intros;unfold det;grind
 have hm2:∀ (k x0 x1 x2 y0 y1 y2 z0 z1 z2:Int),k*det x0 x1 x2 y0 y1 y2 z0 z1 z2=det x0 x1 x2 (y0*k) (y1*k) (y2*k) z0 z1 z2:=by intros;unfold det;grind
 have hm3:∀ (k x0 x1 x2 y0 y1 y2 z0 z1 z2:Int),k*det x0 x1 x2 y0 y1 y2 z0 z1 z2=det x0 x1 x2 y0 y1 y2 (z0*k) (z1*k) (z2*k):=by intros;unfold det;grind
 show det a'.x a'.y a'.w b'.x b'.y b'.w c'.x c'.y c'.w*(a.w*b.w*c.w)=det a.x a.y a.w b.x b.y b.w c.x c.y c.w*(a'.w*b'.w*c'.w)
 have e1:det a'.x a'.y a'.w b'.x b'.y b'.w c'.x c'.y c'.w*(a.w*b.w*c.w)=c.w*(b.w*(a.w*det a'.x a'.y a'.w b'.x b'.y b'.w c'.x c'.y c'.w)):=by
  generalize det a'.x a'.y a'.w b'.x b'.y b'.w c'.x c'.y c'.w=d
  grind
 have e2:det a.x a.y a.w b.x b.y b.w c.x c.y c.w*(a'.w*b'.w*c'.w)=c'.w*(b'.w*(a'.w*det a.x a.y a.w b.x b.y b.w c.x c.y c.w)):=by
  generalize det a.x a.y a.w b.x b.y b.w c.x c.y c.w=d
  grind
 rw [e1,e2,hm,hm2,hm3,hm,hm2,hm3,ha.x,ha.y,hb.x,hb.y,hc.x,hc.y,Int.mul_comm a'.w a.w,Int.mul_comm b'.w b.w,Int.mul_comm c'.w c.w]
theorem FD (fl s:R4):dot4 (GL fl) s = -dot4 fl s:=by
 unfold GL dot4
 grind
theorem XI (n:Int):absI (-n)=absI n:=by
 unfold absI
 split<;>split<;>omega
theorem V7 {a b:R4}{wa wb:Int}(ha:0<a.w)(hb:0<b.w)(h:wa*wb<0):crs a b (-wa) (-wb)=crs a b wa wb:=by
 have h' : -wa * -wb<0:=by rw [Int.neg_mul_neg];exact h
 rw [<- MN ha hb h,<- MN ha hb h']
 unfold IG
 rw [XI,XI]
theorem J5 {a b:R4}{wa wb:Int}(ha:0<a.w)(hb:0<b.w)(h:wa*wb<0):Scal (IG a b wa wb) (crs a b wa wb):=by
 rw [<- MN ha hb h]
 exact (SR (V6 ha hb h)).2.1
theorem Q4 {a:R4}(h:0<a.w):Scal a a:=⟨rfl,rfl,rfl,h⟩
noncomputable def fan (k:R4):List R4->List F3
 | x::y::r=>⟨k,x,y⟩::fan k (y::r)
 | _=>[]
noncomputable def JY:List R4->List F3
 | k::r=>fan k r
 | []=>[]
theorem Q5c:∀ ks:List R4,ks.length<=6->WT (ks.map R4.d)=(JY ks).map F3.d
 | [],_=>rfl
 | [_],_=>rfl
 | [_,_],_=>rfl
 | [_,_,_],_=>rfl
 | [_,_,_,_],_=>rfl
 | [_,_,_,_,_],_=>rfl
 | [_,_,_,_,_,_],_=>rfl
 | _::_::_::_::_::_::_::_,h=>by simp only [List.length_cons] at h;omega
theorem Q5d (f:F3)(fl:R4):cutF fl f=(JY (keptL f fl)).map F3.d:=Q5c _ (DQ f fl 3)
theorem Y4 {a b:R4}{wa wb:Int}(h1:0<=wa)(h2:0<=wb):J1 a b wa wb=[a]:=by
 unfold J1
 have:=Int.mul_nonneg h1 h2
 rw [if_pos h1,if_neg (by omega)]
 rfl
theorem V4 {a b:R4}{wa wb:Int}(h1:wa=0):J1 a b wa wb=[a]:=by
 unfold J1
 rw [h1,Int.zero_mul]
 rfl
theorem AA {a b:R4}{wa wb:Int}(h1:0<wa)(h2:wb<0):J1 a b wa wb=[a,crs a b wa wb]:=by
 unfold J1
 have:=Int.mul_neg_of_pos_of_neg h1 h2
 rw [if_pos (by omega),if_pos this]
 rfl
theorem AB {a b:R4}{wa wb:Int}(h1:wa<0)(h2:0<wb):J1 a b wa wb=[crs a b wa wb]:=by
 unfold J1
 have:=Int.mul_neg_of_neg_of_pos h1 h2
 rw [if_neg (by omega),if_pos this]
 rfl
theorem Y5 {a b:R4}{wa wb:Int}(h1:wa<0)(h2:wb<=0):J1 a b wa wb=[]:=by
 unfold J1
 have:=Int.mul_nonneg_of_nonpos_of_nonpos (show wa<=0 by omega) h2
 rw [if_neg (by omega),if_neg (by omega)]
 rfl
noncomputable def HF (t r:Int×Int):Int×Int:=(t.1*r.2+r.1*t.2,t.2*r.2)
noncomputable abbrev BG (u v:Int)(a b:R4):R4:=⟨u*a.x+v*b.x,u*a.y+v*b.y,u*a.z+v*b.z,u*a.w+v*b.w⟩
theorem MG (f:F3)(u1 u2 u3:Int):F3.top ⟨f.a,f.b,(BG u3 u2 f.b f.c)⟩=u2*f.top:=by unfold F3.top F3.t T3.tn det;grind
theorem ZP (f:F3)(u1 u2 u3:Int):F3.top ⟨f.a,(BG u3 u2 f.b f.c),(BG u1 u3 f.c f.a)⟩=u3*u1*f.top:=by unfold F3.top F3.t T3.tn det;grind
theorem ZL (f:F3)(u1 u2 u3:Int):F3.top ⟨(BG u3 u2 f.b f.c),f.c,(BG u1 u3 f.c f.a)⟩=u3*u3*f.top:=by unfold F3.top F3.t T3.tn det;grind
theorem ZT (f:F3)(u1 u2 u3:Int):F3.top ⟨f.a,f.b,(BG u1 u3 f.c f.a)⟩=u1*f.top:=by unfold F3.top F3.t T3.tn det;grind
theorem ZO (f:F3)(u1 u2 u3:Int):F3.top ⟨f.b,f.c,(BG u1 u3 f.c f.a)⟩=u3*f.top:=by unfold F3.top F3.t T3.tn det;grind
theorem ZR (f:F3)(u1 u2 u3:Int):F3.top ⟨f.a,(BG u2 u1 f.a f.b),(BG u3 u2 f.b f.c)⟩=u1*u2*f.top:=by unfold F3.top F3.t T3.tn det;grind
theorem MF (f:F3)(u1 u2 u3:Int):F3.top ⟨f.a,(BG u3 u2 f.b f.c),f.c⟩=u3*f.top:=by unfold F3.top F3.t T3.tn det;grind
theorem ZN (f:F3)(u1 u2 u3:Int):F3.top ⟨(BG u2 u1 f.a f.b),f.b,(BG u3 u2 f.b f.c)⟩=u2*u2*f.top:=by unfold F3.top F3.t T3.tn det;grind
theorem ZS (f:F3)(u1 u2 u3:Int):F3.top ⟨f.a,(BG u2 u1 f.a f.b),f.c⟩=u1*f.top:=by unfold F3.top F3.t T3.tn det;grind
theorem ME (f:F3)(u1 u2 u3:Int):F3.top ⟨(BG u2 u1 f.a f.b),f.b,f.c⟩=u2*f.top:=by unfold F3.top F3.t T3.tn det;grind
theorem ZQ (f:F3)(u1 u2 u3:Int):F3.top ⟨f.a,(BG u2 u1 f.a f.b),(BG u1 u3 f.c f.a)⟩=u1*u1*f.top:=by unfold F3.top F3.t T3.tn det;grind
theorem ZM (f:F3)(u1 u2 u3:Int):F3.top ⟨(BG u2 u1 f.a f.b),f.c,(BG u1 u3 f.c f.a)⟩=u1*u3*f.top:=by unfold F3.top F3.t T3.tn det;grind
theorem F3.bot_ne {f:F3}(h:0<f.bot):f.bot≠0:=by omega
theorem J8t (a b c:R4):F3.top ⟨b,c,a⟩=F3.top ⟨a,b,c⟩:=by unfold F3.top F3.t T3.tn det;grind
noncomputable def tri (a b c:R4):T3:=⟨a.x,a.y,a.z,a.w,b.x,b.y,b.z,b.w,c.x,c.y,c.z,c.w⟩
noncomputable def T3.sg (t:T3)(px py:Int):Int:=if t.has px py then sgn t.tn else 0
noncomputable def CC (x y z:Int):Int:=if x≠0/\y=x/\z=x then x else 0
noncomputable def dd (a b:R4)(x y w:Int):Int:=det a.x a.y a.w b.x b.y b.w x y w
theorem Q0u (a b:R4)(x y w:Int):dd b a x y w = -dd a b x y w:=by unfold dd det;grind
theorem Q4t (a b c n:R4)(x y w:Int):dd a b x y w*dd c n x y w+dd c a x y w*dd b n x y w+dd b c x y w*dd a n x y w=0:=by unfold dd det;grind
noncomputable def R4.in (r:R4)(M:Int):Prop:=(r.x.natAbs:Int)<=M/\(r.y.natAbs:Int)<=M/\(r.z.natAbs:Int)<=M/\(r.w.natAbs:Int)<=M
theorem TC {a b:R4}{px py M:Int}(hw:0<a.w)(hM:1<=M)(ha:a.in M)(hb:b.in M):sgn (dd a b (nX px M) (nY py M) (nW M))=sgn (shd a.x a.y a.w b.x b.y b.w px py):=by
 obtain ⟨a1,a2,a3,a4⟩:=ha
 obtain ⟨b1,b2,b3,b4⟩:=hb
 refine DP (az:=a.z) (bz:=b.z) hw hM fun n hn=>?_
 simp only [List.mem_cons,List.not_mem_nil,or_false] at hn
 rcases hn with e|e|e|e|e|e|e|e<;>rw [e]<;>assumption
theorem RS {a b c:R4}{px py M:Int}(ha:0<a.w)(hb:0<b.w)(hc:0<c.w)(hM:1<=M)(ia:a.in M)(ib:b.in M)(ic:c.in M):(tri a b c).sg px py=CC (sgn (dd a b (nX px M) (nY py M) (nW M))) (sgn (dd b c (nX px M) (nY py M) (nW M))) (sgn (dd c a (nX px M) (nY py M) (nW M))):=by
 rw [TC ha hM ia ib,TC hb hM ib ic,TC hc hM ic ia]
 unfold T3.sg CC
 by_cases h:(tri a b c).has px py
 · have h':sgn (shd a.x a.y a.w b.x b.y b.w px py)≠0/\sgn (shd b.x b.y b.w c.x c.y c.w px py)=sgn (shd a.x a.y a.w b.x b.y b.w px py)/\sgn (shd c.x c.y c.w a.x a.y a.w px py)=sgn (shd a.x a.y a.w b.x b.y b.w px py):=h
   rw [if_pos h,T3.has_sgn ⟨ha,hb,hc⟩ h,if_pos h']
   rfl
 · have h':¬ (sgn (shd a.x a.y a.w b.x b.y b.w px py)≠0/\sgn (shd b.x b.y b.w c.x c.y c.w px py)=sgn (shd a.x a.y a.w b.x b.y b.w px py)/\sgn (shd c.x c.y c.w a.x a.y a.w px py)=sgn (shd a.x a.y a.w b.x b.y b.w px py)):=h
   rw [if_neg h,if_neg h']
theorem XX {a b c:R4}{px py M:Int}(ha:0<a.w)(hb:0<b.w)(hM:1<=M)(ia:a.in M)(ib:b.in M)(x y w:Int)(h:sgn (dd a b (nX px M) (nY py M) (nW M))=0):sgn (dd a c x y w)=sgn (dd b c x y w):=by
 rw [TC ha hM ia ib] at h
 have h:=EG.mp h
 unfold shd at h
 split at h
 · split at h
   · rename_i h1 h2
     have e:dd a c x y w*b.w=dd b c x y w*a.w:=by
      have q1:a.x*b.w=b.x*a.w:=by rw [Int.mul_comm b.x a.w];omega
      have q2:a.y*b.w=b.y*a.w:=by rw [Int.mul_comm b.y a.w];omega
      unfold dd det
      grind
     have e1:=EF (dd a c x y w) hb
     have e2:=EF (dd b c x y w) ha
     rw [<- e1,<- e2,Int.mul_comm b.w,Int.mul_comm a.w,e]
   · rename_i h1 h2
     exact absurd h h2
 · rename_i h1
   exact absurd h h1
theorem sg3 (n:Int):sgn n=1\/sgn n=0\/sgn n = -1:=by have:=Y9 n;omega
theorem VF (a b:Int):sgn (a*b)=sgn a*sgn b:=by
 rcases Y9 a with ⟨h,e⟩|⟨h,e⟩|⟨h,e⟩
 · rw [EF _ h,e,Int.one_mul]
 · rw [h,Int.zero_mul,IL,Int.zero_mul]
 · rw [e,show a*b = -((-a)*b) by rw [Int.neg_mul,Int.neg_neg],NC,EF _ (show 0 < -a by omega)]
   omega
theorem UU:∀ ab bc ca an bn cn:Int,(ab=1\/ab = -1)->(bc=1\/bc = -1)->(ca=1\/ca = -1)->(an=1\/an = -1)->(bn=1\/bn = -1)->(cn=1\/cn = -1)->¬ (ab*cn=1/\ca*bn=1/\bc*an=1)->¬ (ab*cn = -1/\ca*bn = -1/\bc*an = -1)->CC ab bc ca=CC ab bn (-an)+CC bc cn (-bn)+CC ca an (-cn):=by
 intro ab bc ca an bn cn h1 h2 h3 h4 h5 h6 k1 k2
 rcases h1 with rfl|rfl<;>rcases h2 with rfl|rfl<;>rcases h3 with rfl|rfl<;>rcases h4 with rfl|rfl<;>rcases h5 with rfl|rfl<;>rcases h6 with rfl|rfl<;>first|decide|exact absurd (by decide) k1|exact absurd (by decide) k2
theorem J8k {x y z:Int}(h:x+y+z=0)(q1:sgn x=1)(q2:sgn y=1)(q3:sgn z=1):False:=by
 have r1:=Y9 x
 have r2:=Y9 y
 have r3:=Y9 z
 omega
theorem J8l {x y z:Int}(h:x+y+z=0)(q1:sgn x = -1)(q2:sgn y = -1)(q3:sgn z = -1):False:=by
 have r1:=Y9 x
 have r2:=Y9 y
 have r3:=Y9 z
 omega
theorem ng1 {x y:Int}(h : -x=y):x = -y:=by omega
theorem ng2 {x y:Int}(h : -x = -y):x=y:=by omega
theorem pm1 {s:Int}(h:s=1\/s=0\/s = -1)(n:s≠0):s=1\/s = -1:=by omega
theorem Q2m (x y z:Int)(hx:(x=1\/x=0\/x = -1))(hy:(y=1\/y=0\/y = -1))(hz:(z=1\/z=0\/z = -1)):CC 0 x (-x)=CC 0 y (-y)+CC x z (-y)+CC (-x) y (-z):=by
 rcases hx with rfl|rfl|rfl<;>rcases hy with rfl|rfl|rfl<;>rcases hz with rfl|rfl|rfl<;>decide
theorem Q2k (x y z:Int)(hx:(x=1\/x=0\/x = -1))(hy:(y=1\/y=0\/y = -1))(hz:(z=1\/z=0\/z = -1)):CC x 0 (-x)=CC x z (-y)+CC 0 z (-z)+CC (-x) y (-z):=by
 rcases hx with rfl|rfl|rfl<;>rcases hy with rfl|rfl|rfl<;>rcases hz with rfl|rfl|rfl<;>decide
theorem Q2i (x y z:Int)(hx:(x=1\/x=0\/x = -1))(hy:(y=1\/y=0\/y = -1))(hz:(z=1\/z=0\/z = -1)):CC (-x) x 0=CC (-x) y (-z)+CC x z (-y)+CC 0 z (-z):=by
 rcases hx with rfl|rfl|rfl<;>rcases hy with rfl|rfl|rfl<;>rcases hz with rfl|rfl|rfl<;>decide
theorem Q2l (x y z:Int)(hx:(x=1\/x=0\/x = -1))(hy:(y=1\/y=0\/y = -1))(hz:(z=1\/z=0\/z = -1)):CC (-y) x z=CC (-y) y (-0)+CC x z (-y)+CC z 0 (-z):=by
 rcases hx with rfl|rfl|rfl<;>rcases hy with rfl|rfl|rfl<;>rcases hz with rfl|rfl|rfl<;>decide
theorem Q2j (x y z:Int)(hx:(x=1\/x=0\/x = -1))(hy:(y=1\/y=0\/y = -1))(hz:(z=1\/z=0\/z = -1)):CC x (-z) y=CC x 0 (-x)+CC (-z) z (-0)+CC y x (-z):=by
 rcases hx with rfl|rfl|rfl<;>rcases hy with rfl|rfl|rfl<;>rcases hz with rfl|rfl|rfl<;>decide
theorem Q2h (x y z:Int)(hx:(x=1\/x=0\/x = -1))(hy:(y=1\/y=0\/y = -1))(hz:(z=1\/z=0\/z = -1)):CC x y (-z)=CC x y (-z)+CC y 0 (-y)+CC (-z) z (-0):=by
 rcases hx with rfl|rfl|rfl<;>rcases hy with rfl|rfl|rfl<;>rcases hz with rfl|rfl|rfl<;>decide
theorem Z8 {a b c n:R4}(ha:0<a.w)(hb:0<b.w)(hc:0<c.w)(hn:0<n.w)(px py:Int):(tri a b c).sg px py=(tri a b n).sg px py+(tri b c n).sg px py+(tri c a n).sg px py:=by
 obtain ⟨f,hf⟩:∃ f:Int->Nat,∀ n,f n=n.natAbs:=⟨Int.natAbs,fun _=>rfl⟩
 obtain ⟨M,hM,ia,ib,ic,iN⟩:∃ M:Int,1<=M/\a.in M/\b.in M/\c.in M/\n.in M:=by
  refine ⟨1+f a.x+f a.y+f a.z+f a.w+f b.x+f b.y+f b.z+f b.w+f c.x+f c.y+f c.z+f c.w+f n.x+f n.y+f n.z+f n.w,by omega,?_,?_,?_,?_⟩<;>(unfold R4.in;rw [<- hf,<- hf,<- hf,<- hf];omega)
 rw [RS ha hb hc hM ia ib ic,RS ha hb hn hM ia ib iN,RS hb hc hn hM ib ic iN,RS hc ha hn hM ic ia iN]
 have Z:=fun (p q r:R4) hp hq ip iq=>XX (a:=p) (b:=q) (c:=r) (px:=px) (py:=py) hp hq hM ip iq (nX px M) (nY py M) (nW M)
 have R:=Q4t a b c n (nX px M) (nY py M) (nW M)
 have zab1:=Z a b c ha hb ia ib
 have zab2:=Z a b n ha hb ia ib
 have zbc1:=Z b c a hb hc ib ic
 have zbc2:=Z b c n hb hc ib ic
 have zca1:=Z c a b hc ha ic ia
 have zca2:=Z c a n hc ha ic ia
 have zan1:=Z a n b ha hn ia iN
 have zan2:=Z a n c ha hn ia iN
 have zbn1:=Z b n c hb hn ib iN
 have zbn2:=Z b n a hb hn ib iN
 have zcn1:=Z c n a hc hn ic iN
 have zcn2:=Z c n b hc hn ic iN
 clear Z
 have sw:=fun (p q:R4)=>Q0u p q (nX px M) (nY py M) (nW M)
 simp only [sw a n,sw b n,sw c n,sw a b,sw b c,sw c a,NC] at zab1 zab2 zbc1 zbc2 zca1 zca2 zan1 zan2 zbn1 zbn2 zcn1 zcn2 ⊢
 clear sw
 generalize dd a b (nX px M) (nY py M) (nW M)=Dab at *
 generalize dd b c (nX px M) (nY py M) (nW M)=Dbc at *
 generalize dd c a (nX px M) (nY py M) (nW M)=Dca at *
 generalize dd a n (nX px M) (nY py M) (nW M)=Dan at *
 generalize dd b n (nX px M) (nY py M) (nW M)=Dbn at *
 generalize dd c n (nX px M) (nY py M) (nW M)=Dcn at *
 have k1:¬ (sgn Dab*sgn Dcn=1/\sgn Dca*sgn Dbn=1/\sgn Dbc*sgn Dan=1):=by
  rintro ⟨q1,q2,q3⟩
  rw [<- VF] at q1 q2 q3
  exact J8k R q1 q2 q3
 have k2:¬ (sgn Dab*sgn Dcn = -1/\sgn Dca*sgn Dbn = -1/\sgn Dbc*sgn Dan = -1):=by
  rintro ⟨q1,q2,q3⟩
  rw [<- VF] at q1 q2 q3
  exact J8l R q1 q2 q3
 clear R
 have t1:=sg3 Dab
 have t2:=sg3 Dbc
 have t3:=sg3 Dca
 have t4:=sg3 Dan
 have t5:=sg3 Dbn
 have t6:=sg3 Dcn
 generalize sgn Dab=ab at *
 generalize sgn Dbc=bc at *
 generalize sgn Dca=ca at *
 generalize sgn Dan=an at *
 generalize sgn Dbn=bn at *
 generalize sgn Dcn=cn at *
 clear hf ia ib ic iN hM ha hb hc hn
 simp only [Int.zero_sub] at zab1 zab2 zbc1 zbc2 zca1 zca2 zan1 zan2 zbn1 zbn2 zcn1 zcn2 ⊢
 by_cases e1:ab=0
 · have h1:ca = -bc:=ng1 (zab1 e1)
   have h2:an=bn:=zab2 e1
   rw [h1,h2,e1]
   exact Q2m bc bn cn t2 t5 t6
 by_cases e2:bc=0
 · have h1:ca = -ab:=(zbc1 e2).symm
   have h2:bn=cn:=zbc2 e2
   rw [h1,h2,e2]
   exact Q2k ab an cn t1 t4 t6
 by_cases e3:ca=0
 · have h1:ab = -bc:=(zca1 e3).symm
   have h2:an=cn:=(zca2 e3).symm
   rw [h1,h2,e3]
   exact Q2i bc bn cn t2 t5 t6
 by_cases e4:an=0
 · have h1:ab = -bn:=zan1 e4
   have h2:ca=cn:=ng2 (zan2 e4)
   rw [h1,h2,e4]
   exact Q2l bc bn cn t2 t5 t6
 by_cases e5:bn=0
 · have h1:bc = -cn:=zbn1 e5
   have h2:an=ab:=(ng2 (zbn2 e5)).symm
   rw [h1,h2,e5]
   exact Q2j ab ca cn t1 t3 t6
 by_cases e6:cn=0
 · have h1:ca = -an:=zcn1 e6
   have h2:bn=bc:=(ng2 (zcn2 e6)).symm
   rw [h1,h2,e6]
   exact Q2h ab bc an t1 t2 t4
 exact UU ab bc ca an bn cn (pm1 t1 e1) (pm1 t2 e2) (pm1 t3 e3) (pm1 t4 e4) (pm1 t5 e5) (pm1 t6 e6) k1 k2
theorem AK {t:T3}{px py:Int}(h:t.tn=0):t.sg px py=0:=by
 unfold T3.sg
 split
 · rw [h];exact IL
 · rfl
theorem CF {a b c:R4}{px py:Int}:(tri b c a).sg px py=(tri a b c).sg px py:=by
 have h:(tri b c a).has px py↔(tri a b c).has px py:=by
  have e1:(tri b c a).s1 px py=(tri a b c).s2 px py:=rfl
  have e2:(tri b c a).s2 px py=(tri a b c).s3 px py:=rfl
  have e3:(tri b c a).s3 px py=(tri a b c).s1 px py:=rfl
  unfold T3.has
  rw [e1,e2,e3]
  omega
 have t:(tri b c a).tn=(tri a b c).tn:=J8t a b c
 unfold T3.sg
 rw [t]
 by_cases z:(tri a b c).has px py
 · rw [if_pos z,if_pos (h.mpr z)]
 · rw [if_neg z,if_neg (fun y=>z (h.mp y))]
theorem V0 {u v:R4}{wu wv:Int}(hu:0<u.w)(hv:0<v.w)(h:wu*wv<0):(tri u v (crs u v wu wv)).tn=0:=by
 have e:=VI (Q4 hu) (Q4 hv) (J5 hu hv h)
 have z:F3.top ⟨u,v,IG u v wu wv⟩=0:=by
  unfold F3.top F3.t T3.tn det IG
  generalize absI wu=p
  generalize absI wv=q
  grind
 rw [z,Int.zero_mul] at e
 have b:F3.bot ⟨u,v,IG u v wu wv⟩≠0:=F3.bot_ne (F3.bot_pos hu hv (V6 hu hv h))
 exact (Int.mul_eq_zero.mp e).resolve_right b
noncomputable def kR (k:Int)(r:R4):R4:=⟨k*r.x,k*r.y,k*r.z,k*r.w⟩
theorem SV {a a':R4}(h:Scal a a'):kR a.w a'=kR a'.w a:=by
 unfold kR
 have h1:=h.x
 have h2:=h.y
 have h3:=h.z
 rw [show a.w*a'.x=a'.w*a.x by rw [Int.mul_comm,h1,Int.mul_comm],show a.w*a'.y=a'.w*a.y by rw [Int.mul_comm,h2,Int.mul_comm],show a.w*a'.z=a'.w*a.z by rw [Int.mul_comm,h3,Int.mul_comm],Int.mul_comm a.w a'.w]
theorem J6k (k:Int)(a b c:R4)(px py:Int):(tri (kR k a) b c).top px py=k*(tri a b c).top px py:=by unfold T3.top T3.wA T3.wB T3.wC det tri kR;grind
theorem J6j (k:Int)(a b c:R4)(px py:Int):(tri a (kR k b) c).top px py=k*(tri a b c).top px py:=by unfold T3.top T3.wA T3.wB T3.wC det tri kR;grind
theorem J6i (k:Int)(a b c:R4)(px py:Int):(tri a b (kR k c)).top px py=k*(tri a b c).top px py:=by unfold T3.top T3.wA T3.wB T3.wC det tri kR;grind
theorem J4a {a b c a' b' c':R4}(ha:Scal a a')(hb:Scal b b')(hc:Scal c c')(px py:Int):(tri a' b' c').top px py*F3.bot ⟨a,b,c⟩=(tri a b c).top px py*F3.bot ⟨a',b',c'⟩:=by
 have e:(tri (kR a.w a') (kR b.w b') (kR c.w c')).top px py=(tri (kR a'.w a) (kR b'.w b) (kR c'.w c)).top px py:=by rw [SV ha,SV hb,SV hc]
 rw [J6k,J6j,J6i,J6k,J6j,J6i] at e
 unfold F3.bot
 generalize (tri a' b' c').top px py=d at *
 generalize (tri a b c).top px py=d' at *
 grind
structure PartsD (f:F3)(l:List F3):Prop where
 len:l.length<=3
 sg:∀ px py,f.t.sg px py=(l.map fun p=>p.t.sg px py).sum
 up:∀ p∈l,∃ k B q:Int,0<=k/\0<B/\0<q/\p.top*B=k*f.top*q/\∀ px py,p.t.top px py*B=k*f.t.top px py*q
theorem Y2 {f:F3}{x y z x' y' z':R4}{k:Int}(hx:Scal x x')(hy:Scal y y')(hz:Scal z z')(wx:0<x.w)(wy:0<y.w)(wz:0<z.w)(hk:0<=k)(e:F3.top ⟨x,y,z⟩=k*f.top)(e2:∀ px py,(tri x y z).top px py=k*f.t.top px py):∃ k B q:Int,0<=k/\0<B/\0<q/\F3.top ⟨x',y',z'⟩*B=k*f.top*q/\∀ px py,(F3.t ⟨x',y',z'⟩).top px py*B=k*f.t.top px py*q:=by
 refine ⟨k,F3.bot ⟨x,y,z⟩,F3.bot ⟨x',y',z'⟩,hk,F3.bot_pos wx wy wz,F3.bot_pos hx.w hy.w hz.w,by rw [VI hx hy hz,e],fun px py=>?_⟩
 have:=J4a hx hy hz px py
 rw [e2] at this
 exact this
theorem MM (f:F3)(u1 u2 u3 px py:Int):(tri f.a f.b (BG u3 u2 f.b f.c)).top px py=u2*f.t.top px py:=by unfold T3.top T3.wA T3.wB T3.wC det tri F3.t;grind
theorem J0z (f:F3)(u1 u2 u3 px py:Int):(tri f.a (BG u3 u2 f.b f.c) (BG u1 u3 f.c f.a)).top px py=u3*u1*f.t.top px py:=by unfold T3.top T3.wA T3.wB T3.wC det tri F3.t;grind
theorem J0v (f:F3)(u1 u2 u3 px py:Int):(tri (BG u3 u2 f.b f.c) f.c (BG u1 u3 f.c f.a)).top px py=u3*u3*f.t.top px py:=by unfold T3.top T3.wA T3.wB T3.wC det tri F3.t;grind
theorem J1d (f:F3)(u1 u2 u3 px py:Int):(tri f.a f.b (BG u1 u3 f.c f.a)).top px py=u1*f.t.top px py:=by unfold T3.top T3.wA T3.wB T3.wC det tri F3.t;grind
theorem J0y (f:F3)(u1 u2 u3 px py:Int):(tri f.b f.c (BG u1 u3 f.c f.a)).top px py=u3*f.t.top px py:=by unfold T3.top T3.wA T3.wB T3.wC det tri F3.t;grind
theorem J1b (f:F3)(u1 u2 u3 px py:Int):(tri f.a (BG u2 u1 f.a f.b) (BG u3 u2 f.b f.c)).top px py=u1*u2*f.t.top px py:=by unfold T3.top T3.wA T3.wB T3.wC det tri F3.t;grind
theorem ML (f:F3)(u1 u2 u3 px py:Int):(tri f.a (BG u3 u2 f.b f.c) f.c).top px py=u3*f.t.top px py:=by unfold T3.top T3.wA T3.wB T3.wC det tri F3.t;grind
theorem J0x (f:F3)(u1 u2 u3 px py:Int):(tri (BG u2 u1 f.a f.b) f.b (BG u3 u2 f.b f.c)).top px py=u2*u2*f.t.top px py:=by unfold T3.top T3.wA T3.wB T3.wC det tri F3.t;grind
theorem J1c (f:F3)(u1 u2 u3 px py:Int):(tri f.a (BG u2 u1 f.a f.b) f.c).top px py=u1*f.t.top px py:=by unfold T3.top T3.wA T3.wB T3.wC det tri F3.t;grind
theorem MK (f:F3)(u1 u2 u3 px py:Int):(tri (BG u2 u1 f.a f.b) f.b f.c).top px py=u2*f.t.top px py:=by unfold T3.top T3.wA T3.wB T3.wC det tri F3.t;grind
theorem J1a (f:F3)(u1 u2 u3 px py:Int):(tri f.a (BG u2 u1 f.a f.b) (BG u1 u3 f.c f.a)).top px py=u1*u1*f.t.top px py:=by unfold T3.top T3.wA T3.wB T3.wC det tri F3.t;grind
theorem J0w (f:F3)(u1 u2 u3 px py:Int):(tri (BG u2 u1 f.a f.b) f.c (BG u1 u3 f.c f.a)).top px py=u1*u3*f.t.top px py:=by unfold T3.top T3.wA T3.wB T3.wC det tri F3.t;grind
theorem JU {f:F3}(fp:f.pr)(wa wb wc:Int)(hq:wb*wc<0)(hr:wc*wa<0):PartsD f [⟨f.a,f.b,(crs f.b f.c wb wc)⟩,⟨f.a,(crs f.b f.c wb wc),(crs f.c f.a wc wa)⟩,⟨(crs f.b f.c wb wc),f.c,(crs f.c f.a wc wa)⟩]:=by
 refine ⟨by simp,fun px py=>?_,fun p h=>?_⟩
 · show (tri f.a f.b f.c).sg px py=(tri f.a f.b (crs f.b f.c wb wc)).sg px py+((tri f.a (crs f.b f.c wb wc) (crs f.c f.a wc wa)).sg px py+((tri (crs f.b f.c wb wc) f.c (crs f.c f.a wc wa)).sg px py+0))
   have e0:=Z8 (a:=f.a) (b:=f.b) (c:=f.c) (n:=(crs f.b f.c wb wc)) fp.a.w fp.b.w fp.c.w (J5 fp.b.w fp.c.w hq).w px py
   have z0:(tri f.b f.c (crs f.b f.c wb wc)).sg px py=0:=AK (V0 fp.b.w fp.c.w hq)
   have e1:=Z8 (a:=f.c) (b:=f.a) (c:=(crs f.b f.c wb wc)) (n:=(crs f.c f.a wc wa)) fp.c.w fp.a.w (J5 fp.b.w fp.c.w hq).w (J5 fp.c.w fp.a.w hr).w px py
   have z1:(tri f.c f.a (crs f.c f.a wc wa)).sg px py=0:=AK (V0 fp.c.w fp.a.w hr)
   omega
 · have nn:∀ n:Int,0<=absI n:=fun n=>by unfold absI;split<;>omega
   simp only [List.mem_cons,List.not_mem_nil,or_false] at h
   rcases h with rfl|rfl|rfl
   · exact Y2 (Q4 fp.a.w) (Q4 fp.b.w) (J5 fp.b.w fp.c.w hq) fp.a.w fp.b.w (V6 fp.b.w fp.c.w hq) (nn _) (MG f (absI wa) (absI wb) (absI wc)) (MM f (absI wa) (absI wb) (absI wc))
   · exact Y2 (Q4 fp.a.w) (J5 fp.b.w fp.c.w hq) (J5 fp.c.w fp.a.w hr) fp.a.w (V6 fp.b.w fp.c.w hq) (V6 fp.c.w fp.a.w hr) (Int.mul_nonneg (nn _) (nn _)) (ZP f (absI wa) (absI wb) (absI wc)) (J0z f (absI wa) (absI wb) (absI wc))
   · exact Y2 (J5 fp.b.w fp.c.w hq) (Q4 fp.c.w) (J5 fp.c.w fp.a.w hr) (V6 fp.b.w fp.c.w hq) fp.c.w (V6 fp.c.w fp.a.w hr) (Int.mul_nonneg (nn _) (nn _)) (ZL f (absI wa) (absI wb) (absI wc)) (J0v f (absI wa) (absI wb) (absI wc))
theorem PD {f:F3}(fp:f.pr)(wa wb wc:Int)(hr:wc*wa<0):PartsD f [⟨f.a,f.b,(crs f.c f.a wc wa)⟩,⟨f.b,f.c,(crs f.c f.a wc wa)⟩]:=by
 refine ⟨by simp,fun px py=>?_,fun p h=>?_⟩
 · show (tri f.a f.b f.c).sg px py=(tri f.a f.b (crs f.c f.a wc wa)).sg px py+((tri f.b f.c (crs f.c f.a wc wa)).sg px py+0)
   have e0:=Z8 (a:=f.a) (b:=f.b) (c:=f.c) (n:=(crs f.c f.a wc wa)) fp.a.w fp.b.w fp.c.w (J5 fp.c.w fp.a.w hr).w px py
   have z0:(tri f.c f.a (crs f.c f.a wc wa)).sg px py=0:=AK (V0 fp.c.w fp.a.w hr)
   omega
 · have nn:∀ n:Int,0<=absI n:=fun n=>by unfold absI;split<;>omega
   simp only [List.mem_cons,List.not_mem_nil,or_false] at h
   rcases h with rfl|rfl
   · exact Y2 (Q4 fp.a.w) (Q4 fp.b.w) (J5 fp.c.w fp.a.w hr) fp.a.w fp.b.w (V6 fp.c.w fp.a.w hr) (nn _) (ZT f (absI wa) (absI wb) (absI wc)) (J1d f (absI wa) (absI wb) (absI wc))
   · exact Y2 (Q4 fp.b.w) (Q4 fp.c.w) (J5 fp.c.w fp.a.w hr) fp.b.w fp.c.w (V6 fp.c.w fp.a.w hr) (nn _) (ZO f (absI wa) (absI wb) (absI wc)) (J0y f (absI wa) (absI wb) (absI wc))
theorem JR {f:F3}(fp:f.pr)(wa wb wc:Int)(hp:wa*wb<0)(hq:wb*wc<0):PartsD f [⟨f.a,(crs f.a f.b wa wb),(crs f.b f.c wb wc)⟩,⟨f.a,(crs f.b f.c wb wc),f.c⟩,⟨(crs f.a f.b wa wb),f.b,(crs f.b f.c wb wc)⟩]:=by
 refine ⟨by simp,fun px py=>?_,fun p h=>?_⟩
 · show (tri f.a f.b f.c).sg px py=(tri f.a (crs f.a f.b wa wb) (crs f.b f.c wb wc)).sg px py+((tri f.a (crs f.b f.c wb wc) f.c).sg px py+((tri (crs f.a f.b wa wb) f.b (crs f.b f.c wb wc)).sg px py+0))
   have e0:=Z8 (a:=f.a) (b:=f.b) (c:=f.c) (n:=(crs f.b f.c wb wc)) fp.a.w fp.b.w fp.c.w (J5 fp.b.w fp.c.w hq).w px py
   have z0:(tri f.b f.c (crs f.b f.c wb wc)).sg px py=0:=AK (V0 fp.b.w fp.c.w hq)
   have e1:=Z8 (a:=f.a) (b:=f.b) (c:=(crs f.b f.c wb wc)) (n:=(crs f.a f.b wa wb)) fp.a.w fp.b.w (J5 fp.b.w fp.c.w hq).w (J5 fp.a.w fp.b.w hp).w px py
   have z1:(tri f.a f.b (crs f.a f.b wa wb)).sg px py=0:=AK (V0 fp.a.w fp.b.w hp)
   have r0:(tri f.a (crs f.a f.b wa wb) (crs f.b f.c wb wc)).sg px py=(tri (crs f.b f.c wb wc) f.a (crs f.a f.b wa wb)).sg px py:=CF
   have r1:(tri f.a (crs f.b f.c wb wc) f.c).sg px py=(tri f.c f.a (crs f.b f.c wb wc)).sg px py:=CF
   have r2:(tri f.b (crs f.b f.c wb wc) (crs f.a f.b wa wb)).sg px py=(tri (crs f.a f.b wa wb) f.b (crs f.b f.c wb wc)).sg px py:=CF
   omega
 · have nn:∀ n:Int,0<=absI n:=fun n=>by unfold absI;split<;>omega
   simp only [List.mem_cons,List.not_mem_nil,or_false] at h
   rcases h with rfl|rfl|rfl
   · exact Y2 (Q4 fp.a.w) (J5 fp.a.w fp.b.w hp) (J5 fp.b.w fp.c.w hq) fp.a.w (V6 fp.a.w fp.b.w hp) (V6 fp.b.w fp.c.w hq) (Int.mul_nonneg (nn _) (nn _)) (ZR f (absI wa) (absI wb) (absI wc)) (J1b f (absI wa) (absI wb) (absI wc))
   · exact Y2 (Q4 fp.a.w) (J5 fp.b.w fp.c.w hq) (Q4 fp.c.w) fp.a.w (V6 fp.b.w fp.c.w hq) fp.c.w (nn _) (MF f (absI wa) (absI wb) (absI wc)) (ML f (absI wa) (absI wb) (absI wc))
   · exact Y2 (J5 fp.a.w fp.b.w hp) (Q4 fp.b.w) (J5 fp.b.w fp.c.w hq) (V6 fp.a.w fp.b.w hp) fp.b.w (V6 fp.b.w fp.c.w hq) (Int.mul_nonneg (nn _) (nn _)) (ZN f (absI wa) (absI wb) (absI wc)) (J0x f (absI wa) (absI wb) (absI wc))
theorem PC {f:F3}(fp:f.pr)(wa wb wc:Int)(hp:wa*wb<0):PartsD f [⟨f.a,(crs f.a f.b wa wb),f.c⟩,⟨(crs f.a f.b wa wb),f.b,f.c⟩]:=by
 refine ⟨by simp,fun px py=>?_,fun p h=>?_⟩
 · show (tri f.a f.b f.c).sg px py=(tri f.a (crs f.a f.b wa wb) f.c).sg px py+((tri (crs f.a f.b wa wb) f.b f.c).sg px py+0)
   have e0:=Z8 (a:=f.a) (b:=f.b) (c:=f.c) (n:=(crs f.a f.b wa wb)) fp.a.w fp.b.w fp.c.w (J5 fp.a.w fp.b.w hp).w px py
   have z0:(tri f.a f.b (crs f.a f.b wa wb)).sg px py=0:=AK (V0 fp.a.w fp.b.w hp)
   have r0:(tri f.a (crs f.a f.b wa wb) f.c).sg px py=(tri f.c f.a (crs f.a f.b wa wb)).sg px py:=CF
   have r1:(tri f.b f.c (crs f.a f.b wa wb)).sg px py=(tri (crs f.a f.b wa wb) f.b f.c).sg px py:=CF
   omega
 · have nn:∀ n:Int,0<=absI n:=fun n=>by unfold absI;split<;>omega
   simp only [List.mem_cons,List.not_mem_nil,or_false] at h
   rcases h with rfl|rfl
   · exact Y2 (Q4 fp.a.w) (J5 fp.a.w fp.b.w hp) (Q4 fp.c.w) fp.a.w (V6 fp.a.w fp.b.w hp) fp.c.w (nn _) (ZS f (absI wa) (absI wb) (absI wc)) (J1c f (absI wa) (absI wb) (absI wc))
   · exact Y2 (J5 fp.a.w fp.b.w hp) (Q4 fp.b.w) (Q4 fp.c.w) (V6 fp.a.w fp.b.w hp) fp.b.w fp.c.w (nn _) (ME f (absI wa) (absI wb) (absI wc)) (MK f (absI wa) (absI wb) (absI wc))
theorem JQ {f:F3}(fp:f.pr)(wa wb wc:Int)(hp:wa*wb<0)(hr:wc*wa<0):PartsD f [⟨f.a,(crs f.a f.b wa wb),(crs f.c f.a wc wa)⟩,⟨(crs f.a f.b wa wb),f.b,f.c⟩,⟨(crs f.a f.b wa wb),f.c,(crs f.c f.a wc wa)⟩]:=by
 refine ⟨by simp,fun px py=>?_,fun p h=>?_⟩
 · show (tri f.a f.b f.c).sg px py=(tri f.a (crs f.a f.b wa wb) (crs f.c f.a wc wa)).sg px py+((tri (crs f.a f.b wa wb) f.b f.c).sg px py+((tri (crs f.a f.b wa wb) f.c (crs f.c f.a wc wa)).sg px py+0))
   have e0:=Z8 (a:=f.a) (b:=f.b) (c:=f.c) (n:=(crs f.a f.b wa wb)) fp.a.w fp.b.w fp.c.w (J5 fp.a.w fp.b.w hp).w px py
   have z0:(tri f.a f.b (crs f.a f.b wa wb)).sg px py=0:=AK (V0 fp.a.w fp.b.w hp)
   have e1:=Z8 (a:=f.c) (b:=f.a) (c:=(crs f.a f.b wa wb)) (n:=(crs f.c f.a wc wa)) fp.c.w fp.a.w (J5 fp.a.w fp.b.w hp).w (J5 fp.c.w fp.a.w hr).w px py
   have z1:(tri f.c f.a (crs f.c f.a wc wa)).sg px py=0:=AK (V0 fp.c.w fp.a.w hr)
   have r1:(tri f.b f.c (crs f.a f.b wa wb)).sg px py=(tri (crs f.a f.b wa wb) f.b f.c).sg px py:=CF
   omega
 · have nn:∀ n:Int,0<=absI n:=fun n=>by unfold absI;split<;>omega
   simp only [List.mem_cons,List.not_mem_nil,or_false] at h
   rcases h with rfl|rfl|rfl
   · exact Y2 (Q4 fp.a.w) (J5 fp.a.w fp.b.w hp) (J5 fp.c.w fp.a.w hr) fp.a.w (V6 fp.a.w fp.b.w hp) (V6 fp.c.w fp.a.w hr) (Int.mul_nonneg (nn _) (nn _)) (ZQ f (absI wa) (absI wb) (absI wc)) (J1a f (absI wa) (absI wb) (absI wc))
   · exact Y2 (J5 fp.a.w fp.b.w hp) (Q4 fp.b.w) (Q4 fp.c.w) (V6 fp.a.w fp.b.w hp) fp.b.w fp.c.w (nn _) (ME f (absI wa) (absI wb) (absI wc)) (MK f (absI wa) (absI wb) (absI wc))
   · exact Y2 (J5 fp.a.w fp.b.w hp) (Q4 fp.c.w) (J5 fp.c.w fp.a.w hr) (V6 fp.a.w fp.b.w hp) fp.c.w (V6 fp.c.w fp.a.w hr) (Int.mul_nonneg (nn _) (nn _)) (ZM f (absI wa) (absI wb) (absI wc)) (J0w f (absI wa) (absI wb) (absI wc))
theorem PF {f:F3}(fp:f.pr)(wa wb wc:Int)(hq:wb*wc<0):PartsD f [⟨f.a,f.b,(crs f.b f.c wb wc)⟩,⟨f.a,(crs f.b f.c wb wc),f.c⟩]:=by
 refine ⟨by simp,fun px py=>?_,fun p h=>?_⟩
 · show (tri f.a f.b f.c).sg px py=(tri f.a f.b (crs f.b f.c wb wc)).sg px py+((tri f.a (crs f.b f.c wb wc) f.c).sg px py+0)
   have e0:=Z8 (a:=f.a) (b:=f.b) (c:=f.c) (n:=(crs f.b f.c wb wc)) fp.a.w fp.b.w fp.c.w (J5 fp.b.w fp.c.w hq).w px py
   have z0:(tri f.b f.c (crs f.b f.c wb wc)).sg px py=0:=AK (V0 fp.b.w fp.c.w hq)
   have r1:(tri f.a (crs f.b f.c wb wc) f.c).sg px py=(tri f.c f.a (crs f.b f.c wb wc)).sg px py:=CF
   omega
 · have nn:∀ n:Int,0<=absI n:=fun n=>by unfold absI;split<;>omega
   simp only [List.mem_cons,List.not_mem_nil,or_false] at h
   rcases h with rfl|rfl
   · exact Y2 (Q4 fp.a.w) (Q4 fp.b.w) (J5 fp.b.w fp.c.w hq) fp.a.w fp.b.w (V6 fp.b.w fp.c.w hq) (nn _) (MG f (absI wa) (absI wb) (absI wc)) (MM f (absI wa) (absI wb) (absI wc))
   · exact Y2 (Q4 fp.a.w) (J5 fp.b.w fp.c.w hq) (Q4 fp.c.w) fp.a.w (V6 fp.b.w fp.c.w hq) fp.c.w (nn _) (MF f (absI wa) (absI wb) (absI wc)) (ML f (absI wa) (absI wb) (absI wc))
theorem PB {f:F3}(fp:f.pr)(wa wb wc:Int)(hq:wb*wc<0):PartsD f [⟨f.a,(crs f.b f.c wb wc),f.c⟩,⟨f.a,f.b,(crs f.b f.c wb wc)⟩]:=by
 refine ⟨by simp,fun px py=>?_,fun p h=>?_⟩
 · show (tri f.a f.b f.c).sg px py=(tri f.a (crs f.b f.c wb wc) f.c).sg px py+((tri f.a f.b (crs f.b f.c wb wc)).sg px py+0)
   have e0:=Z8 (a:=f.a) (b:=f.b) (c:=f.c) (n:=(crs f.b f.c wb wc)) fp.a.w fp.b.w fp.c.w (J5 fp.b.w fp.c.w hq).w px py
   have z0:(tri f.b f.c (crs f.b f.c wb wc)).sg px py=0:=AK (V0 fp.b.w fp.c.w hq)
   have r0:(tri f.a (crs f.b f.c wb wc) f.c).sg px py=(tri f.c f.a (crs f.b f.c wb wc)).sg px py:=CF
   omega
 · have nn:∀ n:Int,0<=absI n:=fun n=>by unfold absI;split<;>omega
   simp only [List.mem_cons,List.not_mem_nil,or_false] at h
   rcases h with rfl|rfl
   · exact Y2 (Q4 fp.a.w) (J5 fp.b.w fp.c.w hq) (Q4 fp.c.w) fp.a.w (V6 fp.b.w fp.c.w hq) fp.c.w (nn _) (MF f (absI wa) (absI wb) (absI wc)) (ML f (absI wa) (absI wb) (absI wc))
   · exact Y2 (Q4 fp.a.w) (Q4 fp.b.w) (J5 fp.b.w fp.c.w hq) fp.a.w fp.b.w (V6 fp.b.w fp.c.w hq) (nn _) (MG f (absI wa) (absI wb) (absI wc)) (MM f (absI wa) (absI wb) (absI wc))
theorem JP {f:F3}(fp:f.pr)(wa wb wc:Int)(hp:wa*wb<0)(hr:wc*wa<0):PartsD f [⟨(crs f.a f.b wa wb),f.b,f.c⟩,⟨(crs f.a f.b wa wb),f.c,(crs f.c f.a wc wa)⟩,⟨f.a,(crs f.a f.b wa wb),(crs f.c f.a wc wa)⟩]:=by
 refine ⟨by simp,fun px py=>?_,fun p h=>?_⟩
 · show (tri f.a f.b f.c).sg px py=(tri (crs f.a f.b wa wb) f.b f.c).sg px py+((tri (crs f.a f.b wa wb) f.c (crs f.c f.a wc wa)).sg px py+((tri f.a (crs f.a f.b wa wb) (crs f.c f.a wc wa)).sg px py+0))
   have e0:=Z8 (a:=f.a) (b:=f.b) (c:=f.c) (n:=(crs f.a f.b wa wb)) fp.a.w fp.b.w fp.c.w (J5 fp.a.w fp.b.w hp).w px py
   have z0:(tri f.a f.b (crs f.a f.b wa wb)).sg px py=0:=AK (V0 fp.a.w fp.b.w hp)
   have e1:=Z8 (a:=f.c) (b:=f.a) (c:=(crs f.a f.b wa wb)) (n:=(crs f.c f.a wc wa)) fp.c.w fp.a.w (J5 fp.a.w fp.b.w hp).w (J5 fp.c.w fp.a.w hr).w px py
   have z1:(tri f.c f.a (crs f.c f.a wc wa)).sg px py=0:=AK (V0 fp.c.w fp.a.w hr)
   have r0:(tri f.b f.c (crs f.a f.b wa wb)).sg px py=(tri (crs f.a f.b wa wb) f.b f.c).sg px py:=CF
   omega
 · have nn:∀ n:Int,0<=absI n:=fun n=>by unfold absI;split<;>omega
   simp only [List.mem_cons,List.not_mem_nil,or_false] at h
   rcases h with rfl|rfl|rfl
   · exact Y2 (J5 fp.a.w fp.b.w hp) (Q4 fp.b.w) (Q4 fp.c.w) (V6 fp.a.w fp.b.w hp) fp.b.w fp.c.w (nn _) (ME f (absI wa) (absI wb) (absI wc)) (MK f (absI wa) (absI wb) (absI wc))
   · exact Y2 (J5 fp.a.w fp.b.w hp) (Q4 fp.c.w) (J5 fp.c.w fp.a.w hr) (V6 fp.a.w fp.b.w hp) fp.c.w (V6 fp.c.w fp.a.w hr) (Int.mul_nonneg (nn _) (nn _)) (ZM f (absI wa) (absI wb) (absI wc)) (J0w f (absI wa) (absI wb) (absI wc))
   · exact Y2 (Q4 fp.a.w) (J5 fp.a.w fp.b.w hp) (J5 fp.c.w fp.a.w hr) fp.a.w (V6 fp.a.w fp.b.w hp) (V6 fp.c.w fp.a.w hr) (Int.mul_nonneg (nn _) (nn _)) (ZQ f (absI wa) (absI wb) (absI wc)) (J1a f (absI wa) (absI wb) (absI wc))
theorem OY {f:F3}(fp:f.pr)(wa wb wc:Int)(hp:wa*wb<0):PartsD f [⟨(crs f.a f.b wa wb),f.b,f.c⟩,⟨f.a,(crs f.a f.b wa wb),f.c⟩]:=by
 refine ⟨by simp,fun px py=>?_,fun p h=>?_⟩
 · show (tri f.a f.b f.c).sg px py=(tri (crs f.a f.b wa wb) f.b f.c).sg px py+((tri f.a (crs f.a f.b wa wb) f.c).sg px py+0)
   have e0:=Z8 (a:=f.a) (b:=f.b) (c:=f.c) (n:=(crs f.a f.b wa wb)) fp.a.w fp.b.w fp.c.w (J5 fp.a.w fp.b.w hp).w px py
   have z0:(tri f.a f.b (crs f.a f.b wa wb)).sg px py=0:=AK (V0 fp.a.w fp.b.w hp)
   have r0:(tri f.b f.c (crs f.a f.b wa wb)).sg px py=(tri (crs f.a f.b wa wb) f.b f.c).sg px py:=CF
   have r1:(tri f.a (crs f.a f.b wa wb) f.c).sg px py=(tri f.c f.a (crs f.a f.b wa wb)).sg px py:=CF
   omega
 · have nn:∀ n:Int,0<=absI n:=fun n=>by unfold absI;split<;>omega
   simp only [List.mem_cons,List.not_mem_nil,or_false] at h
   rcases h with rfl|rfl
   · exact Y2 (J5 fp.a.w fp.b.w hp) (Q4 fp.b.w) (Q4 fp.c.w) (V6 fp.a.w fp.b.w hp) fp.b.w fp.c.w (nn _) (ME f (absI wa) (absI wb) (absI wc)) (MK f (absI wa) (absI wb) (absI wc))
   · exact Y2 (Q4 fp.a.w) (J5 fp.a.w fp.b.w hp) (Q4 fp.c.w) fp.a.w (V6 fp.a.w fp.b.w hp) fp.c.w (nn _) (ZS f (absI wa) (absI wb) (absI wc)) (J1c f (absI wa) (absI wb) (absI wc))
theorem JN {f:F3}(fp:f.pr)(wa wb wc:Int)(hp:wa*wb<0)(hq:wb*wc<0):PartsD f [⟨(crs f.a f.b wa wb),f.b,(crs f.b f.c wb wc)⟩,⟨f.a,(crs f.a f.b wa wb),(crs f.b f.c wb wc)⟩,⟨f.a,(crs f.b f.c wb wc),f.c⟩]:=by
 refine ⟨by simp,fun px py=>?_,fun p h=>?_⟩
 · show (tri f.a f.b f.c).sg px py=(tri (crs f.a f.b wa wb) f.b (crs f.b f.c wb wc)).sg px py+((tri f.a (crs f.a f.b wa wb) (crs f.b f.c wb wc)).sg px py+((tri f.a (crs f.b f.c wb wc) f.c).sg px py+0))
   have e0:=Z8 (a:=f.a) (b:=f.b) (c:=f.c) (n:=(crs f.b f.c wb wc)) fp.a.w fp.b.w fp.c.w (J5 fp.b.w fp.c.w hq).w px py
   have z0:(tri f.b f.c (crs f.b f.c wb wc)).sg px py=0:=AK (V0 fp.b.w fp.c.w hq)
   have e1:=Z8 (a:=f.a) (b:=f.b) (c:=(crs f.b f.c wb wc)) (n:=(crs f.a f.b wa wb)) fp.a.w fp.b.w (J5 fp.b.w fp.c.w hq).w (J5 fp.a.w fp.b.w hp).w px py
   have z1:(tri f.a f.b (crs f.a f.b wa wb)).sg px py=0:=AK (V0 fp.a.w fp.b.w hp)
   have r0:(tri f.b (crs f.b f.c wb wc) (crs f.a f.b wa wb)).sg px py=(tri (crs f.a f.b wa wb) f.b (crs f.b f.c wb wc)).sg px py:=CF
   have r1:(tri f.a (crs f.a f.b wa wb) (crs f.b f.c wb wc)).sg px py=(tri (crs f.b f.c wb wc) f.a (crs f.a f.b wa wb)).sg px py:=CF
   have r2:(tri f.a (crs f.b f.c wb wc) f.c).sg px py=(tri f.c f.a (crs f.b f.c wb wc)).sg px py:=CF
   omega
 · have nn:∀ n:Int,0<=absI n:=fun n=>by unfold absI;split<;>omega
   simp only [List.mem_cons,List.not_mem_nil,or_false] at h
   rcases h with rfl|rfl|rfl
   · exact Y2 (J5 fp.a.w fp.b.w hp) (Q4 fp.b.w) (J5 fp.b.w fp.c.w hq) (V6 fp.a.w fp.b.w hp) fp.b.w (V6 fp.b.w fp.c.w hq) (Int.mul_nonneg (nn _) (nn _)) (ZN f (absI wa) (absI wb) (absI wc)) (J0x f (absI wa) (absI wb) (absI wc))
   · exact Y2 (Q4 fp.a.w) (J5 fp.a.w fp.b.w hp) (J5 fp.b.w fp.c.w hq) fp.a.w (V6 fp.a.w fp.b.w hp) (V6 fp.b.w fp.c.w hq) (Int.mul_nonneg (nn _) (nn _)) (ZR f (absI wa) (absI wb) (absI wc)) (J1b f (absI wa) (absI wb) (absI wc))
   · exact Y2 (Q4 fp.a.w) (J5 fp.b.w fp.c.w hq) (Q4 fp.c.w) fp.a.w (V6 fp.b.w fp.c.w hq) fp.c.w (nn _) (MF f (absI wa) (absI wb) (absI wc)) (ML f (absI wa) (absI wb) (absI wc))
theorem OZ {f:F3}(fp:f.pr)(wa wb wc:Int)(hr:wc*wa<0):PartsD f [⟨f.b,f.c,(crs f.c f.a wc wa)⟩,⟨f.a,f.b,(crs f.c f.a wc wa)⟩]:=by
 refine ⟨by simp,fun px py=>?_,fun p h=>?_⟩
 · show (tri f.a f.b f.c).sg px py=(tri f.b f.c (crs f.c f.a wc wa)).sg px py+((tri f.a f.b (crs f.c f.a wc wa)).sg px py+0)
   have e0:=Z8 (a:=f.a) (b:=f.b) (c:=f.c) (n:=(crs f.c f.a wc wa)) fp.a.w fp.b.w fp.c.w (J5 fp.c.w fp.a.w hr).w px py
   have z0:(tri f.c f.a (crs f.c f.a wc wa)).sg px py=0:=AK (V0 fp.c.w fp.a.w hr)
   omega
 · have nn:∀ n:Int,0<=absI n:=fun n=>by unfold absI;split<;>omega
   simp only [List.mem_cons,List.not_mem_nil,or_false] at h
   rcases h with rfl|rfl
   · exact Y2 (Q4 fp.b.w) (Q4 fp.c.w) (J5 fp.c.w fp.a.w hr) fp.b.w fp.c.w (V6 fp.c.w fp.a.w hr) (nn _) (ZO f (absI wa) (absI wb) (absI wc)) (J0y f (absI wa) (absI wb) (absI wc))
   · exact Y2 (Q4 fp.a.w) (Q4 fp.b.w) (J5 fp.c.w fp.a.w hr) fp.a.w fp.b.w (V6 fp.c.w fp.a.w hr) (nn _) (ZT f (absI wa) (absI wb) (absI wc)) (J1d f (absI wa) (absI wb) (absI wc))
theorem JM {f:F3}(fp:f.pr)(wa wb wc:Int)(hq:wb*wc<0)(hr:wc*wa<0):PartsD f [⟨(crs f.b f.c wb wc),f.c,(crs f.c f.a wc wa)⟩,⟨f.a,f.b,(crs f.b f.c wb wc)⟩,⟨f.a,(crs f.b f.c wb wc),(crs f.c f.a wc wa)⟩]:=by
 refine ⟨by simp,fun px py=>?_,fun p h=>?_⟩
 · show (tri f.a f.b f.c).sg px py=(tri (crs f.b f.c wb wc) f.c (crs f.c f.a wc wa)).sg px py+((tri f.a f.b (crs f.b f.c wb wc)).sg px py+((tri f.a (crs f.b f.c wb wc) (crs f.c f.a wc wa)).sg px py+0))
   have e0:=Z8 (a:=f.a) (b:=f.b) (c:=f.c) (n:=(crs f.b f.c wb wc)) fp.a.w fp.b.w fp.c.w (J5 fp.b.w fp.c.w hq).w px py
   have z0:(tri f.b f.c (crs f.b f.c wb wc)).sg px py=0:=AK (V0 fp.b.w fp.c.w hq)
   have e1:=Z8 (a:=f.c) (b:=f.a) (c:=(crs f.b f.c wb wc)) (n:=(crs f.c f.a wc wa)) fp.c.w fp.a.w (J5 fp.b.w fp.c.w hq).w (J5 fp.c.w fp.a.w hr).w px py
   have z1:(tri f.c f.a (crs f.c f.a wc wa)).sg px py=0:=AK (V0 fp.c.w fp.a.w hr)
   omega
 · have nn:∀ n:Int,0<=absI n:=fun n=>by unfold absI;split<;>omega
   simp only [List.mem_cons,List.not_mem_nil,or_false] at h
   rcases h with rfl|rfl|rfl
   · exact Y2 (J5 fp.b.w fp.c.w hq) (Q4 fp.c.w) (J5 fp.c.w fp.a.w hr) (V6 fp.b.w fp.c.w hq) fp.c.w (V6 fp.c.w fp.a.w hr) (Int.mul_nonneg (nn _) (nn _)) (ZL f (absI wa) (absI wb) (absI wc)) (J0v f (absI wa) (absI wb) (absI wc))
   · exact Y2 (Q4 fp.a.w) (Q4 fp.b.w) (J5 fp.b.w fp.c.w hq) fp.a.w fp.b.w (V6 fp.b.w fp.c.w hq) (nn _) (MG f (absI wa) (absI wb) (absI wc)) (MM f (absI wa) (absI wb) (absI wc))
   · exact Y2 (Q4 fp.a.w) (J5 fp.b.w fp.c.w hq) (J5 fp.c.w fp.a.w hr) fp.a.w (V6 fp.b.w fp.c.w hq) (V6 fp.c.w fp.a.w hr) (Int.mul_nonneg (nn _) (nn _)) (ZP f (absI wa) (absI wb) (absI wc)) (J0z f (absI wa) (absI wb) (absI wc))
theorem AE {f:F3}(fp:f.pr):PartsD f [⟨f.a,f.b,f.c⟩]:=by
 refine ⟨by simp,fun px py=>?_,fun p h=>?_⟩
 · show f.t.sg px py=f.t.sg px py+0
   omega
 · have:p=f:=by simpa using h
   subst this
   exact ⟨1,1,1,by decide,by decide,by decide,by omega,fun px py=>by omega⟩
theorem SU (f:F3)(fl:R4):keptL f fl=J1 f.a f.b (dot4 fl f.a) (dot4 fl f.b)++J1 f.b f.c (dot4 fl f.b) (dot4 fl f.c)++J1 f.c f.a (dot4 fl f.c) (dot4 fl f.a):=rfl
theorem LL {f:F3}{fl:R4}(fp:f.pr)(nz:¬ (dot4 fl f.a=0/\dot4 fl f.b=0/\dot4 fl f.c=0)):PartsD f (JY (keptL f fl)++JY (keptL f (GL fl))):=by
 rw [SU,SU,FD,FD,FD]
 generalize dot4 fl f.a=wa at *
 generalize dot4 fl f.b=wb at *
 generalize dot4 fl f.c=wc at *
 have tri:∀ n:Int,0<n\/n=0\/n<0:=fun n=>by omega
 rcases tri wa with ha|ha|ha<;>rcases tri wb with hb|hb|hb<;>rcases tri wc with hc|hc|hc
 · have e1:J1 f.a f.b wa wb++J1 f.b f.c wb wc++J1 f.c f.a wc wa=[f.a,f.b,f.c]:=by rw [Y4 (by omega) (by omega),Y4 (by omega) (by omega),Y4 (by omega) (by omega)];rfl
   have e2:J1 f.a f.b (-wa) (-wb)++J1 f.b f.c (-wb) (-wc)++J1 f.c f.a (-wc) (-wa)=[]:=by rw [Y5 (by omega) (by omega),Y5 (by omega) (by omega),Y5 (by omega) (by omega)];rfl
   rw [e1,e2]
   exact AE fp
 · have e1:J1 f.a f.b wa wb++J1 f.b f.c wb wc++J1 f.c f.a wc wa=[f.a,f.b,f.c]:=by rw [Y4 (by omega) (by omega),Y4 (by omega) (by omega),V4 (by omega)];rfl
   have e2:J1 f.a f.b (-wa) (-wb)++J1 f.b f.c (-wb) (-wc)++J1 f.c f.a (-wc) (-wa)=[f.c]:=by rw [Y5 (by omega) (by omega),Y5 (by omega) (by omega),V4 (by omega)];rfl
   rw [e1,e2]
   exact AE fp
 · have hq:wb*wc<0:=Int.mul_neg_of_pos_of_neg (by omega) (by omega)
   have hr:wc*wa<0:=Int.mul_neg_of_neg_of_pos (by omega) (by omega)
   have e1:J1 f.a f.b wa wb++J1 f.b f.c wb wc++J1 f.c f.a wc wa=[f.a,f.b,(crs f.b f.c wb wc),(crs f.c f.a wc wa)]:=by rw [Y4 (by omega) (by omega),AA (by omega) (by omega),AB (by omega) (by omega)];rfl
   have e2:J1 f.a f.b (-wa) (-wb)++J1 f.b f.c (-wb) (-wc)++J1 f.c f.a (-wc) (-wa)=[(crs f.b f.c wb wc),f.c,(crs f.c f.a wc wa)]:=by rw [Y5 (by omega) (by omega),AB (by omega) (by omega),AA (by omega) (by omega),V7 fp.b.w fp.c.w hq,V7 fp.c.w fp.a.w hr];rfl
   rw [e1,e2]
   exact JU fp wa wb wc hq hr
 · have e1:J1 f.a f.b wa wb++J1 f.b f.c wb wc++J1 f.c f.a wc wa=[f.a,f.b,f.c]:=by rw [Y4 (by omega) (by omega),V4 (by omega),Y4 (by omega) (by omega)];rfl
   have e2:J1 f.a f.b (-wa) (-wb)++J1 f.b f.c (-wb) (-wc)++J1 f.c f.a (-wc) (-wa)=[f.b]:=by rw [Y5 (by omega) (by omega),V4 (by omega),Y5 (by omega) (by omega)];rfl
   rw [e1,e2]
   exact AE fp
 · have e1:J1 f.a f.b wa wb++J1 f.b f.c wb wc++J1 f.c f.a wc wa=[f.a,f.b,f.c]:=by rw [Y4 (by omega) (by omega),V4 (by omega),V4 (by omega)];rfl
   have e2:J1 f.a f.b (-wa) (-wb)++J1 f.b f.c (-wb) (-wc)++J1 f.c f.a (-wc) (-wa)=[f.b,f.c]:=by rw [Y5 (by omega) (by omega),V4 (by omega),V4 (by omega)];rfl
   rw [e1,e2]
   exact AE fp
 · have hr:wc*wa<0:=Int.mul_neg_of_neg_of_pos (by omega) (by omega)
   have e1:J1 f.a f.b wa wb++J1 f.b f.c wb wc++J1 f.c f.a wc wa=[f.a,f.b,(crs f.c f.a wc wa)]:=by rw [Y4 (by omega) (by omega),V4 (by omega),AB (by omega) (by omega)];rfl
   have e2:J1 f.a f.b (-wa) (-wb)++J1 f.b f.c (-wb) (-wc)++J1 f.c f.a (-wc) (-wa)=[f.b,f.c,(crs f.c f.a wc wa)]:=by rw [Y5 (by omega) (by omega),V4 (by omega),AA (by omega) (by omega),V7 fp.c.w fp.a.w hr];rfl
   rw [e1,e2]
   exact PD fp wa wb wc hr
 · have hp:wa*wb<0:=Int.mul_neg_of_pos_of_neg (by omega) (by omega)
   have hq:wb*wc<0:=Int.mul_neg_of_neg_of_pos (by omega) (by omega)
   have e1:J1 f.a f.b wa wb++J1 f.b f.c wb wc++J1 f.c f.a wc wa=[f.a,(crs f.a f.b wa wb),(crs f.b f.c wb wc),f.c]:=by rw [AA (by omega) (by omega),AB (by omega) (by omega),Y4 (by omega) (by omega)];rfl
   have e2:J1 f.a f.b (-wa) (-wb)++J1 f.b f.c (-wb) (-wc)++J1 f.c f.a (-wc) (-wa)=[(crs f.a f.b wa wb),f.b,(crs f.b f.c wb wc)]:=by rw [AB (by omega) (by omega),AA (by omega) (by omega),Y5 (by omega) (by omega),V7 fp.a.w fp.b.w hp,V7 fp.b.w fp.c.w hq];rfl
   rw [e1,e2]
   exact JR fp wa wb wc hp hq
 · have hp:wa*wb<0:=Int.mul_neg_of_pos_of_neg (by omega) (by omega)
   have e1:J1 f.a f.b wa wb++J1 f.b f.c wb wc++J1 f.c f.a wc wa=[f.a,(crs f.a f.b wa wb),f.c]:=by rw [AA (by omega) (by omega),Y5 (by omega) (by omega),V4 (by omega)];rfl
   have e2:J1 f.a f.b (-wa) (-wb)++J1 f.b f.c (-wb) (-wc)++J1 f.c f.a (-wc) (-wa)=[(crs f.a f.b wa wb),f.b,f.c]:=by rw [AB (by omega) (by omega),Y4 (by omega) (by omega),V4 (by omega),V7 fp.a.w fp.b.w hp];rfl
   rw [e1,e2]
   exact PC fp wa wb wc hp
 · have hp:wa*wb<0:=Int.mul_neg_of_pos_of_neg (by omega) (by omega)
   have hr:wc*wa<0:=Int.mul_neg_of_neg_of_pos (by omega) (by omega)
   have e1:J1 f.a f.b wa wb++J1 f.b f.c wb wc++J1 f.c f.a wc wa=[f.a,(crs f.a f.b wa wb),(crs f.c f.a wc wa)]:=by rw [AA (by omega) (by omega),Y5 (by omega) (by omega),AB (by omega) (by omega)];rfl
   have e2:J1 f.a f.b (-wa) (-wb)++J1 f.b f.c (-wb) (-wc)++J1 f.c f.a (-wc) (-wa)=[(crs f.a f.b wa wb),f.b,f.c,(crs f.c f.a wc wa)]:=by rw [AB (by omega) (by omega),Y4 (by omega) (by omega),AA (by omega) (by omega),V7 fp.a.w fp.b.w hp,V7 fp.c.w fp.a.w hr];rfl
   rw [e1,e2]
   exact JQ fp wa wb wc hp hr
 · have e1:J1 f.a f.b wa wb++J1 f.b f.c wb wc++J1 f.c f.a wc wa=[f.a,f.b,f.c]:=by rw [V4 (by omega),Y4 (by omega) (by omega),Y4 (by omega) (by omega)];rfl
   have e2:J1 f.a f.b (-wa) (-wb)++J1 f.b f.c (-wb) (-wc)++J1 f.c f.a (-wc) (-wa)=[f.a]:=by rw [V4 (by omega),Y5 (by omega) (by omega),Y5 (by omega) (by omega)];rfl
   rw [e1,e2]
   exact AE fp
 · have e1:J1 f.a f.b wa wb++J1 f.b f.c wb wc++J1 f.c f.a wc wa=[f.a,f.b,f.c]:=by rw [V4 (by omega),Y4 (by omega) (by omega),V4 (by omega)];rfl
   have e2:J1 f.a f.b (-wa) (-wb)++J1 f.b f.c (-wb) (-wc)++J1 f.c f.a (-wc) (-wa)=[f.a,f.c]:=by rw [V4 (by omega),Y5 (by omega) (by omega),V4 (by omega)];rfl
   rw [e1,e2]
   exact AE fp
 · have hq:wb*wc<0:=Int.mul_neg_of_pos_of_neg (by omega) (by omega)
   have e1:J1 f.a f.b wa wb++J1 f.b f.c wb wc++J1 f.c f.a wc wa=[f.a,f.b,(crs f.b f.c wb wc)]:=by rw [V4 (by omega),AA (by omega) (by omega),Y5 (by omega) (by omega)];rfl
   have e2:J1 f.a f.b (-wa) (-wb)++J1 f.b f.c (-wb) (-wc)++J1 f.c f.a (-wc) (-wa)=[f.a,(crs f.b f.c wb wc),f.c]:=by rw [V4 (by omega),AB (by omega) (by omega),Y4 (by omega) (by omega),V7 fp.b.w fp.c.w hq];rfl
   rw [e1,e2]
   exact PF fp wa wb wc hq
 · have e1:J1 f.a f.b wa wb++J1 f.b f.c wb wc++J1 f.c f.a wc wa=[f.a,f.b,f.c]:=by rw [V4 (by omega),V4 (by omega),Y4 (by omega) (by omega)];rfl
   have e2:J1 f.a f.b (-wa) (-wb)++J1 f.b f.c (-wb) (-wc)++J1 f.c f.a (-wc) (-wa)=[f.a,f.b]:=by rw [V4 (by omega),V4 (by omega),Y5 (by omega) (by omega)];rfl
   rw [e1,e2]
   exact AE fp
 · exact absurd ⟨ha,hb,hc⟩ nz
 · have e1:J1 f.a f.b wa wb++J1 f.b f.c wb wc++J1 f.c f.a wc wa=[f.a,f.b]:=by rw [V4 (by omega),V4 (by omega),Y5 (by omega) (by omega)];rfl
   have e2:J1 f.a f.b (-wa) (-wb)++J1 f.b f.c (-wb) (-wc)++J1 f.c f.a (-wc) (-wa)=[f.a,f.b,f.c]:=by rw [V4 (by omega),V4 (by omega),Y4 (by omega) (by omega)];rfl
   rw [e1,e2]
   exact AE fp
 · have hq:wb*wc<0:=Int.mul_neg_of_neg_of_pos (by omega) (by omega)
   have e1:J1 f.a f.b wa wb++J1 f.b f.c wb wc++J1 f.c f.a wc wa=[f.a,(crs f.b f.c wb wc),f.c]:=by rw [V4 (by omega),AB (by omega) (by omega),Y4 (by omega) (by omega)];rfl
   have e2:J1 f.a f.b (-wa) (-wb)++J1 f.b f.c (-wb) (-wc)++J1 f.c f.a (-wc) (-wa)=[f.a,f.b,(crs f.b f.c wb wc)]:=by rw [V4 (by omega),AA (by omega) (by omega),Y5 (by omega) (by omega),V7 fp.b.w fp.c.w hq];rfl
   rw [e1,e2]
   exact PB fp wa wb wc hq
 · have e1:J1 f.a f.b wa wb++J1 f.b f.c wb wc++J1 f.c f.a wc wa=[f.a,f.c]:=by rw [V4 (by omega),Y5 (by omega) (by omega),V4 (by omega)];rfl
   have e2:J1 f.a f.b (-wa) (-wb)++J1 f.b f.c (-wb) (-wc)++J1 f.c f.a (-wc) (-wa)=[f.a,f.b,f.c]:=by rw [V4 (by omega),Y4 (by omega) (by omega),V4 (by omega)];rfl
   rw [e1,e2]
   exact AE fp
 · have e1:J1 f.a f.b wa wb++J1 f.b f.c wb wc++J1 f.c f.a wc wa=[f.a]:=by rw [V4 (by omega),Y5 (by omega) (by omega),Y5 (by omega) (by omega)];rfl
   have e2:J1 f.a f.b (-wa) (-wb)++J1 f.b f.c (-wb) (-wc)++J1 f.c f.a (-wc) (-wa)=[f.a,f.b,f.c]:=by rw [V4 (by omega),Y4 (by omega) (by omega),Y4 (by omega) (by omega)];rfl
   rw [e1,e2]
   exact AE fp
 · have hp:wa*wb<0:=Int.mul_neg_of_neg_of_pos (by omega) (by omega)
   have hr:wc*wa<0:=Int.mul_neg_of_pos_of_neg (by omega) (by omega)
   have e1:J1 f.a f.b wa wb++J1 f.b f.c wb wc++J1 f.c f.a wc wa=[(crs f.a f.b wa wb),f.b,f.c,(crs f.c f.a wc wa)]:=by rw [AB (by omega) (by omega),Y4 (by omega) (by omega),AA (by omega) (by omega)];rfl
   have e2:J1 f.a f.b (-wa) (-wb)++J1 f.b f.c (-wb) (-wc)++J1 f.c f.a (-wc) (-wa)=[f.a,(crs f.a f.b wa wb),(crs f.c f.a wc wa)]:=by rw [AA (by omega) (by omega),Y5 (by omega) (by omega),AB (by omega) (by omega),V7 fp.a.w fp.b.w hp,V7 fp.c.w fp.a.w hr];rfl
   rw [e1,e2]
   exact JP fp wa wb wc hp hr
 · have hp:wa*wb<0:=Int.mul_neg_of_neg_of_pos (by omega) (by omega)
   have e1:J1 f.a f.b wa wb++J1 f.b f.c wb wc++J1 f.c f.a wc wa=[(crs f.a f.b wa wb),f.b,f.c]:=by rw [AB (by omega) (by omega),Y4 (by omega) (by omega),V4 (by omega)];rfl
   have e2:J1 f.a f.b (-wa) (-wb)++J1 f.b f.c (-wb) (-wc)++J1 f.c f.a (-wc) (-wa)=[f.a,(crs f.a f.b wa wb),f.c]:=by rw [AA (by omega) (by omega),Y5 (by omega) (by omega),V4 (by omega),V7 fp.a.w fp.b.w hp];rfl
   rw [e1,e2]
   exact OY fp wa wb wc hp
 · have hp:wa*wb<0:=Int.mul_neg_of_neg_of_pos (by omega) (by omega)
   have hq:wb*wc<0:=Int.mul_neg_of_pos_of_neg (by omega) (by omega)
   have e1:J1 f.a f.b wa wb++J1 f.b f.c wb wc++J1 f.c f.a wc wa=[(crs f.a f.b wa wb),f.b,(crs f.b f.c wb wc)]:=by rw [AB (by omega) (by omega),AA (by omega) (by omega),Y5 (by omega) (by omega)];rfl
   have e2:J1 f.a f.b (-wa) (-wb)++J1 f.b f.c (-wb) (-wc)++J1 f.c f.a (-wc) (-wa)=[f.a,(crs f.a f.b wa wb),(crs f.b f.c wb wc),f.c]:=by rw [AA (by omega) (by omega),AB (by omega) (by omega),Y4 (by omega) (by omega),V7 fp.a.w fp.b.w hp,V7 fp.b.w fp.c.w hq];rfl
   rw [e1,e2]
   exact JN fp wa wb wc hp hq
 · have hr:wc*wa<0:=Int.mul_neg_of_pos_of_neg (by omega) (by omega)
   have e1:J1 f.a f.b wa wb++J1 f.b f.c wb wc++J1 f.c f.a wc wa=[f.b,f.c,(crs f.c f.a wc wa)]:=by rw [Y5 (by omega) (by omega),V4 (by omega),AA (by omega) (by omega)];rfl
   have e2:J1 f.a f.b (-wa) (-wb)++J1 f.b f.c (-wb) (-wc)++J1 f.c f.a (-wc) (-wa)=[f.a,f.b,(crs f.c f.a wc wa)]:=by rw [Y4 (by omega) (by omega),V4 (by omega),AB (by omega) (by omega),V7 fp.c.w fp.a.w hr];rfl
   rw [e1,e2]
   exact OZ fp wa wb wc hr
 · have e1:J1 f.a f.b wa wb++J1 f.b f.c wb wc++J1 f.c f.a wc wa=[f.b,f.c]:=by rw [Y5 (by omega) (by omega),V4 (by omega),V4 (by omega)];rfl
   have e2:J1 f.a f.b (-wa) (-wb)++J1 f.b f.c (-wb) (-wc)++J1 f.c f.a (-wc) (-wa)=[f.a,f.b,f.c]:=by rw [Y4 (by omega) (by omega),V4 (by omega),V4 (by omega)];rfl
   rw [e1,e2]
   exact AE fp
 · have e1:J1 f.a f.b wa wb++J1 f.b f.c wb wc++J1 f.c f.a wc wa=[f.b]:=by rw [Y5 (by omega) (by omega),V4 (by omega),Y5 (by omega) (by omega)];rfl
   have e2:J1 f.a f.b (-wa) (-wb)++J1 f.b f.c (-wb) (-wc)++J1 f.c f.a (-wc) (-wa)=[f.a,f.b,f.c]:=by rw [Y4 (by omega) (by omega),V4 (by omega),Y4 (by omega) (by omega)];rfl
   rw [e1,e2]
   exact AE fp
 · have hq:wb*wc<0:=Int.mul_neg_of_neg_of_pos (by omega) (by omega)
   have hr:wc*wa<0:=Int.mul_neg_of_pos_of_neg (by omega) (by omega)
   have e1:J1 f.a f.b wa wb++J1 f.b f.c wb wc++J1 f.c f.a wc wa=[(crs f.b f.c wb wc),f.c,(crs f.c f.a wc wa)]:=by rw [Y5 (by omega) (by omega),AB (by omega) (by omega),AA (by omega) (by omega)];rfl
   have e2:J1 f.a f.b (-wa) (-wb)++J1 f.b f.c (-wb) (-wc)++J1 f.c f.a (-wc) (-wa)=[f.a,f.b,(crs f.b f.c wb wc),(crs f.c f.a wc wa)]:=by rw [Y4 (by omega) (by omega),AA (by omega) (by omega),AB (by omega) (by omega),V7 fp.b.w fp.c.w hq,V7 fp.c.w fp.a.w hr];rfl
   rw [e1,e2]
   exact JM fp wa wb wc hq hr
 · have e1:J1 f.a f.b wa wb++J1 f.b f.c wb wc++J1 f.c f.a wc wa=[f.c]:=by rw [Y5 (by omega) (by omega),Y5 (by omega) (by omega),V4 (by omega)];rfl
   have e2:J1 f.a f.b (-wa) (-wb)++J1 f.b f.c (-wb) (-wc)++J1 f.c f.a (-wc) (-wa)=[f.a,f.b,f.c]:=by rw [Y4 (by omega) (by omega),Y4 (by omega) (by omega),V4 (by omega)];rfl
   rw [e1,e2]
   exact AE fp
 · have e1:J1 f.a f.b wa wb++J1 f.b f.c wb wc++J1 f.c f.a wc wa=[]:=by rw [Y5 (by omega) (by omega),Y5 (by omega) (by omega),Y5 (by omega) (by omega)];rfl
   have e2:J1 f.a f.b (-wa) (-wb)++J1 f.b f.c (-wb) (-wc)++J1 f.c f.a (-wc) (-wa)=[f.a,f.b,f.c]:=by rw [Y4 (by omega) (by omega),Y4 (by omega) (by omega),Y4 (by omega) (by omega)];rfl
   rw [e1,e2]
   exact AE fp
noncomputable def F3.ar (f:F3):Rat:=(f.top:Rat) / f.bot
theorem Q4h {a b c d:Rat}(hb:b≠0)(hd:d≠0)(h:a*d=c*b):a / b=c / d:=by grind
theorem Q8f {a b:Int}(h:a=b):(a:Rat)=(b:Rat):=by rw [h]
theorem wQ {n:Int}(h:0<n):(n:Rat)≠0:=by
 intro z
 have:=Rat.intCast_inj.mp (z.trans (by rfl:(0:Rat)=((0:Int):Rat)))
 omega
theorem RH {a b c:R4}(ha:0<a.w)(hb:0<b.w)(hc:0<c.w):F3.ar ⟨a,b,c⟩=(a.x:Rat) / a.w*((b.y:Rat) / b.w - (c.y:Rat) / c.w)+(b.x:Rat) / b.w*((c.y:Rat) / c.w - (a.y:Rat) / a.w)+(c.x:Rat) / c.w*((a.y:Rat) / a.w - (b.y:Rat) / b.w):=by
 have n1:=wQ ha
 have n2:=wQ hb
 have n3:=wQ hc
 have e:F3.top ⟨a,b,c⟩=a.x*(b.y*c.w - b.w*c.y)+a.y*(b.w*c.x - b.x*c.w)+a.w*(b.x*c.y - b.y*c.x):=by
  unfold F3.top F3.t T3.tn det
  grind
 unfold F3.ar
 rw [e,show F3.bot ⟨a,b,c⟩=a.w*b.w*c.w from rfl]
 simp only [Rat.intCast_add,Rat.intCast_mul,Rat.intCast_sub]
 generalize (a.x:Rat)=ax at *
 generalize (a.y:Rat)=ay at *
 generalize (a.w:Rat)=aw at *
 generalize (b.x:Rat)=bx at *
 generalize (b.y:Rat)=b_y at *
 generalize (b.w:Rat)=bw at *
 generalize (c.x:Rat)=cx at *
 generalize (c.y:Rat)=cy at *
 generalize (c.w:Rat)=cw at *
 grind
theorem Z9 {a b c n:R4}(ha:0<a.w)(hb:0<b.w)(hc:0<c.w)(hn:0<n.w):F3.ar ⟨a,b,c⟩=F3.ar ⟨a,b,n⟩+F3.ar ⟨b,c,n⟩+F3.ar ⟨c,a,n⟩:=by
 rw [RH ha hb hc,RH ha hb hn,RH hb hc hn,RH hc ha hn]
 generalize (a.x:Rat) / a.w=ax
 generalize (a.y:Rat) / a.w=ay
 generalize (b.x:Rat) / b.w=bx
 generalize (b.y:Rat) / b.w=b_y
 generalize (c.x:Rat) / c.w=cx
 generalize (c.y:Rat) / c.w=cy
 generalize (n.x:Rat) / n.w=nx
 generalize (n.y:Rat) / n.w=ny
 grind
theorem AM {f:F3}(h:f.top=0):f.ar=0:=by
 unfold F3.ar
 rw [h]
 show (0:Rat) / _=0
 grind
theorem CP {a b c:R4}(ha:0<a.w)(hb:0<b.w)(hc:0<c.w):F3.ar ⟨b,c,a⟩=F3.ar ⟨a,b,c⟩:=by
 rw [RH hb hc ha,RH ha hb hc]
 generalize (a.x:Rat) / a.w=ax
 generalize (a.y:Rat) / a.w=ay
 generalize (b.x:Rat) / b.w=bx
 generalize (b.y:Rat) / b.w=b_y
 generalize (c.x:Rat) / c.w=cx
 generalize (c.y:Rat) / c.w=cy
 grind
theorem rs2 (a b:F3):([a,b].map F3.ar).sum=a.ar+b.ar:=by show a.ar+(b.ar+0)=_;grind
theorem rs3 (a b c:F3):([a,b,c].map F3.ar).sum=a.ar+b.ar+c.ar:=by show a.ar+(b.ar+(c.ar+0))=_;grind
theorem KI {f:F3}(fp:f.pr)(wa wb wc:Int)(hq:wb*wc<0)(hr:wc*wa<0):f.ar=(List.map F3.ar [⟨f.a,f.b,(crs f.b f.c wb wc)⟩,⟨f.a,(crs f.b f.c wb wc),(crs f.c f.a wc wa)⟩,⟨(crs f.b f.c wb wc),f.c,(crs f.c f.a wc wa)⟩]).sum:=by
 rw [rs3]
 show F3.ar ⟨f.a,f.b,f.c⟩=_
 have e0:=Z9 (a:=f.a) (b:=f.b) (c:=f.c) (n:=(crs f.b f.c wb wc)) fp.a.w fp.b.w fp.c.w (J5 fp.b.w fp.c.w hq).w
 have z0:F3.ar ⟨f.b,f.c,(crs f.b f.c wb wc)⟩=0:=AM (V0 fp.b.w fp.c.w hq)
 have e1:=Z9 (a:=f.c) (b:=f.a) (c:=(crs f.b f.c wb wc)) (n:=(crs f.c f.a wc wa)) fp.c.w fp.a.w (J5 fp.b.w fp.c.w hq).w (J5 fp.c.w fp.a.w hr).w
 have z1:F3.ar ⟨f.c,f.a,(crs f.c f.a wc wa)⟩=0:=AM (V0 fp.c.w fp.a.w hr)
 grind
theorem PQ {f:F3}(fp:f.pr)(wa wb wc:Int)(hr:wc*wa<0):f.ar=(List.map F3.ar [⟨f.a,f.b,(crs f.c f.a wc wa)⟩,⟨f.b,f.c,(crs f.c f.a wc wa)⟩]).sum:=by
 rw [rs2]
 show F3.ar ⟨f.a,f.b,f.c⟩=_
 have e0:=Z9 (a:=f.a) (b:=f.b) (c:=f.c) (n:=(crs f.c f.a wc wa)) fp.a.w fp.b.w fp.c.w (J5 fp.c.w fp.a.w hr).w
 have z0:F3.ar ⟨f.c,f.a,(crs f.c f.a wc wa)⟩=0:=AM (V0 fp.c.w fp.a.w hr)
 grind
theorem KH {f:F3}(fp:f.pr)(wa wb wc:Int)(hp:wa*wb<0)(hq:wb*wc<0):f.ar=(List.map F3.ar [⟨f.a,(crs f.a f.b wa wb),(crs f.b f.c wb wc)⟩,⟨f.a,(crs f.b f.c wb wc),f.c⟩,⟨(crs f.a f.b wa wb),f.b,(crs f.b f.c wb wc)⟩]).sum:=by
 rw [rs3]
 show F3.ar ⟨f.a,f.b,f.c⟩=_
 have e0:=Z9 (a:=f.a) (b:=f.b) (c:=f.c) (n:=(crs f.b f.c wb wc)) fp.a.w fp.b.w fp.c.w (J5 fp.b.w fp.c.w hq).w
 have z0:F3.ar ⟨f.b,f.c,(crs f.b f.c wb wc)⟩=0:=AM (V0 fp.b.w fp.c.w hq)
 have e1:=Z9 (a:=f.a) (b:=f.b) (c:=(crs f.b f.c wb wc)) (n:=(crs f.a f.b wa wb)) fp.a.w fp.b.w (J5 fp.b.w fp.c.w hq).w (J5 fp.a.w fp.b.w hp).w
 have z1:F3.ar ⟨f.a,f.b,(crs f.a f.b wa wb)⟩=0:=AM (V0 fp.a.w fp.b.w hp)
 have r0:F3.ar ⟨f.a,(crs f.a f.b wa wb),(crs f.b f.c wb wc)⟩=F3.ar ⟨(crs f.b f.c wb wc),f.a,(crs f.a f.b wa wb)⟩:=CP (J5 fp.b.w fp.c.w hq).w fp.a.w (J5 fp.a.w fp.b.w hp).w
 have r1:F3.ar ⟨f.a,(crs f.b f.c wb wc),f.c⟩=F3.ar ⟨f.c,f.a,(crs f.b f.c wb wc)⟩:=CP fp.c.w fp.a.w (J5 fp.b.w fp.c.w hq).w
 have r2:F3.ar ⟨f.b,(crs f.b f.c wb wc),(crs f.a f.b wa wb)⟩=F3.ar ⟨(crs f.a f.b wa wb),f.b,(crs f.b f.c wb wc)⟩:=CP (J5 fp.a.w fp.b.w hp).w fp.b.w (J5 fp.b.w fp.c.w hq).w
 grind
theorem PN {f:F3}(fp:f.pr)(wa wb wc:Int)(hp:wa*wb<0):f.ar=(List.map F3.ar [⟨f.a,(crs f.a f.b wa wb),f.c⟩,⟨(crs f.a f.b wa wb),f.b,f.c⟩]).sum:=by
 rw [rs2]
 show F3.ar ⟨f.a,f.b,f.c⟩=_
 have e0:=Z9 (a:=f.a) (b:=f.b) (c:=f.c) (n:=(crs f.a f.b wa wb)) fp.a.w fp.b.w fp.c.w (J5 fp.a.w fp.b.w hp).w
 have z0:F3.ar ⟨f.a,f.b,(crs f.a f.b wa wb)⟩=0:=AM (V0 fp.a.w fp.b.w hp)
 have r0:F3.ar ⟨f.a,(crs f.a f.b wa wb),f.c⟩=F3.ar ⟨f.c,f.a,(crs f.a f.b wa wb)⟩:=CP fp.c.w fp.a.w (J5 fp.a.w fp.b.w hp).w
 have r1:F3.ar ⟨f.b,f.c,(crs f.a f.b wa wb)⟩=F3.ar ⟨(crs f.a f.b wa wb),f.b,f.c⟩:=CP (J5 fp.a.w fp.b.w hp).w fp.b.w fp.c.w
 grind
theorem KG {f:F3}(fp:f.pr)(wa wb wc:Int)(hp:wa*wb<0)(hr:wc*wa<0):f.ar=(List.map F3.ar [⟨f.a,(crs f.a f.b wa wb),(crs f.c f.a wc wa)⟩,⟨(crs f.a f.b wa wb),f.b,f.c⟩,⟨(crs f.a f.b wa wb),f.c,(crs f.c f.a wc wa)⟩]).sum:=by
 rw [rs3]
 show F3.ar ⟨f.a,f.b,f.c⟩=_
 have e0:=Z9 (a:=f.a) (b:=f.b) (c:=f.c) (n:=(crs f.a f.b wa wb)) fp.a.w fp.b.w fp.c.w (J5 fp.a.w fp.b.w hp).w
 have z0:F3.ar ⟨f.a,f.b,(crs f.a f.b wa wb)⟩=0:=AM (V0 fp.a.w fp.b.w hp)
 have e1:=Z9 (a:=f.c) (b:=f.a) (c:=(crs f.a f.b wa wb)) (n:=(crs f.c f.a wc wa)) fp.c.w fp.a.w (J5 fp.a.w fp.b.w hp).w (J5 fp.c.w fp.a.w hr).w
 have z1:F3.ar ⟨f.c,f.a,(crs f.c f.a wc wa)⟩=0:=AM (V0 fp.c.w fp.a.w hr)
 have r1:F3.ar ⟨f.b,f.c,(crs f.a f.b wa wb)⟩=F3.ar ⟨(crs f.a f.b wa wb),f.b,f.c⟩:=CP (J5 fp.a.w fp.b.w hp).w fp.b.w fp.c.w
 grind
theorem PR {f:F3}(fp:f.pr)(wa wb wc:Int)(hq:wb*wc<0):f.ar=(List.map F3.ar [⟨f.a,f.b,(crs f.b f.c wb wc)⟩,⟨f.a,(crs f.b f.c wb wc),f.c⟩]).sum:=by
 rw [rs2]
 show F3.ar ⟨f.a,f.b,f.c⟩=_
 have e0:=Z9 (a:=f.a) (b:=f.b) (c:=f.c) (n:=(crs f.b f.c wb wc)) fp.a.w fp.b.w fp.c.w (J5 fp.b.w fp.c.w hq).w
 have z0:F3.ar ⟨f.b,f.c,(crs f.b f.c wb wc)⟩=0:=AM (V0 fp.b.w fp.c.w hq)
 have r1:F3.ar ⟨f.a,(crs f.b f.c wb wc),f.c⟩=F3.ar ⟨f.c,f.a,(crs f.b f.c wb wc)⟩:=CP fp.c.w fp.a.w (J5 fp.b.w fp.c.w hq).w
 grind
theorem PM {f:F3}(fp:f.pr)(wa wb wc:Int)(hq:wb*wc<0):f.ar=(List.map F3.ar [⟨f.a,(crs f.b f.c wb wc),f.c⟩,⟨f.a,f.b,(crs f.b f.c wb wc)⟩]).sum:=by
 rw [rs2]
 show F3.ar ⟨f.a,f.b,f.c⟩=_
 have e0:=Z9 (a:=f.a) (b:=f.b) (c:=f.c) (n:=(crs f.b f.c wb wc)) fp.a.w fp.b.w fp.c.w (J5 fp.b.w fp.c.w hq).w
 have z0:F3.ar ⟨f.b,f.c,(crs f.b f.c wb wc)⟩=0:=AM (V0 fp.b.w fp.c.w hq)
 have r0:F3.ar ⟨f.a,(crs f.b f.c wb wc),f.c⟩=F3.ar ⟨f.c,f.a,(crs f.b f.c wb wc)⟩:=CP fp.c.w fp.a.w (J5 fp.b.w fp.c.w hq).w
 grind
theorem KF {f:F3}(fp:f.pr)(wa wb wc:Int)(hp:wa*wb<0)(hr:wc*wa<0):f.ar=(List.map F3.ar [⟨(crs f.a f.b wa wb),f.b,f.c⟩,⟨(crs f.a f.b wa wb),f.c,(crs f.c f.a wc wa)⟩,⟨f.a,(crs f.a f.b wa wb),(crs f.c f.a wc wa)⟩]).sum:=by
 rw [rs3]
 show F3.ar ⟨f.a,f.b,f.c⟩=_
 have e0:=Z9 (a:=f.a) (b:=f.b) (c:=f.c) (n:=(crs f.a f.b wa wb)) fp.a.w fp.b.w fp.c.w (J5 fp.a.w fp.b.w hp).w
 have z0:F3.ar ⟨f.a,f.b,(crs f.a f.b wa wb)⟩=0:=AM (V0 fp.a.w fp.b.w hp)
 have e1:=Z9 (a:=f.c) (b:=f.a) (c:=(crs f.a f.b wa wb)) (n:=(crs f.c f.a wc wa)) fp.c.w fp.a.w (J5 fp.a.w fp.b.w hp).w (J5 fp.c.w fp.a.w hr).w
 have z1:F3.ar ⟨f.c,f.a,(crs f.c f.a wc wa)⟩=0:=AM (V0 fp.c.w fp.a.w hr)
 have r0:F3.ar ⟨f.b,f.c,(crs f.a f.b wa wb)⟩=F3.ar ⟨(crs f.a f.b wa wb),f.b,f.c⟩:=CP (J5 fp.a.w fp.b.w hp).w fp.b.w fp.c.w
 grind
theorem PK {f:F3}(fp:f.pr)(wa wb wc:Int)(hp:wa*wb<0):f.ar=(List.map F3.ar [⟨(crs f.a f.b wa wb),f.b,f.c⟩,⟨f.a,(crs f.a f.b wa wb),f.c⟩]).sum:=by
 rw [rs2]
 show F3.ar ⟨f.a,f.b,f.c⟩=_
 have e0:=Z9 (a:=f.a) (b:=f.b) (c:=f.c) (n:=(crs f.a f.b wa wb)) fp.a.w fp.b.w fp.c.w (J5 fp.a.w fp.b.w hp).w
 have z0:F3.ar ⟨f.a,f.b,(crs f.a f.b wa wb)⟩=0:=AM (V0 fp.a.w fp.b.w hp)
 have r0:F3.ar ⟨f.b,f.c,(crs f.a f.b wa wb)⟩=F3.ar ⟨(crs f.a f.b wa wb),f.b,f.c⟩:=CP (J5 fp.a.w fp.b.w hp).w fp.b.w fp.c.w
 have r1:F3.ar ⟨f.a,(crs f.a f.b wa wb),f.c⟩=F3.ar ⟨f.c,f.a,(crs f.a f.b wa wb)⟩:=CP fp.c.w fp.a.w (J5 fp.a.w fp.b.w hp).w
 grind
theorem KE {f:F3}(fp:f.pr)(wa wb wc:Int)(hp:wa*wb<0)(hq:wb*wc<0):f.ar=(List.map F3.ar [⟨(crs f.a f.b wa wb),f.b,(crs f.b f.c wb wc)⟩,⟨f.a,(crs f.a f.b wa wb),(crs f.b f.c wb wc)⟩,⟨f.a,(crs f.b f.c wb wc),f.c⟩]).sum:=by
 rw [rs3]
 show F3.ar ⟨f.a,f.b,f.c⟩=_
 have e0:=Z9 (a:=f.a) (b:=f.b) (c:=f.c) (n:=(crs f.b f.c wb wc)) fp.a.w fp.b.w fp.c.w (J5 fp.b.w fp.c.w hq).w
 have z0:F3.ar ⟨f.b,f.c,(crs f.b f.c wb wc)⟩=0:=AM (V0 fp.b.w fp.c.w hq)
 have e1:=Z9 (a:=f.a) (b:=f.b) (c:=(crs f.b f.c wb wc)) (n:=(crs f.a f.b wa wb)) fp.a.w fp.b.w (J5 fp.b.w fp.c.w hq).w (J5 fp.a.w fp.b.w hp).w
 have z1:F3.ar ⟨f.a,f.b,(crs f.a f.b wa wb)⟩=0:=AM (V0 fp.a.w fp.b.w hp)
 have r0:F3.ar ⟨f.b,(crs f.b f.c wb wc),(crs f.a f.b wa wb)⟩=F3.ar ⟨(crs f.a f.b wa wb),f.b,(crs f.b f.c wb wc)⟩:=CP (J5 fp.a.w fp.b.w hp).w fp.b.w (J5 fp.b.w fp.c.w hq).w
 have r1:F3.ar ⟨f.a,(crs f.a f.b wa wb),(crs f.b f.c wb wc)⟩=F3.ar ⟨(crs f.b f.c wb wc),f.a,(crs f.a f.b wa wb)⟩:=CP (J5 fp.b.w fp.c.w hq).w fp.a.w (J5 fp.a.w fp.b.w hp).w
 have r2:F3.ar ⟨f.a,(crs f.b f.c wb wc),f.c⟩=F3.ar ⟨f.c,f.a,(crs f.b f.c wb wc)⟩:=CP fp.c.w fp.a.w (J5 fp.b.w fp.c.w hq).w
 grind
theorem PL {f:F3}(fp:f.pr)(wa wb wc:Int)(hr:wc*wa<0):f.ar=(List.map F3.ar [⟨f.b,f.c,(crs f.c f.a wc wa)⟩,⟨f.a,f.b,(crs f.c f.a wc wa)⟩]).sum:=by
 rw [rs2]
 show F3.ar ⟨f.a,f.b,f.c⟩=_
 have e0:=Z9 (a:=f.a) (b:=f.b) (c:=f.c) (n:=(crs f.c f.a wc wa)) fp.a.w fp.b.w fp.c.w (J5 fp.c.w fp.a.w hr).w
 have z0:F3.ar ⟨f.c,f.a,(crs f.c f.a wc wa)⟩=0:=AM (V0 fp.c.w fp.a.w hr)
 grind
theorem KD {f:F3}(fp:f.pr)(wa wb wc:Int)(hq:wb*wc<0)(hr:wc*wa<0):f.ar=(List.map F3.ar [⟨(crs f.b f.c wb wc),f.c,(crs f.c f.a wc wa)⟩,⟨f.a,f.b,(crs f.b f.c wb wc)⟩,⟨f.a,(crs f.b f.c wb wc),(crs f.c f.a wc wa)⟩]).sum:=by
 rw [rs3]
 show F3.ar ⟨f.a,f.b,f.c⟩=_
 have e0:=Z9 (a:=f.a) (b:=f.b) (c:=f.c) (n:=(crs f.b f.c wb wc)) fp.a.w fp.b.w fp.c.w (J5 fp.b.w fp.c.w hq).w
 have z0:F3.ar ⟨f.b,f.c,(crs f.b f.c wb wc)⟩=0:=AM (V0 fp.b.w fp.c.w hq)
 have e1:=Z9 (a:=f.c) (b:=f.a) (c:=(crs f.b f.c wb wc)) (n:=(crs f.c f.a wc wa)) fp.c.w fp.a.w (J5 fp.b.w fp.c.w hq).w (J5 fp.c.w fp.a.w hr).w
 have z1:F3.ar ⟨f.c,f.a,(crs f.c f.a wc wa)⟩=0:=AM (V0 fp.c.w fp.a.w hr)
 grind
theorem AF {f:F3}(fp:f.pr):f.ar=(List.map F3.ar [⟨f.a,f.b,f.c⟩]).sum:=by
 show f.ar=f.ar+0
 grind
theorem J3l {f:F3}{fl:R4}(fp:f.pr)(nz:¬ (dot4 fl f.a=0/\dot4 fl f.b=0/\dot4 fl f.c=0)):f.ar=(List.map F3.ar (JY (keptL f fl)++JY (keptL f (GL fl)))).sum:=by
 rw [SU,SU,FD,FD,FD]
 generalize dot4 fl f.a=wa at *
 generalize dot4 fl f.b=wb at *
 generalize dot4 fl f.c=wc at *
 have tri:∀ n:Int,0<n\/n=0\/n<0:=fun n=>by omega
 rcases tri wa with ha|ha|ha<;>rcases tri wb with hb|hb|hb<;>rcases tri wc with hc|hc|hc
 · have e1:J1 f.a f.b wa wb++J1 f.b f.c wb wc++J1 f.c f.a wc wa=[f.a,f.b,f.c]:=by rw [Y4 (by omega) (by omega),Y4 (by omega) (by omega),Y4 (by omega) (by omega)];rfl
   have e2:J1 f.a f.b (-wa) (-wb)++J1 f.b f.c (-wb) (-wc)++J1 f.c f.a (-wc) (-wa)=[]:=by rw [Y5 (by omega) (by omega),Y5 (by omega) (by omega),Y5 (by omega) (by omega)];rfl
   rw [e1,e2]
   exact AF fp
 · have e1:J1 f.a f.b wa wb++J1 f.b f.c wb wc++J1 f.c f.a wc wa=[f.a,f.b,f.c]:=by rw [Y4 (by omega) (by omega),Y4 (by omega) (by omega),V4 (by omega)];rfl
   have e2:J1 f.a f.b (-wa) (-wb)++J1 f.b f.c (-wb) (-wc)++J1 f.c f.a (-wc) (-wa)=[f.c]:=by rw [Y5 (by omega) (by omega),Y5 (by omega) (by omega),V4 (by omega)];rfl
   rw [e1,e2]
   exact AF fp
 · have hq:wb*wc<0:=Int.mul_neg_of_pos_of_neg (by omega) (by omega)
   have hr:wc*wa<0:=Int.mul_neg_of_neg_of_pos (by omega) (by omega)
   have e1:J1 f.a f.b wa wb++J1 f.b f.c wb wc++J1 f.c f.a wc wa=[f.a,f.b,(crs f.b f.c wb wc),(crs f.c f.a wc wa)]:=by rw [Y4 (by omega) (by omega),AA (by omega) (by omega),AB (by omega) (by omega)];rfl
   have e2:J1 f.a f.b (-wa) (-wb)++J1 f.b f.c (-wb) (-wc)++J1 f.c f.a (-wc) (-wa)=[(crs f.b f.c wb wc),f.c,(crs f.c f.a wc wa)]:=by rw [Y5 (by omega) (by omega),AB (by omega) (by omega),AA (by omega) (by omega),V7 fp.b.w fp.c.w hq,V7 fp.c.w fp.a.w hr];rfl
   rw [e1,e2]
   exact KI fp wa wb wc hq hr
 · have e1:J1 f.a f.b wa wb++J1 f.b f.c wb wc++J1 f.c f.a wc wa=[f.a,f.b,f.c]:=by rw [Y4 (by omega) (by omega),V4 (by omega),Y4 (by omega) (by omega)];rfl
   have e2:J1 f.a f.b (-wa) (-wb)++J1 f.b f.c (-wb) (-wc)++J1 f.c f.a (-wc) (-wa)=[f.b]:=by rw [Y5 (by omega) (by omega),V4 (by omega),Y5 (by omega) (by omega)];rfl
   rw [e1,e2]
   exact AF fp
 · have e1:J1 f.a f.b wa wb++J1 f.b f.c wb wc++J1 f.c f.a wc wa=[f.a,f.b,f.c]:=by rw [Y4 (by omega) (by omega),V4 (by omega),V4 (by omega)];rfl
   have e2:J1 f.a f.b (-wa) (-wb)++J1 f.b f.c (-wb) (-wc)++J1 f.c f.a (-wc) (-wa)=[f.b,f.c]:=by rw [Y5 (by omega) (by omega),V4 (by omega),V4 (by omega)];rfl
   rw [e1,e2]
   exact AF fp
 · have hr:wc*wa<0:=Int.mul_neg_of_neg_of_pos (by omega) (by omega)
   have e1:J1 f.a f.b wa wb++J1 f.b f.c wb wc++J1 f.c f.a wc wa=[f.a,f.b,(crs f.c f.a wc wa)]:=by rw [Y4 (by omega) (by omega),V4 (by omega),AB (by omega) (by omega)];rfl
   have e2:J1 f.a f.b (-wa) (-wb)++J1 f.b f.c (-wb) (-wc)++J1 f.c f.a (-wc) (-wa)=[f.b,f.c,(crs f.c f.a wc wa)]:=by rw [Y5 (by omega) (by omega),V4 (by omega),AA (by omega) (by omega),V7 fp.c.w fp.a.w hr];rfl
   rw [e1,e2]
   exact PQ fp wa wb wc hr
 · have hp:wa*wb<0:=Int.mul_neg_of_pos_of_neg (by omega) (by omega)
   have hq:wb*wc<0:=Int.mul_neg_of_neg_of_pos (by omega) (by omega)
   have e1:J1 f.a f.b wa wb++J1 f.b f.c wb wc++J1 f.c f.a wc wa=[f.a,(crs f.a f.b wa wb),(crs f.b f.c wb wc),f.c]:=by rw [AA (by omega) (by omega),AB (by omega) (by omega),Y4 (by omega) (by omega)];rfl
   have e2:J1 f.a f.b (-wa) (-wb)++J1 f.b f.c (-wb) (-wc)++J1 f.c f.a (-wc) (-wa)=[(crs f.a f.b wa wb),f.b,(crs f.b f.c wb wc)]:=by rw [AB (by omega) (by omega),AA (by omega) (by omega),Y5 (by omega) (by omega),V7 fp.a.w fp.b.w hp,V7 fp.b.w fp.c.w hq];rfl
   rw [e1,e2]
   exact KH fp wa wb wc hp hq
 · have hp:wa*wb<0:=Int.mul_neg_of_pos_of_neg (by omega) (by omega)
   have e1:J1 f.a f.b wa wb++J1 f.b f.c wb wc++J1 f.c f.a wc wa=[f.a,(crs f.a f.b wa wb),f.c]:=by rw [AA (by omega) (by omega),Y5 (by omega) (by omega),V4 (by omega)];rfl
   have e2:J1 f.a f.b (-wa) (-wb)++J1 f.b f.c (-wb) (-wc)++J1 f.c f.a (-wc) (-wa)=[(crs f.a f.b wa wb),f.b,f.c]:=by rw [AB (by omega) (by omega),Y4 (by omega) (by omega),V4 (by omega),V7 fp.a.w fp.b.w hp];rfl
   rw [e1,e2]
   exact PN fp wa wb wc hp
 · have hp:wa*wb<0:=Int.mul_neg_of_pos_of_neg (by omega) (by omega)
   have hr:wc*wa<0:=Int.mul_neg_of_neg_of_pos (by omega) (by omega)
   have e1:J1 f.a f.b wa wb++J1 f.b f.c wb wc++J1 f.c f.a wc wa=[f.a,(crs f.a f.b wa wb),(crs f.c f.a wc wa)]:=by rw [AA (by omega) (by omega),Y5 (by omega) (by omega),AB (by omega) (by omega)];rfl
   have e2:J1 f.a f.b (-wa) (-wb)++J1 f.b f.c (-wb) (-wc)++J1 f.c f.a (-wc) (-wa)=[(crs f.a f.b wa wb),f.b,f.c,(crs f.c f.a wc wa)]:=by rw [AB (by omega) (by omega),Y4 (by omega) (by omega),AA (by omega) (by omega),V7 fp.a.w fp.b.w hp,V7 fp.c.w fp.a.w hr];rfl
   rw [e1,e2]
   exact KG fp wa wb wc hp hr
 · have e1:J1 f.a f.b wa wb++J1 f.b f.c wb wc++J1 f.c f.a wc wa=[f.a,f.b,f.c]:=by rw [V4 (by omega),Y4 (by omega) (by omega),Y4 (by omega) (by omega)];rfl
   have e2:J1 f.a f.b (-wa) (-wb)++J1 f.b f.c (-wb) (-wc)++J1 f.c f.a (-wc) (-wa)=[f.a]:=by rw [V4 (by omega),Y5 (by omega) (by omega),Y5 (by omega) (by omega)];rfl
   rw [e1,e2]
   exact AF fp
 · have e1:J1 f.a f.b wa wb++J1 f.b f.c wb wc++J1 f.c f.a wc wa=[f.a,f.b,f.c]:=by rw [V4 (by omega),Y4 (by omega) (by omega),V4 (by omega)];rfl
   have e2:J1 f.a f.b (-wa) (-wb)++J1 f.b f.c (-wb) (-wc)++J1 f.c f.a (-wc) (-wa)=[f.a,f.c]:=by rw [V4 (by omega),Y5 (by omega) (by omega),V4 (by omega)];rfl
   rw [e1,e2]
   exact AF fp
 · have hq:wb*wc<0:=Int.mul_neg_of_pos_of_neg (by omega) (by omega)
   have e1:J1 f.a f.b wa wb++J1 f.b f.c wb wc++J1 f.c f.a wc wa=[f.a,f.b,(crs f.b f.c wb wc)]:=by rw [V4 (by omega),AA (by omega) (by omega),Y5 (by omega) (by omega)];rfl
   have e2:J1 f.a f.b (-wa) (-wb)++J1 f.b f.c (-wb) (-wc)++J1 f.c f.a (-wc) (-wa)=[f.a,(crs f.b f.c wb wc),f.c]:=by rw [V4 (by omega),AB (by omega) (by omega),Y4 (by omega) (by omega),V7 fp.b.w fp.c.w hq];rfl
   rw [e1,e2]
   exact PR fp wa wb wc hq
 · have e1:J1 f.a f.b wa wb++J1 f.b f.c wb wc++J1 f.c f.a wc wa=[f.a,f.b,f.c]:=by rw [V4 (by omega),V4 (by omega),Y4 (by omega) (by omega)];rfl
   have e2:J1 f.a f.b (-wa) (-wb)++J1 f.b f.c (-wb) (-wc)++J1 f.c f.a (-wc) (-wa)=[f.a,f.b]:=by rw [V4 (by omega),V4 (by omega),Y5 (by omega) (by omega)];rfl
   rw [e1,e2]
   exact AF fp
 · exact absurd ⟨ha,hb,hc⟩ nz
 · have e1:J1 f.a f.b wa wb++J1 f.b f.c wb wc++J1 f.c f.a wc wa=[f.a,f.b]:=by rw [V4 (by omega),V4 (by omega),Y5 (by omega) (by omega)];rfl
   have e2:J1 f.a f.b (-wa) (-wb)++J1 f.b f.c (-wb) (-wc)++J1 f.c f.a (-wc) (-wa)=[f.a,f.b,f.c]:=by rw [V4 (by omega),V4 (by omega),Y4 (by omega) (by omega)];rfl
   rw [e1,e2]
   exact AF fp
 · have hq:wb*wc<0:=Int.mul_neg_of_neg_of_pos (by omega) (by omega)
   have e1:J1 f.a f.b wa wb++J1 f.b f.c wb wc++J1 f.c f.a wc wa=[f.a,(crs f.b f.c wb wc),f.c]:=by rw [V4 (by omega),AB (by omega) (by omega),Y4 (by omega) (by omega)];rfl
   have e2:J1 f.a f.b (-wa) (-wb)++J1 f.b f.c (-wb) (-wc)++J1 f.c f.a (-wc) (-wa)=[f.a,f.b,(crs f.b f.c wb wc)]:=by rw [V4 (by omega),AA (by omega) (by omega),Y5 (by omega) (by omega),V7 fp.b.w fp.c.w hq];rfl
   rw [e1,e2]
   exact PM fp wa wb wc hq
 · have e1:J1 f.a f.b wa wb++J1 f.b f.c wb wc++J1 f.c f.a wc wa=[f.a,f.c]:=by rw [V4 (by omega),Y5 (by omega) (by omega),V4 (by omega)];rfl
   have e2:J1 f.a f.b (-wa) (-wb)++J1 f.b f.c (-wb) (-wc)++J1 f.c f.a (-wc) (-wa)=[f.a,f.b,f.c]:=by rw [V4 (by omega),Y4 (by omega) (by omega),V4 (by omega)];rfl
   rw [e1,e2]
   exact AF fp
 · have e1:J1 f.a f.b wa wb++J1 f.b f.c wb wc++J1 f.c f.a wc wa=[f.a]:=by rw [V4 (by omega),Y5 (by omega) (by omega),Y5 (by omega) (by omega)];rfl
   have e2:J1 f.a f.b (-wa) (-wb)++J1 f.b f.c (-wb) (-wc)++J1 f.c f.a (-wc) (-wa)=[f.a,f.b,f.c]:=by rw [V4 (by omega),Y4 (by omega) (by omega),Y4 (by omega) (by omega)];rfl
   rw [e1,e2]
   exact AF fp
 · have hp:wa*wb<0:=Int.mul_neg_of_neg_of_pos (by omega) (by omega)
   have hr:wc*wa<0:=Int.mul_neg_of_pos_of_neg (by omega) (by omega)
   have e1:J1 f.a f.b wa wb++J1 f.b f.c wb wc++J1 f.c f.a wc wa=[(crs f.a f.b wa wb),f.b,f.c,(crs f.c f.a wc wa)]:=by rw [AB (by omega) (by omega),Y4 (by omega) (by omega),AA (by omega) (by omega)];rfl
   have e2:J1 f.a f.b (-wa) (-wb)++J1 f.b f.c (-wb) (-wc)++J1 f.c f.a (-wc) (-wa)=[f.a,(crs f.a f.b wa wb),(crs f.c f.a wc wa)]:=by rw [AA (by omega) (by omega),Y5 (by omega) (by omega),AB (by omega) (by omega),V7 fp.a.w fp.b.w hp,V7 fp.c.w fp.a.w hr];rfl
   rw [e1,e2]
   exact KF fp wa wb wc hp hr
 · have hp:wa*wb<0:=Int.mul_neg_of_neg_of_pos (by omega) (by omega)
   have e1:J1 f.a f.b wa wb++J1 f.b f.c wb wc++J1 f.c f.a wc wa=[(crs f.a f.b wa wb),f.b,f.c]:=by rw [AB (by omega) (by omega),Y4 (by omega) (by omega),V4 (by omega)];rfl
   have e2:J1 f.a f.b (-wa) (-wb)++J1 f.b f.c (-wb) (-wc)++J1 f.c f.a (-wc) (-wa)=[f.a,(crs f.a f.b wa wb),f.c]:=by rw [AA (by omega) (by omega),Y5 (by omega) (by omega),V4 (by omega),V7 fp.a.w fp.b.w hp];rfl
   rw [e1,e2]
   exact PK fp wa wb wc hp
 · have hp:wa*wb<0:=Int.mul_neg_of_neg_of_pos (by omega) (by omega)
   have hq:wb*wc<0:=Int.mul_neg_of_pos_of_neg (by omega) (by omega)
   have e1:J1 f.a f.b wa wb++J1 f.b f.c wb wc++J1 f.c f.a wc wa=[(crs f.a f.b wa wb),f.b,(crs f.b f.c wb wc)]:=by rw [AB (by omega) (by omega),AA (by omega) (by omega),Y5 (by omega) (by omega)];rfl
   have e2:J1 f.a f.b (-wa) (-wb)++J1 f.b f.c (-wb) (-wc)++J1 f.c f.a (-wc) (-wa)=[f.a,(crs f.a f.b wa wb),(crs f.b f.c wb wc),f.c]:=by rw [AA (by omega) (by omega),AB (by omega) (by omega),Y4 (by omega) (by omega),V7 fp.a.w fp.b.w hp,V7 fp.b.w fp.c.w hq];rfl
   rw [e1,e2]
   exact KE fp wa wb wc hp hq
 · have hr:wc*wa<0:=Int.mul_neg_of_pos_of_neg (by omega) (by omega)
   have e1:J1 f.a f.b wa wb++J1 f.b f.c wb wc++J1 f.c f.a wc wa=[f.b,f.c,(crs f.c f.a wc wa)]:=by rw [Y5 (by omega) (by omega),V4 (by omega),AA (by omega) (by omega)];rfl
   have e2:J1 f.a f.b (-wa) (-wb)++J1 f.b f.c (-wb) (-wc)++J1 f.c f.a (-wc) (-wa)=[f.a,f.b,(crs f.c f.a wc wa)]:=by rw [Y4 (by omega) (by omega),V4 (by omega),AB (by omega) (by omega),V7 fp.c.w fp.a.w hr];rfl
   rw [e1,e2]
   exact PL fp wa wb wc hr
 · have e1:J1 f.a f.b wa wb++J1 f.b f.c wb wc++J1 f.c f.a wc wa=[f.b,f.c]:=by rw [Y5 (by omega) (by omega),V4 (by omega),V4 (by omega)];rfl
   have e2:J1 f.a f.b (-wa) (-wb)++J1 f.b f.c (-wb) (-wc)++J1 f.c f.a (-wc) (-wa)=[f.a,f.b,f.c]:=by rw [Y4 (by omega) (by omega),V4 (by omega),V4 (by omega)];rfl
   rw [e1,e2]
   exact AF fp
 · have e1:J1 f.a f.b wa wb++J1 f.b f.c wb wc++J1 f.c f.a wc wa=[f.b]:=by rw [Y5 (by omega) (by omega),V4 (by omega),Y5 (by omega) (by omega)];rfl
   have e2:J1 f.a f.b (-wa) (-wb)++J1 f.b f.c (-wb) (-wc)++J1 f.c f.a (-wc) (-wa)=[f.a,f.b,f.c]:=by rw [Y4 (by omega) (by omega),V4 (by omega),Y4 (by omega) (by omega)];rfl
   rw [e1,e2]
   exact AF fp
 · have hq:wb*wc<0:=Int.mul_neg_of_neg_of_pos (by omega) (by omega)
   have hr:wc*wa<0:=Int.mul_neg_of_pos_of_neg (by omega) (by omega)
   have e1:J1 f.a f.b wa wb++J1 f.b f.c wb wc++J1 f.c f.a wc wa=[(crs f.b f.c wb wc),f.c,(crs f.c f.a wc wa)]:=by rw [Y5 (by omega) (by omega),AB (by omega) (by omega),AA (by omega) (by omega)];rfl
   have e2:J1 f.a f.b (-wa) (-wb)++J1 f.b f.c (-wb) (-wc)++J1 f.c f.a (-wc) (-wa)=[f.a,f.b,(crs f.b f.c wb wc),(crs f.c f.a wc wa)]:=by rw [Y4 (by omega) (by omega),AA (by omega) (by omega),AB (by omega) (by omega),V7 fp.b.w fp.c.w hq,V7 fp.c.w fp.a.w hr];rfl
   rw [e1,e2]
   exact KD fp wa wb wc hq hr
 · have e1:J1 f.a f.b wa wb++J1 f.b f.c wb wc++J1 f.c f.a wc wa=[f.c]:=by rw [Y5 (by omega) (by omega),Y5 (by omega) (by omega),V4 (by omega)];rfl
   have e2:J1 f.a f.b (-wa) (-wb)++J1 f.b f.c (-wb) (-wc)++J1 f.c f.a (-wc) (-wa)=[f.a,f.b,f.c]:=by rw [Y4 (by omega) (by omega),Y4 (by omega) (by omega),V4 (by omega)];rfl
   rw [e1,e2]
   exact AF fp
 · have e1:J1 f.a f.b wa wb++J1 f.b f.c wb wc++J1 f.c f.a wc wa=[]:=by rw [Y5 (by omega) (by omega),Y5 (by omega) (by omega),Y5 (by omega) (by omega)];rfl
   have e2:J1 f.a f.b (-wa) (-wb)++J1 f.b f.c (-wb) (-wc)++J1 f.c f.a (-wc) (-wa)=[f.a,f.b,f.c]:=by rw [Y4 (by omega) (by omega),Y4 (by omega) (by omega),Y4 (by omega) (by omega)];rfl
   rw [e1,e2]
   exact AF fp
noncomputable def Up (f p:F3):Prop:=∃ k B q:Int,0<=k/\0<B/\0<q/\p.top*B=k*f.top*q/\∀ px py,p.t.top px py*B=k*f.t.top px py*q
structure Cov (f:F3)(l:List F3):Prop where
 sg:∀ px py,f.t.sg px py=(l.map fun p=>p.t.sg px py).sum
 up:∀ p∈l,Up f p
 ar:f.ar=(l.map F3.ar).sum
theorem Up.trans {f p r:F3}(h:Up f p)(h':Up p r):Up f r:=by
 obtain ⟨k,B,q,k0,B0,q0,e,e2⟩:=h
 obtain ⟨k',B',q',k0',B0',q0',e',e2'⟩:=h'
 refine ⟨k'*k,B'*B,q*q',Int.mul_nonneg k0' k0,Int.mul_pos B0' B0,Int.mul_pos q0 q0',?_,fun px py=>?_⟩
 · generalize f.top=x at *
   generalize p.top=y at *
   generalize r.top=z at *
   clear e2 e2'
   grind
 · have e:=e2 px py
   have e':=e2' px py
   generalize f.t.top px py=x at *
   generalize p.t.top px py=y at *
   generalize r.t.top px py=z at *
   clear e2 e2'
   grind
theorem Cov.self (f:F3):Cov f [f]:=⟨fun px py=>by show f.t.sg px py=f.t.sg px py+0;omega,fun p hp=>by
 rw [List.mem_singleton.mp hp]
 exact ⟨1,1,1,by decide,by decide,by decide,by omega,fun px py=>by omega⟩,by show f.ar=f.ar+0;grind⟩
noncomputable def GS (fl:R4)(fs:List F3):List F3:=fs.flatMap fun f=>JY (keptL f fl)
theorem UV (g:F3->Int)(G:R4):∀ l:List F3,((GS G l).map g).sum+((GS (GL G) l).map g).sum=(l.map fun p=>((JY (keptL p G)++JY (keptL p (GL G))).map g).sum).sum
 | []=>rfl
 | p::l=>by
   have:=UV g G l
   unfold GS at *
   simp only [List.flatMap_cons,List.map_append,List.sum_append,List.map_cons,List.sum_cons] at *
   omega
theorem MV:∀ a b:List Rat,(a++b).sum=a.sum+b.sum
 | [],b=>by show b.sum=0+b.sum;grind
 | x::a,b=>by
   have:=MV a b
   rw [List.cons_append,List.sum_cons,List.sum_cons,this]
   grind
theorem PZ (g:F3->Rat)(G:R4):∀ l:List F3,((GS G l).map g).sum+((GS (GL G) l).map g).sum=(l.map fun p=>((JY (keptL p G)++JY (keptL p (GL G))).map g).sum).sum
 | []=>by show (0:Rat)+0=0;grind
 | p::l=>by
   have:=PZ g G l
   unfold GS at *
   simp only [List.flatMap_cons,List.map_append,MV,List.map_cons,List.sum_cons] at *
   grind
theorem Cov.step {f:F3}{l:List F3}(h:Cov f l)(G:R4)(hp:∀ p∈l,p.pr)(nz:∀ p∈l,¬ (dot4 G p.a=0/\dot4 G p.b=0/\dot4 G p.c=0)):Cov f (GS G l++GS (GL G) l):=by
 refine ⟨fun px py=>?_,fun r hr=>?_,?_⟩
 · rw [h.sg,List.map_append,List.sum_append,UV]
   congr 1
   exact List.map_congr_left fun p hp'=>(LL (hp p hp') (nz p hp')).sg px py
 · have go:∃ p∈l,r∈JY (keptL p G)++JY (keptL p (GL G)):=by
    rcases List.mem_append.mp hr with hr|hr
    · obtain ⟨p,hp',hr⟩:=List.mem_flatMap.mp hr
      exact ⟨p,hp',List.mem_append_left _ hr⟩
    · obtain ⟨p,hp',hr⟩:=List.mem_flatMap.mp hr
      exact ⟨p,hp',List.mem_append_right _ hr⟩
   obtain ⟨p,hp',hr⟩:=go
   exact (h.up p hp').trans ((LL (hp p hp') (nz p hp')).up r hr)
 · rw [h.ar,List.map_append,MV,PZ]
   congr 1
   exact List.map_congr_left fun p hp'=>J3l (hp p hp') (nz p hp')
theorem F3.pr.pos {f:F3}(h:f.pr):f.t.pos:=⟨h.a.w,h.b.w,h.c.w⟩
theorem Up.way {f p:F3}(h:Up f p)(n:p.top≠0):f.top≠0/\sgn p.top=sgn f.top:=by
 obtain ⟨k,B,q,k0,B0,q0,e,_⟩:=h
 have kz:k≠0:=by
  rintro rfl
  rw [Int.zero_mul,Int.zero_mul] at e
  exact n ((Int.mul_eq_zero.mp e).resolve_right (by omega))
 have e1:sgn (B*p.top)=sgn (k*q*f.top):=by rw [Int.mul_comm B,e];congr 1;ac_rfl
 rw [EF _ B0,EF _ (Int.mul_pos (by omega) q0)] at e1
 refine ⟨fun z=>n ?_,e1⟩
 rw [z] at e1
 exact EG.mp (e1.trans IL)
theorem WV {f:F3}(px py:Int):∀ {l:List F3},(∀ p∈l,Up f p)->(∀ p∈l,p.pr)->(l.map fun p=>p.t.sg px py).sum=((l.filter fun p=>decide (p.t.has px py)).length:Int)*sgn f.top/\(0<(l.filter fun p=>decide (p.t.has px py)).length->f.top≠0)
 | [],_,_=>⟨by simp,fun h=>absurd h (by simp)⟩
 | p::l,h,hp=>by
   obtain ⟨e,n⟩:=WV px py (l:=l) (fun p hp'=>h p (List.mem_cons_of_mem _ hp')) (fun p hp'=>hp p (List.mem_cons_of_mem _ hp'))
   have u:=h p (List.mem_cons_self ..)
   have pp:=(hp p (List.mem_cons_self ..)).pos
   rw [List.map_cons,List.sum_cons,e,List.filter_cons]
   unfold T3.sg
   by_cases z:p.t.has px py
   · obtain ⟨u1,u2⟩:=u.way (T3.has_tn pp z)
     rw [if_pos z,if_pos (by simp [z]),List.length_cons]
     have u2:sgn p.t.tn=sgn f.top:=u2
     refine ⟨?_,fun _=>u1⟩
     rw [u2]
     push_cast
     rw [Int.add_mul,Int.one_mul,Int.add_comm]
   · rw [if_neg z,if_neg (by simp [z])]
     exact ⟨by omega,n⟩
theorem Cov.once {f:F3}{l:List F3}(h:Cov f l)(fp:f.pr)(hp:∀ p∈l,p.pr)(px py:Int):(l.filter fun p=>decide (p.t.has px py)).length=if f.t.has px py then 1 else 0:=by
 obtain ⟨e,n⟩:=WV px py h.up hp
 have s:=h.sg px py
 rw [e] at s
 generalize (l.filter fun p=>decide (p.t.has px py)).length=m at *
 unfold T3.sg at s
 have c:=Y9 f.top
 by_cases z:f.t.has px py
 · have tz:f.top≠0:=T3.has_tn fp.pos z
   rw [if_pos z] at s ⊢
   have s:sgn f.top=(m:Int)*sgn f.top:=s
   rcases c with ⟨_,c⟩|⟨c,_⟩|⟨_,c⟩
   · rw [c] at s;omega
   · exact absurd c tz
   · rw [c] at s;omega
 · rw [if_neg z] at s ⊢
   by_cases m0:0<m
   · have tz:=n m0
     rcases c with ⟨_,c⟩|⟨c,_⟩|⟨_,c⟩
     · rw [c] at s;omega
     · exact absurd c tz
     · rw [c] at s;omega
   · omega
noncomputable def QQ:List (List Int):=(List.range 9).flatMap fun (x:Nat)=>(List.range 9).map fun (y:Nat)=>[(x:Int),(y:Int)]
noncomputable def Q7g:List (List Int):=(List.range 9).flatMap fun (y:Nat)=>(List.range 9).map fun (x:Nat)=>[(x:Int),(y:Int)]
theorem Q7f:Q7g.Perm QQ:=List.isPerm_iff.mp (by decide +kernel)
theorem J5x:QQ.Pairwise (fun x y=>CD 0 x<=CD 0 y):=by decide +kernel
theorem Q0b:∀ r∈QQ,r.length=2/\∀ z∈r,BP z:=by
 intro r hr
 obtain ⟨x,hx,hr⟩:=List.mem_flatMap.mp hr
 obtain ⟨y,hy,rfl⟩:=List.mem_map.mp hr
 rw [List.mem_range] at hx hy
 refine ⟨rfl,fun z hz=>?_⟩
 simp only [List.mem_cons,List.not_mem_nil,or_false] at hz
 unfold BP
 omega
noncomputable def OB (t:T3):List Int->Bool
 | [x,y]=>decide (t.has x y)
 | _=>false
noncomputable def dR (t:T3):List (List Int):=QQ.filter (OB t)
theorem TD (t:T3):(dR t).length<=81:=Nat.le_trans (List.length_filter_le ..) (by decide +kernel)
theorem J6u {t:T3}{r:List Int}(h:r∈dR t):r.length=2/\∀ z∈r,BP z:=Q0b r (List.mem_filter.mp h).1
theorem WR (r:List Int)(t:T3):(dR t).count r=if OB t r then QQ.count r else 0:=by
 by_cases z:OB t r=true
 · rw [if_pos z];exact List.count_filter z
 · rw [if_neg z];exact List.count_eq_zero_of_not_mem fun h=>z (List.mem_filter.mp h).2
theorem QW (r:List Int):∀ l:List F3,(l.flatMap fun p=>dR p.t).count r=(l.filter fun p=>OB p.t r).length*QQ.count r
 | []=>by simp
 | p::l=>by
   have:=QW r l
   rw [List.flatMap_cons,List.count_append,this,WR,List.filter_cons]
   by_cases z:OB p.t r=true
   · rw [if_pos z,if_pos z,List.length_cons,Nat.add_mul,Nat.one_mul,Nat.add_comm]
   · rw [if_neg z,if_neg z,Nat.zero_add]
theorem SN (l:List F3)(k:Nat):(l.filter fun _=>false).length*k=if false=true then k else 0:=by
 rw [List.filter_eq_nil_iff.mpr (by simp),List.length_nil,Nat.zero_mul]
 rfl
theorem Cov.dots {f:F3}{l:List F3}(h:Cov f l)(fp:f.pr)(hp:∀ p∈l,p.pr):(l.flatMap fun p=>dR p.t).Perm (dR f.t):=List.perm_iff_count.mpr fun r=>by
 rw [QW,WR]
 match r with
 | [x,y] =>
   have:=h.once fp hp x y
   show (l.filter fun p=>decide (p.t.has x y)).length*_=if decide (f.t.has x y)=true then _ else _
   rw [this]
   by_cases z:f.t.has x y
   · simp [z]
   · simp [z]
 | []=>exact SN _ _
 | [_]=>exact SN _ _
 | _::_::_::_=>exact SN _ _
theorem Q0x {t:T3}{rows:List (List Int)}(p:rows.Perm (dR t))(so:rows.Pairwise (fun x y=>CD 0 x<=CD 0 y)):rows=dR t:=by
 refine List.Perm.eq_of_pairwise (le:=fun r s=>CD 0 r<=CD 0 s) (fun a b ha hb h1 h2=>?_) so (List.Pairwise.filter _ J5x) p
 have a1:=J6u (p.mem_iff.mp ha)
 have b1:=J6u hb
 exact (WO a b 0 0 (by rw [a1.1,b1.1]) a1.2 b1.2 (Int.le_antisymm h1 h2)).2
theorem J7g (t:T3)(x:Nat):∀ n:Nat,XB t x n=((((List.range n).map fun (y:Nat)=>[(x:Int),(y:Int)]).filter (OB t)).map CT)
 | 0=>rfl
 | n+1=>by
   rw [List.range_succ,List.map_append,List.filter_append,List.map_append,<- J7g t x n]
   show _++(if t.has x n then [t2 x n] else [])=_
   congr 1
   by_cases z:t.has x n
   · simp [z,OB,CT]
   · simp [z,OB]
theorem J0u (t:T3)(h:Nat):∀ n:Nat,QV t h n=((((List.range n).flatMap fun (x:Nat)=>(List.range h).map fun (y:Nat)=>[(x:Int),(y:Int)]).filter (OB t)).map CT)
 | 0=>rfl
 | n+1=>by
   rw [List.range_succ,List.flatMap_append,List.filter_append,List.map_append,<- J0u t h n]
   show _++XB t n h=_
   rw [J7g]
   simp
theorem YX (t:T3):QV t 9 9=(dR t).map CT:=J0u t 9 9
theorem MZ {ax ay aw bx b_y bw x1 x x2 y way:Int}(h:way=1\/way = -1)(h1:sgn (shd ax ay aw bx b_y bw x1 y)=way)(h2:sgn (shd ax ay aw bx b_y bw x2 y)=way)(l1:x1<=x)(l2:x<=x2):sgn (shd ax ay aw bx b_y bw x y)=way:=by
 rcases Int.lt_trichotomy (way*(ay*bw - aw*b_y)) 0 with q|q|q
 · rw [VE h q] at h1 h2 ⊢
   rw [RN] at h1 h2 ⊢
   have:=Int.mul_le_mul_of_nonpos_right l2 (Int.le_of_lt q)
   omega
 · rw [NA h q] at h1 h2 ⊢
   exact h1
 · rw [VD h q] at h1 h2 ⊢
   rw [RN] at h1 h2 ⊢
   have:=Int.mul_le_mul_of_nonneg_right l1 (Int.le_of_lt q)
   omega
theorem Q0a {t:T3}(pos:t.pos){x1 x x2 y:Int}(h1:t.has x1 y)(h2:t.has x2 y)(l1:x1<=x)(l2:x<=x2):t.has x y:=by
 have tz:=T3.has_tn pos h1
 have sz:sgn t.tn≠0:=fun z=>tz (EG.mp z)
 have hw:sgn t.tn=1\/sgn t.tn = -1:=by have:=Y9 t.tn;omega
 rw [T3.has_way pos sz] at h1 h2 ⊢
 exact ⟨MZ hw h1.1 h2.1 l1 l2,MZ hw h1.2.1 h2.2.1 l1 l2,MZ hw h1.2.2 h2.2.2 l1 l2⟩
theorem J4g {f l:Int}(h:f<=l):∀ n,n∈(List.range (l+1 - f).toNat).map (fun (k:Nat)=>f+(k:Int))↔f<=n/\n<=l:=fun n=>by
 rw [List.mem_map]
 constructor
 · rintro ⟨k,hk,rfl⟩
   rw [List.mem_range] at hk
   omega
 · intro h
   exact ⟨(n - f).toNat,List.mem_range.mpr (by omega),by omega⟩
theorem J5w {t:T3}(pos:t.pos){w:Nat}{y x:Int}{xs:List Int}(e:hasL t w y=x::xs):hasL t w y=(List.range ((x::xs).getLast (by simp)+1 - x).toNat).map (fun (k:Nat)=>x+(k:Int)):=by
 have hs:=GP t w y
 have hm:∀ n,n∈hasL t w y↔(0<=n/\n<w/\t.has n y):=fun n=>GM
 rw [e] at hs hm ⊢
 have m1:=(hm x).mp (List.mem_cons_self ..)
 have m2:=(hm _).mp (List.getLast_mem (by simp:x::xs≠[]))
 have le:=IZ hs (by simp) (List.mem_cons_self (a:=x) (l:=xs))
 generalize hl:(x::xs).getLast (by simp)=l at *
 refine List.Perm.eq_of_pairwise (le:=fun a b:Int=>a<=b) (fun a b _ _ h1 h2=>Int.le_antisymm h1 h2) (hs.imp fun h=>Int.le_of_lt h) ?_ ?_
 · rw [List.pairwise_map]
   exact List.pairwise_lt_range.imp fun h=>by omega
 · refine (List.perm_ext_iff_of_nodup (hs.imp fun h=>Int.ne_of_lt h) ?_).mpr fun n=>?_
   · unfold List.Nodup
     rw [List.pairwise_map]
     exact List.pairwise_lt_range.imp fun h=>by omega
   · rw [J4g le]
     constructor
     · intro h
       have q1:=J0o hs h
       have q2:=IZ hs (by simp) h
       rw [hl] at q2
       exact ⟨q1,q2⟩
     · rintro ⟨q1,q2⟩
       rw [hm]
       exact ⟨by omega,by omega,Q0a pos m1.2.2 m2.2.2 q1 q2⟩
noncomputable def segs (t:T3)(w:Nat):Nat->List (Int×List Int)
 | 0=>[]
 | y+1=>segs t w y++(match hasL t w y with
   | []=>[]
   | x::xs=>[((y:Int),x::xs)])
noncomputable def Q2t (s:Int×List Int):D:=match s.2 with
 | []=>.non
 | x::xs=>t3 s.1 x ((x::xs).getLast (by simp))
noncomputable def HE (s:Int×List Int):List (List Int):=s.2.map fun x=>[x,s.1]
theorem VB (t:T3)(w:Nat):∀ n:Nat,spN t w n=(segs t w n).map Q2t
 | 0=>rfl
 | n+1=>by
   show spN t w n++RW n (hasL t w n)=_
   rw [VB t w n]
   show _=(segs t w n++_).map Q2t
   rw [List.map_append]
   congr 1
   cases hasL t w n with
   | nil=>rfl
   | cons x xs=>rfl
theorem VH {t:T3}(pos:t.pos){w:Nat}{s:Int×List Int}:∀ {n:Nat},s∈segs t w n->∃ (y x:Int) (k:Nat),0<=x/\x+k<=w/\Q2t s=t3 y x (x+k - 1)/\HE s=(List.range k).map fun (j:Nat)=>[x+(j:Int),y]
 | 0,h=>by cases h
 | n+1,h=>by
   rcases List.mem_append.mp h with h|h
   · exact VH pos h
   · cases e:hasL t w n with
     | nil=>rw [e] at h;cases h
     | cons x xs =>
       rw [e] at h
       rw [List.mem_singleton.mp h]
       have r:=J5w pos e
       have m1:=(GM (t:=t) (w:=w) (y:=n)).mp (by rw [e];exact List.mem_cons_self ..)
       have m2:=(GM (t:=t) (w:=w) (y:=n)).mp (by rw [e];exact List.getLast_mem (by simp:x::xs≠[]))
       have hs:=GP t w n
       rw [e] at hs
       have le:=IZ hs (by simp) (List.mem_cons_self (a:=x) (l:=xs))
       rw [e] at r
       generalize hl:(x::xs).getLast (by simp)=l at *
       refine ⟨n,x,(l+1 - x).toNat,m1.1,by omega,?_,?_⟩
       · show t3 n x ((x::xs).getLast _)=_
         rw [hl,show x+((l+1 - x).toNat:Int) - 1=l by omega]
       · show (x::xs).map _=_
         rw [r,List.map_map]
         rfl
theorem J3z (t:T3)(w:Nat):∀ n:Nat,(segs t w n).flatMap HE=((List.range n).flatMap fun (y:Nat)=>(List.range w).map fun (x:Nat)=>[(x:Int),(y:Int)]).filter (OB t)
 | 0=>rfl
 | n+1=>by
   rw [List.range_succ,List.flatMap_append,List.filter_append,<- J3z t w n]
   show (segs t w n++_).flatMap HE=_
   rw [List.flatMap_append]
   congr 1
   have e:(hasL t w n).map (fun x=>[x,(n:Int)])=(((List.range w).map fun (x:Nat)=>[(x:Int),(n:Int)]).filter (OB t)):=by
    unfold hasL
    rw [List.filter_map,List.filter_map,List.map_map]
    rfl
   rw [List.flatMap_cons,List.flatMap_nil,List.append_nil,<- e]
   cases hasL t w n with
   | nil=>rfl
   | cons x xs =>
     show HE _++[]=_
     rw [List.append_nil]
     rfl
theorem QC (t:T3):((segs t 9 9).flatMap HE).Perm (dR t):=by
 rw [J3z]
 exact Q7f.filter _
theorem QS {α β:Type}{f g:α->List β}:∀ {l:List α},(∀ a∈l,(f a).Perm (g a))->(l.flatMap f).Perm (l.flatMap g)
 | [],_=>List.Perm.refl _
 | a::l,h=>by
   rw [List.flatMap_cons,List.flatMap_cons]
   exact (h a (List.mem_cons_self ..)).append (QS fun b hb=>h b (List.mem_cons_of_mem _ hb))
noncomputable abbrev GJ:Stmt:=top 51
noncomputable abbrev J8a:List Str:=["_law_x","_law_y","_law_z","_law_w"]
theorem IP:FnScope ["_law_x","_law_y","_law_z","_law_w","_law_common_here"] J8a (J7 GJ):=⟨rfl,rfl,rfl,by decide +kernel,rfl,by decide +kernel,by decide +kernel⟩
noncomputable def UF:DSp:=fun ds P _=>∃ (x y z w:Int) (n:Nat),ds=[.int x,.int y,.int z,.int w]/\0<w/\(Bd n x/\Bd n y/\Bd n z/\Bd n w)/\n<=9000/\∀ x' y' z' w':Int,(Bd n x'/\Bd n y'/\Bd n z'/\Bd n w')->0<w'->P (sp4 x' y' z' w')
theorem SG {f:Addr} (F:Fun K "_law_spot" "_law_spot" GJ f fd) (Z:Bi mg) {c:Cs} (Y:Ex K mg base c) (zg0:Callee P w K mg base CX0 "_law_common" 1 xl5 (Q0 K BT RJ)):FnOk P w K mg base CX0 2 f fd J8a (Q0 K BT UF):=by
 refine F.okD IP (fun ds PP Ed h=>?_) (fun cdv A outer s H E M bg ds PP Ed hr hS_=>?_)
 · obtain ⟨x,y,z,w',n,rfl,h0,⟨h1,h2,h3,h4⟩,hn,hP⟩:=h
   rfl
 · obtain ⟨x,y,z,w',n,rfl,h0,⟨h1,h2,h3,h4⟩,hn,hP⟩:=hS_
   refine ⟨_,(J6 (V2 (i:=4) IP.nd rfl (by walk_at "o") (Q3 zg0 hr.m rfl (J0 (Q3 zg0 hr.m rfl (J0 (jdv 0) (J0 (jdv 1) J3))) (J0 (Q3 zg0 hr.m rfl (J0 (jdv 2) (J0 (jdv 3) J3))) J3))))
    (J8 (V3 (Y1 (J0 (Q5 CL AH (jdv 0) (jdv 4)) (J0 (Q5 CL AH (jdv 1) (jdv 4)) (J0 (Q5 CL AH (jdv 2) (jdv 4)) (J0 (Q5 CL AH (jdv 3) (jdv 4)) J3)))))))),?_⟩
   walk_at "g"
   refine ⟨_,_,rfl,?_⟩
   walk_at "g"
   refine ⟨_,_,rfl,?_⟩
   walk_at "g"
   refine ⟨_,_,rfl,?_⟩
   generalize hg:((Int.gcd ((Int.gcd x y:Nat):Int) ((Int.gcd z w':Nat):Int):Nat):Int)=gg
   have d1:Int.gcd ((Int.gcd x y:Nat):Int) ((Int.gcd z w':Nat):Int) ∣ Int.gcd z w':=by
    have:=Int.gcd_dvd_natAbs_right ((Int.gcd x y:Nat):Int) ((Int.gcd z w':Nat):Int)
    simpa using this
   have d2:Int.gcd z w' ∣ w'.natAbs:=Int.gcd_dvd_natAbs_right ..
   have d3:=Nat.dvd_trans d1 d2
   have l1:=Nat.le_of_dvd (by omega) d3
   have l2:0<Int.gcd ((Int.gcd x y:Nat):Int) ((Int.gcd z w':Nat):Int):=Nat.pos_of_dvd_of_pos d3 (by omega)
   have g0:0<gg:=by omega
   have gl:gg<=w':=by omega
   have gb:Bd n gg:=by unfold Bd at h4 ⊢;omega
   walk_at "g"
   refine ⟨⟨g0,n,gb,hn⟩,⟨g0,n,gb,hn⟩,⟨g0,n,gb,hn⟩,⟨g0,n,gb,hn⟩,?_⟩
   walk_at "g"
   refine hP _ _ _ _ ⟨h1.ediv g0,h2.ediv g0,h3.ediv g0,h4.ediv g0⟩ ?_
   have:=Int.le_ediv_of_mul_le g0 (show 1*gg<=w' by omega)
   omega
noncomputable abbrev KW:Stmt:=top 52
noncomputable abbrev J1v:List Str:=["_law_bag_here","_law_wide"]
theorem CV:FnScope ["_law_bag_here","_law_wide","_law_way","_law_w","_law_reach","_law_x","_law_y"] J1v (J7 KW):=⟨rfl,rfl,rfl,by decide +kernel,rfl,by decide +kernel,by decide +kernel⟩
noncomputable def Q1w:DSp:=fun ds P _=>∃ wide:Int,ds=[.bag,.int wide]/\0<=wide/\wide<=1000/\∀ x y z w:Int,(Bd 24 x/\Bd 24 y/\Bd 24 z/\Bd 24 w)->0<w->P (sp4 x y z w)
theorem YO {f:Addr} (F:Fun K "_law_at" "_law_at" KW f fd) (Z:Bi mg) {c:Cs} (Y:Ex K mg base c) (zg0:Callee P w K mg base CX0 "_law_digit" 2 xl3 (Q0 K BT HD)) (zg1:Callee P w K mg base CX0 "_law_spot" 2 J8a (Q0 K BT UF)):FnOk P w K mg base CX0 3 f fd J1v (Q0 K BT Q1w):=by
 refine F.okD CV (fun ds PP Ed h=>?_) (fun cdv A outer s H E M bg ds PP Ed hr hS_=>?_)
 · obtain ⟨wide,rfl,w0,w1,hP⟩:=h
   rfl
 · obtain ⟨wide,rfl,w0,w1,hP⟩:=hS_
   refine ⟨_,(J6 (V2 (i:=2) CV.nd rfl (by walk_at "o") (Q3 zg0 hr.m rfl (J0 (jdv 0) (J0 J4 J3))))
    (J6 (V2 (i:=3) CV.nd rfl (by walk_at "o") (Q6 (Q7 K (by rfl)) Q8 (FV (J0 J4 (J0 J4 (J0 J4 (J0 J4 (J0 J4 (J0 J4 (J0 J4 (J0 J4 J3))))))))) (jdv 2) (fun _ _=>rfl)))
    (J6 (V2 (i:=4) CV.nd rfl (by walk_at "o") (Q6 (Q7 K (by rfl)) Q8 (FV (J0 (jdv 1) (J0 (jdv 1) (J0 (Q5 AX Z6 (jdv 1) J4) (J0 (jdv 1) (J0 (Q5 AX Z6 (jdv 1) J4) (J0 (jdv 1) (J0 (jdv 1) (J0 (Q5 YH AH J4 J4) J3))))))))) (jdv 2) (fun _ _=>rfl)))
    (J6 (V2 (i:=5) CV.nd rfl (by walk_at "o") (Q5 AJ Z6 (Q3 zg0 hr.m rfl (J0 (jdv 0) (J0 (Q5 V1 AH (Q5 AX Z6 (jdv 4) J4) (jdv 3)) J3))) (Q5 V1 AH J4 (jdv 3))))
    (J6 (V2 (i:=6) CV.nd rfl (by walk_at "o") (Q5 AJ Z6 (Q3 zg0 hr.m rfl (J0 (jdv 0) (J0 (Q5 V1 AH (Q5 AX Z6 (jdv 4) J4) (jdv 3)) J3))) (Q5 V1 AH J4 (jdv 3))))
    (J8 (V3 (Q3 zg1 hr.m rfl (J0 (jdv 5) (J0 (jdv 6) (J0 (Q5 AJ Z6 (Q3 zg0 hr.m rfl (J0 (jdv 0) (J0 J4 J3))) J4) (J0 (jdv 3) J3)))))))))))),?_⟩
   walk_at "g"
   refine ⟨_,64,rfl,by decide,Bd.num _ (by decide),by decide,fun way y0 y1=>?_⟩
   walk_at "g"
   refine ixm y0 (by exact y1) fun dw mw=>?_
   obtain ⟨w',rfl,wp,wl⟩:∃ w':Int,dw=.int w'/\0<w'/\w'<=6:=by
    simp only [List.mem_cons,List.not_mem_nil,or_false] at mw
    rcases mw with e|e|e|e|e|e|e|e<;>exact ⟨_,e,by decide,by decide⟩
   walk_at "g"
   refine ixm y0 (by exact y1) fun dr mr=>?_
   obtain ⟨re,rfl,rp,rl⟩:∃ re:Int,dr=.int re/\0<=re/\re<=1000000:=by
    simp only [List.mem_cons,List.not_mem_nil,or_false] at mr
    rcases mr with e|e|e|e|e|e|e|e<;>first|exact ⟨_,e,by omega,by omega⟩|exact ⟨_,e,by decide,by decide⟩
   have bw:Bd 4 w':=Bd.of (by omega) (by omega)
   have br:Bd 20 (re+4):=Bd.of (by omega) (by omega)
   have bm:Bd 64 ((re+4)*w'):=(Bd.mul br bw).mono (by decide)
   have pm:0<(re+4)*w':=Int.mul_pos (by omega) wp
   have um:(re+4)*w'<=1000004*6:=Int.mul_le_mul (by omega) wl (by omega) (by decide)
   walk_at "g"
   refine ⟨_,64,rfl,pm,bm,by decide,fun x x0 x1=>?_⟩
   walk_at "g"
   refine ⟨_,64,rfl,pm,bm,by decide,fun y z0 z1=>?_⟩
   walk_at "g"
   refine ⟨_,64,rfl,by decide,Bd.num _ (by decide),by decide,fun z u0 u1=>?_⟩
   walk_at "g"
   refine ⟨_,_,_,_,24,rfl,wp,⟨Bd.of (by omega) (by omega),Bd.of (by omega) (by omega),Bd.of (by omega) (by omega),bw.mono (by decide)⟩,by decide,fun x' y' z' w2 hb h0=>?_⟩
   exact hP _ _ _ _ hb h0
noncomputable abbrev GK:Stmt:=top 53
theorem AZ:FnScope ["_law_bag_here","_law_wide","_law_way","_law_a","_law_b","_law_c"] J1v (J7 GK):=⟨rfl,rfl,rfl,by decide +kernel,rfl,by decide +kernel,by decide +kernel⟩
noncomputable def J1q:DSp:=fun ds P _=>∃ wide:Int,ds=[.bag,.int wide]/\0<=wide/\wide<=1000/\∀ t:T3,t.ok 60->t.pos->P t.d
theorem SI {f:Addr} (F:Fun K "_law_face" "_law_face" GK f fd) (Z:Bi mg) {c:Cs} (Y:Ex K mg base c) (zg0:Callee P w K mg base CX0 "_law_digit" 2 xl3 (Q0 K BT HD)) (zg1:Callee P w K mg base CX0 "_law_at" 3 J1v (Q0 K BT Q1w)) (zg2:Callee P w K mg base CX0 "_law_spot" 2 J8a (Q0 K BT UF)):FnOk P w K mg base CX0 4 f fd J1v (Q0 K BT J1q):=by
 refine F.okD AZ (fun ds PP Ed h=>?_) (fun cdv A outer s H E M bg ds PP Ed hr hS_=>?_)
 · obtain ⟨wide,rfl,w0,w1,hP⟩:=h
   rfl
 · obtain ⟨wide,rfl,w0,w1,hP⟩:=hS_
   refine ⟨_,(J6 (V2 (i:=2) AZ.nd rfl (by walk_at "o") (Q3 zg0 hr.m rfl (J0 (jdv 0) (J0 J4 J3))))
    (J6 (V2 (i:=3) AZ.nd rfl (by walk_at "o") (Q3 zg1 hr.m rfl (J0 (jdv 0) (J0 (jdv 1) J3))))
    (J6 (V2 (i:=4) AZ.nd rfl (by walk_at "o") (Q3 zg1 hr.m rfl (J0 (jdv 0) (J0 (jdv 1) J3))))
    (J6 (V2 (i:=5) AZ.nd rfl (by walk_at "o") (Q3 zg1 hr.m rfl (J0 (jdv 0) (J0 (jdv 1) J3))))
    (J6 (AG (AD GB DJ (jdv 2) J4 (Z0 _)) (J8 (V2 (i:=5) AZ.nd rfl (by walk_at "o") (Q3 zg2 hr.m rfl (J0 (Q5 AX Z6 (Q5 V1 AH (Q6 (Q7 K (by rfl)) Q8 (jdv 3) J4 (fun _ _=>rfl)) (Q6 (Q7 K (by rfl)) Q8 (jdv 4) J4 (fun _ _=>rfl))) (Q5 V1 AH (Q6 (Q7 K (by rfl)) Q8 (jdv 4) J4 (fun _ _=>rfl)) (Q6 (Q7 K (by rfl)) Q8 (jdv 3) J4 (fun _ _=>rfl)))) (J0 (Q5 AX Z6 (Q5 V1 AH (Q6 (Q7 K (by rfl)) Q8 (jdv 3) J4 (fun _ _=>rfl)) (Q6 (Q7 K (by rfl)) Q8 (jdv 4) J4 (fun _ _=>rfl))) (Q5 V1 AH (Q6 (Q7 K (by rfl)) Q8 (jdv 4) J4 (fun _ _=>rfl)) (Q6 (Q7 K (by rfl)) Q8 (jdv 3) J4 (fun _ _=>rfl)))) (J0 J4 (J0 (Q5 V1 AH (Q5 V1 AH J4 (Q6 (Q7 K (by rfl)) Q8 (jdv 3) J4 (fun _ _=>rfl))) (Q6 (Q7 K (by rfl)) Q8 (jdv 4) J4 (fun _ _=>rfl))) J3))))))) Y3)
    (J6 (AG (AD GB DJ (jdv 2) J4 (Z0 _)) (J8 (V2 (i:=5) AZ.nd rfl (by walk_at "o") (Q3 zg2 hr.m rfl (J0 (Q5 AX Z6 (Q6 (Q7 K (by rfl)) Q8 (jdv 4) J4 (fun _ _=>rfl)) (Q6 (Q7 K (by rfl)) Q8 (jdv 4) J4 (fun _ _=>rfl))) (J0 (Q6 (Q7 K (by rfl)) Q8 (jdv 4) J4 (fun _ _=>rfl)) (J0 (Q6 (Q7 K (by rfl)) Q8 (jdv 4) J4 (fun _ _=>rfl)) (J0 (Q6 (Q7 K (by rfl)) Q8 (jdv 4) J4 (fun _ _=>rfl)) J3))))))) Y3)
    (J8 (V3 (Y1 (J0 (jdv 3) (J0 (jdv 4) (J0 (jdv 5) J3)))))))))))),?_⟩
   walk_at "g"
   refine ⟨_,64,rfl,by decide,Bd.num _ (by decide),by decide,fun way y0 y1=>?_⟩
   walk_at "g"
   refine ⟨_,rfl,w0,w1,fun ax ay az aw ⟨a1,a2,a3,a4⟩ a0=>?_⟩
   walk_at "g"
   refine ⟨_,rfl,w0,w1,fun bx b_y bz bw ⟨b1,b2,b3,b4⟩ b0=>?_⟩
   walk_at "g"
   refine ⟨_,rfl,w0,w1,fun cx cy cz cw ⟨c1,c2,c3,c4⟩ c0=>?_⟩
   have fin:∀ cx cy cz cw:Int,(Bd 60 cx/\Bd 60 cy/\Bd 60 cz/\Bd 60 cw)->0<cw->PP (.tup [sp4 ax ay az aw,sp4 bx b_y bz bw,sp4 cx cy cz cw]):=fun cx cy cz cw ⟨c1,c2,c3,c4⟩ c0 =>
    hP ⟨ax,ay,az,aw,bx,b_y,bz,bw,cx,cy,cz,cw⟩ ⟨a1.mono (by decide),a2.mono (by decide),a3.mono (by decide),a4.mono (by decide),b1.mono (by decide),b2.mono (by decide),b3.mono (by decide),b4.mono (by decide),c1,c2,c3,c4⟩ ⟨a0,b0,c0⟩
   walk_at "g"
   walk_at "sp"
   · rename_i z
     subst z
     walk_at "g"
     have bb:Bd 60 (2*aw*bw):=(Bd.mul (Bd.mul (Bd.of (by decide) (by decide):Bd 2 2) a4) b4).mono (by decide)
     refine ⟨_,_,_,_,60,rfl,Int.mul_pos (Int.mul_pos (by decide) a0) b0,⟨(Bd.add (Bd.mul a1 b4) (Bd.mul b1 a4)).mono (by decide),(Bd.add (Bd.mul a2 b4) (Bd.mul b2 a4)).mono (by decide),Bd.of (by decide) (by decide),bb⟩,by decide,fun x' y' z' w2 hb h0=>?_⟩
     walk_at "g"
     exact fin _ _ _ _ hb h0
   · walk_at "g"
     walk_at "sp"
     · walk_at "g"
       refine ⟨_,_,_,_,60,rfl,b0,⟨(Bd.add b1 b4).mono (by decide),b2.mono (by decide),b3.mono (by decide),b4.mono (by decide)⟩,by decide,fun x' y' z' w2 hb h0=>?_⟩
       walk_at "g"
       exact fin _ _ _ _ hb h0
     · walk_at "g"
       exact fin _ _ _ _ ⟨c1.mono (by decide),c2.mono (by decide),c3.mono (by decide),c4.mono (by decide)⟩ c0
noncomputable def Q9e (d1 d2:DS):DS:=fun F ρ=>∃ C:Ev->Prop,d1 { F with nx:=C } ρ/\∀ ρ',C ρ'->d2 F ρ'
theorem J5n {X:Cx}{W:Wd}{st:Stmt}{rest:List Stmt}{d1 d2:DS}(h1:JS X W st d1)(h2:JSs X W rest d2):JSs X W (st::rest) (Q9e d1 d2):=⟨(AI h1.h h2.h).mono fun E σ H hh=>hh.elim fun pn M b ρ F s l h=>by
 obtain ⟨C,q1,q2⟩:=h
 exact ⟨pn,M,b,ρ,{ F with nx:=C },s,⟨fun M b ρ σ H s' h'=>⟨pn,M,b,ρ,F,s',l,q2 ρ h'⟩,l.rt,l.bk,l.ct,l.ro⟩,q1⟩⟩
theorem T3.spots {t:T3}{n:Nat}(ok:t.ok n)(pos:t.pos){d:D}(h:d∈[sp4 t.ax t.ay t.az t.aw,sp4 t.bx t.b_y t.bz t.bw,sp4 t.cx t.cy t.cz t.cw]):∃ x y z w:Int,d=sp4 x y z w/\Bd n x/\Bd n y/\Bd n z/\Bd n w/\0<w:=by
 simp only [List.mem_cons,List.not_mem_nil,or_false] at h
 rcases h with rfl|rfl|rfl
 · exact ⟨_,_,_,_,rfl,ok.ax,ok.ay,ok.az,ok.aw,pos.a⟩
 · exact ⟨_,_,_,_,rfl,ok.bx,ok.b_y,ok.bz,ok.bw,pos.b⟩
 · exact ⟨_,_,_,_,rfl,ok.cx,ok.cy,ok.cz,ok.cw,pos.c⟩
theorem WN {r:R4}(h:r.x≠0\/r.y≠0\/r.z≠0):EN r=true:=by
 unfold EN
 by_cases h1:r.x=0<;>by_cases h2:r.y=0<;>by_cases h3:r.z=0<;>simp [h1,h2,h3]<;>exact h.elim (· h1) fun h=>h.elim (· h2) (· h3)
noncomputable abbrev EI:Stmt:=top 54
noncomputable abbrev Q5z:List Str:=["_law_bag_here","_law_face_here","_law_flat_here","_law_x","_law_y","_law_z","_law_w","_law_way","_law_last"]
noncomputable abbrev Q1z:List Str:=["_law_bag_here","_law_face_here"]
theorem Y0:FnScope Q5z Q1z (J7 EI):=⟨rfl,rfl,rfl,by decide +kernel,rfl,by decide +kernel,by decide +kernel⟩
noncomputable def J1p:DSp:=fun ds P _=>∃ t:T3,ds=[.bag,t.d]/\t.ok 60/\t.pos/\∀ fl:R4,fl.ok 128->EN fl=true->P fl.d
noncomputable abbrev J8d (P:Program) (w:World) (K:Fg) (mg:Str → Option Value) (base:Heap) (f:Addr) (cdv:Value) (A:Around) (outer:List Env) (s:Shared) (H:Hp) (E:XK):Cx:=BO CX0 P w K mg base Q5z "_law_flat" (J7 EI) f cdv A outer s H E
noncomputable abbrev J7z:List Str:=["_law_number","_law_w"]
theorem SH {f:Addr} (F:Fun K "_law_flat" "_law_flat" EI f fd) (Z:Bi mg) {c:Cs} (Y:Ex K mg base c) (zg0:Callee P w K mg base CX0 "_law_digit" 2 xl3 (Q0 K BT HD)):FnOk P w K mg base CX0 3 f fd Q1z (Q0 K BT J1p):=by
 refine F.okD Y0 (fun ds PP Ed h=>?_) (fun cdv A outer s H E M bg ds PP Ed hr hS_=>?_)
 · obtain ⟨t,rfl,tok,tpos,hP⟩:=h
   rfl
 · obtain ⟨t,rfl,tok,tpos,hP⟩:=hS_
   refine ⟨_,(J6 (V2 (i:=2) Y0.nd rfl (by walk_at "o") (FV (J0 (Q5 AJ Z6 (Q3 zg0 hr.m rfl (J0 (jdv 0) (J0 J4 J3))) J4) (J0 (Q5 AJ Z6 (Q3 zg0 hr.m rfl (J0 (jdv 0) (J0 J4 J3))) J4) (J0 (Q5 AJ Z6 (Q3 zg0 hr.m rfl (J0 (jdv 0) (J0 J4 J3))) J4) J3)))))
    (J5n (AG (AD (YI K (by rfl) hr.units) IA (jdv 2) (FV (J0 J4 (J0 J4 (J0 J4 J3)))) (Z0 _)) (J8 (V2 (i:=2) Y0.nd rfl (by walk_at "o") (FV (J0 J4 (J0 J4 (J0 J4 J3)))))) Y3)
    (J6 (DD (CO [3,4,5,6]) (Q6 (Q7 K (by rfl)) Q8 (jdv 1) (Q3 zg0 hr.m rfl (J0 (jdv 0) (J0 J4 J3))) (fun _ _=>rfl)) (PG.or (BE (n:=4) K (by rfl) (by rfl) (J9 (pg_name (i:=3) Y0.nd rfl (by walk_at "o")) (J9 (pg_name (i:=4) Y0.nd rfl (by walk_at "o")) (J9 (pg_name (i:=5) Y0.nd rfl (by walk_at "o")) (J9 (pg_name (i:=6) Y0.nd rfl (by walk_at "o")) Y6))))) (BF (n:=4) K (by rfl) (by rfl) (J9 (pg_name (i:=3) Y0.nd rfl (by walk_at "o")) (J9 (pg_name (i:=4) Y0.nd rfl (by walk_at "o")) (J9 (pg_name (i:=5) Y0.nd rfl (by walk_at "o")) (J9 (pg_name (i:=6) Y0.nd rfl (by walk_at "o")) Y6)))))))
    (J6 (V2 (i:=7) Y0.nd rfl (by walk_at "o") (Q3 zg0 hr.m rfl (J0 (jdv 0) (J0 J4 J3))))
    (J6 (V2 (i:=8) Y0.nd rfl (by walk_at "o") (Q5 AJ Z6 (Q3 zg0 hr.m rfl (J0 (jdv 0) (J0 J4 J3))) J4))
    (J6 (AG (AD GB DJ (jdv 7) J4 (Z0 _)) (J6 (WG (X:=(J8d P w K mg base f cdv A outer s H E).nox) false (i:=2) Y0.nd rfl (by walk_at "o") (Z2 0) (KB (X:=(J8d P w K mg base f cdv A outer s H E).nox) (N':=J7z) (map:=[none,some 6]) (by rfl) (by rfl) (by decide +kernel) (by rfl) ⟨⟨rfl,rfl,rfl,by walk_at "o"⟩,True.intro⟩ (gkeep_name rfl) fun cl0 C0 fp0 s0 H0=>⟨(pg_name (X:=(Q9 (J8d P w K mg base f cdv A outer s H E).nox J7z _ cl0 C0 fp0 s0 H0)) (i:=0) (BA J7z (by decide +kernel)) rfl (by walk_at "o")),AS,(Q5 (X:=(Q9 (J8d P w K mg base f cdv A outer s H E).nox J7z _ cl0 C0 fp0 s0 H0)) V1 AH (jdv 0) (jdv 1))⟩) (AL (by rfl) (jdv 2)))
    (J8 (V2 (i:=8) Y0.nd rfl (by walk_at "o") (Q5 AJ Z6 J4 (Q5 CL AH (Q5 AX Z6 (Q5 AX Z6 (Q5 V1 AH (Q6 (Q7 K (by rfl)) Q8 (jdv 2) J4 (fun _ _=>rfl)) (jdv 3)) (Q5 V1 AH (Q6 (Q7 K (by rfl)) Q8 (jdv 2) J4 (fun _ _=>rfl)) (jdv 4))) (Q5 V1 AH (Q6 (Q7 K (by rfl)) Q8 (jdv 2) J4 (fun _ _=>rfl)) (jdv 5))) (jdv 6)))))) Y3)
    (J8 (V3 (Y1 (J0 (Q6 (Q7 K (by rfl)) Q8 (jdv 2) J4 (fun _ _=>rfl)) (J0 (Q6 (Q7 K (by rfl)) Q8 (jdv 2) J4 (fun _ _=>rfl)) (J0 (Q6 (Q7 K (by rfl)) Q8 (jdv 2) J4 (fun _ _=>rfl)) (J0 (jdv 8) J3))))))))))))),?_⟩
   have fin:∀ x y z:Int,(-4<=x/\x<=4)->(-4<=y/\y<=4)->(-4<=z/\z<=4)->(x≠0\/y≠0\/z≠0)->True:=fun _ _ _ _ _ _ _=>trivial
   walk_at "g"
   refine ⟨_,64,rfl,by decide,Bd.num _ (by decide),by decide,fun x x0 x1=>?_⟩
   walk_at "g"
   refine ⟨_,64,rfl,by decide,Bd.num _ (by decide),by decide,fun y y0 y1=>?_⟩
   walk_at "g"
   refine ⟨_,64,rfl,by decide,Bd.num _ (by decide),by decide,fun z z0 z1=>?_⟩
   walk_at "g"
   have x1:x<9:=x1
   have y1:y<9:=y1
   have z1:z<3:=z1
   refine ⟨fun ρ=>∃ (p q r:Int) (v3 v4 v5 v6 v7 v8:Option D),ρ=[some .bag,some t.d,some (.lst [.int p,.int q,.int r]),v3,v4,v5,v6,v7,v8]/\(-4<=p/\p<=4)/\(-4<=q/\q<=4)/\(-4<=r/\r<=4)/\(p≠0\/q≠0\/r≠0),?_,?_⟩
   · walk_at "g"
     refine ⟨.list [.int (x - 4),.int (y - 4),.int (z - 1)],.list [.int 0,.int 0,.int 0],rfl,rfl,Nat.le_trans (Nat.min_le_right _ _) (by decide),?_⟩
     have e:PyData.eqv (.list [.int (x - 4),.int (y - 4),.int (z - 1)]) (.list [.int 0,.int 0,.int 0])=decide (x - 4=0/\y - 4=0/\z - 1=0):=by
      by_cases h1:x - 4=0<;>by_cases h2:y - 4=0<;>by_cases h3:z - 1=0<;>simp [PyData.eqv,PyData.eqvAll,h1,h2,h3]
     rw [e]
     walk_at "g"
     by_cases h:x - 4=0/\y - 4=0/\z - 1=0
     · refine IfP.t (by simp [h]) ?_
       walk_at "g"
       exact ⟨1,0,0,_,_,_,_,_,_,rfl,by decide,by decide,by decide,by decide⟩
     · refine IfP.f (by simp only [decide_eq_false h];rfl) ?_
       walk_at "g"
       exact ⟨x - 4,y - 4,z - 1,_,_,_,_,_,_,rfl,by omega,by omega,by omega,by omega⟩
   rintro ρ ⟨p,q,r,v3,v4,v5,v6,v7,v8,rfl,hp,hq,hr,hn⟩
   walk_at "g"
   refine ⟨_,64,rfl,by decide,Bd.num _ (by decide),by decide,fun k k0 k1=>?_⟩
   walk_at "g"
   refine ixm k0 (by exact k1) fun d dm=>?_
   obtain ⟨X,Y,Z',W',rfl,bX,bY,bZ,bW,W0⟩:=T3.spots tok tpos dm
   clear dm
   walk_at "g"
   refine ⟨_,64,rfl,by decide,Bd.num _ (by decide),by decide,fun way u0 u1=>?_⟩
   walk_at "g"
   refine ⟨_,64,rfl,by decide,Bd.num _ (by decide),by decide,fun la l0 l1=>?_⟩
   have l1:la<41:=l1
   have bp:Bd 4 p:=Bd.of (by omega) (by omega)
   have bq:Bd 4 q:=Bd.of (by omega) (by omega)
   have br:Bd 4 r:=Bd.of (by omega) (by omega)
   walk_at "g"
   by_cases h:way=0
   · refine IfP.t (by simp [h]) ?_
     have bpw:=Bd.mul bp bW
     have bqw:=Bd.mul bq bW
     have brw:=Bd.mul br bW
     walk_at "g"
     walk_at "gc"
     walk_at "g"
     have b1:=Bd.mul bpw bX
     have b2:=Bd.mul bqw bY
     have b3:=Bd.mul brw bZ
     refine And.intro ⟨W0,60,bW,by decide⟩ ?_
     walk_at "g"
     refine hP ⟨p*W',q*W',r*W',0 - (p*W'*X+q*W'*Y+r*W'*Z') / W'⟩ ⟨bpw.mono (by decide),bqw.mono (by decide),brw.mono (by decide),?_⟩ (WN ?_)
     · exact (Bd.sub (Bd.of (by decide) (by decide):Bd 3 0) (Bd.ediv ((Bd.add (Bd.add b1 b2) b3).mono (by decide:_<=126)) W0)).mono (by decide)
     · have nz:∀ n:Int,n≠0->n*W'≠0:=fun n h=>Int.mul_ne_zero h (by omega)
       exact hn.elim (fun h=>.inl (nz _ h)) fun h=>h.elim (fun h=>.inr (.inl (nz _ h))) fun h=>.inr (.inr (nz _ h))
   · refine IfP.f (by simp [h]) ?_
     walk_at "g"
     exact hP ⟨p,q,r,la - 30⟩ ⟨bp.mono (by decide),bq.mono (by decide),br.mono (by decide),(Bd.of (by omega) (by omega):Bd 8 (la - 30)).mono (by decide)⟩ (WN hn)
theorem DX (rows:List (List Int)):EZ (rows.map CT)=true:=by
 induction rows with
 | nil=>rfl
 | cons r rows ih =>
   rw [List.map_cons]
   unfold EZ
   rw [ih]
   have:noL (CT r)=true:=by
    unfold CT noL
    induction r with
    | nil=>rfl
    | cons a r ih=>rw [List.map_cons];unfold EZ;rw [ih];rfl
   rw [this];rfl
theorem OD (rows:List (List Int)):FW 2 (rows.map CT)=true:=by
 induction rows with
 | nil=>rfl
 | cons r rows ih =>
   rw [List.map_cons]
   unfold FW
   rw [ih]
   have:BS 2 (CT r)=true:=by
    unfold CT BS
    induction r with
    | nil=>rfl
    | cons a r ih=>rw [List.map_cons];unfold FW;rw [ih];rfl
   rw [this];rfl
theorem Q0c {α:Type}{g:α->D}{l:List α}{i:Nat}{x:D}(h:(l.map g)[i]?=some x):∃ a,l[i]?=some a/\x=g a:=by
 rw [List.getElem?_map] at h
 obtain ⟨a,e,rfl⟩:=Option.map_eq_some_iff.mp h
 exact ⟨a,e,rfl⟩
theorem KN {α β:Type}(g:α->List β){l:List α}{i:Nat}{a:α}(e:l[i]?=some a):(l.take (i+1)).flatMap g=(l.take i).flatMap g++g a:=by
 rw [List.take_add_one,e,Option.toList_some,List.flatMap_append]
 simp
theorem MU {α β:Type}(g:α->List β)(l:List α)(i:Nat):((l.take i).flatMap g).length<=(l.flatMap g).length:=by
 conv=>rhs;rw [<- List.take_append_drop i l,List.flatMap_append,List.length_append]
 omega
theorem TY {w h:Nat}(e:t2 9 9=t2 w h):w=9/\h=9:=by
 have e:D.tup [.int 9,.int 9]=.tup [.int w,.int h]:=e
 simp only [D.tup.injEq,List.cons.injEq,D.int.injEq,and_true] at e
 omega
theorem Q4y {t:T3}{r:List Int}(h:r∈dR t):∃ x y:Nat,r=[(x:Int),(y:Int)]/\x<9/\y<9/\t.has x y:=by
 obtain ⟨h1,h2⟩:=List.mem_filter.mp h
 obtain ⟨x,hx,h1⟩:=List.mem_flatMap.mp h1
 obtain ⟨y,hy,rfl⟩:=List.mem_map.mp h1
 exact ⟨x,y,rfl,List.mem_range.mp hx,List.mem_range.mp hy,of_decide_eq_true h2⟩
theorem J6s {fs:List F3}{r:List Int}(h:r∈fs.flatMap fun p=>dR p.t):r.length=2/\∀ z∈r,BP z:=by
 obtain ⟨p,_,h⟩:=List.mem_flatMap.mp h
 exact J6u h
noncomputable abbrev EJ:Stmt:=top 56
noncomputable abbrev J1u:List Str:=["_law_faces","_law_board"]
theorem FJ:FnScope ["_law_faces","_law_board","_law_found","_law_face_here"] J1u (J7 EJ):=⟨rfl,rfl,rfl,by decide +kernel,rfl,by decide +kernel,by decide +kernel⟩
noncomputable def MQ:DSO:=fun ds P _=>∃ fs:List F3,ds=[.lst (fs.map F3.d),t2 9 9]/\(∀ f∈fs,f.ok 1404/\f.pr)/\fs.length<=100/\(fs.flatMap fun p=>dR p.t).length<128/\∀ rows:List (List Int),rows.Perm (fs.flatMap fun p=>dR p.t)->rows.Pairwise (fun x y=>CD 0 x<=CD 0 y)->P (rows.map CT)
theorem SJ {f:Addr} (F:Fun K "_law_dots" "_law_dots" EJ f fd) (Z:Bi mg) {c:Cs} (Y:Ex K mg base c) (zg0:Callee P w K mg base (CX1 P w base) "dots_of" 5 UN (Y7 K BT (UH c))):FnOk P w K mg base CX0 6 f fd J1u (Y7 K BT MQ):=by
 refine F.okDO FJ (fun ds PP Ed h=>?_) (fun cdv A outer s H E M bg ds PP Ed hr hS_=>?_)
 · obtain ⟨fs,rfl,hfs,hl,hn,hP⟩:=h
   rfl
 · obtain ⟨fs,rfl,hfs,hl,hn,hP⟩:=hS_
   refine ⟨_,(J6 (GN (i:=2) FJ.nd rfl (by walk_at "o") J3)
    (J6 (BW (Z2 3) PassesOwn.never rfl (AL (by rfl) (jdv 0)) (pg_name (i:=3) FJ.nd rfl (by walk_at "o")) (J8 (IC (i:=2) (by rfl) (J0 (FA EA EX zg0 hr.m rfl (J0 (jdv 3) (J0 (jdv 1) J3))) J3) (QH PySem.F.plainAttrs_list PySem.F.slot_list_extend PySem.F.type_list_extend LB (pv 2) (JA.h (J0 (FA EA EX zg0 hr.m rfl (J0 (jdv 3) (J0 (jdv 1) J3))) J3))))))
    (J8 (WH (QO (X:=(BO CX0 P w K mg base ["_law_faces","_law_board","_law_found","_law_face_here"] "_law_dots" (J7 EJ) f cdv A outer s H E).nox) (J0 (jdv 2) J3) (DH (OH K (by rfl) (by rfl)) rfl Z.sorted_ RB (JA.h (J0 (jdv 2) J3)))))))),?_⟩
   walk_at "g"
   refine ⟨fun i ρ=>∃ v3,ρ=[some (.lst (fs.map F3.d)),some (t2 9 9),some (.own (((fs.take i).flatMap fun p=>dR p.t).map CT)),v3],⟨_,rfl⟩,?_,?_⟩
   · rintro i x ρ e ⟨v3,rfl⟩
     obtain ⟨f3,ef,rfl⟩:=LI e
     obtain ⟨fo,fp⟩:=hfs f3 (List.mem_of_getElem? ef)
     have hlen:=MU (fun p:F3=>dR p.t) fs i
     have hd:=TD f3.t
     rw [KN (fun p:F3=>dR p.t) ef,List.map_append]
     generalize (fs.take i).flatMap (fun p=>dR p.t)=pre at *
     walk_at "g"
     refine ⟨f3.t,_,rfl,F3.t_ok fo,rfl,rfl,(fun z=>absurd z (by decide)),fun w h e _=>?_⟩
     obtain ⟨rfl,rfl⟩:=TY e
     rw [YX]
     refine ⟨DX _,?_⟩
     walk_at "g"
     refine And.intro (by rw [List.length_map,List.length_map];omega) ?_
     exact ⟨_,rfl⟩
   · rintro ρ ⟨v3,rfl⟩
     rw [List.length_map,List.take_length]
     walk_at "g"
     exact ⟨_,2,rfl,by decide,hn,fun r hr=>J6s hr,hP⟩
noncomputable abbrev CJ:Stmt:=top 55
noncomputable abbrev Q5y:List Str:=["_law_faces","_law_board","_law_found","_law_face_here","_law_y","_law_first","_law_last"]
theorem Z1:FnScope Q5y J1u (J7 CJ):=⟨rfl,rfl,rfl,by decide +kernel,rfl,by decide +kernel,by decide +kernel⟩
noncomputable def Q6n (y:Int):D->D
 | .int x=>t2 x y
 | d=>d
noncomputable abbrev RK (P:Program) (w:World) (K:Fg) (mg:Str → Option Value) (base:Heap) (f:Addr) (cdv:Value) (A:Around) (outer:List Env) (s:Shared) (H:Hp) (E:XK):Cx:=BO CX0 P w K mg base Q5y "_law_spanned" (J7 CJ) f cdv A outer s H E
noncomputable abbrev UM:List Str:=["_law_x","_law_y"]
theorem LY {f:Addr} (F:Fun K "_law_spanned" "_law_spanned" CJ f fd) (Z:Bi mg) {c:Cs} (Y:Ex K mg base c) (zg0:Callee P w K mg base (CX1 P w base) "spans_of" 5 UN (Y7 K BT (J1o c))):FnOk P w K mg base CX0 6 f fd J1u (Y7 K BT MQ):=by
 refine F.okDO Z1 (fun ds PP Ed h=>?_) (fun cdv A outer s H E M bg ds PP Ed hr hS_=>?_)
 · obtain ⟨fs,rfl,hfs,hl,hn,hP⟩:=h
   rfl
 · obtain ⟨fs,rfl,hfs,hl,hn,hP⟩:=hS_
   refine ⟨_,(J6 (GN (i:=2) Z1.nd rfl (by walk_at "o") J3)
    (J6 (BW (Z2 3) PassesOwn.never rfl (AL (by rfl) (jdv 0)) (pg_name (i:=3) Z1.nd rfl (by walk_at "o")) (J8 (BW (CO [4,5,6]) PassesOwn.never rfl (AL (by rfl) (FA EA EX zg0 hr.m rfl (J0 (jdv 3) (J0 (jdv 1) J3)))) (PG.or (BE (n:=3) K (by rfl) (by rfl) (J9 (pg_name (i:=4) Z1.nd rfl (by walk_at "o")) (J9 (pg_name (i:=5) Z1.nd rfl (by walk_at "o")) (J9 (pg_name (i:=6) Z1.nd rfl (by walk_at "o")) Y6)))) (BF (n:=3) K (by rfl) (by rfl) (J9 (pg_name (i:=4) Z1.nd rfl (by walk_at "o")) (J9 (pg_name (i:=5) Z1.nd rfl (by walk_at "o")) (J9 (pg_name (i:=6) Z1.nd rfl (by walk_at "o")) Y6))))) (J8 (IC (i:=2) (by rfl) (J0 (BK (X:=(RK P w K mg base f cdv A outer s H E).nox) (Z2 0) (KB (X:=(RK P w K mg base f cdv A outer s H E).nox) (N':=UM) (map:=[none,some 4]) (by rfl) (by rfl) (by decide +kernel) (by rfl) ⟨⟨rfl,rfl,rfl,by walk_at "o"⟩,True.intro⟩ (gkeep_name rfl) fun cl0 C0 fp0 s0 H0=>⟨(pg_name (X:=(Q9 (RK P w K mg base f cdv A outer s H E).nox UM _ cl0 C0 fp0 s0 H0)) (i:=0) (BA UM (by decide +kernel)) rfl (by walk_at "o")),AS,(Y1 (X:=(Q9 (RK P w K mg base f cdv A outer s H E).nox UM _ cl0 C0 fp0 s0 H0)) (J0 (jdv 0) (J0 (jdv 1) J3)))⟩) (IF rfl Z.range_ (J0 (jdv 5) (J0 (Q5 AX Z6 (jdv 6) J4) J3)))) J3) (QH PySem.F.plainAttrs_list PySem.F.slot_list_extend PySem.F.type_list_extend LB (pv 2) (JA.h (J0 (BK (X:=(RK P w K mg base f cdv A outer s H E).nox) (Z2 0) (KB (X:=(RK P w K mg base f cdv A outer s H E).nox) (N':=UM) (map:=[none,some 4]) (by rfl) (by rfl) (by decide +kernel) (by rfl) ⟨⟨rfl,rfl,rfl,by walk_at "o"⟩,True.intro⟩ (gkeep_name rfl) fun cl0 C0 fp0 s0 H0=>⟨(pg_name (X:=(Q9 (RK P w K mg base f cdv A outer s H E).nox UM _ cl0 C0 fp0 s0 H0)) (i:=0) (BA UM (by decide +kernel)) rfl (by walk_at "o")),AS,(Y1 (X:=(Q9 (RK P w K mg base f cdv A outer s H E).nox UM _ cl0 C0 fp0 s0 H0)) (J0 (jdv 0) (J0 (jdv 1) J3)))⟩) (IF rfl Z.range_ (J0 (jdv 5) (J0 (Q5 AX Z6 (jdv 6) J4) J3)))) J3))))))))
    (J8 (WH (QO (X:=(RK P w K mg base f cdv A outer s H E).nox) (J0 (jdv 2) J3) (DH (OH K (by rfl) (by rfl)) rfl Z.sorted_ RB (JA.h (J0 (jdv 2) J3)))))))),?_⟩
   have pm:∀ fs:List F3,(fs.flatMap fun p=>(segs p.t 9 9).flatMap HE).Perm (fs.flatMap fun p=>dR p.t):=fun fs=>QS fun p _=>QC p.t
   walk_at "g"
   refine ⟨fun i ρ=>∃ v3 v4 v5 v6,ρ=[some (.lst (fs.map F3.d)),some (t2 9 9),some (.own (((fs.take i).flatMap fun p=>(segs p.t 9 9).flatMap HE).map CT)),v3,v4,v5,v6],⟨_,_,_,_,rfl⟩,?_,?_⟩
   · rintro i x ρ e ⟨v3,v4,v5,v6,rfl⟩
     obtain ⟨f3,ef,rfl⟩:=LI e
     obtain ⟨fo,fp⟩:=hfs f3 (List.mem_of_getElem? ef)
     have hlen:=MU (fun p:F3=>dR p.t) fs i
     rw [<- (pm (fs.take i)).length_eq] at hlen
     have hd:=TD f3.t
     rw [<- (QC f3.t).length_eq] at hd
     rw [KN (fun p:F3=>(segs p.t 9 9).flatMap HE) ef]
     generalize (fs.take i).flatMap (fun p=>(segs p.t 9 9).flatMap HE)=pre at *
     have pos:=fp.pos
     have tok:=F3.t_ok fo
     generalize ht:f3.t=t at *
     walk_at "g"
     refine ⟨t,_,by rw [<- ht];rfl,tok,pos,rfl,rfl,(fun z=>absurd z (by decide)),fun w h e _=>?_⟩
     obtain ⟨rfl,rfl⟩:=TY e
     refine ⟨J0g fun d hd=>ZX hd,?_⟩
     rw [VB]
     have sr:=fun s (hs:s∈segs t 9 9)=>VH pos hs
     generalize segs t 9 9=sl at *
     walk_at "g"
     refine ⟨fun j ρ=>∃ u4 u5 u6,ρ=[some (.lst (fs.map F3.d)),some (t2 9 9),some (.own ((pre++(sl.take j).flatMap HE).map CT)),some f3.d,u4,u5,u6],⟨_,_,_,by rw [List.take_zero,List.flatMap_nil,List.append_nil];rfl⟩,?_,?_⟩
     · rintro j y ρ e2 ⟨u4,u5,u6,rfl⟩
       obtain ⟨s,es,rfl⟩:=Q0c e2
       have sm:=List.mem_of_getElem? es
       obtain ⟨y,x,k,x0,xk,e3,e4⟩:=sr s sm
       have tl:=MU HE sl j
       rw [KN HE es,<- List.append_assoc,List.map_append (l₁:=pre++(sl.take j).flatMap HE),e3]
       have hpl:((pre++(sl.take j).flatMap HE).map CT).length<=300:=by rw [List.length_map,List.length_append];omega
       have er:(HE s).map CT=(BI x k).map (Q6n y):=by
        rw [e4,List.map_map]
        unfold BI
        rw [List.map_map]
        rfl
       rw [er]
       generalize (pre++(sl.take j).flatMap HE).map CT=acc at *
       have ek:(x+(k:Int) - 1+1 - x).toNat=k:=by omega
       walk_at "g"
       rw [ek]
       refine And.intro ⟨by omega,by omega,by omega,by omega⟩ ?_
       refine And.intro (by rw [rangeD_len];omega) ?_
       refine GT (Q6n y) (fun d Q hx hQ=>?_) (fun d hx=>?_) ?_
       · obtain ⟨n,en⟩:=List.getElem?_of_mem hx
         obtain ⟨rfl,_⟩:=AU en
         walk_at "g"
         exact hQ
       · obtain ⟨n,en⟩:=List.getElem?_of_mem hx
         obtain ⟨rfl,_⟩:=AU en
         rfl
       walk_at "g"
       refine And.intro (by rw [List.length_map,rangeD_len];omega) ?_
       exact ⟨_,_,_,rfl⟩
     · rintro ρ ⟨u4,u5,u6,rfl⟩
       rw [List.length_map,List.take_length]
       exact ⟨_,_,_,_,rfl⟩
   · rintro ρ ⟨v3,v4,v5,v6,rfl⟩
     rw [List.length_map,List.take_length]
     walk_at "g"
     exact ⟨_,2,rfl,by decide,by rw [(pm fs).length_eq];exact hn,fun r hr=>J6s ((pm fs).mem_iff.mp hr),fun rows p so=>hP rows (p.trans (pm fs)) so⟩
theorem J9t (t b:Int):low [t] b=if b<0 then 0 - (Int.gcd t b:Int) else (Int.gcd t b:Int):=by
 have e:GQ ([t]++[b])=(Int.gcd t b:Int):=by
  simp [GQ,Int.gcd]
 unfold low
 rw [e]
 split<;>omega
noncomputable abbrev frP (p:F3):Int×Int:=(frT p.top p.bot,frB p.top p.bot)
theorem SY {p:F3}(h:0<p.bot):0<(frP p).2:=(JH (t:=p.top) (b:=p.bot) (by omega)).1
noncomputable def sumU (l:List F3):Int×Int:=(l.map frP).foldl HF (0,1)
theorem J2b (l:List F3)(i:Nat)(r:F3)(h:l[i]?=some r):sumU (l.take (i+1))=HF (sumU (l.take i)) (frP r):=by
 unfold sumU
 rw [List.take_add_one,h,Option.toList_some,List.map_append,List.foldl_append]
 rfl
theorem JJ:∀ (l:List F3) (t:Int×Int),(∀ r∈l,0<r.bot)->0<t.2->0<((l.map frP).foldl HF t).2
 | [],t,_,ht=>ht
 | r::l,t,h,ht=>JJ l _ (fun x hx=>h x (List.mem_cons_of_mem _ hx)) (Int.mul_pos ht (SY (h r (List.mem_cons_self ..))))
theorem Q5m {t r:Int×Int}(h:0<t.2)(k:0<r.2):((HF t r).1:Rat) / (HF t r).2=(t.1:Rat) / t.2+(r.1:Rat) / r.2:=by
 have:=wQ h
 have:=wQ k
 unfold HF
 simp only [Rat.intCast_add,Rat.intCast_mul]
 grind
theorem Q7l {p:F3}(h:0<p.bot):((frP p).1:Rat) / (frP p).2=p.ar:=by
 obtain ⟨q0,_,he,_⟩:=JH (t:=p.top) (b:=p.bot) (by omega)
 have e:=Q8f he
 simp only [Rat.intCast_mul] at e
 exact Q4h (wQ q0) (wQ h) e
theorem J6b:∀ (l:List F3) (t:Int×Int),(∀ r∈l,0<r.bot)->0<t.2->(((l.map frP).foldl HF t).1:Rat) / ((l.map frP).foldl HF t).2=(t.1:Rat) / t.2+(l.map F3.ar).sum
 | [],t,_,ht=>by show _=_+(0:Rat);simp only [List.map_nil,List.foldl_nil];grind
 | p::l,t,h,ht=>by
   have pb:=h p (List.mem_cons_self ..)
   have:=J6b l (HF t (frP p)) (fun x hx=>h x (List.mem_cons_of_mem _ hx)) (Int.mul_pos ht (SY pb))
   rw [List.map_cons,List.foldl_cons,this,Q5m ht (SY pb),Q7l pb,List.map_cons,List.sum_cons]
   grind
theorem J8m {f:F3}{l:List F3}(fb:0<f.bot)(h:f.ar=(l.map F3.ar).sum)(hl:∀ r∈l,0<r.bot):(sumU l).1*f.bot=f.top*(sumU l).2:=by
 have p:=JJ l (0,1) hl (by decide)
 have q:=J6b l (0,1) hl (by decide)
 rw [<- h] at q
 have q:((sumU l).1:Rat) / (sumU l).2=(0:Rat) / (1:Rat)+f.ar:=q
 have p:0<(sumU l).2:=p
 unfold F3.ar at q
 have n1:=wQ p
 have n2:=wQ fb
 apply Rat.intCast_inj.mp
 simp only [Rat.intCast_mul]
 grind
theorem Q0d {t0 t1 p b:Int}(h:Int.gcd t0 t1=1)(hb:b≠0):Int.gcd (t0*b+p*t1) (t1*b)<=(b*b).natAbs:=by
 have d1:((Int.gcd (t0*b+p*t1) (t1*b):Nat):Int) ∣ t0*b+p*t1:=Int.gcd_dvd_left ..
 have d2:((Int.gcd (t0*b+p*t1) (t1*b):Nat):Int) ∣ t1*b:=Int.gcd_dvd_right ..
 generalize Int.gcd (t0*b+p*t1) (t1*b)=q at *
 have e1:(q:Int) ∣ t0*(b*b):=by
  have e:t0*(b*b)=(t0*b+p*t1)*b - t1*b*p:=by grind
  rw [e]
  exact Int.dvd_sub (Int.dvd_mul_of_dvd_left d1) (Int.dvd_mul_of_dvd_left d2)
 have e2:(q:Int) ∣ t1*(b*b):=by
  have e:t1*(b*b)=t1*b*b:=by grind
  rw [e]
  exact Int.dvd_mul_of_dvd_left d2
 have e3:=Int.dvd_gcd e1 e2
 rw [Int.gcd_mul_right,h,Nat.one_mul] at e3
 exact Nat.le_of_dvd (by have:=Int.mul_ne_zero hb hb;omega) e3
theorem J9r {t0 t1 p b:Int}{n:Nat}(h:Int.gcd t0 t1=1)(hb:0<b)(h1:0<t1)(bd:Bd n b):Bd (n+n) (low [t0*b+p*t1] (t1*b)):=by
 have l:=J9t (t0*b+p*t1) (t1*b)
 rw [if_neg (by have:=Int.mul_pos h1 hb;omega)] at l
 rw [l]
 have k:=Q0d (t0:=t0) (t1:=t1) (p:=p) h (show b≠0 by omega)
 have:=Bd.mul bd bd
 unfold Bd at *
 rw [Int.natAbs_natCast]
 omega
theorem J3v {T:Int×Int}{p:F3}(hT:0<T.2)(hp:0<p.bot){i:Nat}(po:p.ok 1404)(b1:Bd (4300*i+3) (frT T.1 T.2))(b2:Bd (4300*i+3) (frB T.1 T.2)) :
 frT T.1 T.2*frB p.top p.bot+frT p.top p.bot*frB T.1 T.2=frT T.1 T.2*frB p.top p.bot+frT p.top p.bot*frB T.1 T.2/\frB T.1 T.2*frB p.top p.bot≠0/\Bd 8430 (low [frT T.1 T.2*frB p.top p.bot+frT p.top p.bot*frB T.1 T.2] (frB T.1 T.2*frB p.top p.bot)) /\
 frD (frT T.1 T.2*frB p.top p.bot+frT p.top p.bot*frB T.1 T.2) (frB T.1 T.2*frB p.top p.bot)=frD (HF T (frP p)).1 (HF T (frP p)).2 /\
 Bd (4300*(i+1)+3) (frT (HF T (frP p)).1 (HF T (frP p)).2)/\Bd (4300*(i+1)+3) (frB (HF T (frP p)).1 (HF T (frP p)).2):=by
 obtain ⟨q0,hg,he,_⟩:=JH (t:=T.1) (b:=T.2) (by omega)
 obtain ⟨r0,_,_,l1,l2⟩:=JH (t:=p.top) (b:=p.bot) (by omega)
 have r1:Bd 4220 (frT p.top p.bot):=Nat.lt_of_le_of_lt l1 ((F3.top_bd po).mono (by decide))
 have r2:Bd 4215 (frB p.top p.bot):=Nat.lt_of_le_of_lt l2 ((F3.bot_bd po).mono (by decide))
 obtain ⟨N,D0⟩:=T
 dsimp only at *
 unfold frP HF
 dsimp only
 generalize frT p.top p.bot=u at *
 generalize frB p.top p.bot=v at *
 have ll:=J9r (p:=u) hg r0 q0 r2
 generalize frT N D0=x at *
 generalize frB N D0=y at *
 have bt:Bd (4300*(i+1)+3) (x*v+u*y):=(Bd.add (Bd.mul b1 r2) (Bd.mul r1 b2)).mono (by omega)
 have bb:Bd (4300*(i+1)+3) (y*v):=(Bd.mul b2 r2).mono (by omega)
 have qr:0<y*v:=Int.mul_pos q0 r0
 have dr:0<D0*v:=Int.mul_pos hT r0
 have like:(x*v+u*y)*(D0*v)=(N*v+u*D0)*(y*v):=by
  clear bt bb b1 b2 r1 r2 hg ll
  grind
 obtain ⟨f1,f2⟩:=J0q (by omega) (by omega) like
 obtain ⟨_,_,_,l3,l4⟩:=JH (t:=x*v+u*y) (b:=y*v) (by omega)
 refine ⟨rfl,by omega,ll.mono (by decide),?_,?_,?_⟩
 · unfold frD;rw [f1,f2]
 · rw [<- f1];exact Nat.lt_of_le_of_lt l3 bt
 · rw [<- f2];exact Nat.lt_of_le_of_lt l4 bb
noncomputable abbrev YA:Stmt:=top 15
theorem J8s:FnScope xl4 xl4 (J7 YA):=⟨rfl,rfl,rfl,by decide +kernel,rfl,by decide +kernel,by decide +kernel⟩
noncomputable def J7o:DSp:=fun ds P _=>∃ (a b c e:Int) (m n k:Nat),ds=[t2 a b,t2 c e]/\(Bd m a/\Bd m b)/\(Bd n c/\Bd n e)/\m+n<=10000000/\b*e≠0/\Bd k (low [a*e+c*b] (b*e))/\k<=9000/\P (frD (a*e+c*b) (b*e))
theorem J9j {f:Addr} (F:Fun K "plus" "plus" YA f fd) (Z:Bi mg) {c:Cs} (Y:Ex K mg base c) (zg0:Callee P w K mg base CX0 "fraction" 3 xl7 (Q0 K BT UG)):FnOk P w K mg base CX0 4 f fd xl4 (Q0 K BT J7o):=by
 refine F.okD J8s (fun ds PP Ed h=>?_) (fun cdv A outer s H E M bg ds PP Ed hr hS_=>?_)
 · obtain ⟨a,b,c,e,m,n,k,rfl,⟨b1,b2⟩,⟨b3,b4⟩,hmn,h0,hk,k9,hP⟩:=h
   rfl
 · obtain ⟨a,b,c,e,m,n,k,rfl,⟨b1,b2⟩,⟨b3,b4⟩,hmn,h0,hk,k9,hP⟩:=hS_
   refine ⟨_,(J8 (V3 (Q3 zg0 hr.m rfl (J0 (Q5 AX Z6 (Q5 V1 AH (Q6 (Q7 K (by rfl)) Q8 (jdv 0) J4 (fun _ _=>rfl)) (Q6 (Q7 K (by rfl)) Q8 (jdv 1) J4 (fun _ _=>rfl))) (Q5 V1 AH (Q6 (Q7 K (by rfl)) Q8 (jdv 1) J4 (fun _ _=>rfl)) (Q6 (Q7 K (by rfl)) Q8 (jdv 0) J4 (fun _ _=>rfl)))) (J0 (Q5 V1 AH (Q6 (Q7 K (by rfl)) Q8 (jdv 0) J4 (fun _ _=>rfl)) (Q6 (Q7 K (by rfl)) Q8 (jdv 1) J4 (fun _ _=>rfl))) J3))))),?_⟩
   walk_at "g"
   exact ⟨_,_,k,rfl,h0,hk,k9,hP⟩
theorem Up.depth {f p:F3}(h:Up f p)(n:p.top≠0)(px py:Int):(p.t.top px py*sgn p.top)*absI f.top=(f.t.top px py*sgn f.top)*absI p.top:=by
 obtain ⟨n',e⟩:=h.way n
 obtain ⟨k,B,q,k0,B0,q0,e1,e2⟩:=h
 have e2:=e2 px py
 have ab:∀ x:Int,absI x=x*sgn x:=fun x=>by
  have c:=Y9 x
  unfold absI
  rcases c with ⟨c,s⟩|⟨c,s⟩|⟨c,s⟩<;>rw [s]<;>split<;>omega
 rw [ab,ab,e]
 generalize sgn f.top=s at *
 generalize p.t.top px py=x at *
 generalize f.t.top px py=y at *
 generalize p.top=u at *
 generalize f.top=v at *
 have:x*v=y*u:=by
  have:(x*v)*B=(y*u)*B:=by
   rw [show x*v*B=(x*B)*v by ac_rfl,show y*u*B=y*(u*B) by ac_rfl,e1,e2]
   ac_rfl
  exact Int.eq_of_mul_eq_mul_right (by omega) this
 rw [show x*s*(v*s)=(x*v)*(s*s) by ac_rfl,this]
 ac_rfl
theorem J3w {l:List F3}(h:∀ p∈l,p.ok 1404/\p.pr):∀ p∈l,0<p.bot:=fun p hp=>F3.bot_pos (h p hp).2.a.w (h p hp).2.b.w (h p hp).2.c.w
noncomputable abbrev EK:Stmt:=top 57
noncomputable abbrev Q5x:List Str:=["_law_face_here","_law_pieces","_law_board","_law_piece","_law_total"]
noncomputable abbrev Q1y:List Str:=["_law_face_here","_law_pieces","_law_board"]
theorem CG:FnScope Q5x Q1y (J7 EK):=⟨rfl,rfl,rfl,by decide +kernel,rfl,by decide +kernel,by decide +kernel⟩
noncomputable def J7t:DSp:=fun ds P _=>∃ (f:F3) (l:List F3),ds=[f.d,.lst (l.map F3.d),t2 9 9]/\Cov f l/\f.ok 60/\f.pr/\(∀ p∈l,p.ok 1404/\p.pr)/\l.length<=100/\P (.bl true)
noncomputable abbrev J8c (P:Program) (w:World) (K:Fg) (mg:Str → Option Value) (base:Heap) (f:Addr) (cdv:Value) (A:Around) (outer:List Env) (s:Shared) (H:Hp) (E:XK):Cx:=BO CX0 P w K mg base Q5x "_law_deep" (J7 EK) f cdv A outer s H E
noncomputable abbrev J7y:List Str:=["_law_dot","_law_piece","_law_face_here"]
theorem SK {f:Addr} (F:Fun K "_law_deep" "_law_deep" EK f fd) (Z:Bi mg) {c:Cs} (Y:Ex K mg base c) (zg0:Callee P w K mg base CX0 "plus" 4 xl4 (Q0 K BT J7o)) (zg1:Callee P w K mg base CX0 "area" 4 ["face"] (Q0 K BT J7u)) (zg2:Callee P w K mg base (CX1 P w base) "depth_at" 5 xl9 (Q0 K BT (Q8i c))) (zg3:Callee P w K mg base (CX1 P w base) "dots_of" 5 UN (Y7 K BT (UH c))):FnOk P w K mg base CX0 6 f fd Q1y (Q0 K BT J7t):=by
 refine F.okD CG (fun ds PP Ed h=>?_) (fun cdv A outer s H E M bg ds PP Ed hr hS_=>?_)
 · obtain ⟨f3,l,rfl,hC,fo,fp,hl,hn,hP⟩:=h
   rfl
 · obtain ⟨f3,l,rfl,hC,fo,fp,hl,hn,hP⟩:=hS_
   refine ⟨_,(J6 (BW (Z2 3) PassesOwn.never rfl (AL (by rfl) (jdv 1)) (pg_name (i:=3) CG.nd rfl (by walk_at "o")) (J8 (AG (JB (CY (by rfl) (Z7 (HC K (by rfl) (by rfl)) TR rfl Z.all_ TX (J0 (BK (X:=(J8c P w K mg base f cdv A outer s H E).nox) (Z2 0) (KB (X:=(J8c P w K mg base f cdv A outer s H E).nox) (N':=J7y) (map:=[none,some 3,some 0]) (by rfl) (by rfl) (by decide +kernel) (by rfl) ⟨⟨rfl,rfl,rfl,by walk_at "o"⟩,⟨⟨rfl,rfl,rfl,by walk_at "o"⟩,True.intro⟩⟩ (gkeep_name rfl) fun cl0 C0 fp0 s0 H0=>⟨(pg_name (X:=(Q9 (J8c P w K mg base f cdv A outer s H E).nox J7y _ cl0 C0 fp0 s0 H0)) (i:=0) (BA J7y (by decide +kernel)) rfl (by walk_at "o")),AS,(EM (X:=(Q9 (J8c P w K mg base f cdv A outer s H E).nox J7y _ cl0 C0 fp0 s0 H0)) (YI K (by rfl) hr.units) IA (CN EA EX zg2 hr.m rfl (J0 (jdv 1) (J0 (jdv 0) J3))) (CN EA EX zg2 hr.m rfl (J0 (jdv 2) (J0 (jdv 0) J3))) (Z0 _))⟩) (AL (by rfl) (FA EA EX zg3 hr.m rfl (J0 (jdv 3) (J0 (jdv 2) J3))))) J3)) (fun _=>rfl))) (J8 (V3 SW)) Y3)))
    (J6 (V2 (i:=4) CG.nd rfl (by walk_at "o") (Y1 (J0 J4 (J0 J4 J3))))
    (J6 (BW (Z2 3) PassesOwn.never rfl (AL (by rfl) (jdv 1)) (pg_name (i:=3) CG.nd rfl (by walk_at "o")) (J8 (V2 (i:=4) CG.nd rfl (by walk_at "o") (Q3 zg0 hr.m rfl (J0 (jdv 4) (J0 (Q3 zg1 hr.m rfl (J0 (jdv 3) J3)) J3))))))
    (J8 (V3 (EM (YI K (by rfl) hr.units) IA (jdv 4) (Q3 zg1 hr.m rfl (J0 (jdv 0) J3)) (Z0 _))))))),?_⟩
   have fb:0<f3.bot:=F3.bot_pos fp.a.w fp.b.w fp.c.w
   have fo2:f3.ok 1404:=fo.mono (by decide)
   walk_at "g"
   refine ⟨fun i ρ=>∃ v3 v4,ρ=[some f3.d,some (.lst (l.map F3.d)),some (t2 9 9),v3,v4],⟨_,_,rfl⟩,?_,?_⟩
   · rintro i x ρ e ⟨v3,v4,rfl⟩
     obtain ⟨p,ep,rfl⟩:=LI e
     have pm:=List.mem_of_getElem? ep
     obtain ⟨po,pp⟩:=hl p pm
     have up:=hC.up p pm
     walk_at "g"
     refine ⟨p.t,_,rfl,F3.t_ok po,rfl,rfl,(fun z=>absurd z (by decide)),fun w h e _=>?_⟩
     obtain ⟨rfl,rfl⟩:=TY e
     rw [YX]
     refine ⟨DX _,?_⟩
     have dl:=TD p.t
     have dm:=fun r (h:r∈dR p.t)=>Q4y h
     generalize dR p.t=rows at *
     walk_at "g"
     refine And.intro (by rw [List.length_map];omega) ?_
     refine GT (fun _=>.bl true) (fun x Q hx hQ=>?_) (fun x hx=>rfl) ?_
     · obtain ⟨r,hr,rfl⟩:=List.mem_map.mp hx
       obtain ⟨x,y,rfl,x9,y9,hh⟩:=dm r hr
       have bx:Bd 1404 (x:Int):=(Bd.of (by omega) (by omega):Bd 5 (x:Int)).mono (by decide)
       have by':Bd 1404 (y:Int):=(Bd.of (by omega) (by omega):Bd 5 (y:Int)).mono (by decide)
       have tp:p.top≠0:=T3.has_tn pp.pos hh
       have tf:=(up.way tp).1
       have eq:=WM (t:=p.t.top x y*sgn p.top) (b:=absI p.top) (t':=f3.t.top x y*sgn f3.top) (b':=absI f3.top) (MO tp) (MO tf) (up.depth tp x y)
       walk_at "g"
       refine ⟨p.t,x,y,1404,rfl,F3.t_ok po,bx,by',by decide,by decide,fun z=>absurd z tp,fun _=>?_⟩
       walk_at "g"
       refine ⟨f3.t,x,y,1404,rfl,F3.t_ok fo2,bx,by',by decide,by decide,fun z=>absurd z tf,fun _=>?_⟩
       refine JL (x:=frD (p.t.top x y*sgn p.top) (absI p.top)) (y:=frD (f3.t.top x y*sgn f3.top) (absI f3.top)) 2 rfl (by rw [eq]) (by decide) ?_
       exact hQ
     have em:((rows.map CT).map fun _=>D.bl true)=(rows.map fun _=>true).map D.bl:=by rw [List.map_map,List.map_map];rfl
     rw [em]
     walk_at "g"
     rw [LQ]
     walk_at "g"
     have ea:(rows.map fun _=>true).all id=true:=List.all_eq_true.mpr fun b hb=>by
      obtain ⟨_,_,rfl⟩:=List.mem_map.mp hb
      rfl
     generalize hb:(fun bs:List Bool=>bs.all id) (rows.map fun _=>true)=b
     have hb:(rows.map fun _=>true).all id=b:=hb
     rw [ea] at hb
     subst hb
     walk_at "g"
     exact ⟨_,_,rfl⟩
   · rintro ρ ⟨v3,v4,rfl⟩
     have hbot:=J3w hl
     walk_at "g"
     refine ⟨fun i ρ=>∃ v3,ρ=[some f3.d,some (.lst (l.map F3.d)),some (t2 9 9),v3,some (frD (sumU (l.take i)).1 (sumU (l.take i)).2)]/\Bd (4300*i+3) (frT (sumU (l.take i)).1 (sumU (l.take i)).2)/\Bd (4300*i+3) (frB (sumU (l.take i)).1 (sumU (l.take i)).2),?_,?_,?_⟩
     · have e:sumU (l.take 0)=(0,1):=rfl
       obtain ⟨e1,e2⟩:=Q0e (p:=0) (q:=1) (by decide) (by decide)
       rw [e]
       unfold frD
       rw [e1,e2]
       exact ⟨_,rfl,Bd.of (by decide) (by decide),Bd.of (by decide) (by decide)⟩
     · rintro i x ρ e ⟨v3,rfl,b1,b2⟩
       obtain ⟨p,ep,rfl⟩:=LI e
       have pm:=List.mem_of_getElem? ep
       have hi:i<l.length:=(List.getElem?_eq_some_iff.mp ep).1
       have pb:=hbot p pm
       obtain ⟨po,pp⟩:=hl p pm
       have dp:0<(sumU (l.take i)).2:=JJ _ _ (fun x hx=>hbot x (List.mem_of_mem_take hx)) (by decide)
       rw [J2b l i p ep]
       have sp:=J3v dp pb po b1 b2
       obtain ⟨_,_,_,l1,l2⟩:=JH (t:=p.top) (b:=p.bot) (by omega)
       have r1:Bd 4220 (frT p.top p.bot):=Nat.lt_of_le_of_lt l1 ((F3.top_bd po).mono (by decide))
       have r2:Bd 4220 (frB p.top p.bot):=Nat.lt_of_le_of_lt l2 ((F3.bot_bd po).mono (by decide))
       clear l1 l2 e hP hC
       generalize sumU (l.take i)=T at *
       obtain ⟨_,s1,s2,s3,s4,s5⟩:=sp
       walk_at "g"
       refine ⟨p,1404,rfl,po,by decide,pb,?_⟩
       walk_at "g"
       refine ⟨_,_,_,_,4300*i+3,4220,8430,rfl,⟨b1,b2⟩,⟨r1,r2⟩,by omega,s1,s2,by decide,?_⟩
       rw [s3]
       walk_at "g"
       exact ⟨_,rfl,s4,s5⟩
     · rintro ρ ⟨v3,rfl,_,_⟩
       rw [List.length_map,List.take_length]
       have dp:0<(sumU l).2:=JJ _ _ hbot (by decide)
       have eq:=WM (t:=(sumU l).1) (b:=(sumU l).2) (t':=f3.top) (b':=f3.bot) (by omega) (by omega) (J8m fb hC.ar hbot)
       walk_at "g"
       refine ⟨f3,1404,rfl,fo2,by decide,fb,?_⟩
       refine JL (x:=frD (sumU l).1 (sumU l).2) (y:=frD f3.top f3.bot) 2 rfl (by rw [eq]) (by decide) ?_
       exact hP
theorem J0r {k:R4}:∀ {r:List R4} {p:F3},p∈fan k r->p.a=k/\p.b∈r/\p.c∈r
 | [],p,h=>by cases h
 | [x],p,h=>by cases h
 | x::y::r,p,h=>by
   rcases List.mem_cons.mp h with e|e
   · subst e;exact ⟨rfl,by simp,by simp⟩
   · obtain ⟨h1,h2,h3⟩:=J0r e
     exact ⟨h1,List.mem_cons_of_mem _ h2,List.mem_cons_of_mem _ h3⟩
theorem J6z {ks:List R4}{p:F3}(h:p∈JY ks):p.a∈ks/\p.b∈ks/\p.c∈ks:=by
 cases ks with
 | nil=>cases h
 | cons k r =>
   obtain ⟨h1,h2,h3⟩:=J0r (show p∈fan k r from h)
   exact ⟨by rw [h1];exact List.mem_cons_self ..,List.mem_cons_of_mem _ h2,List.mem_cons_of_mem _ h3⟩
theorem LN (fl:R4):∀ fs:List F3,cutA fl fs=(GS fl fs).map F3.d
 | []=>rfl
 | f::fs=>by
   have:=LN fl fs
   unfold cutA GS at *
   rw [List.flatMap_cons,List.flatMap_cons,this,List.map_append,Q5d]
theorem NB {a b fl r:R4}{m q:Nat}(ao:a.ok m)(bo:b.ok m)(lo:fl.ok q)(ha:Pw a)(hb:Pw b)(h:r∈J1 a b (dot4 fl a) (dot4 fl b)):r.ok (m+m+q+4)/\Pw r:=by
 unfold J1 at h
 rcases List.mem_append.mp h with h|h
 · split at h
   · rename_i q
     rw [List.mem_singleton.mp h]
     exact ⟨ao.mono (by omega),ha⟩
   · cases h
 · split at h
   · rename_i q
     rw [List.mem_singleton.mp h]
     have:=Q5e ao bo (JV lo ao) (JV lo bo) ha.w hb.w q
     exact ⟨this.1.mono (by omega),⟨this.2.1⟩⟩
   · cases h
theorem ST {f:F3}{fl r:R4}{m q:Nat}(fo:f.ok m)(fp:f.pr)(lo:fl.ok q)(h:r∈keptL f fl):r.ok (m+m+q+4)/\Pw r:=by
 have h:r∈J1 f.a f.b (dot4 fl f.a) (dot4 fl f.b)++J1 f.b f.c (dot4 fl f.b) (dot4 fl f.c)++J1 f.c f.a (dot4 fl f.c) (dot4 fl f.a):=h
 rcases List.mem_append.mp h with h|h
 · rcases List.mem_append.mp h with h|h
   · exact NB fo.a fo.b lo fp.a fp.b h
   · exact NB fo.b fo.c lo fp.b fp.c h
 · exact NB fo.c fo.a lo fp.c fp.a h
theorem J1i {fl:R4}{m q:Nat}(lo:fl.ok q){fs:List F3}(h:∀ f∈fs,f.ok m/\f.pr):∀ p∈GS fl fs,p.ok (m+m+q+4)/\p.pr:=fun p hp=>by
 obtain ⟨f,hf,hp⟩:=List.mem_flatMap.mp hp
 obtain ⟨fo,fp⟩:=h f hf
 obtain ⟨q1,q2,q3⟩:=J6z hp
 have k1:=ST fo fp lo q1
 have k2:=ST fo fp lo q2
 have k3:=ST fo fp lo q3
 exact ⟨⟨k1.1,k2.1,k3.1⟩,⟨k1.2,k2.2,k3.2⟩⟩
theorem J5d {fl:R4}{n:Nat}(h:fl.ok n):(GL fl).ok n:=by
 have e:∀ i:Int,Bd n i->Bd n (0 - i):=fun i h=>by rw [Int.zero_sub];exact h.neg
 exact ⟨e _ h.x,e _ h.y,e _ h.z,e _ h.w⟩
theorem J6c {r:R4}(h:EN r=true):EN (GL r)=true:=by
 unfold EN GL at *
 dsimp only at *
 by_cases h1:r.x=0<;>by_cases h2:r.y=0<;>by_cases h3:r.z=0<;>simp [h1,h2,h3] at h ⊢<;>omega
theorem QY (G:R4):∀ {l:List F3},(∀ p∈l,p.pr)->(∀ p∈l,¬ (dot4 G p.a=0/\dot4 G p.b=0/\dot4 G p.c=0))->(GS G l).length+(GS (GL G) l).length<=3*l.length
 | [],_,_=>by simp [GS]
 | p::l,h,nz=>by
   have ih:=QY G (l:=l) (fun p hp=>h p (List.mem_cons_of_mem _ hp)) (fun p hp=>nz p (List.mem_cons_of_mem _ hp))
   have d:=(LL (h p (List.mem_cons_self ..)) (nz p (List.mem_cons_self ..))).len
   rw [List.length_append] at d
   unfold GS at *
   rw [List.flatMap_cons,List.flatMap_cons,List.length_append,List.length_append,List.length_cons]
   omega
theorem IB:∀ l:List F3,EZ (l.map F3.d)=true
 | []=>rfl
 | f::l=>by
   rw [List.map_cons]
   unfold EZ
   rw [IB l]
   rfl
noncomputable def IX (f:F3)(fl:R4):Bool:=decide (dot4 fl f.a=0/\dot4 fl f.b=0/\dot4 fl f.c=0)
noncomputable abbrev EV:Stmt:=top 58
theorem GG:FnScope ["_law_pieces","_law_flat_here","_law_contrary"] ["_law_pieces","_law_flat_here"] (J7 EV):=⟨rfl,rfl,rfl,by decide +kernel,rfl,by decide +kernel,by decide +kernel⟩
noncomputable def XN:DSp:=fun ds P _=>∃ (fs:List F3) (fl:R4),ds=[.lst (fs.map F3.d),fl.d]/\(∀ f∈fs,f.ok 640/\f.pr)/\fs.length<=27/\fl.ok 128/\EN fl=true/\P (.lst ((GS fl fs++GS (GL fl) fs).map F3.d))
theorem NQ {f:Addr} (F:Fun K "_law_halves" "_law_halves" EV f fd) (Z:Bi mg) {c:Cs} (Y:Ex K mg base c) (zg0:Callee P w K mg base CX0 "cut_all" 8 ["faces","flat"] (Y7 K BT XO)):FnOk P w K mg base CX0 9 f fd ["_law_pieces","_law_flat_here"] (Q0 K BT XN):=by
 refine F.okD GG (fun ds PP Ed h=>?_) (fun cdv A outer s H E M bg ds PP Ed hr hS_=>?_)
 · obtain ⟨fs,fl,rfl,hfs,hl,lo,hf,hP⟩:=h
   rfl
 · obtain ⟨fs,fl,rfl,hfs,hl,lo,hf,hP⟩:=hS_
   refine ⟨_,(J6 (V2 (i:=2) GG.nd rfl (by walk_at "o") (Y1 (J0 (Q5 AJ Z6 J4 (Q6 (Q7 K (by rfl)) Q8 (jdv 1) J4 (fun _ _=>rfl))) (J0 (Q5 AJ Z6 J4 (Q6 (Q7 K (by rfl)) Q8 (jdv 1) J4 (fun _ _=>rfl))) (J0 (Q5 AJ Z6 J4 (Q6 (Q7 K (by rfl)) Q8 (jdv 1) J4 (fun _ _=>rfl))) (J0 (Q5 AJ Z6 J4 (Q6 (Q7 K (by rfl)) Q8 (jdv 1) J4 (fun _ _=>rfl))) J3))))))
    (J8 (V3 (Q5 Q3g Q3k (DY zg0 hr.m rfl (J0 (jdv 0) (J0 (jdv 1) J3))) (DY zg0 hr.m rfl (J0 (jdv 0) (J0 (jdv 2) J3))))))),?_⟩
   have lo2:=J5d lo
   have l1:=JZ fl fs
   have l2:=JZ (GL fl) fs
   rw [LN,List.length_map] at l1 l2
   walk_at "g"
   refine ⟨fs,fl,rfl,hfs,by omega,lo.mono (by decide),hf,by rw [LN];exact IB _,?_⟩
   rw [LN]
   walk_at "g"
   refine ⟨fs,GL fl,rfl,hfs,by omega,lo2.mono (by decide),J6c hf,by rw [LN];exact IB _,?_⟩
   rw [LN]
   walk_at "g"
   refine And.intro (by rw [List.length_map,List.length_map];omega) ?_
   rw [<- List.map_append]
   walk_at "g"
   exact hP
noncomputable abbrev J0a:Stmt:=top 59
noncomputable abbrev Q5w:List Str:=["_law_script","_law_board","_law_k","_law_bag_here","_law_face_here","_law_pieces","_law_again","_law_flat_here","_law_due"]
theorem ES:FnScope Q5w ["_law_script"] (J7 J0a):=⟨rfl,rfl,rfl,by decide +kernel,rfl,by decide +kernel,by decide +kernel⟩
noncomputable def RP (K:Fg):Sp:=fun vs H Q _=>∃ (a:Addr) (ns:List Int),vs=[.ref a]/\SqL K H a (ns.map V.int)/\ns.length<=63/\∀ H',Q (.bl true) H'
noncomputable abbrev UO (P:Program) (w:World) (K:Fg) (mg:Str → Option Value) (base:Heap) (f:Addr) (cdv:Value) (A:Around) (outer:List Env) (s:Shared) (H:Hp) (E:XK):Cx:=BO CX0 P w K mg base Q5w "law" (J7 J0a) f cdv A outer s H E
noncomputable abbrev UL:List Str:=["_law_piece","_law_flat_here"]
noncomputable abbrev J7x:List Str:=["_law_corner","_law_flat_here"]
theorem Q3h {f:Addr} (F:Fun K "law" "law" J0a f fd) (Z:Bi mg) {c:Cs} (Y:Ex K mg base c) (zg0:Callee P w K mg base CX0 "_law_bag" 1 xl2 (XH K BT SA)) (zg1:Callee P w K mg base CX0 "_law_face" 4 J1v (Q0 K BT J1q)) (zg2:Callee P w K mg base (CX1 P w base) "dots_of" 5 UN (Y7 K BT (UH c))) (zg3:Callee P w K mg base CX0 "_law_cell" 1 xl1 (Q0 K BT ZH)) (zg4:Callee P w K mg base CX0 "_law_flat" 3 Q1z (Q0 K BT J1p)) (zg5:Callee P w K mg base CX0 "_law_deep" 6 Q1y (Q0 K BT J7t)) (zg6:Callee P w K mg base CX0 "_law_digit" 2 xl3 (Q0 K BT HD)) (zg7:Callee P w K mg base CX0 "_law_halves" 9 ["_law_pieces","_law_flat_here"] (Q0 K BT XN)) (zg8:Callee P w K mg base CX0 "_law_dots" 6 J1u (Y7 K BT MQ)) (zg9:Callee P w K mg base CX0 "_law_spanned" 6 J1u (Y7 K BT MQ)) (zg10:Callee P w K mg base (CX1 P w base) "worth" 5 ["flat","spot"] (Q0 K BT (UB c))):FnOk P w K mg base CX0 10 f fd ["_law_script"] (RP K):=by
 refine F.okL BT ES (fun cdv A outer s H E ns hr hlen=>?_)
 · refine ⟨_,(J6 (V2 (i:=1) ES.nd rfl (by walk_at "o") (Y1 (J0 J4 (J0 J4 J3))))
    (J6 (BW (Z2 2) PassesOwn.never rfl (CZ rfl Z.range_ (J0 (Z7 (RA (by rfl)) J1k rfl Z.max_ J7j (J0 J4 (J0 (Z7 (QZ (by rfl)) J1k rfl Z.min_ J7i (J0 (Z7 (DF K (by rfl)) ZB rfl Z.len_ TW (J0 (jdv 0) J3)) (J0 J4 J3))) J3))) J3)) (pg_name (i:=2) ES.nd rfl (by walk_at "o")) (J6 (J9v (i:=3) rfl ES.nd rfl (by walk_at "o") zg0 hr.m rfl (J0 (Q3 zg3 hr.m rfl (J0 (jdv 0) (J0 (jdv 2) J3))) (J0 (Q5 AX Z6 J4 (jdv 2)) J3)))
    (J6 (V2 (i:=4) ES.nd rfl (by walk_at "o") (Q3 zg1 hr.m rfl (J0 (jdv 3) (J0 J4 J3))))
    (J6 (V2 (i:=5) ES.nd rfl (by walk_at "o") (FV (J0 (jdv 4) J3)))
    (J6 (BW (Z2 6) PassesOwn.never rfl (CZ rfl Z.range_ (J0 (Q5 AX Z6 J4 (Q3 zg6 hr.m rfl (J0 (jdv 3) (J0 J4 J3)))) J3)) (pg_name (i:=6) ES.nd rfl (by walk_at "o")) (J6 (V2 (i:=7) ES.nd rfl (by walk_at "o") (Q3 zg4 hr.m rfl (J0 (jdv 3) (J0 (jdv 4) J3))))
    (J8 (AG (CY (by rfl) (Z7 (HC K (by rfl) (by rfl)) TR rfl Z.all_ TX (J0 (BK (X:=(UO P w K mg base f cdv A outer s H E).nox) (Z2 0) (KB (X:=(UO P w K mg base f cdv A outer s H E).nox) (N':=UL) (map:=[none,some 7]) (by rfl) (by rfl) (by decide +kernel) (by rfl) ⟨⟨rfl,rfl,rfl,by walk_at "o"⟩,True.intro⟩ (gkeep_name rfl) fun cl0 C0 fp0 s0 H0=>⟨(pg_name (X:=(Q9 (UO P w K mg base f cdv A outer s H E).nox UL _ cl0 C0 fp0 s0 H0)) (i:=0) (BA UL (by decide +kernel)) rfl (by walk_at "o")),AS,(EM (X:=(Q9 (UO P w K mg base f cdv A outer s H E).nox UL _ cl0 C0 fp0 s0 H0)) (SE K (by rfl) hr.units) IA (BK (X:=(Q9 (UO P w K mg base f cdv A outer s H E).nox UL _ cl0 C0 fp0 s0 H0)) (Z2 0) (KB (X:=(Q9 (UO P w K mg base f cdv A outer s H E).nox UL _ cl0 C0 fp0 s0 H0)) (N':=J7x) (map:=[none,some 1]) (by rfl) (by rfl) (by decide +kernel) (by rfl) ⟨⟨rfl,rfl,rfl,by walk_at "o"⟩,True.intro⟩ (gkeep_name rfl) fun cl1 C1 fp1 s1 H1=>⟨(pg_name (X:=(Q9 (Q9 (UO P w K mg base f cdv A outer s H E).nox UL _ cl0 C0 fp0 s0 H0) J7x _ cl1 C1 fp1 s1 H1)) (i:=0) (BA J7x (by decide +kernel)) rfl (by walk_at "o")),AS,(CN (X:=(Q9 (Q9 (UO P w K mg base f cdv A outer s H E).nox UL _ cl0 C0 fp0 s0 H0) J7x _ cl1 C1 fp1 s1 H1)) EA EX zg10 hr.m rfl (J0 (jdv 1) (J0 (jdv 0) J3)))⟩) (AL (by rfl) (jdv 0))) (FV (J0 J4 (J0 J4 (J0 J4 J3)))) (Z0 _))⟩) (AL (by rfl) (jdv 5))) J3)) (fun _=>rfl)) (J8 (V2 (i:=5) ES.nd rfl (by walk_at "o") (Q3 zg7 hr.m rfl (J0 (jdv 5) (J0 (jdv 7) J3))))) Y3))))
    (J6 (V2 (i:=8) ES.nd rfl (by walk_at "o") (FA EA EX zg2 hr.m rfl (J0 (jdv 4) (J0 (jdv 1) J3))))
    (J6 (AG (J5m (AD (SE K (by rfl) hr.units) IA (DY zg8 hr.m rfl (J0 (jdv 5) (J0 (jdv 1) J3))) (jdv 8) (Z0 _)) (J0j (AD (SE K (by rfl) hr.units) IA (DY zg9 hr.m rfl (J0 (jdv 5) (J0 (jdv 1) J3))) (jdv 8) (Z0 _)))) (J8 (V3 SW)) Y3)
    (J8 (AG (JB (CY (by rfl) (Q3 zg5 hr.m rfl (J0 (jdv 4) (J0 (jdv 5) (J0 (jdv 1) J3)))) (fun _=>rfl))) (J8 (V3 SW)) Y3)))))))))
    (J8 (V3 SW)))),?_⟩
   walk_at "g"
   have n3:∀ m:Int,((fun i j=>if j>i then j else i) 1 ((fun i j=>if j<i then j else i) m 2):Int)<=2:=by intro m;dsimp only;split<;>split<;>omega
   have n0:∀ m:Int,1<=((fun i j=>if j>i then j else i) 1 ((fun i j=>if j<i then j else i) m 2):Int):=by intro m;dsimp only;split<;>split<;>omega
   replace n3:=n3 ns.length
   replace n0:=n0 ns.length
   refine And.intro ⟨by omega,by omega⟩ ?_
   refine ⟨fun i ρ=>∃ v2 v3 v4 v5 v6 v7 v8,ρ=[some (.scr ns),some (t2 9 9),v2,v3,v4,v5,v6,v7,v8],⟨_,_,_,_,_,_,_,rfl⟩,?_,?_⟩
   · rintro i x ρ e ⟨v2,v3,v4,v5,v6,v7,v8,rfl⟩
     obtain ⟨rfl,hi⟩:=AU e
     have hi2:i<2:=by omega
     clear e n3 n0
     rw [Int.zero_add]
     walk_at "g"
     refine ⟨ns,i,rfl,fun n=>?_⟩
     walk_at "g"
     refine And.intro ⟨n,1+i,rfl,by omega⟩ ?_
     walk_at "g"
     refine ⟨9,rfl,by decide,by decide,fun t tok tpos=>?_⟩
     obtain ⟨f0,hf0⟩:∃ f:F3,f=⟨⟨t.ax,t.ay,t.az,t.aw⟩,⟨t.bx,t.b_y,t.bz,t.bw⟩,⟨t.cx,t.cy,t.cz,t.cw⟩⟩:=⟨_,rfl⟩
     have ed:t.d=f0.d:=by rw [hf0]
     have et:f0.t=t:=by rw [hf0];rfl
     have fo:f0.ok 60:=by rw [hf0];exact ⟨⟨tok.ax,tok.ay,tok.az,tok.aw⟩,⟨tok.bx,tok.b_y,tok.bz,tok.bw⟩,⟨tok.cx,tok.cy,tok.cz,tok.cw⟩⟩
     have fp:f0.pr:=by rw [hf0];exact ⟨⟨tpos.a⟩,⟨tpos.b⟩,⟨tpos.c⟩⟩
     rw [ed]
     subst et
     clear hf0 ed
     walk_at "g"
     refine ⟨_,64,rfl,by decide,Bd.num _ (by decide),by decide,fun k k0 k1=>?_⟩
     have k1:k<3:=k1
     walk_at "g"
     refine And.intro ⟨by omega,by omega⟩ ?_
     refine ⟨fun j ρ=>∃ (l:List F3) (u6 u7 u8:Option D),ρ=[some (.scr ns),some (t2 9 9),some (.int i),some .bag,some f0.d,some (.lst (l.map F3.d)),u6,u7,u8]/\Cov f0 l/\l.length<=3 ^ j/\∀ p∈l,p.ok (192*2 ^ j - 132)/\p.pr,?_,?_,?_⟩
     · exact ⟨[f0],_,_,_,rfl,Cov.self f0,Nat.le_refl _,fun p hp=>by rw [List.mem_singleton.mp hp];exact ⟨fo,fp⟩⟩
     · rintro j x ρ e ⟨l,u6,u7,u8,rfl,hC,ll,hl⟩
       obtain ⟨rfl,hj⟩:=AU e
       have hj3:j<3:=by omega
       clear e
       have l9:l.length<=9:=Nat.le_trans ll (by rcases j with _|_|_|j<;>first|decide|omega)
       have m6:192*2 ^ j - 132<=636:=by rcases j with _|_|_|j<;>first|decide|omega
       have ms:(192*2 ^ j - 132)+(192*2 ^ j - 132)+128+4=192*2 ^ (j+1) - 132:=by rcases j with _|_|_|j<;>first|decide|omega
       have lx:3*3 ^ j=3 ^ (j+1):=by rcases j with _|_|_|j<;>first|decide|omega
       have lm:192*2 ^ j - 132<=192*2 ^ (j+1) - 132:=by rcases j with _|_|_|j<;>first|decide|omega
       have lk:3 ^ j<=3 ^ (j+1):=by omega
       generalize 192*2 ^ (j+1) - 132=mz at *
       generalize 3 ^ (j+1)=lz at *
       generalize 192*2 ^ j - 132=mm at *
       walk_at "g"
       refine ⟨f0.t,rfl,F3.t_ok fo,fp.pos,fun fl flo fR=>?_⟩
       walk_at "g"
       refine And.intro (by rw [List.length_map];omega) ?_
       refine WY (fun i y=>∃ p,l[i]?=some p/\y=.bl (!IX p fl)) (fun j x Q e hQ=>?_) (fun j y ⟨p,_,e⟩=>by rw [e];rfl) fun acc hla ha=>?_
       · obtain ⟨p,ep,rfl⟩:=LI e
         obtain ⟨po,pp⟩:=hl p (List.mem_of_getElem? ep)
         walk_at "g"
         walk_at "gc"
         refine ⟨fl.d,p.a,640,rfl,rfl,rfl,(fun z=>absurd (fR.symm.trans z) (by decide)),fun _=>⟨fl,rfl,flo.mono (by decide),po.a.mono (by omega),by decide,?_⟩⟩
         walk_at "g"
         refine ⟨fl.d,p.b,640,rfl,rfl,rfl,(fun z=>absurd (fR.symm.trans z) (by decide)),fun _=>⟨fl,rfl,flo.mono (by decide),po.b.mono (by omega),by decide,?_⟩⟩
         walk_at "g"
         refine ⟨fl.d,p.c,640,rfl,rfl,rfl,(fun z=>absurd (fR.symm.trans z) (by decide)),fun _=>⟨fl,rfl,flo.mono (by decide),po.c.mono (by omega),by decide,?_⟩⟩
         walk_at "g"
         refine ⟨.list [.int (dot4 fl p.a),.int (dot4 fl p.b),.int (dot4 fl p.c)],.list [.int 0,.int 0,.int 0],rfl,rfl,Nat.le_trans (Nat.min_le_right _ _) (by decide),?_⟩
         have ev:PyData.eqv (.list [.int (dot4 fl p.a),.int (dot4 fl p.b),.int (dot4 fl p.c)]) (.list [.int 0,.int 0,.int 0])=IX p fl:=by
          unfold IX
          by_cases h1:dot4 fl p.a=0<;>by_cases h2:dot4 fl p.b=0<;>by_cases h3:dot4 fl p.c=0<;>simp [PyData.eqv,PyData.eqvAll,h1,h2,h3]
         rw [ev]
         exact hQ _ ⟨p,ep,by cases IX p fl<;>rfl⟩
       have eacc:acc=(l.map fun p=>!IX p fl).map D.bl:=by
        rw [List.map_map]
        apply List.ext_getElem?
        intro n
        rw [List.getElem?_map]
        cases q:acc[n]? with
        | none =>
          have h1:=List.getElem?_eq_none_iff.mp q
          rw [hla,List.length_map] at h1
          rw [List.getElem?_eq_none_iff.mpr h1]
          rfl
        | some y =>
          obtain ⟨p,ep,rfl⟩:=ha n y q
          rw [ep]
          rfl
       subst eacc
       clear ha hla
       walk_at "g"
       rw [LQ]
       walk_at "g"
       generalize hb:(fun bs:List Bool=>bs.all id) (l.map fun p=>!IX p fl)=lie
       have hb:(l.map fun p=>!IX p fl).all id=lie:=hb
       cases lie
       · walk_at "g"
         exact ⟨l,_,_,_,rfl,hC,by omega,fun p hp=>⟨(hl p hp).1.mono lm,(hl p hp).2⟩⟩
       · have nz:∀ p∈l,¬ (dot4 fl p.a=0/\dot4 fl p.b=0/\dot4 fl p.c=0):=fun p hp z=>by
          have:=List.all_eq_true.mp hb (!IX p fl) (List.mem_map.mpr ⟨p,hp,rfl⟩)
          unfold IX at this
          simp [z] at this
         walk_at "g"
         refine ⟨l,fl,rfl,fun p hp=>⟨(hl p hp).1.mono (by omega),(hl p hp).2⟩,by omega,flo,fR,?_⟩
         walk_at "g"
         have c3:=QY fl (fun p hp=>(hl p hp).2) nz
         have o1:=J1i flo hl
         have o2:=J1i (J5d flo) hl
         refine ⟨_,_,_,_,rfl,hC.step fl (fun p hp=>(hl p hp).2) nz,by rw [List.length_append];omega,fun p hp=>?_⟩
         rw [ms] at o1 o2
         exact (List.mem_append.mp hp).elim (o1 p) (o2 p)
     · rintro ρ ⟨l,u6,u7,u8,rfl,hC,ll,hl⟩
       rw [rangeD_len] at ll hl
       have hj:∃ j:Nat,(1+k - 0).toNat=j/\j<=3:=⟨_,rfl,by omega⟩
       obtain ⟨j,ej,hj⟩:=hj
       have l27:l.length<=27:=Nat.le_trans ll (by rw [show (1+k).toNat=j by omega];rcases j with _|_|_|_|j<;>first|decide|omega)
       have m14:192*2 ^ (1+k).toNat - 132<=1404:=by rw [show (1+k).toNat=j by omega];rcases j with _|_|_|_|j<;>first|decide|omega
       have hl2:∀ p∈l,p.ok 1404/\p.pr:=fun p hp=>⟨(hl p hp).1.mono m14,(hl p hp).2⟩
       clear ll hl m14 ej hj
       have dots:=hC.dots fp (fun p hp=>(hl2 p hp).2)
       have dl:=TD f0.t
       have only:=fun rows=>Q0x (t:=f0.t) (rows:=rows)
       walk_at "g"
       refine ⟨f0.t,_,rfl,F3.t_ok (fo.mono (by decide)),rfl,rfl,(fun z=>absurd z (by decide)),fun w h e _=>?_⟩
       obtain ⟨rfl,rfl⟩:=TY e
       rw [YX]
       refine ⟨DX _,?_⟩
       walk_at "g"
       refine ⟨l,rfl,hl2,by omega,by rw [dots.length_eq];omega,fun rows p so=>?_⟩
       have er:=only rows (p.trans dots) so
       subst er
       refine ⟨DX _,?_⟩
       refine JL (x:=.lst ((dR f0.t).map CT)) 3 (by unfold BS;exact OD _) rfl (by decide) ?_
       walk_at "g"
       refine ⟨l,rfl,hl2,by omega,by rw [dots.length_eq];omega,fun rows p so=>?_⟩
       have er:=only rows (p.trans dots) so
       subst er
       refine ⟨DX _,?_⟩
       refine JL (x:=.lst ((dR f0.t).map CT)) 3 (by unfold BS;exact OD _) rfl (by decide) ?_
       walk_at "g"
       refine ⟨f0,l,rfl,hC,fo,fp,hl2,by omega,?_⟩
       walk_at "g"
       exact ⟨_,_,_,_,_,_,_,rfl⟩
   · rintro ρ ⟨v2,v3,v4,v5,v6,v7,v8,rfl⟩
     walk_at "g"
end K
namespace K
open PySem L2
structure FnIn (K:Fg)(x:Str)(st:Stmt):Prop where
 ex:∃ (f:Addr) (fd:FuncData),PySem.W.nsIn K mainGlobals x=some (some (.ref f))/\Fun K x x st f fd
theorem fn_in {x:Str}{st:Stmt}{f:Addr}{oc:Value}{od an:Option Addr}{osl:Array (Option Value)}{kV doc pm cdv ct:Value}(a:PySem.W.nsIn K mainGlobals x=some (some (.ref f)))(l:K.lookup f=some ⟨oc,od,.func (PySem.W.fnOf x x (JX st) (BX st) (J7 st) .none kV doc pm an cdv ct),osl⟩)(c:PySem.W.codeIn K cdv x=true)(k:PySem.W.keepIn K (.ref f)=true):FnIn K x st:=⟨⟨_,_,a,Q3y l c k⟩⟩
local macro_rules | `(tactic| walk_at "b1") => `(tactic| exact fun _ _ _ _ _ _ us hl => match us,hl with | [_],_ => rfl)
local macro_rules | `(tactic| walk_at "b2") => `(tactic| exact fun _ _ _ _ _ _ us hl => match us,hl with | [_,_],_ => rfl)
local macro_rules | `(tactic| walk_at "b3") => `(tactic| exact fun _ _ _ _ _ _ us hl => match us,hl with | [_,_,_],_ => rfl)
local macro_rules | `(tactic| walk_at "b4") => `(tactic| exact fun _ _ _ _ _ _ us hl => match us,hl with | [_,_,_,_],_ => rfl)
theorem Q5l {l:PySem.W.OpenLaw}{w:World} {h:Heap} {fa:Addr}(X:K.In h)(G:h.Ns mainGlobals mg)(hfa:mg "law" = some (.ref fa))
 (h0:FnIn K "_law_bag" FN)
 (h1:FnIn K "_law_mixed" FM)
 (h2:FnIn K "_law_digit" DN)
 (h3:FnIn K "_law_common" DC)
 (h4:FnIn K "_law_spot" GJ)
 (h5:FnIn K "_law_at" KW)
 (h6:FnIn K "_law_face" GK)
 (h7:FnIn K "is_whole" HU)
 (h8:FnIn K "is_whole_tuple" BM)
 (h9:FnIn K "is_length" GI)
 (h10:FnIn K "check_board" DB)
 (h11:FnIn K "determinant" EU)
 (h12:FnIn K "on_board" HR)
 (h13:FnIn K "side_number" ET)
 (h14:FnIn K "sign" XZ)
 (h15:FnIn K "growth" NH)
 (h16:FnIn K "shifted_side" DV)
 (h17:FnIn K "has_dot" KS)
 (h18:FnIn K "dots_of" GY)
 (h19:FnIn K "_law_cell" EL)
 (h20:FnIn K "_law_flat" EI)
 (h21:FnIn K "common_divisor" BN)
 (h22:FnIn K "lowest_terms" CI)
 (h23:FnIn K "fraction" HV)
 (h24:FnIn K "plus" YA)
 (h25:FnIn K "turn" XY)
 (h26:FnIn K "area" YB)
 (h27:FnIn K "products_added" BL)
 (h28:FnIn K "weights" KQ)
 (h29:FnIn K "unreduced_depth" BC)
 (h30:FnIn K "depth_at" HW)
 (h31:FnIn K "_law_deep" EK)
 (h32:FnIn K "is_flat" KR)
 (h33:FnIn K "check_flat" FL)
 (h34:FnIn K "worth" RV)
 (h35:FnIn K "crossing" FK)
 (h36:FnIn K "kept_spots" DM)
 (h37:FnIn K "cut" J0b)
 (h38:FnIn K "cut_all" KU)
 (h39:FnIn K "_law_halves" EV)
 (h40:FnIn K "_law_dots" EJ)
 (h41:FnIn K "narrowed" HS)
 (h42:FnIn K "spans_of" HQ)
 (h43:FnIn K "_law_spanned" CJ)
 (h44:FnIn K "law" J0a)
 (z_abs:PySem.W.nsIn K mainGlobals "abs" = some none)
 (z_len:PySem.W.nsIn K mainGlobals "len" = some none)
 (z_max:PySem.W.nsIn K mainGlobals "max" = some none)
 (z_min:PySem.W.nsIn K mainGlobals "min" = some none)
 (z_range:PySem.W.nsIn K mainGlobals "range" = some none)
 (z_isinstance:PySem.W.nsIn K mainGlobals "isinstance" = some none)
 (z_int:PySem.W.nsIn K mainGlobals "int" = some none)
 (z_bool:PySem.W.nsIn K mainGlobals "bool" = some none)
 (z_tuple:PySem.W.nsIn K mainGlobals "tuple" = some none)
 (z_zip:PySem.W.nsIn K mainGlobals "zip" = some none)
 (z_sum:PySem.W.nsIn K mainGlobals "sum" = some none)
 (z_list:PySem.W.nsIn K mainGlobals "list" = some none)
 (z_all:PySem.W.nsIn K mainGlobals "all" = some none)
 (z_sorted:PySem.W.nsIn K mainGlobals "sorted" = some none)
 {t_LONGEST:Tok} (z_LONGEST:PySem.W.nsIn K mainGlobals "LONGEST" = some (some (.int 16 t_LONGEST)))
 {c_ShadeError:Addr} (e_ShadeError:PySem.W.nsIn K mainGlobals "ShadeError" = some (some (.ref c_ShadeError)))
 {c_NoFraction:Addr} (e_NoFraction:PySem.W.nsIn K mainGlobals "NoFraction" = some (some (.ref c_NoFraction)))
 {c_NoFlat:Addr} (e_NoFlat:PySem.W.nsIn K mainGlobals "NoFlat" = some (some (.ref c_NoFlat)))
 {c_NoFace:Addr} (e_NoFace:PySem.W.nsIn K mainGlobals "NoFace" = some (some (.ref c_NoFace)))
 {c_NoBoard:Addr} (e_NoBoard:PySem.W.nsIn K mainGlobals "NoBoard" = some (some (.ref c_NoBoard)))
 (q_NoBoard:PySem.W.excIn K c_NoBoard bmV "ValueError.__new__" = true) (x1_NoBoard:PySem.W.findIn K (.ref c_NoBoard) "__getattribute__" = some (some (.builtin "BaseException.__getattribute__"))) (x5_NoBoard:PySem.W.findIn K (.ref c_NoBoard) "__getattr__" = some none) (x6_NoBoard:PySem.W.subIn K (.ref c_NoBoard) (.type "BaseException")=some true) (x2_NoBoard:PySem.W.findObj K c_NoBoard none "__class__" = some (.bind (.builtin "getset_descriptor.__get__") (.builtin "object.__class__"))) (x3_NoBoard:PySem.W.mroIn K c_NoBoard (.type "object")=some true) (x4_NoBoard:(PySem.W.clsIn K c_NoBoard).isSome=true) (v_NoBoard:PySem.W.subIn K (.ref c_NoBoard) (.type "ValueError")=some true) (s_NoBoard:PySem.W.subIn K (.ref c_NoBoard) (.ref c_ShadeError)=some true)
 (n_NoBoard_NoFraction:PySem.W.kin_not K c_NoBoard c_NoFraction=true)
 (n_NoBoard_NoFlat:PySem.W.kin_not K c_NoBoard c_NoFlat=true)
 (n_NoBoard_NoFace:PySem.W.kin_not K c_NoBoard c_NoFace=true)
 (q_NoFace:PySem.W.excIn K c_NoFace bmV "ValueError.__new__" = true) (x1_NoFace:PySem.W.findIn K (.ref c_NoFace) "__getattribute__" = some (some (.builtin "BaseException.__getattribute__"))) (x5_NoFace:PySem.W.findIn K (.ref c_NoFace) "__getattr__" = some none) (x6_NoFace:PySem.W.subIn K (.ref c_NoFace) (.type "BaseException")=some true) (x2_NoFace:PySem.W.findObj K c_NoFace none "__class__" = some (.bind (.builtin "getset_descriptor.__get__") (.builtin "object.__class__"))) (x3_NoFace:PySem.W.mroIn K c_NoFace (.type "object")=some true) (x4_NoFace:(PySem.W.clsIn K c_NoFace).isSome=true) (v_NoFace:PySem.W.subIn K (.ref c_NoFace) (.type "ValueError")=some true) (s_NoFace:PySem.W.subIn K (.ref c_NoFace) (.ref c_ShadeError)=some true)
 (n_NoFace_NoFraction:PySem.W.kin_not K c_NoFace c_NoFraction=true)
 (n_NoFace_NoFlat:PySem.W.kin_not K c_NoFace c_NoFlat=true)
 (n_NoFace_NoBoard:PySem.W.kin_not K c_NoFace c_NoBoard=true)
 (q_NoFlat:PySem.W.excIn K c_NoFlat bmV "ValueError.__new__" = true) (x1_NoFlat:PySem.W.findIn K (.ref c_NoFlat) "__getattribute__" = some (some (.builtin "BaseException.__getattribute__"))) (x5_NoFlat:PySem.W.findIn K (.ref c_NoFlat) "__getattr__" = some none) (x6_NoFlat:PySem.W.subIn K (.ref c_NoFlat) (.type "BaseException")=some true) (x2_NoFlat:PySem.W.findObj K c_NoFlat none "__class__" = some (.bind (.builtin "getset_descriptor.__get__") (.builtin "object.__class__"))) (x3_NoFlat:PySem.W.mroIn K c_NoFlat (.type "object")=some true) (x4_NoFlat:(PySem.W.clsIn K c_NoFlat).isSome=true) (v_NoFlat:PySem.W.subIn K (.ref c_NoFlat) (.type "ValueError")=some true) (s_NoFlat:PySem.W.subIn K (.ref c_NoFlat) (.ref c_ShadeError)=some true)
 (n_NoFlat_NoFraction:PySem.W.kin_not K c_NoFlat c_NoFraction=true)
 (n_NoFlat_NoFace:PySem.W.kin_not K c_NoFlat c_NoFace=true)
 (n_NoFlat_NoBoard:PySem.W.kin_not K c_NoFlat c_NoBoard=true)
 (xb1:(PySem.W.clsIn K c_ShadeError).isSome=true) (xb2:PySem.W.typeIn K (.ref c_ShadeError)=some (.type "type")) (xb3:PySem.W.subIn K (.ref c_ShadeError) (.type "BaseException")=some true)
 : ∃ fd:FuncData,(∀ (s:Shared) (v:Value),BindsTo s fd ⟨[v],[]⟩ [("_law_script",v)])/\∀ base:Heap,K.In base->base.Ns mainGlobals mg->FnOk l.prog w K mg base CX0 10 fa fd ["_law_script"] (RP K):=by
 obtain ⟨f0,d0,a0,F0⟩:=h0.ex
 obtain ⟨f1,d1,a1,F1⟩:=h1.ex
 obtain ⟨f2,d2,a2,F2⟩:=h2.ex
 obtain ⟨f3,d3,a3,F3⟩:=h3.ex
 obtain ⟨f4,d4,a4,F4⟩:=h4.ex
 obtain ⟨f5,d5,a5,F5⟩:=h5.ex
 obtain ⟨f6,d6,a6,F6⟩:=h6.ex
 obtain ⟨f7,d7,a7,F7⟩:=h7.ex
 obtain ⟨f8,d8,a8,F8⟩:=h8.ex
 obtain ⟨f9,d9,a9,F9⟩:=h9.ex
 obtain ⟨f10,d10,a10,F10⟩:=h10.ex
 obtain ⟨f11,d11,a11,F11⟩:=h11.ex
 obtain ⟨f12,d12,a12,F12⟩:=h12.ex
 obtain ⟨f13,d13,a13,F13⟩:=h13.ex
 obtain ⟨f14,d14,a14,F14⟩:=h14.ex
 obtain ⟨f15,d15,a15,F15⟩:=h15.ex
 obtain ⟨f16,d16,a16,F16⟩:=h16.ex
 obtain ⟨f17,d17,a17,F17⟩:=h17.ex
 obtain ⟨f18,d18,a18,F18⟩:=h18.ex
 obtain ⟨f19,d19,a19,F19⟩:=h19.ex
 obtain ⟨f20,d20,a20,F20⟩:=h20.ex
 obtain ⟨f21,d21,a21,F21⟩:=h21.ex
 obtain ⟨f22,d22,a22,F22⟩:=h22.ex
 obtain ⟨f23,d23,a23,F23⟩:=h23.ex
 obtain ⟨f24,d24,a24,F24⟩:=h24.ex
 obtain ⟨f25,d25,a25,F25⟩:=h25.ex
 obtain ⟨f26,d26,a26,F26⟩:=h26.ex
 obtain ⟨f27,d27,a27,F27⟩:=h27.ex
 obtain ⟨f28,d28,a28,F28⟩:=h28.ex
 obtain ⟨f29,d29,a29,F29⟩:=h29.ex
 obtain ⟨f30,d30,a30,F30⟩:=h30.ex
 obtain ⟨f31,d31,a31,F31⟩:=h31.ex
 obtain ⟨f32,d32,a32,F32⟩:=h32.ex
 obtain ⟨f33,d33,a33,F33⟩:=h33.ex
 obtain ⟨f34,d34,a34,F34⟩:=h34.ex
 obtain ⟨f35,d35,a35,F35⟩:=h35.ex
 obtain ⟨f36,d36,a36,F36⟩:=h36.ex
 obtain ⟨f37,d37,a37,F37⟩:=h37.ex
 obtain ⟨f38,d38,a38,F38⟩:=h38.ex
 obtain ⟨f39,d39,a39,F39⟩:=h39.ex
 obtain ⟨f40,d40,a40,F40⟩:=h40.ex
 obtain ⟨f41,d41,a41,F41⟩:=h41.ex
 obtain ⟨f42,d42,a42,F42⟩:=h42.ex
 obtain ⟨f43,d43,a43,F43⟩:=h43.ex
 obtain ⟨f44,d44,a44,F44⟩:=h44.ex
 have e:=hfa.symm.trans (PySem.W.mg_of X G a44)
 cases e
 have Z:Bi mg:=⟨PySem.W.mg_none_of X G z_abs,PySem.W.mg_none_of X G z_len,PySem.W.mg_none_of X G z_max,PySem.W.mg_none_of X G z_min,PySem.W.mg_none_of X G z_range,PySem.W.mg_none_of X G z_isinstance,PySem.W.mg_none_of X G z_int,PySem.W.mg_none_of X G z_bool,PySem.W.mg_none_of X G z_tuple,PySem.W.mg_none_of X G z_zip,PySem.W.mg_none_of X G z_sum,PySem.W.mg_none_of X G z_list,PySem.W.mg_none_of X G z_all,PySem.W.mg_none_of X G z_sorted,⟨_,PySem.W.mg_of X G z_LONGEST⟩⟩
 have bl:=F44.binds (ps:=["_law_script"]) fun _ _ _ _ _ _ us hl=>match us,hl with | [_],_=>rfl
 obtain ⟨oc,od,kV,doc,pm,an,cdv,ct,osl,el,lk,hcd⟩:=F44.ex
 refine ⟨d44,fun s v=>by rw [el];exact .of_eq rfl,fun base kb gb=>?_⟩
 have Y:Ex K mg base ⟨c_ShadeError,c_NoFraction,c_NoFlat,c_NoFace,c_NoBoard⟩:=⟨PySem.W.mg_of X G e_ShadeError,PySem.W.mg_of X G e_NoFraction,PySem.W.mg_of X G e_NoFlat,PySem.W.mg_of X G e_NoFace,PySem.W.mg_of X G e_NoBoard,J4w kb gb e_NoBoard q_NoBoard,⟨x1_NoBoard,x5_NoBoard,x2_NoBoard,x3_NoBoard,x4_NoBoard,x6_NoBoard⟩,v_NoBoard,s_NoBoard,n_NoBoard_NoFraction,n_NoBoard_NoFlat,n_NoBoard_NoFace,J4w kb gb e_NoFace q_NoFace,⟨x1_NoFace,x5_NoFace,x2_NoFace,x3_NoFace,x4_NoFace,x6_NoFace⟩,v_NoFace,s_NoFace,n_NoFace_NoFraction,n_NoFace_NoFlat,n_NoFace_NoBoard,J4w kb gb e_NoFlat q_NoFlat,⟨x1_NoFlat,x5_NoFlat,x2_NoFlat,x3_NoFlat,x4_NoFlat,x6_NoFlat⟩,v_NoFlat,s_NoFlat,n_NoFlat_NoFraction,n_NoFlat_NoFace,n_NoFlat_NoBoard,⟨xb1,xb2,xb3⟩⟩
 have G0:=Callee.mk' F0 (WD (P:=l.prog) (w:=w) (base:=base) F0 Z Y) (PySem.W.mg_of X G a0) (F0.binds (by walk_at "b2"))
 have G1:=Callee.mk' F1 (OT (P:=l.prog) (w:=w) (base:=base) F1 Z Y) (PySem.W.mg_of X G a1) (F1.binds (by walk_at "b1"))
 have G2:=Callee.mk' F2 (OU (P:=l.prog) (w:=w) (base:=base) F2 Z Y G1) (PySem.W.mg_of X G a2) (F2.binds (by walk_at "b2"))
 have G3:=Callee.mk' F3 (NR (P:=l.prog) (w:=w) (base:=base) F3 Z Y) (PySem.W.mg_of X G a3) (F3.binds (by walk_at "b2"))
 have G4:=Callee.mk' F4 (SG (P:=l.prog) (w:=w) (base:=base) F4 Z Y G3) (PySem.W.mg_of X G a4) (F4.binds (by walk_at "b4"))
 have G5:=Callee.mk' F5 (YO (P:=l.prog) (w:=w) (base:=base) F5 Z Y G2 G4) (PySem.W.mg_of X G a5) (F5.binds (by walk_at "b2"))
 have G6:=Callee.mk' F6 (SI (P:=l.prog) (w:=w) (base:=base) F6 Z Y G2 G5 G4) (PySem.W.mg_of X G a6) (F6.binds (by walk_at "b2"))
 have G7:=Callee.mk' F7 (VZ (P:=l.prog) (w:=w) (base:=base) F7 Z Y) (PySem.W.mg_of X G a7) (F7.binds (by walk_at "b1"))
 have G8:=Callee.mk' F8 (IU (P:=l.prog) (w:=w) (base:=base) F8 Z Y G7) (PySem.W.mg_of X G a8) (F8.binds (by walk_at "b2"))
 have G9:=Callee.mk' F9 (SF (P:=l.prog) (w:=w) (base:=base) F9 Z Y) (PySem.W.mg_of X G a9) (F9.binds (by walk_at "b1"))
 have G10:=Callee.mk' F10 (NP (P:=l.prog) (w:=w) (base:=base) F10 Z Y G8 G9) (PySem.W.mg_of X G a10) (F10.binds (by walk_at "b1"))
 have G11:=Callee.mk' F11 (NO (P:=l.prog) (w:=w) (base:=base) F11 Z Y) (PySem.W.mg_of X G a11) (F11.binds (by walk_at "b3"))
 have G12:=Callee.mk' F12 (VX (P:=l.prog) (w:=w) (base:=base) F12 Z Y) (PySem.W.mg_of X G a12) (F12.binds (by walk_at "b1"))
 have G13:=Callee.mk' F13 (NM (P:=l.prog) (w:=w) (base:=base) F13 Z Y G11 G12) (PySem.W.mg_of X G a13) (F13.binds (by walk_at "b3"))
 have G14:=Callee.mk' F14 (J9i (P:=l.prog) (w:=w) (base:=base) F14 Z Y) (PySem.W.mg_of X G a14) (F14.binds (by walk_at "b1"))
 have G15:=Callee.mk' F15 (J2k (P:=l.prog) (w:=w) (base:=base) F15 Z Y) (PySem.W.mg_of X G a15) (F15.binds (by walk_at "b2"))
 have G16:=Callee.mk' F16 (LW (P:=l.prog) (w:=w) (base:=base) F16 Z Y G13 G14 G15) (PySem.W.mg_of X G a16) (F16.binds (by walk_at "b3"))
 have G17:=Callee.mk' F17 (YL (P:=l.prog) (w:=w) (base:=base) F17 Z Y G16) (PySem.W.mg_of X G a17) (F17.binds (by walk_at "b2"))
 have G18:=Callee.mk' F18 (YM (P:=l.prog) (w:=w) (base:=base) F18 Z Y G10 G17) (PySem.W.mg_of X G a18) (F18.binds (by walk_at "b2"))
 have G19:=Callee.mk' F19 (SL (P:=l.prog) (w:=w) (base:=base) F19 Z Y) (PySem.W.mg_of X G a19) (F19.binds (by walk_at "b2"))
 have G20:=Callee.mk' F20 (SH (P:=l.prog) (w:=w) (base:=base) F20 Z Y G2) (PySem.W.mg_of X G a20) (F20.binds (by walk_at "b2"))
 have G21:=Callee.mk' F21 (IV (P:=l.prog) (w:=w) (base:=base) F21 Z Y) (PySem.W.mg_of X G a21) (F21.binds (by walk_at "b2"))
 have G22:=Callee.mk' F22 (LX (P:=l.prog) (w:=w) (base:=base) F22 Z Y G21) (PySem.W.mg_of X G a22) (F22.binds (by walk_at "b1"))
 have G23:=Callee.mk' F23 (WA (P:=l.prog) (w:=w) (base:=base) F23 Z Y G22) (PySem.W.mg_of X G a23) (F23.binds (by walk_at "b2"))
 have G24:=Callee.mk' F24 (J9j (P:=l.prog) (w:=w) (base:=base) F24 Z Y G23) (PySem.W.mg_of X G a24) (F24.binds (by walk_at "b2"))
 have G25:=Callee.mk' F25 (J9h (P:=l.prog) (w:=w) (base:=base) F25 Z Y G11 G12) (PySem.W.mg_of X G a25) (F25.binds (by walk_at "b1"))
 have G26:=Callee.mk' F26 (J9k (P:=l.prog) (w:=w) (base:=base) F26 Z Y G23 G25) (PySem.W.mg_of X G a26) (F26.binds (by walk_at "b1"))
 have G27:=Callee.mk' F27 (IT (P:=l.prog) (w:=w) (base:=base) F27 Z Y) (PySem.W.mg_of X G a27) (F27.binds (by walk_at "b2"))
 have G28:=Callee.mk' F28 (YJ (P:=l.prog) (w:=w) (base:=base) F28 Z Y G13) (PySem.W.mg_of X G a28) (F28.binds (by walk_at "b2"))
 have G29:=Callee.mk' F29 (HY (P:=l.prog) (w:=w) (base:=base) F29 Z Y G25 G27 G28 G14) (PySem.W.mg_of X G a29) (F29.binds (by walk_at "b2"))
 have G30:=Callee.mk' F30 (WB (P:=l.prog) (w:=w) (base:=base) F30 Z Y G29 G23) (PySem.W.mg_of X G a30) (F30.binds (by walk_at "b2"))
 have G31:=Callee.mk' F31 (SK (P:=l.prog) (w:=w) (base:=base) F31 Z Y G24 G26 G30 G18) (PySem.W.mg_of X G a31) (F31.binds (by walk_at "b3"))
 have G32:=Callee.mk' F32 (YK (P:=l.prog) (w:=w) (base:=base) F32 Z Y G8) (PySem.W.mg_of X G a32) (F32.binds (by walk_at "b1"))
 have G33:=Callee.mk' F33 (OS (P:=l.prog) (w:=w) (base:=base) F33 Z Y G32) (PySem.W.mg_of X G a33) (F33.binds (by walk_at "b1"))
 have G34:=Callee.mk' F34 (J4z (P:=l.prog) (w:=w) (base:=base) F34 Z Y G33 G27) (PySem.W.mg_of X G a34) (F34.binds (by walk_at "b2"))
 have G35:=Callee.mk' F35 (WC (P:=l.prog) (w:=w) (base:=base) F35 Z Y G22) (PySem.W.mg_of X G a35) (F35.binds (by walk_at "b4"))
 have G36:=Callee.mk' F36 (OR (P:=l.prog) (w:=w) (base:=base) F36 Z Y G34 G35) (PySem.W.mg_of X G a36) (F36.binds (by walk_at "b2"))
 have G37:=Callee.mk' F37 (Q3i (P:=l.prog) (w:=w) (base:=base) F37 Z Y G36) (PySem.W.mg_of X G a37) (F37.binds (by walk_at "b2"))
 have G38:=Callee.mk' F38 (YN (P:=l.prog) (w:=w) (base:=base) F38 Z Y G33 G37) (PySem.W.mg_of X G a38) (F38.binds (by walk_at "b2"))
 have G39:=Callee.mk' F39 (NQ (P:=l.prog) (w:=w) (base:=base) F39 Z Y G38) (PySem.W.mg_of X G a39) (F39.binds (by walk_at "b2"))
 have G40:=Callee.mk' F40 (SJ (P:=l.prog) (w:=w) (base:=base) F40 Z Y G18) (PySem.W.mg_of X G a40) (F40.binds (by walk_at "b2"))
 have G41:=Callee.mk' F41 (VY (P:=l.prog) (w:=w) (base:=base) F41 Z Y G15 G13 G16) (PySem.W.mg_of X G a41) (F41.binds (by walk_at "b4"))
 have G42:=Callee.mk' F42 (VW (P:=l.prog) (w:=w) (base:=base) F42 Z Y G10 G14 G25 G41) (PySem.W.mg_of X G a42) (F42.binds (by walk_at "b2"))
 have G43:=Callee.mk' F43 (LY (P:=l.prog) (w:=w) (base:=base) F43 Z Y G42) (PySem.W.mg_of X G a43) (F43.binds (by walk_at "b2"))
 exact Q3h (P:=l.prog) (w:=w) (base:=base) F44 Z Y G0 G6 G18 G19 G20 G31 G2 G39 G40 G43 G34
theorem Q8l {l:PySem.W.OpenLaw}{q:Program}{loose:List Str}{XP:(Str->Option Value)->Heap->Prop}{YP:World->Heap->Prop}{d:DefRec}{K:Params->Fg}(hn:l.most=some 63)(hdf:d.params.defaults=[])
 (hY:∀ (w:World) (h:Heap),YP w h->(K w.params).In h)
 (F:∀ (w:World) (mg:Str->Option Value) (fa:Addr) (h:Heap),(K w.params).In h->h.Ns mainGlobals mg->mg d.name=some (.ref fa) ->
  ∃ fd:FuncData,(∀ (s:Shared) (u:Value),BindsTo s fd ⟨[u],[]⟩ [("_law_script",u)])/\∀ base:Heap,(K w.params).In base->base.Ns mainGlobals mg->FnOk l.prog w (K w.params) mg base CX0 10 fa fd ["_law_script"] (RP (K w.params))) :
 PySem.W.WalkO q loose XP YP l.row.toRowW d [] (fun f vs=>PySem.call f vs) :=
 L2.J8g (n:=63) (k:=10) (x:="_law_script") (CX:=fun _=>CX0) (sp:=fun w=>RP (K w.params)) hn (by decide) hdf ⟨rfl,by decide,by decide⟩ hY F (fun _ _ a ns hl _ hS=>⟨a,ns,rfl,hS,hl,fun _=>rfl⟩) fun _ _ _ _ _ z=>z
end K
open PySem PySem.W PyProof.Rows
theorem PySem.W.Fast.tw6533751952787396031:True:=trivial
theorem PySem.W.Fast.tw17734301723895358559:True:=trivial
theorem PySem.W.Fast.tw10288831735398608894:True:=trivial
theorem PySem.W.Fast.tw14045863892239701950:True:=trivial
theorem PySem.W.Fast.tw6483688431957212862:True:=trivial
theorem PySem.W.Fast.tw717795226397508637:True:=trivial
theorem PySem.W.Fast.tw7044925841005808411:True:=trivial
theorem PySem.W.Fast.tw8131003242039561626:True:=trivial
theorem PySem.W.Fast.tw6193792258330381943:True:=trivial
theorem PySem.W.Fast.tw16981702987204754807:True:=trivial
theorem PySem.W.Fast.tw11218657072909912375:True:=trivial
theorem PySem.W.Fast.tw1568656799221934390:True:=trivial
theorem PySem.W.Fast.tw5104209101815558035:True:=trivial
theorem PySem.W.Fast.tw4573307932225251698:True:=trivial
theorem PySem.W.Fast.tw7884093766712511569:True:=trivial
theorem PySem.W.Fast.tw7257633073268308878:True:=trivial
theorem PySem.W.Fast.tw9076849613490437356:True:=trivial
theorem PySem.W.Fast.tw15055375430136740618:True:=trivial
theorem PySem.W.Fast.tw14298755337777388040:True:=trivial
theorem PySem.W.Fast.tw1824489539114517446:True:=trivial
theorem PySem.W.Fast.tw12744749830615372133:True:=trivial
theorem PySem.W.Fast.tw8160246577247194341:True:=trivial
theorem PySem.W.Fast.tw7515910803289575393:True:=trivial
theorem PySem.W.Fast.tw13776624532971179827:True:=trivial
theorem PySem.W.Fast.tw10053607173039549316:True:=trivial
theorem PySem.W.Fast.tw13588972936629930498:True:=trivial
theorem PySem.W.Fast.tw15073629511137671706:True:=trivial
theorem PySem.W.Fast.tw8702063718472508110:True:=trivial
theorem PySem.W.Fast.tw7281527152497450646:True:=trivial
theorem PySem.W.Fast.tw9801930806103187118:True:=trivial
theorem PySem.W.Fast.tw14095341557137684851:True:=trivial
theorem PySem.W.Fast.tw5548550830531005938:True:=trivial
theorem PySem.W.Fast.tw1941347956751732874:True:=trivial
theorem PySem.W.Fast.tw3612578601231034783:True:=trivial
theorem PySem.W.Fast.tw17295569595988903362:True:=trivial
theorem PySem.W.Fast.tw13570545926577535350:True:=trivial
theorem PySem.W.Fast.tw1665757268194317880:True:=trivial
theorem PySem.W.Fast.tw9682557251294680467:True:=trivial
theorem PySem.W.Fast.tw17752273764792917463:True:=trivial
theorem PySem.W.Fast.tw17035915241149651479:True:=trivial
theorem PySem.W.Fast.tw4926483444739799535:True:=trivial
theorem PySem.W.Fast.tw8721898915043752811:True:=trivial
theorem PySem.W.Fast.tw2926441935929222056:True:=trivial
theorem PySem.W.Fast.tw3308626219288569655:True:=trivial
theorem PySem.W.Fast.tw6659065086379260073:True:=trivial
theorem PySem.W.Fast.tw4871230492701993018:True:=trivial
theorem PySem.W.Fast.tw5421497906102557854:True:=trivial
theorem PySem.W.Fast.tw2618221863353106880:True:=trivial
theorem PySem.W.Fast.tw3971294230625608213:True:=trivial
theorem PySem.W.Fast.tw5001074854579477183:True:=trivial
theorem PySem.W.Fast.tw8941296988155316617:True:=trivial
theorem PySem.W.Fast.tw2383139052031244816:True:=trivial
theorem PySem.W.Fast.tw18376641019219040608:True:=trivial
theorem PySem.W.Fast.tw212995164626266300:True:=trivial
theorem PySem.W.Fast.tw1371860119087164960:True:=trivial
theorem PySem.W.Fast.tw1643094828854486918:True:=trivial
theorem PySem.W.Fast.tw6110607835489876326:True:=trivial
theorem PySem.W.Fast.tw7528781036217894626:True:=trivial
theorem PySem.W.Fast.tw16669847145633680591:True:=trivial
theorem PySem.W.Fast.tw9735895582929080958:True:=trivial
theorem PySem.W.Fast.tw16823783645989262329:True:=trivial
theorem PySem.W.Fast.tw18014750838812828665:True:=trivial
theorem PySem.W.Fast.tw778868359194439800:True:=trivial
theorem PySem.W.Fast.tw2699228841473724595:True:=trivial
theorem PySem.W.Fast.tw7929249399210209155:True:=trivial
theorem PySem.W.Fast.tw1209845293497806107:True:=trivial
theorem PySem.W.Fast.tw857796804629754973:True:=trivial
theorem PySem.W.Fast.tw15096872039718210723:True:=trivial
theorem PySem.W.Fast.tw17144213989141279524:True:=trivial
theorem PySem.W.Fast.tw17128302152245066373:True:=trivial
theorem PySem.W.Fast.tw3937182409326767989:True:=trivial
theorem PySem.W.Fast.tw6193372739643130410:True:=trivial
theorem PySem.W.Fast.tw12932415118762207388:True:=trivial
theorem PySem.W.Fast.tw6641787126107543741:True:=trivial
theorem PySem.W.Fast.tw5745415603531822420:True:=trivial
theorem PySem.W.Fast.tw18239802063676772248:True:=trivial
theorem PySem.W.Fast.tw13206043813264770441:True:=trivial
theorem PySem.W.Fast.tw9764341351214011084:True:=trivial
theorem PySem.W.Fast.tw10368137171455772425:True:=trivial
theorem PySem.W.Fast.tw17608516513748368701:True:=trivial
theorem PySem.W.Fast.tw14908562990804888445:True:=trivial
theorem PySem.W.Fast.tw15152013042590722674:True:=trivial
theorem PySem.W.Fast.tw14492069609334608511:True:=trivial
theorem PySem.W.Fast.tw12365343262304246437:True:=trivial
theorem PySem.W.Fast.tw18350704489079683090:True:=trivial
theorem PySem.W.Fast.tw7112576435025228738:True:=trivial
theorem PySem.W.Fast.tw3716478675639021037:True:=trivial
theorem PySem.W.Fast.tw15093746072284132355:True:=trivial
theorem PySem.W.Fast.tw3784081763742127125:True:=trivial
theorem PySem.W.Fast.tw177265395707796162:True:=trivial
theorem PySem.W.Fast.tw14394440435981616331:True:=trivial
theorem PySem.W.Fast.tw12173941348462409876:True:=trivial
theorem PySem.W.Fast.tw14979557838365340884:True:=trivial
theorem PySem.W.Fast.tw6488741777349998045:True:=trivial
theorem PySem.W.Fast.tw1108351988006809429:True:=trivial
theorem PySem.W.Fast.tw4640400629583528629:True:=trivial
theorem PySem.W.Fast.tw8628372410756214486:True:=trivial
theorem PySem.W.Fast.tw14629658615561712731:True:=trivial
theorem PySem.W.Fast.tw9939173154850608203:True:=trivial
theorem PySem.W.Fast.tw16826150838356090820:True:=trivial
theorem PySem.W.Fast.tw3739431198892781995:True:=trivial
theorem PySem.W.Fast.tw6010267777500506235:True:=trivial
theorem PySem.W.Fast.tw4191837422420791492:True:=trivial
theorem PySem.W.Fast.tw3962517544263746754:True:=trivial
theorem PySem.W.Fast.tw8685876531621231274:True:=trivial
theorem PySem.W.Fast.tw16898341183418523001:True:=trivial
theorem PySem.W.Fast.tw12144655639958146561:True:=trivial
theorem PySem.W.Fast.tw13575669597282392190:True:=trivial
theorem PySem.W.Fast.tw1721483612027871871:True:=trivial
theorem PySem.W.Fast.tw7480313773534778535:True:=trivial
theorem PySem.W.Fast.tw8648074296794222942:True:=trivial
theorem PySem.W.Fast.tw12415808633009122359:True:=trivial
theorem PySem.W.Fast.tw13898698782616554936:True:=trivial
theorem PySem.W.Fast.tw16403419765523210791:True:=trivial
theorem PySem.W.Fast.tw11127302477287552244:True:=trivial
theorem PySem.W.Fast.tw7935462936684389507:True:=trivial
theorem PySem.W.Fast.tw13654360116379012221:True:=trivial
theorem PySem.W.Fast.tw11801593715833903979:True:=trivial
theorem PySem.W.Fast.tw7498059760840618765:True:=trivial
theorem PySem.W.Fast.tw15868902624415410555:True:=trivial
theorem PySem.W.Fast.tw3116757973112741197:True:=trivial
theorem PySem.W.Fast.tw14394209868262549849:True:=trivial
theorem PySem.W.Fast.tw14117482609639359391:True:=trivial
theorem PySem.W.Fast.tw1973280932206562918:True:=trivial
theorem PySem.W.Fast.tw13349410896493818392:True:=trivial
theorem PySem.W.Fast.tw3930203283489623405:True:=trivial
theorem PySem.W.Fast.tw288235720615507386:True:=trivial
theorem PySem.W.Fast.tw3065975856994239610:True:=trivial
theorem PySem.W.Fast.tw4558756249253584256:True:=trivial
theorem PySem.W.Fast.tw2552320214479993414:True:=trivial
theorem PySem.W.Fast.tw16721440611692922194:True:=trivial
theorem PySem.W.Fast.tw1343498461384683986:True:=trivial
theorem PySem.W.Fast.tw427794106876565715:True:=trivial
theorem PySem.W.Fast.tw15358841573430734690:True:=trivial
theorem PySem.W.Fast.tw7696335035727235534:True:=trivial
theorem PySem.W.Fast.tw6751113479857315378:True:=trivial
theorem PySem.W.Fast.tw7437241308913147235:True:=trivial
theorem PySem.W.Fast.tw4295116708017485751:True:=trivial
theorem PySem.W.Fast.tw17089288009139292046:True:=trivial
theorem PySem.W.Fast.tw4386544668777390313:True:=trivial
theorem PySem.W.Fast.tw11485277178789256358:True:=trivial
theorem PySem.W.Fast.tw17090957623008585176:True:=trivial
theorem PySem.W.Fast.tw5413481372236853501:True:=trivial
theorem PySem.W.Fast.tw8216526326600466744:True:=trivial
theorem PySem.W.Fast.tw359473235294753360:True:=trivial
theorem PySem.W.Fast.tw1639034518730781007:True:=trivial
theorem PySem.W.Fast.tw6911846373342809151:True:=trivial
theorem PySem.W.Fast.tw9334720791567659965:True:=trivial
theorem PySem.W.Fast.tw12710595712715258490:True:=trivial
theorem PySem.W.Fast.tw7826421856374083701:True:=trivial
theorem PySem.W.Fast.tw10127636586507666403:True:=trivial
theorem PySem.W.Fast.tw3923340184965561136:True:=trivial
theorem PySem.W.Fast.tw8508489243185741899:True:=trivial
theorem PySem.W.Fast.tw13620194402799721833:True:=trivial
theorem PySem.W.Fast.tw11340993780983177562:True:=trivial
theorem PySem.W.Fast.tw1292141845435733750:True:=trivial
theorem PySem.W.Fast.tw40391276430563895:True:=trivial
theorem PySem.W.Fast.tw9627533145927384217:True:=trivial
theorem PySem.W.Fast.tw1824853800955466474:True:=trivial
theorem PySem.W.Fast.tw11343251361666344752:True:=trivial
theorem PySem.W.Fast.tw14374506864858054819:True:=trivial
theorem PySem.W.Fast.tw11565591457131425753:True:=trivial
theorem PySem.W.Fast.tw6730879569662031415:True:=trivial
theorem PySem.W.Fast.tw9285319259965444709:True:=trivial
theorem PySem.W.Fast.tw6976798771946423829:True:=trivial
theorem PySem.W.Fast.tw1447127794564457251:True:=trivial
theorem PySem.W.Fast.tw5526431221577038803:True:=trivial
theorem PySem.W.Fast.tw9075529068564663591:True:=trivial
theorem PySem.W.Fast.tw12367299079675542166:True:=trivial
theorem PySem.W.Fast.tw17740925282966561295:True:=trivial
theorem PySem.W.Fast.tw6883238215548931722:True:=trivial
theorem PySem.W.Fast.tw5652523795828147128:True:=trivial
theorem PySem.W.Fast.tw4723781827067354456:True:=trivial
theorem PySem.W.Fast.tw10156187652224981009:True:=trivial
theorem PySem.W.Fast.tw8996913575203080694:True:=trivial
theorem PySem.W.Fast.tw10110593200687248846:True:=trivial
theorem PySem.W.Fast.tw9676383641644329658:True:=trivial
theorem PySem.W.Fast.tw980050000077063939:True:=trivial
theorem PySem.W.Fast.tw13535016109135860957:True:=trivial
theorem PySem.W.Fast.tw1435225311319302896:True:=trivial
theorem PySem.W.Fast.tw5408668706562061687:True:=trivial
theorem PySem.W.Fast.tw8553940875743507202:True:=trivial
theorem PySem.W.Fast.tw15775262310775768653:True:=trivial
theorem PySem.W.Fast.tw869383055096612851:True:=trivial
theorem PySem.W.Fast.tw12943005580301642448:True:=trivial
theorem PySem.W.Fast.tw15832386571664418650:True:=trivial
theorem PySem.W.Fast.tw4888493029910787816:True:=trivial
theorem PySem.W.Fast.tw3776089127837613513:True:=trivial
theorem PySem.W.Fast.tw15082288635487290091:True:=trivial
theorem PySem.W.Fast.tw11976393945215741283:True:=trivial
theorem PySem.W.Fast.tw13290380977370497528:True:=trivial
theorem PySem.W.Fast.tw15725138188983048092:True:=trivial
theorem PySem.W.Fast.tw1906046862732126551:True:=trivial
theorem PySem.W.Fast.tw17508791614550533394:True:=trivial
theorem PySem.W.Fast.tw8285742985264478421:True:=trivial
theorem PySem.W.Fast.tw11421418201335531187:True:=trivial
theorem PySem.W.Fast.tw16939665989343598584:True:=trivial
theorem PySem.W.Fast.tw18140986950644003082:True:=trivial
theorem PySem.W.Fast.tw4222587153260135281:True:=trivial
theorem PySem.W.Fast.tw16374941557056636850:True:=trivial
theorem PySem.W.Fast.tw79487699454096919:True:=trivial
theorem PySem.W.Fast.tw8448743883054769588:True:=trivial
theorem PySem.W.Fast.tw3183277554322503356:True:=trivial
theorem PySem.W.Fast.tw4875789009903777868:True:=trivial
theorem PySem.W.Fast.tw3459198112779022342:True:=trivial
theorem PySem.W.Fast.tw14565174524949710737:True:=trivial
theorem PySem.W.Fast.tw3364321526683681225:True:=trivial
theorem PySem.W.Fast.tw15585370732816047706:True:=trivial
theorem PySem.W.Fast.tw17361585334595181574:True:=trivial
local macro_rules | `(tactic| walk_at "fn") => `(tactic| (refine' _root_.K.fn_in ?a ?l ?c ?k; (case a => k_is); (case l => k_is); (case c => k_is); (case k => k_is)))
set_option maxRecDepth 100000 in
set_option maxHeartbeats 0 in
theorem PySem.Challenge.cw_onceshade_k90_whole_cut_and_painted_holds : PySem.Challenge.rw_onceshade_k90_whole_cut_and_painted.Holds := by
 w_on;o_law;k_head;(case hw=>w_witness2)
 k_fill
 refine K.Q8l (l:=PySem.Challenge.rw_onceshade_k90_whole_cut_and_painted) rfl rfl (fun w h Y=>PySem.W.kIn_of Y) ?F
 case F =>
  intro w mg fa h KX G hmg
  refine' K.Q5l KX G hmg ?h0 ?h1 ?h2 ?h3 ?h4 ?h5 ?h6 ?h7 ?h8 ?h9 ?h10 ?h11 ?h12 ?h13 ?h14 ?h15 ?h16 ?h17 ?h18 ?h19 ?h20 ?h21 ?h22 ?h23 ?h24 ?h25 ?h26 ?h27 ?h28 ?h29 ?h30 ?h31 ?h32 ?h33 ?h34 ?h35 ?h36 ?h37 ?h38 ?h39 ?h40 ?h41 ?h42 ?h43 ?h44 ?z_abs ?z_len ?z_max ?z_min ?z_range ?z_isinstance ?z_int ?z_bool ?z_tuple ?z_zip ?z_sum ?z_list ?z_all ?z_sorted ?z_LONGEST ?e_ShadeError ?e_NoFraction ?e_NoFlat ?e_NoFace ?e_NoBoard ?q_NoBoard ?x1_NoBoard ?x5_NoBoard ?x6_NoBoard ?x2_NoBoard ?x3_NoBoard ?x4_NoBoard ?v_NoBoard ?s_NoBoard ?n_NoBoard_NoFraction ?n_NoBoard_NoFlat ?n_NoBoard_NoFace ?q_NoFace ?x1_NoFace ?x5_NoFace ?x6_NoFace ?x2_NoFace ?x3_NoFace ?x4_NoFace ?v_NoFace ?s_NoFace ?n_NoFace_NoFraction ?n_NoFace_NoFlat ?n_NoFace_NoBoard ?q_NoFlat ?x1_NoFlat ?x5_NoFlat ?x6_NoFlat ?x2_NoFlat ?x3_NoFlat ?x4_NoFlat ?v_NoFlat ?s_NoFlat ?n_NoFlat_NoFraction ?n_NoFlat_NoFace ?n_NoFlat_NoBoard ?xb1 ?xb2 ?xb3
  (case h0=>walk_at "fn")
  (case h1=>walk_at "fn")
  (case h2=>walk_at "fn")
  (case h3=>walk_at "fn")
  (case h4=>walk_at "fn")
  (case h5=>walk_at "fn")
  (case h6=>walk_at "fn")
  (case h7=>walk_at "fn")
  (case h8=>walk_at "fn")
  (case h9=>walk_at "fn")
  (case h10=>walk_at "fn")
  (case h11=>walk_at "fn")
  (case h12=>walk_at "fn")
  (case h13=>walk_at "fn")
  (case h14=>walk_at "fn")
  (case h15=>walk_at "fn")
  (case h16=>walk_at "fn")
  (case h17=>walk_at "fn")
  (case h18=>walk_at "fn")
  (case h19=>walk_at "fn")
  (case h20=>walk_at "fn")
  (case h21=>walk_at "fn")
  (case h22=>walk_at "fn")
  (case h23=>walk_at "fn")
  (case h24=>walk_at "fn")
  (case h25=>walk_at "fn")
  (case h26=>walk_at "fn")
  (case h27=>walk_at "fn")
  (case h28=>walk_at "fn")
  (case h29=>walk_at "fn")
  (case h30=>walk_at "fn")
  (case h31=>walk_at "fn")
  (case h32=>walk_at "fn")
  (case h33=>walk_at "fn")
  (case h34=>walk_at "fn")
  (case h35=>walk_at "fn")
  (case h36=>walk_at "fn")
  (case h37=>walk_at "fn")
  (case h38=>walk_at "fn")
  (case h39=>walk_at "fn")
  (case h40=>walk_at "fn")
  (case h41=>walk_at "fn")
  (case h42=>walk_at "fn")
  (case h43=>walk_at "fn")
  (case h44=>walk_at "fn")
  (case z_abs=>k_is)
  (case z_len=>k_is)
  (case z_max=>k_is)
  (case z_min=>k_is)
  (case z_range=>k_is)
  (case z_isinstance=>k_is)
  (case z_int=>k_is)
  (case z_bool=>k_is)
  (case z_tuple=>k_is)
  (case z_zip=>k_is)
  (case z_sum=>k_is)
  (case z_list=>k_is)
  (case z_all=>k_is)
  (case z_sorted=>k_is)
  (case z_LONGEST=>k_is)
  (case e_ShadeError=>k_is)
  (case e_NoFraction=>k_is)
  (case e_NoFlat=>k_is)
  (case e_NoFace=>k_is)
  (case e_NoBoard=>k_is)
  (case q_NoBoard=>k_exc)
  (case x1_NoBoard=>kernel_rfl)
  (case x5_NoBoard=>kernel_rfl)
  (case x6_NoBoard=>kernel_rfl)
  (case x2_NoBoard=>kernel_rfl)
  (case x3_NoBoard=>kernel_rfl)
  (case x4_NoBoard=>kernel_rfl)
  (case v_NoBoard=>kernel_rfl)
  (case s_NoBoard=>kernel_rfl)
  (case n_NoBoard_NoFraction=>kernel_rfl)
  (case n_NoBoard_NoFlat=>kernel_rfl)
  (case n_NoBoard_NoFace=>kernel_rfl)
  (case q_NoFace=>k_exc)
  (case x1_NoFace=>kernel_rfl)
  (case x5_NoFace=>kernel_rfl)
  (case x6_NoFace=>kernel_rfl)
  (case x2_NoFace=>kernel_rfl)
  (case x3_NoFace=>kernel_rfl)
  (case x4_NoFace=>kernel_rfl)
  (case v_NoFace=>kernel_rfl)
  (case s_NoFace=>kernel_rfl)
  (case n_NoFace_NoFraction=>kernel_rfl)
  (case n_NoFace_NoFlat=>kernel_rfl)
  (case n_NoFace_NoBoard=>kernel_rfl)
  (case q_NoFlat=>k_exc)
  (case x1_NoFlat=>kernel_rfl)
  (case x5_NoFlat=>kernel_rfl)
  (case x6_NoFlat=>kernel_rfl)
  (case x2_NoFlat=>kernel_rfl)
  (case x3_NoFlat=>kernel_rfl)
  (case x4_NoFlat=>kernel_rfl)
  (case v_NoFlat=>kernel_rfl)
  (case s_NoFlat=>kernel_rfl)
  (case n_NoFlat_NoFraction=>kernel_rfl)
  (case n_NoFlat_NoFace=>kernel_rfl)
  (case n_NoFlat_NoBoard=>kernel_rfl)
  (case xb1=>kernel_rfl)
  (case xb2=>kernel_rfl)
  (case xb3=>kernel_rfl)
